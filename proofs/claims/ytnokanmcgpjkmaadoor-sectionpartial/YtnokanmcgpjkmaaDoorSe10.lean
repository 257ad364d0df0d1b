/- SectionPartial. -/
import Derived.Test.YtnokanmcgpjkmaaDoorSe9
import Derived.Shelf.Bytes.SlSmallAll
set_option linter.unusedVariables false
namespace Go.Proofs.YtnokanmcgpjkmaaDoor
open Go.RowKit Go.Shelf
def sbF (c : UInt8) : List Value := [.int .u8 (c.toNat : Int)]
theorem sbF_len (c : UInt8) : (sbF c).length = 1 := rfl
theorem seByteInfo : (Tryd.prog.info? 5).map (fun i => (i.zero, i.size, i.bytes)) = some (some (.int .u8 0), 1, 1) := by kernel_rfl
theorem seSrcByte {w : World} {C : Array Value} (n : UInt8) {c : Nat} (hC : C = #[.int .u8 (n.toNat : Int)]) : Src Tryd.prog 1 23 (.slice (some ⟨w.heap.size, 0, none⟩) 1 c) 1 [.int .u8 (n.toNat : Int)] (w.alloc (.cells C 5)) := by
  subst hC
  refine Src.ofSlice _ Tryd.underlying23 ⟨w.heap.size, 0, none⟩ 1 c [.int .u8 (n.toNat : Int)] (by simp) (fun j u hu => ?_) (by intro u hu; simp at hu; subst hu; rfl)
  have hj := (List.getElem?_eq_some_iff.1 hu).1
  obtain rfl : j = 0 := by simpa using hj
  rw [Go.WideShapes.add_plain, Nat.zero_add, (Blk.new w _ _).cell]
  simp at hu
  rw [← hu]
  rfl
theorem flat_sb : ∀ bs : List UInt8, bs.flatMap sbF = bs.map fun c => .int .u8 (c.toNat : Int)
  | [] => rfl
  | c :: r => by rw [List.flatMap_cons, flat_sb r]; rfl
theorem seConv {w : World} {v : Value} {bs : List UInt8} {B : Nat} (h : RowOf sbF 1 B w v bs) : (convert 23 9 v).run Tryd.prog w = .ok (.string ⟨bs.toArray⟩) w := by
  obtain ⟨G, h, _⟩ := h
  rw [flat_sb] at h
  rcases h.2 with ⟨rfl, h0, _⟩ | ⟨g, o, cap, _, rfl, _, _, _, h4, _⟩
  · have : bs = [] := List.length_eq_zero_iff.1 h0
    subst this
    exact run_convert_bytes_zero w 23 5 Tryd.underlying23 Tryd.underlying5 none 0 9 Tryd.underlying9
  · exact run_convert_bytes_back (P := Tryd.prog) w 23 9 5 ⟨g, o, none⟩ cap bs Tryd.underlying23 Tryd.underlying5 Tryd.underlying9 (fun j hj => by
      rw [Go.WideShapes.add_plain]
      exact h4 j _ (by rw [List.getElem?_map, List.getElem?_eq_getElem hj]; rfl))
theorem parV_neg {s : List UInt8} {f m : Int} (h : f < 0) : parV s f m = [] := by
  unfold parV
  rw [if_pos h]
theorem parV_next (s : List UInt8) (f m : Int) (i : Nat) (hi : i < s.length) : parV (s.take (i + 1)) f m = parV (s.take i) f m ++ (if 0 ≤ f ∧ f ≤ i ∧ (i : Int) - f < m then [s[i]] else []) := by
  by_cases h : f < 0
  · rw [parV_neg h, parV_neg h, if_neg (by omega)]
    rfl
  · obtain ⟨k, rfl⟩ : ∃ k : Nat, f = k := ⟨f.toNat, by omega⟩
    unfold parV
    rw [if_neg h, if_neg h, List.take_succ_eq_append_getElem hi]
    have hl : (s.take i).length = i := by rw [List.length_take]; omega
    have hk : ((k : Nat) : Int).toNat = k := rfl
    rw [hk]
    by_cases h2 : k ≤ i
    · rw [List.drop_append_of_le_length (by omega), List.take_append]
      have hl2 : ((s.take i).drop k).length = i - k := by rw [List.length_drop, hl]
      rw [hl2]
      congr 1
      by_cases h3 : ((i : Int) - k < m)
      · rw [if_pos ⟨by omega, by omega, h3⟩, List.take_of_length_le (by simp; omega)]
      · rw [if_neg (fun e => h3 e.2.2), show m.toNat - (i - k) = 0 by omega]
        rfl
    · rw [if_neg (fun e => h2 (by omega)), List.drop_of_length_le (by rw [List.length_append, hl]; simp; omega), List.drop_of_length_le (by omega)]
      simp
theorem parV_len (s : List UInt8) (f m : Int) : (parV s f m).length ≤ s.length := by
  unfold parV
  split
  · simp
  · rw [List.length_take, List.length_drop]
    omega
set_option maxRecDepth 20000 in
set_option maxHeartbeats 4000000 in
theorem sectionPartial_walk (s : List UInt8) (f m : Int) (w : World) :
    Calls Tryd.prog 3 #[.string ⟨s.toArray⟩, .int .i64 f, .int .i64 m] w fun e w' => e = .returned (.bool true) ∧ Below w.heap.size w w' := by
  have hsz := size_lit s
  have HA := hide alive12
  by_cases hbig : 20000 < s.length
  · have hbig' : (20000 : Int) < s.length := by omega
    go_enter Tryd.func3, Tryd.ntmps3
    go_wp2_with (first
      | (go_at_call 4; refine (HA.out _).mono ?_; rintro e w1 ⟨rfl, hb1⟩; replace hb1 := hide hb1))
    go_ret
    exact ⟨rfl, hb1.out⟩
  · have hbig' : ¬ (20000 : Int) < s.length := by omega
    have hs : s.length ≤ 20000 := by omega
    obtain ⟨i0, hi, hz0, hz1, hz2⟩ := seInfo seByteInfo
    have HQ := hide (fun W => partial_any s f m W (by omega))
    go_enter Tryd.func3, Tryd.ntmps3
    go_wp2_with (first
      | (go_at_call 4; refine (HA.out _).mono ?_; rintro e w1 ⟨rfl, hb1⟩; replace hb1 := hide hb1))
    have HR0 : Hid (RowOf sbF 1 w.heap.size (w1.alloc (.cells #[] 5)) (.slice (some ⟨w1.heap.size, 0, none⟩) 0 0) (parV (s.take 0) f m)) := by
      have : parV (s.take 0) f m = [] := by unfold parV; simp
      rw [this]
      exact ⟨some w1.heap.size, Rw.new (e := 5) [] [] (Blk.new w1 #[] 5) rfl rfl (Nat.le_refl _) (by simp only [maxLen]; omega), fun g hg => by cases hg; exact hb1.out.size⟩
    have HB0 : Hid (Below w.heap.size w (w1.alloc (.cells #[] 5))) := hb1.out.alloc hb1.out.size _
    go_loopw [7, 17] (fun v7 v17 wr => ∃ i : Nat, i ≤ s.length ∧ v17 = .int .i64 i ∧ Hid (RowOf sbF 1 w.heap.size wr v7 (parV (s.take i) f m)) ∧ Hid (Below w.heap.size w wr)) (fun _ v17 _ => s.length - (intOf v17).toNat)
    case atStart => exact ⟨0, Nat.zero_le _, rfl, HR0, HB0⟩
    case round =>
      obtain ⟨i, hil, rfl, HR, HB⟩ := hrel
      clear HR0 HB0 hb1
      obtain ⟨A, c, rfl⟩ := HR.out.form
      by_cases hlt : i < s.length
      · have hlt' : (i : Int) < s.length := by omega
        obtain ⟨x, hx, hat⟩ := se_at s i hlt
        have hnx := parV_next s f m i hlt
        rw [hx] at hnx
        have hpl := parV_len (s.take i) f m
        rw [List.length_take] at hpl
        have skip : (0 ≤ f ∧ f ≤ i ∧ (i : Int) - f < m) = False → Hid (RowOf sbF 1 w.heap.size wr (.slice A (parV (s.take i) f m).length c) (parV (s.take (i + 1)) f m)) := fun h => by
          rw [hnx, if_neg (by rw [h]; exact id), List.append_nil]
          exact HR
        by_cases h1 : 0 ≤ f
        · by_cases h2 : f ≤ i
          · by_cases h3 : (i : Int) - f < m
            · have HN : Hid (parV (s.take (i + 1)) f m = parV (s.take i) f m ++ [x]) := by
                show _ = _
                rw [hnx, if_pos ⟨h1, h2, h3⟩]
              obtain ⟨G, hr, hG⟩ := HR.out
              clear skip hnx
              generalize parV (s.take i) f m = bs at *
              replace hr := hide hr
              replace hG := hide hG
              go_wp2_with (first
                | (at_builtin; refine wpList_append_rw rfl _ _ 23 23 rfl 5 i0 (.int .u8 0) 1 1 Tryd.underlying23 hi hz0 hz1 hz2 rfl rfl (hr.out.keep (S := fun _ => False) ((Mvs.refl _ _).alloc _) (fun _ _ c => c)) _ 1 [.int .u8 (x.toNat : Int)] rfl (seSrcByte x rfl) (by simp only [maxLen]; omega) (by omega) ?_; intro v3 w3 G3 hr3 hm3 hg3))
              have HP3 : Hid (RowOf sbF 1 w.heap.size w3 v3 (bs ++ [x])) := RowOf.growN hG.out hr3 hg3 (by have := HB.out.size; simp; omega)
              have hb3 : Hid (Below w.heap.size w w3) := below_mvs (HB.out.alloc HB.out.size _) hm3 (fun k hk e => by have := hG.out k e.symm; omega) (Nat.le_refl _)
              clear hr3 hm3 hg3
              go_wp2
              go_roundw
              case rel => exact ⟨i + 1, by omega, by go_num, by rw [HN.out]; exact HP3, hb3⟩
              case measure => simp [intOf]; omega
            · have HN := skip (by simp [h3])
              have h3' : ¬ m > (i : Int) - f := h3
              clear skip hnx
              generalize parV (s.take i) f m = bs at *
              go_wp2
              go_roundw
              case rel => exact ⟨i + 1, by omega, by go_num, HN, HB⟩
              case measure => simp [intOf]; omega
          · have HN := skip (by simp [h2])
            have h2' : ¬ (i : Int) ≥ f := h2
            clear skip hnx
            generalize parV (s.take i) f m = bs at *
            go_wp2
            go_roundw
            case rel => exact ⟨i + 1, by omega, by go_num, HN, HB⟩
            case measure => simp [intOf]; omega
        · have HN := skip (by simp [h1])
          have h1' : ¬ f ≥ 0 := h1
          clear skip hnx
          generalize parV (s.take i) f m = bs at *
          go_wp2
          go_roundw
          case rel => exact ⟨i + 1, by omega, by go_num, HN, HB⟩
          case measure => simp [intOf]; omega
      · obtain rfl : i = s.length := by omega
        have hlt' : ¬ (s.length : Int) < s.length := by omega
        rw [List.take_length] at *
        obtain ⟨P, hP⟩ : ∃ P, parV s f m = P := ⟨_, rfl⟩
        rw [hP] at HQ HR ⊢
        clear hP
        have hn := ext_some wr
        have hcv : ∀ u : Ext wr, (convert 23 9 (.slice A P.length c)).run Tryd.prog u.w = .ok (.string ⟨P.toArray⟩) u.w := fun u => seConv (HR.out.below u.ok)
        go_wp2
        refine wp_region_ext (by kernel_rfl) (by kernel_rfl) ?_
        repeat (go_big_quiet_step ((go_at_call 5; exact ext_same (HQ.out _))))
        refine wpQuiet_nil ?_
        rintro w1 ⟨⟨_, hb1⟩, rfl⟩
        go_wp2
        go_ret
        exact ⟨rfl, HB.out.trans (hb1.mono HB.out.size)⟩
end Go.Proofs.YtnokanmcgpjkmaaDoor
