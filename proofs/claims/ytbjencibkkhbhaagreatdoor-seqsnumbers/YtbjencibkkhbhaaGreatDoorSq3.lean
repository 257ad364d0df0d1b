/- The document's Of of layer 14; SameInts and SameRanges of one row in two places. -/
import Derived.Test.YtbjencibkkhbhaaGreatDoorSq2
import Derived.Deep.QuietTactic
set_option linter.unusedSimpArgs false
set_option linter.unusedVariables false
namespace Go.Proofs.YtbjencibkkhbhaaGreatDoor
open Go.RowKit Go.Shelf
def iv (z : Int) : Value := .int .i64 z
theorem iv_oneCell (xs : List Int) : ∀ u ∈ xs.map iv, u.oneCell' = true := by
  intro u hu
  obtain ⟨b, _, rfl⟩ := List.mem_map.1 hu
  rfl
theorem intInfo14 : (Tryz.prog.info? 3).map (fun i => (i.zero, i.size, i.bytes)) = some (some (.int .i64 0), 1, 8) := by kernel_rfl
theorem src_int {w : World} (z : Int) {c : Nat} : Src Tryz.prog 1 39 (.slice (some ⟨w.heap.size, 0, none⟩) 1 c) 1 [iv z] (w.alloc (.cells #[.int .i64 z] 3)) :=
  Src.ofSlice _ Tryz.underlying39 ⟨w.heap.size, 0, none⟩ 1 c [iv z] rfl (fun j u hu => by
    rw [Go.WideShapes.add_plain, Nat.zero_add]
    match j, hu with
    | 0, hu => cases hu; exact (Blk.new w #[.int .i64 z] 3).cell 0) (iv_oneCell [z])
/-- A row of numbers of one's own, under way. -/
def Is (w wr : World) (v : Value) (xs : List Int) : Prop := Below w.heap.size w wr ∧ ∃ G, Rw wr 1 v xs.length (xs.map iv) G ∧ ∀ g, G = some g → w.heap.size ≤ g
theorem Is.grow {w wr w1 : World} {v1 : Value} {xs : List Int} {x : Int} {G G1 : Option Nat} {o : Obj} (hb : Below w.heap.size w wr) (hg : ∀ g, G = some g → w.heap.size ≤ g)
    (hr : Rw w1 1 v1 (xs.length + 1) (xs.map iv ++ [iv x]) G1) (hm : Mvs (fun k => some k = G) (wr.alloc o) w1) (hG : G1 = G ∨ G1 = some (wr.alloc o).heap.size) : Is w w1 v1 (xs ++ [x]) := by
  refine ⟨below_mvs (hb.alloc hb.size _) hm (fun k hk e => by have := hg k e.symm; omega) (Nat.le_refl _), G1, ?_, ?_⟩
  · rw [List.length_append, List.map_append]
    exact hr
  · rintro g rfl
    rcases hG with h | h
    · exact hg g h.symm
    · cases h
      have := hb.size
      simp
      omega
theorem Is.ia {w wr : World} {v : Value} {xs : List Int} (h : Is w wr v xs) : IA wr v xs := by
  obtain ⟨_, G, hr, _⟩ := h
  obtain ⟨A, c, rfl⟩ := hr.form
  refine ⟨A, c, rfl, fun i hi => ?_⟩
  rcases hr.2 with ⟨_, h0, _⟩ | ⟨g, o, cap, _, e, _, _, h3, h4, _⟩
  · omega
  · exact ⟨g, o, by cases e; rfl, h3, h4 i _ (by rw [List.getElem?_map, List.getElem?_eq_getElem hi]; rfl)⟩
theorem Is.below {w wr wq : World} {v : Value} {xs : List Int} (h : Is w wr v xs) (hb : Below wr.heap.size wr wq) : Is w wq v xs := by
  obtain ⟨h1, G, hr, hg⟩ := h
  exact ⟨h1.trans (hb.mono h1.size), G, hr.keep (S := fun _ => False) (Mvs.of_below hb) (fun _ _ c => c), hg⟩
theorem filt_int {f : Int → Bool} {C : List Int} {i : Nat} (h : i < C.length) : (C.take (i + 1)).filter f = (C.take i).filter f ++ (if f C[i] then [C[i]] else []) := by
  rw [List.take_succ_eq_append_getElem h, List.filter_append]
  congr 1
  cases hf : f C[i] <;> simp [hf]
set_option maxHeartbeats 1000000 in
theorem isame_yes {v1 v2 : Value} {xs : List Int} (w : World) (h1 : IA w v1 xs) (h2 : IA w v2 xs) (hl : xs.length ≤ 1000000) :
    Calls Tryz.prog 18 #[v1, v2] w fun e w' => e = .returned (.bool true) ∧ ∃ n, w' = w.drewN n := by
  obtain ⟨A1, c1, rfl, k1⟩ := h1
  obtain ⟨A2, c2, rfl, k2⟩ := h2
  have H1 := hide k1
  have H2 := hide k2
  clear k1 k2
  go_enter Tryz.func18, Tryz.ntmps18
  go_wp2
  go_loopw [13] (fun i wr => ∃ k : Nat, k ≤ xs.length ∧ i = .int .i64 k ∧ ∃ n, wr = w.drewN n) (fun i _ => xs.length - (intOf i).toNat)
  case atStart => exact ⟨0, Nat.zero_le _, rfl, 0, rfl⟩
  case round =>
    obtain ⟨k, hk, rfl, n, rfl⟩ := hrel
    by_cases hlt : k < xs.length
    · obtain ⟨g, o, rfl, _, q1⟩ := H1.out k hlt
      obtain ⟨g2, o2, rfl, _, r1⟩ := H2.out k hlt
      have hlt' : (k : Int) < xs.length := by omega
      generalize xs[k] = p at *
      go_wp2
      go_quiet (fail)
      go_wp2
      go_roundw
      case rel => exact ⟨k + 1, by omega, by go_num, n + nq, by simp⟩
      case measure => simp [intOf]; omega
    · obtain rfl : k = xs.length := by omega
      go_wp2
      go_ret
      exact ⟨rfl, n, rfl⟩
set_option maxHeartbeats 1000000 in
theorem rsamer_yes {v1 v2 : Value} {xs : List (Int × Int)} (w : World) (h1 : RA w v1 xs) (h2 : RA w v2 xs) (hl : xs.length ≤ 1000000) :
    Calls Tryz.prog 12 #[v1, v2] w fun e w' => e = .returned (.bool true) ∧ ∃ n, w' = w.drewN n := by
  obtain ⟨A1, c1, rfl, k1⟩ := h1
  obtain ⟨A2, c2, rfl, k2⟩ := h2
  have H1 := hide k1
  have H2 := hide k2
  clear k1 k2
  go_enter Tryz.func12, Tryz.ntmps12
  go_wp2
  go_loopw [13] (fun i wr => ∃ k : Nat, k ≤ xs.length ∧ i = .int .i64 k ∧ ∃ n, wr = w.drewN n) (fun i _ => xs.length - (intOf i).toNat)
  case atStart => exact ⟨0, Nat.zero_le _, rfl, 0, rfl⟩
  case round =>
    obtain ⟨k, hk, rfl, n, rfl⟩ := hrel
    by_cases hlt : k < xs.length
    · obtain ⟨g, o, rfl, _, q1, q2⟩ := H1.out k hlt
      obtain ⟨g2, o2, rfl, _, r1, r2⟩ := H2.out k hlt
      have hlt' : (k : Int) < xs.length := by omega
      generalize xs[k] = p at *
      obtain ⟨x, y⟩ := p
      dsimp only at *
      go_wp2
      go_quiet (fail)
      go_wp2
      go_roundw
      case rel => exact ⟨k + 1, by omega, by go_num, n + nq, by simp⟩
      case measure => simp [intOf]; omega
    · obtain rfl : k = xs.length := by omega
      go_wp2
      go_ret
      exact ⟨rfl, n, rfl⟩
set_option maxRecDepth 20000 in
set_option maxHeartbeats 2000000 in
theorem rof_any {w : World} {v u : Value} {rs : List (Int × Int)} {ns : List Int} (hv : RA w v rs) (hu : IA w u ns) (hl : rs.length ≤ 1000000) (hn : ns.length ≤ 1000000) : Calls Tryz.prog 20 #[v, u] w fun e w' => ∃ v', e = .returned v' ∧ Is w w' v' (sqOf rs ns) := by
  have HX := hide hv
  have HU := hide hu
  obtain ⟨A, c, rfl, _⟩ := hv
  obtain ⟨A2, c2, rfl, _⟩ := hu
  obtain ⟨i0, hi, hz0, hz1, hz2⟩ := info_three intInfo14
  obtain ⟨f, Hf⟩ : ∃ f : Int → Bool, Hid (f = fun n => sqIn rs n (ns.getLastD 0)) := ⟨_, hide rfl⟩
  have HE : Hid (sqOf rs ns = ns.filter f) := by show _ = _; rw [Hf.out]; rfl
  rw [HE.out]
  go_enter Tryz.func20, Tryz.ntmps20
  go_wp2
  go_loopw [5, 11] (fun v5 v11 wr => ∃ k : Nat, v11 = .int .i64 k ∧ k ≤ ns.length ∧ Hid (Is w wr v5 ((ns.take k).filter f))) (fun _ v11 _ => ns.length - (intOf v11).toNat)
  case atStart => exact ⟨0, rfl, Nat.zero_le _, (Below.refl _ _).alloc (Nat.le_refl _) _, some w.heap.size, Rw.new (e := 3) [] [] (Blk.new _ _ _) rfl rfl (Nat.le_refl _) (Nat.zero_le _), fun g h => by cases h; exact Nat.le_refl _⟩
  case round =>
    obtain ⟨k, rfl, hk, HT⟩ := hrel
    by_cases hlt : k < ns.length
    · have hlt' : (k : Int) < ns.length := by omega
      obtain ⟨L, HL⟩ : ∃ L, Hid (ns.length = L + 1) := ⟨ns.length - 1, by show _ = _; omega⟩
      have hL1 : (ns.length : Int) - 1 = L := by have := HL.out; omega
      have hLs : L < ns.length := by have := HL.out; omega
      have hLs' : (L : Int) < ns.length := by omega
      have HBr := hide HT.out.1
      obtain ⟨A', c', e', hcs⟩ := HU.out.below HBr.out
      cases e'
      obtain ⟨g, o, rfl, hgl, q0⟩ := hcs k hlt
      obtain ⟨g', o', e', _, q1⟩ := hcs L hLs
      cases e'
      have hlast : ns[L] = ns.getLastD 0 := by
        have hl' := HL.out
        rw [List.getLastD_eq_getLast?, List.getLast?_eq_getElem?, List.getElem?_eq_getElem (by omega)]
        simp only [Option.getD_some]
        congr 1
        omega
      have HIn : Hid (∀ W, Below wr.heap.size wr W → Calls Tryz.prog 17 #[.slice A rs.length c, .int .i64 ns[k], .int .i64 ns[L]] W fun e w' => e = .returned (.bool (f ns[k])) ∧ Below wr.heap.size wr w') := fun W hW => by
        have h := rin_any ((HX.out.below HBr.out).below hW) ns[k] ns[L] hl
        rw [Hf.out, ← hlast]
        exact h.mono fun e w' h => ⟨h.1, hW.trans (h.2.mono hW.size)⟩
      have HNx := hide (filt_int (f := f) hlt)
      obtain ⟨T, hT⟩ : ∃ T, f ns[k] = T := ⟨_, rfl⟩
      rw [hT] at HIn HNx
      have hfl : ((ns.take k).filter f).length ≤ 1000000 := Nat.le_trans (List.length_filter_le _ _) (by rw [List.length_take]; omega)
      clear hT hcs hlast
      generalize ns[k] = x at *
      generalize ns[L] = y at *
      generalize (ns.take k).filter f = xs1 at *
      obtain ⟨A6, c6, rfl⟩ := HT.out.2.choose_spec.1.form
      cases T with
      | true =>
        rw [if_pos rfl] at HNx
        go_wp2_with (first
          | (go_at_call 17; refine (HIn.out _ (Below.refl _ _)).mono ?_; rintro e wq ⟨rfl, hbq⟩; obtain ⟨hb, G, hr, hg⟩ := HT.out.below hbq; have HR := hide hr; have HB := hide hb; have HG := hide hg; clear hr hb hg hbq HT)
          | (at_builtin; refine wpList_append_rw rfl _ _ 39 39 rfl 3 i0 (.int .i64 0) 1 8 Tryz.underlying39 hi hz0 hz1 hz2 rfl rfl (HR.out.keep (S := fun _ => False) ((Mvs.refl _ _).alloc _) (fun _ _ c => c)) _ 1 _ rfl (src_int _) (by simp only [maxLen]; omega) (by omega) ?_))
        intro v4 w5 G4 hr4 hm5 hg4
        have T4 := hide (Is.grow (x := x) HB.out HG.out hr4 hm5 (by simpa using hg4))
        clear hr4 hm5 hg4
        go_wp2
        go_roundw
        case rel => exact ⟨k + 1, by go_num, by omega, by rw [HNx.out]; exact T4.out⟩
        case measure => simp [intOf] <;> omega
      | false =>
        rw [if_neg (by simp), List.append_nil] at HNx
        go_wp2_with (go_at_call 17; refine (HIn.out _ (Below.refl _ _)).mono ?_; rintro e wq ⟨rfl, hbq⟩; replace hbq := hide hbq)
        have HTq := hide (HT.out.below hbq.out)
        go_roundw
        case rel => exact ⟨k + 1, by go_num, by omega, by rw [HNx.out]; exact HTq.out⟩
        case measure => simp [intOf] <;> omega
    · obtain rfl : k = ns.length := by omega
      have hE := HT.out
      rw [List.take_length] at hE
      have HE2 := hide hE
      clear hE
      go_wp2
      go_ret
      exact ⟨_, rfl, HE2.out⟩
end Go.Proofs.YtbjencibkkhbhaaGreatDoor
