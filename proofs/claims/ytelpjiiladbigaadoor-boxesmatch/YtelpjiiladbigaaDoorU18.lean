/- isWild and simplest of package boxes. -/
import Derived.Test.YtelpjiiladbigaaDoorU17
import Derived.Test.YtelpjiiladbigaaDoorU12
set_option linter.unusedSimpArgs false
set_option linter.unusedVariables false
namespace Go.Proofs.YtelpjiiladbigaaDoor
open Go.RowKit Go.Shelf
theorem isWild_any (c : UInt8) (w : World) : Calls Tryd.prog 66 #[.int .u8 (c.toNat : Nat)] w fun e w' => e = .returned (.bool (starB c)) ∧ w' = w := by
  have h255 := c.toNat_lt
  by_cases h1 : c = 37
  · subst h1
    go_enter Tryd.func66, Tryd.ntmps66
    go_wp2
    go_ret
    exact ⟨rfl, rfl⟩
  · by_cases h2 : c = 42
    · subst h2
      go_enter Tryd.func66, Tryd.ntmps66
      go_wp2
      go_ret
      exact ⟨rfl, rfl⟩
    · have b1 : ¬ (c.toNat : Int) = 37 := fun e => h1 (UInt8.toNat_inj.1 (by rw [show (37 : UInt8).toNat = 37 from rfl]; omega))
      have b2 : ¬ (c.toNat : Int) = 42 := fun e => h2 (UInt8.toNat_inj.1 (by rw [show (42 : UInt8).toNat = 42 from rfl]; omega))
      have HS : Hid (starB c = false) := by
        show _ = _
        simp [starB, h1, h2]
      go_enter Tryd.func66, Tryd.ntmps66
      go_wp2
      go_ret
      exact ⟨by rw [HS.out]; simp [b1, b2], rfl⟩
def bvB (c : UInt8) : Value := .int .u8 (c.toNat : Int)
theorem byteInfo13 : (Tryd.prog.info? 5).map (fun i => (i.zero, i.size, i.bytes)) = some (some (.int .u8 0), 1, 1) := by kernel_rfl
theorem Rw.of_mk {w : World} {base : Nat} {e : TypeId} {v : Value} {n : Nat} {xs : List Value} (h : w.ownsRow base e 1 v n xs) : Rw w 1 v n xs v.ownBlock := by
  refine ⟨by rw [h.1], ?_⟩
  rcases h.2 with ⟨rfl, hn⟩ | ⟨g, cap, cur, rfl, _, hg, h1, h2, h3, h4⟩
  · exact .inl ⟨rfl, hn, rfl⟩
  · have hk : Blk w g cur e := hg
    refine .inr ⟨g, 0, cap, rfl, rfl, h1, h2, hk.lt, fun j u hu => ?_, fun j hj => ⟨?_, hk.frozen _⟩⟩
    · have hj := (List.getElem?_eq_some_iff.1 hu).1
      rw [← h4] at hu
      simp only [Nat.mul_one] at hu
      rw [hk.cell, Nat.zero_add]
      have hjn : j < n := by rw [h.1] at hj; omega
      rw [List.getElem?_take_of_lt hjn] at hu
      simpa using hu
    · rw [hk.cell, Nat.zero_add, Array.getElem?_eq_getElem (by omega)]
      rfl
theorem Rw.put1 {w : World} {n : Nat} {cs : List Value} {g o c : Nat} (h : Rw w 1 (.slice (some ⟨g, o, none⟩) n c) n cs (some g)) (i : Nat) (hi : i < n) (u : Value) : Rw (w.setCell ⟨g, o + i, none⟩ u) 1 (.slice (some ⟨g, o, none⟩) n c) n (cs.set i u) (some g) := by
  rcases h.2 with ⟨h, _⟩ | ⟨g', o', cap', k1, k2, h1, h2, h3, h4, h5⟩
  · cases h
  · cases k1
    cases k2
    refine ⟨by rw [List.length_set]; exact h.1, .inr ⟨g, o, c, rfl, rfl, h1, h2, by simpa [World.setCell] using h3, fun j x hx => ?_, fun j hj => ?_⟩⟩
    · by_cases hji : j = i
      · subst hji
        have hjl := (List.getElem?_eq_some_iff.1 hx).1
        rw [List.length_set] at hjl
        rw [List.getElem?_set_self hjl] at hx
        cases hx
        exact World.cell?_setCell_same _ _ _ (h4 j cs[j] (List.getElem?_eq_getElem hjl))
      · rw [List.getElem?_set_ne (fun e => hji e.symm)] at hx
        rw [World.cell?_setCell_other _ ⟨g, o + i, none⟩ ⟨g, o + j, none⟩ _ (fun e => hji (by have := congrArg Addr.off e; simp only at this; omega))]
        exact h4 j x hx
    · refine ⟨?_, by rw [World.frozen?_setCell]; exact (h5 j hj).2⟩
      exact World.isSome_setCells g [u] (o + i) w _ (h5 j hj).1
theorem Rw.some' {w : World} {sz n g : Nat} {v : Value} {cs : List Value} (h : Rw w sz v n cs (some g)) : ∃ o cap, v = .slice (some ⟨g, o, none⟩) n cap ∧ n ≤ cap ∧ cap ≤ maxLen ∧ g < w.heap.size ∧ (∀ j u, cs[j]? = some u → w.cell? ⟨g, o + j, none⟩ = some u) ∧ ∀ j, j < cap * sz → w.frozen? ⟨g, o + j, none⟩ = false := by
  rcases h.2 with ⟨_, _, h⟩ | ⟨g', o, cap, k1, k2, h1, h2, h3, h4, h5⟩
  · cases h
  · cases k1
    exact ⟨o, cap, k2, h1, h2, h3, h4, fun j hj => (h5 j hj).2⟩
theorem src_bx {w : World} (e : Value) (t ts : TypeId) {k : Nat} (he : e.oneCell' = true) (ht : Tryd.prog.underlying ts = some (.slice t)) : Src Tryd.prog 1 ts (.slice (some ⟨w.heap.size, 0, none⟩) 1 k) 1 [e] (w.alloc (.cells #[e] t)) := by
  refine Src.ofSlice _ ht ⟨w.heap.size, 0, none⟩ 1 k _ (by simp) (fun j u hu => ?_) (by simpa using he)
  have hk := Blk.new w #[e] t
  simp only [Addr.add_lit, Nat.zero_add]
  rw [hk.cell]
  simpa using hu
theorem conv_row {w : World} {v : Value} {g : Nat} {bs : List UInt8} (h : Rw w 1 v bs.length (bs.map bvB) (some g)) : (convert 59 9 v).run Tryd.prog w = .ok (.string ⟨bs.toArray⟩) w := by
  obtain ⟨o, cap, rfl, _, _, _, h4, _⟩ := h.some'
  refine run_convert_bytes_back (P := Tryd.prog) w 59 9 5 ⟨g, o, none⟩ cap bs Tryd.underlying59 Tryd.underlying5 Tryd.underlying9 (fun j hj => ?_)
  rw [Go.WideShapes.add_plain]
  exact h4 j _ (by simp [List.getElem?_eq_getElem hj, bvB])
/-- Bytes under way in a block of this call's own. -/
def Kb (w wr : World) (v : Value) (k : List UInt8) : Prop := Below w.heap.size w wr ∧ ∃ g, w.heap.size ≤ g ∧ Rw wr 1 v k.length (k.map bvB) (some g)
theorem Kb.grow {w wr w' : World} {v' : Value} {k : List UInt8} {c : UInt8} {g n : Nat} {G' : Option Nat} (hn : k.length = n) (hb : Below w.heap.size w wr) (hg : w.heap.size ≤ g) (hr : Rw w' 1 v' (n + 1) (k.map bvB ++ [bvB c]) G') {o : Obj} (hm : Mvs (fun j => j = g) (wr.alloc o) w') (hG : G' = some g ∨ G' = some (wr.heap.size + 1)) : Kb w w' v' (k ++ [c]) := by
  subst hn
  have hb2 : Below w.heap.size w w' := (hb.alloc hb.size o).trans (hm.below (fun j hj e => by omega) (by have := hb.size; simp; omega))
  have he : ∃ g', w.heap.size ≤ g' ∧ G' = some g' := by
    rcases hG with h | h
    · exact ⟨_, hg, h⟩
    · exact ⟨_, by have := hb.size; omega, h⟩
  obtain ⟨g', hg', rfl⟩ := he
  exact ⟨hb2, g', hg', by simpa using hr⟩
theorem Kb.last {w wr : World} {k : List UInt8} {d : UInt8} {g o cap n : Nat} (hn : k.length = n) (hb : Below w.heap.size w wr) (hg : w.heap.size ≤ g) (hr : Rw wr 1 (.slice (some ⟨g, o, none⟩) (n + 1) cap) (n + 1) ((k ++ [d]).map bvB) (some g)) (c : UInt8) : Kb w (wr.setCell ⟨g, o + n, none⟩ (bvB c)) (.slice (some ⟨g, o, none⟩) (n + 1) cap) (k ++ [c]) := by
  subst hn
  refine ⟨hb.setCell (p := ⟨g, o + k.length, none⟩) hg _, g, hg, ?_⟩
  have := hr.put1 k.length (by omega) (bvB c)
  rw [show ((k ++ [d]).map bvB).set k.length (bvB c) = (k ++ [c]).map bvB from by simp] at this
  simpa using this
theorem simS_nil (c : UInt8) : simS [] c = [c] := rfl
theorem simS_app {k : List UInt8} {c d : UInt8} (h : (starB c && starB d) = false) : simS (k ++ [d]) c = (k ++ [d]) ++ [c] := by simp [simS, h]
theorem simS_star {k : List UInt8} {d : UInt8} (hd : starB d = true) : simS (k ++ [d]) 42 = k ++ [42] := by simp [simS, hd, show starB 42 = true from rfl]
theorem simS_same {k : List UInt8} {c d : UInt8} (hc : starB c = true) (hd : starB d = true) (h : c ≠ 42) : simS (k ++ [d]) c = k ++ [d] := by simp [simS, hc, hd, h]
theorem simF_at (P : List UInt8) (i : Nat) (h : i < P.length) : (P.take (i + 1)).foldl simS [] = simS ((P.take i).foldl simS []) P[i] := by
  rw [List.take_succ_eq_append_getElem h, List.foldl_append]
  rfl
set_option maxRecDepth 20000 in
set_option maxHeartbeats 2000000 in
theorem simplest_any (P : List UInt8) (w : World) (hP : P.length ≤ 1000000) : Calls Tryd.prog 50 #[.string ⟨P.toArray⟩] w fun e w' => e = .returned (.string ⟨(simL P).toArray⟩) ∧ Below w.heap.size w w' := by
  have hsz := size_lit P
  obtain ⟨i0, hi, hz0, hz1, hz2⟩ := info_three byteInfo13
  go_enter Tryd.func50, Tryd.ntmps50
  go_wp2_with (at_make; refine wpList_make_own w rfl _ _ 59 rfl w.heap.size 5 i0 (.int .u8 0) 1 Tryd.underlying59 hi hz0 hz1 .i64 .i64 _ P.length rfl rfl (by omega) (by rw [hz2]; omega) (by simp only [maxLen]; omega) (Nat.le_refl _) ?_)
  intro w1 how1 hgr1
  have T1 : Hid (Kb w w1 (.slice (some ⟨w.heap.size, 0, none⟩) 0 P.length) []) := ⟨⟨hgr1.os, hgr1.tape, hgr1.output, hgr1.size, fun k hk => hgr1.block k hk (by simp)⟩, w.heap.size, Nat.le_refl _, Rw.of_mk how1⟩
  clear how1 hgr1
  go_wp2
  go_loopw [3, 12] (fun v3 v12 wr => ∃ (i : Nat) (k : List UInt8), v12 = .int .i64 i ∧ i ≤ P.length ∧ Hid (k = (P.take i).foldl simS []) ∧ Hid (Kb w wr v3 k)) (fun _ v12 _ => P.length - (intOf v12).toNat)
  case atStart => exact ⟨0, [], rfl, Nat.zero_le _, rfl, T1.out⟩
  case round =>
    clear T1
    obtain ⟨i, k, rfl, hi1, HK, HT⟩ := hrel
    by_cases hlt : i < P.length
    · have hlt' : (i : Int) < P.length := by omega
      obtain ⟨c, hc, hat⟩ : ∃ c, P[i] = c ∧ ∀ h : i < (⟨P.toArray⟩ : ByteArray).size, (⟨P.toArray⟩ : ByteArray)[i]'h = c := ⟨_, rfl, fun _ => rfl⟩
      have HN := hide (simF_at P i hlt)
      rw [← HK.out, hc] at HN
      have hkl : k.length ≤ 1000000 := by
        have h1 := simF_len (P.take i) []
        rw [HK.out]
        simp at h1
        omega
      have HW := hide isWild_any
      obtain ⟨hb, g, hg, hr⟩ := id HT.out
      obtain ⟨o, cap, rfl, q1, q2, q3, q4, q5⟩ := hr.some'
      have HR := hide hr
      have HB := hide hb
      clear hr hb hc HT HK
      have hmax : cap ≤ 9223372036854775807 := q2
      obtain rfl | ⟨k0, d, rfl⟩ : k = [] ∨ ∃ k0 d, k = k0 ++ [d] := by
        rcases List.eq_nil_or_concat k with h | ⟨k0, d, h⟩
        · exact .inl h
        · exact .inr ⟨k0, d, by rw [h, List.concat_eq_append]⟩
      · clear q4 q5
        simp only [List.length_nil] at *
        go_wp2_with (first
          | (at_builtin; refine wpList_append_rw rfl _ _ 59 59 rfl 5 i0 (.int .u8 0) 1 1 Tryd.underlying59 hi hz0 hz1 hz2 rfl rfl (HR.out.keep (S := fun _ => False) ((Mvs.refl _ _).alloc _) (fun _ _ c => c)) _ 1 [bvB c] rfl (src_bx (bvB c) 5 59 rfl Tryd.underlying59) (by simp only [maxLen] <;> omega) (by omega) ?_))
        intro v4 w4 G4 hr4 hm4 hg4
        have T4 := hide (Kb.grow (k := []) rfl HB.out hg hr4 hm4 (by simpa using hg4))
        clear hr4 hm4 hg4
        go_wp2
        go_roundw
        case rel => exact ⟨i + 1, [] ++ [c], by go_num, by omega, by rw [HN.out]; exact rfl, T4.out⟩
        case measure => simp [intOf]; omega
      · have hd : wr.cell? ⟨g, o + k0.length, none⟩ = some (.int .u8 (d.toNat : Int)) := q4 k0.length _ (by simp [bvB])
        have hL : (k0 ++ [d]).length = k0.length + 1 := by simp
        rw [hL] at HR q1 hkl ⊢
        have hf : wr.frozen? ⟨g, o + k0.length, none⟩ = false := q5 k0.length (by omega)
        clear q4 q5
        obtain ⟨n, hn⟩ : ∃ n, Hid (k0.length = n) := ⟨_, hide rfl⟩
        have HL2 : Hid ((k0 ++ [d]).length = n + 1) := by show _ = _; rw [hL, hn.out]
        rw [hn.out] at HR q1 hkl hd hf ⊢
        clear hL
        have hn1 : wrap64 ((n : Int) + 1 - 1) = n := by rw [show (n : Int) + 1 - 1 = n from by omega]; unfold wrap64; omega
        have hn2 : ¬ ((n : Int) < 0) := by omega
        cases hsc : starB c with
        | false =>
          have HWc : Hid (∀ W, Calls Tryd.prog 66 #[.int .u8 (c.toNat : Nat)] W fun e w' => e = .returned (.bool false) ∧ w' = W) := fun W => by have := HW.out c W; rwa [hsc] at this
          have HQ : Hid (simS (k0 ++ [d]) c = (k0 ++ [d]) ++ [c]) := simS_app (by rw [hsc]; rfl)
          clear HW hsc
          go_wp2_with (first
            | (go_at_call 66; refine (HWc.out _).mono ?_; rintro e w' ⟨rfl, rfl⟩)
            | (at_builtin; refine wpList_append_rw rfl _ _ 59 59 rfl 5 i0 (.int .u8 0) 1 1 Tryd.underlying59 hi hz0 hz1 hz2 rfl rfl (HR.out.keep (S := fun _ => False) ((Mvs.refl _ _).alloc _) (fun _ _ c => c)) _ 1 [bvB c] rfl (src_bx (bvB c) 5 59 rfl Tryd.underlying59) (by simp only [maxLen] <;> omega) (by omega) ?_))
          intro v4 w4 G4 hr4 hm4 hg4
          have T4 := hide (Kb.grow (k := (k0 ++ [d])) (c := c) HL2.out HB.out hg (by simpa using hr4) hm4 (by simpa using hg4))
          clear hr4 hm4 hg4
          go_wp2
          go_roundw
          case rel => exact ⟨i + 1, (k0 ++ [d]) ++ [c], by go_num, by omega, by rw [HN.out]; exact HQ.out.symm, T4.out⟩
          case measure => simp [intOf]; omega
        | true =>
          have HWc : Hid (∀ W, Calls Tryd.prog 66 #[.int .u8 (c.toNat : Nat)] W fun e w' => e = .returned (.bool true) ∧ w' = W) := fun W => by have := HW.out c W; rwa [hsc] at this
          cases hsd : starB d with
          | false =>
            have HWd : Hid (∀ W, Calls Tryd.prog 66 #[.int .u8 (d.toNat : Nat)] W fun e w' => e = .returned (.bool false) ∧ w' = W) := fun W => by have := HW.out d W; rwa [hsd] at this
            have HQ : Hid (simS (k0 ++ [d]) c = (k0 ++ [d]) ++ [c]) := simS_app (by rw [hsd]; simp)
            clear HW hsc hsd
            go_wp2_with (first
              | (go_at_call 66; refine (HWc.out _).mono ?_; rintro e w' ⟨rfl, rfl⟩)
              | (go_at_call 66; refine (HWd.out _).mono ?_; rintro e w' ⟨rfl, rfl⟩)
              | (at_builtin; refine wpList_append_rw rfl _ _ 59 59 rfl 5 i0 (.int .u8 0) 1 1 Tryd.underlying59 hi hz0 hz1 hz2 rfl rfl (HR.out.keep (S := fun _ => False) ((Mvs.refl _ _).alloc _) (fun _ _ c => c)) _ 1 [bvB c] rfl (src_bx (bvB c) 5 59 rfl Tryd.underlying59) (by simp only [maxLen] <;> omega) (by omega) ?_))
            intro v4 w4 G4 hr4 hm4 hg4
            have T4 := hide (Kb.grow (k := (k0 ++ [d])) (c := c) HL2.out HB.out hg (by simpa using hr4) hm4 (by simpa using hg4))
            clear hr4 hm4 hg4
            go_wp2
            go_roundw
            case rel => exact ⟨i + 1, (k0 ++ [d]) ++ [c], by go_num, by omega, by rw [HN.out]; exact HQ.out.symm, T4.out⟩
            case measure => simp [intOf]; omega
          | true =>
            have HWd : Hid (∀ W, Calls Tryd.prog 66 #[.int .u8 (d.toNat : Nat)] W fun e w' => e = .returned (.bool true) ∧ w' = W) := fun W => by have := HW.out d W; rwa [hsd] at this
            by_cases h42 : c = 42
            · subst h42
              have HQ : Hid (simS (k0 ++ [d]) 42 = k0 ++ [42]) := simS_star hsd
              clear HW hsc hsd
              have T4 := hide (Kb.last hn.out HB.out hg HR.out 42)
              go_wp2_with (first
                | (go_at_call 66; refine (HWc.out _).mono ?_; rintro e w' ⟨rfl, rfl⟩)
                | (go_at_call 66; refine (HWd.out _).mono ?_; rintro e w' ⟨rfl, rfl⟩))
              go_roundw
              case rel => exact ⟨i + 1, k0 ++ [42], by go_num, by omega, by rw [HN.out]; exact HQ.out.symm, T4.out⟩
              case measure => simp [intOf]; omega
            · have HQ : Hid (simS (k0 ++ [d]) c = k0 ++ [d]) := simS_same hsc hsd h42
              have b42 : ¬ (c.toNat : Int) = 42 := fun e => h42 (UInt8.toNat_inj.1 (by rw [show (42 : UInt8).toNat = 42 from rfl]; omega))
              clear HW hsc hsd h42
              have T4 : Hid (Kb w wr (.slice (some ⟨g, o, none⟩) (n + 1) cap) (k0 ++ [d])) := ⟨HB.out, g, hg, by rw [HL2.out]; exact HR.out⟩
              go_wp2_with (first
                | (go_at_call 66; refine (HWc.out _).mono ?_; rintro e w' ⟨rfl, rfl⟩)
                | (go_at_call 66; refine (HWd.out _).mono ?_; rintro e w' ⟨rfl, rfl⟩))
              go_roundw
              case rel => exact ⟨i + 1, k0 ++ [d], by go_num, by omega, by rw [HN.out]; exact HQ.out.symm, T4.out⟩
              case measure => simp [intOf]; omega
    · obtain rfl : i = P.length := by omega
      obtain ⟨hb, g, hg, hr⟩ := HT.out
      have hcv := conv_row hr
      have HK2 : Hid (k = simL P) := by
        show _ = _
        rw [HK.out, List.take_length]; rfl
      obtain ⟨o, cap, rfl, _⟩ := hr.some'
      have HB := hide hb
      clear hr hb HT HK
      go_wp2
      go_ret
      exact ⟨by rw [HK2.out]; rfl, HB.out⟩
end Go.Proofs.YtelpjiiladbigaaDoor
