/- meaning, nameOf, addressOf of package envelope. -/
import Derived.Test.YtkppeejbmalefaaDoorEn1
import Derived.Test.YtkppeejbmalefaaDoorMi12
namespace Go.Proofs.YtkppeejbmalefaaDoor
open Go.RowKit Go.Shelf
/-- A builder of this call's own, in block B, with these bytes. -/
structure BB (w0 : World) (B : Nat) (ys : List UInt8) (w : World) : Prop where
  is : Lib.IsBuilderF 41 5 B B (Lib.byteCells ys) w
  bel : Below B w0 w
  siz : B ≤ w.heap.size
theorem BB.new (w : World) : BB w w.heap.size [] (w.alloc (.cells #[.pointer none, .slice none 0 0] 41)) :=
  ⟨Lib.IsBuilderF.of (Lib.fresh_isBuilder _ _ w), (Below.refl _ _).alloc (Nat.le_refl _) _, by rw [World.size_alloc]; omega⟩
theorem BB.byte {w0 w : World} {B : Nat} {ys : List UInt8} (h : BB w0 B ys w) (c : UInt8) (hl : ys.length ≤ 1000000000) {k : Int} (hk : (c.toNat : Int) = k) :
    Calls Tryd.prog 22 #[.pointer (some ⟨B, 0, none⟩), .int .u8 k] w fun e w' => e = .returned .nilIface ∧ BB w0 B (ys ++ [c]) w' := by
  subst hk
  refine (Tryd.Builder_WriteByte_k B B _ (c.toNat : Int) w h.is (by rw [Lib.byteCells_length]; omega) h.siz).mono ?_
  rintro e w' ⟨rfl, h1, h2, _⟩
  have hcb : Lib.byteCells ys ++ [.int .u8 (c.toNat : Int)] = Lib.byteCells (ys ++ [c]) := by simp [Lib.byteCells]
  rw [hcb] at h1
  exact ⟨rfl, Or.inr h1, h.bel.trans h2, Nat.le_trans h.siz h2.size⟩
theorem BB.text {w0 w : World} {B : Nat} {ys : List UInt8} (h : BB w0 B ys w) (x : List UInt8) (hl : ys.length + x.length ≤ 1000000000) :
    Calls Tryd.prog 23 #[.pointer (some ⟨B, 0, none⟩), .string ⟨x.toArray⟩] w fun e w' => e = .returned (.tuple #[.int .i64 x.length, .nilIface]) ∧ BB w0 B (ys ++ x) w' := by
  refine (Tryd.Builder_WriteString_k B B _ ⟨x.toArray⟩ w h.is (by rw [Lib.byteCells_length, size_lit]; omega) h.siz).mono ?_
  rintro e w' ⟨rfl, h1, h2, _⟩
  have hcb : Lib.byteCells ys ++ Lib.strCells ⟨x.toArray⟩ = Lib.byteCells (ys ++ x) := byteCells_app ys x
  rw [hcb] at h1
  exact ⟨by rw [size_lit], Or.inr h1, h.bel.trans h2, Nat.le_trans h.siz h2.size⟩
theorem BB.str {w0 w : World} {B : Nat} {ys : List UInt8} (h : BB w0 B ys w) :
    Calls Tryd.prog 27 #[.pointer (some ⟨B, 0, none⟩)] w fun e w' => e = .returned (.string ⟨ys.toArray⟩) ∧ Below B w0 w' := by
  refine (Tryd.Builder_String_any_k B B ys w h.is h.siz).mono ?_
  rintro e w' ⟨rfl, _, h2, _⟩
  exact ⟨rfl, h.bel.trans h2⟩
theorem isB_below {B b : Nat} {bs : List Value} {w w' : World} (h : Lib.IsBuilderF 41 5 B b bs w) (hb : Below w.heap.size w w') : Lib.IsBuilderF 41 5 B b bs w' :=
  isBuilder_mvs h (Mvs.of_below (S := fun _ => False) hb) (fun c => c) (fun _ c => c.elim)
theorem BB.then {w0 w w' : World} {B : Nat} {ys : List UInt8} (h : BB w0 B ys w) (hb : Below w.heap.size w w') : BB w0 B ys w' :=
  ⟨isB_below h.is hb, h.bel.trans (hb.mono h.siz), Nat.le_trans h.siz hb.size⟩
/-- What is left of a closed quoted text. -/
structure Lf (t : List UInt8) : Prop where
  len : qL t = t.length
  run : rn .q t = .o
theorem Lf.one {c : UInt8} (h : Lf [c]) : c = 34 := by
  have := h.run
  by_cases h1 : c = 34
  · exact h1
  · by_cases h2 : c = 92
    · subst h2; simp [rn, nx] at this
    · simp [rn, nx, h1, h2] at this
theorem Lf.ne {t : List UInt8} (h : Lf t) : t ≠ [] := by
  rintro rfl
  have := h.run
  simp [rn] at this
theorem Lf.two {c d : UInt8} {r : List UInt8} (h : Lf (c :: d :: r)) : c ≠ 34 := by
  rintro rfl
  have := h.len
  rw [qL_34] at this
  simp at this
theorem Lf.esc {d : UInt8} {r : List UInt8} (h : Lf (92 :: d :: r)) : Lf r ∧ mnQ (92 :: d :: r) = d :: mnQ r := by
  refine ⟨⟨?_, h.run⟩, by simp [mnQ]⟩
  have := h.len
  rw [qL_92] at this
  simp at this
  exact this
theorem Lf.oth {c d : UInt8} {r : List UInt8} (h : Lf (c :: d :: r)) (h2 : c ≠ 92) : Lf (d :: r) ∧ mnQ (c :: d :: r) = c :: mnQ (d :: r) := by
  have h1 := h.two
  refine ⟨⟨?_, ?_⟩, by rw [mnQ, if_neg h1, if_neg h2]⟩
  · have := h.len
    rw [qL_c h1 h2] at this
    simp at this ⊢
    exact this
  · have := h.run
    rw [rn_cons] at this
    have e : nx .q c = .q := by simp [nx, h1, h2]
    rw [e] at this
    exact this
set_option maxHeartbeats 1000000 in
theorem meaning_any (r : List UInt8) (hf : Lf r) (w : World) (hl : r.length ≤ 999999) :
    Calls Tryd.prog 59 #[.string ⟨(34 :: r).toArray⟩] w fun e w' => e = .returned (.string ⟨(mnQ r).toArray⟩) ∧ Below w.heap.size w w' := by
  have HF : Hid (([] : List UInt8) ++ mnQ ((34 :: r).drop 1) = mnQ r ∧ Lf ((34 :: r).drop 1)) := ⟨rfl, hf⟩
  obtain ⟨M, hM⟩ : ∃ M, mnQ r = M := ⟨_, rfl⟩
  rw [hM] at HF ⊢
  have hMl : M.length ≤ 999999 := by have := mnQ_len r; rw [hM] at this; omega
  have hn : (34 :: r).length = r.length + 1 := rfl
  have hr0 : 0 < r.length := List.length_pos_iff.2 hf.ne
  obtain ⟨l, hl0⟩ : ∃ l, 34 :: r = l := ⟨_, rfl⟩
  rw [hl0] at HF hn ⊢
  have hsz := size_lit l
  have hll : l.length ≤ 1000000 := by omega
  have hl2 : 2 ≤ l.length := by omega
  clear hM hl0 hf hl hn hr0
  have HB0 := hide (BB.new w)
  go_enter Tryd.func59, Tryd.ntmps59
  go_wp2
  go_loopw [4] (fun v wx => ∃ (j : Nat) (ys : List UInt8), v = .int .i64 j ∧ 1 ≤ j ∧ j ≤ l.length ∧ Hid (BB w w.heap.size ys wx) ∧ Hid (ys ++ mnQ (l.drop j) = M ∧ Lf (l.drop j))) (fun v _ => l.length - (intOf v).toNat)
  case atStart => exact ⟨1, [], by go_num, by omega, by omega, HB0, HF⟩
  case round =>
    obtain ⟨j, ys, rfl, hj1, hj, HB, HJ⟩ := hrel
    clear HB0 HF
    have hyl : ys.length ≤ 1000000 := by
      have := congrArg List.length HJ.out.1
      rw [List.length_append] at this
      omega
    by_cases hlt : j + 1 < l.length
    · obtain ⟨c, hc, hat⟩ := at_str l j (by omega)
      obtain ⟨d, hd, hat2⟩ := at_str l (j + 1) hlt
      have hdr : l.drop j = c :: d :: l.drop (j + 2) := by rw [drop_at (by omega), drop_at hlt, hc, hd]
      have hdr1 : l.drop (j + 1) = d :: l.drop (j + 2) := by rw [drop_at hlt, hd]
      obtain ⟨hJ1, hJ2⟩ := HJ.out
      rw [hdr] at hJ1 hJ2
      have hlt' : (j : Int) < (l.length : Int) - 1 := by omega
      by_cases h92 : c = 92
      · subst h92
        have HW := hide (HB.out.byte d (by omega) rfl)
        have HN : Hid ((ys ++ [d]) ++ mnQ (l.drop (j + 2)) = M ∧ Lf (l.drop (j + 2))) := by
          obtain ⟨k1, k2⟩ := hJ2.esc
          rw [k2] at hJ1
          exact ⟨by rw [← hJ1]; simp, k1⟩
        clear hJ1 hJ2 hdr hdr1 HJ
        go_wp2_with (first
          | (go_at_call 22; refine HW.out.mono ?_; rintro e w2 ⟨rfl, hb2⟩; replace hb2 := hide hb2))
        go_roundw
        case rel => exact ⟨j + 2, ys ++ [d], by go_num, by omega, by omega, hb2, HN⟩
        case measure => simp [intOf]; omega
      · have h92' := u8_ne (k := 92) rfl h92
        have HW := hide (HB.out.byte c (by omega) rfl)
        have HN : Hid ((ys ++ [c]) ++ mnQ (l.drop (j + 1)) = M ∧ Lf (l.drop (j + 1))) := by
          obtain ⟨k1, k2⟩ := hJ2.oth h92
          rw [k2] at hJ1
          rw [hdr1]
          exact ⟨by rw [← hJ1]; simp, k1⟩
        clear hJ1 hJ2 hdr hdr1 HJ
        go_wp2_with (first
          | (go_at_call 22; refine HW.out.mono ?_; rintro e w2 ⟨rfl, hb2⟩; replace hb2 := hide hb2))
        go_roundw
        case rel => exact ⟨j + 1, ys ++ [c], by go_num, by omega, by omega, hb2, HN⟩
        case measure => simp [intOf]; omega
    · have hne := HJ.out.2.ne
      have hjl : j < l.length := by
        by_cases h : j < l.length
        · exact h
        · exact absurd (List.drop_of_length_le (by omega)) hne
      have hdr : l.drop j = [l[j]] := by rw [drop_at hjl, List.drop_of_length_le (by omega)]
      obtain ⟨hJ1, hJ2⟩ := HJ.out
      rw [hdr] at hJ1 hJ2
      have h34 := hJ2.one
      rw [h34] at hJ1
      have HY : Hid (ys = M) := by
        have : mnQ [34] = [] := by simp [mnQ]
        rw [this, List.append_nil] at hJ1
        exact hJ1
      have hlt' : ¬ ((j : Int) < (l.length : Int) - 1) := by omega
      have HW := hide (HB.out.str)
      clear hJ1 hJ2 hdr HJ h34 hne
      go_wp2_with (first
        | (go_at_call 27; refine HW.out.mono ?_; rintro e w2 ⟨rfl, hb2⟩; replace hb2 := hide hb2))
      go_ret
      exact ⟨by rw [← HY.out]; rfl, hb2.out⟩
theorem hasP_34 (c : UInt8) (r : List UInt8) : Lib.hasPrefix (c :: r) [34] = (34 == c) := by simp [Lib.hasPrefix, List.isPrefixOf]
theorem hp_any (s : List UInt8) (c : UInt8) (w : World) {b : Bool} (hb : Lib.hasPrefix s [c] = b) : Calls Tryd.prog 58 #[.string ⟨s.toArray⟩, .string ⟨#[c]⟩] w fun e w' => e = .returned (.bool b) ∧ w' = w := by
  subst hb
  exact Tryd.strings_HasPrefix ⟨s.toArray⟩ ⟨#[c]⟩ w
theorem enName_any (t : List UInt8) (ht : rn .o t = .o) (w : World) (hl : t.length ≤ 1000000) :
    Calls Tryd.prog 41 #[.string ⟨t.toArray⟩] w fun e w' => e = .returned (.string ⟨(nmV t).toArray⟩) ∧ Below w.heap.size w w' := by
  cases t with
  | nil =>
    have HP := hide (fun w => hp_any [] 34 w (b := false) rfl)
    go_enter Tryd.func41, Tryd.ntmps41
    go_wp2_with (first
      | (go_at_call 58; refine (HP.out _).mono ?_; rintro e w2 ⟨rfl, rfl⟩))
    go_ret
    exact ⟨rfl, Below.refl _ _⟩
  | cons c r =>
    have hv : nmV (c :: r) = if c = 34 ∧ qL r = r.length then mnQ r else c :: r := rfl
    by_cases h34 : c = 34
    · subst h34
      have HP := hide (fun w => hp_any (34 :: r) 34 w (b := true) (by rw [hasP_34]; rfl))
      have HE := hide (fun w => be_any (34 :: r) 0 (by simp) w hl)
      rw [List.drop_zero, stp_cons, if_pos rfl] at HE
      have hql := qL_le r
      by_cases hq : qL r = r.length
      · rw [if_pos ⟨rfl, hq⟩] at hv
        have HM := hide (fun w => meaning_any r ⟨hq, ht⟩ w (by simpa using hl))
        rw [hv]
        generalize mnQ r = M at *
        have hsz := size_lit (34 :: r)
        have hln : (34 :: r).length = r.length + 1 := rfl
        rw [hq] at HE
        generalize 34 :: r = t at *
        have hqe : ((r.length : Int) + 1 == t.length) = true := by rw [beq_iff_eq]; omega
        clear hv hq hql
        go_enter Tryd.func41, Tryd.ntmps41
        go_wp2_with (first
          | (go_at_call 58; refine (HP.out _).mono ?_; rintro e w2 ⟨rfl, rfl⟩)
          | (go_at_call 33; refine (HE.out _).mono ?_; rintro e w3 ⟨rfl, rfl⟩)
          | (go_at_call 59; refine (HM.out _).mono ?_; rintro e w4 ⟨rfl, hb4⟩; replace hb4 := hide hb4))
        go_ret
        exact ⟨rfl, hb4.out⟩
      · rw [if_neg (fun e => hq e.2)] at hv
        rw [hv]
        have hsz := size_lit (34 :: r)
        have hln : (34 :: r).length = r.length + 1 := rfl
        generalize 34 :: r = t at *
        generalize qL r = Q at *
        have hqe : ((0 : Int) + ((Q : Int) + 1) == t.length) = false := by rw [beq_eq_false_iff_ne]; omega
        have hqe2 : (((Q : Int) + 1) == t.length) = false := by rw [beq_eq_false_iff_ne]; omega
        clear hv
        go_enter Tryd.func41, Tryd.ntmps41
        go_wp2_with (first
          | (go_at_call 58; refine (HP.out _).mono ?_; rintro e w2 ⟨rfl, rfl⟩)
          | (go_at_call 33; refine (HE.out _).mono ?_; rintro e w3 ⟨rfl, rfl⟩))
        go_ret
        exact ⟨rfl, Below.refl _ _⟩
    · have HP := hide (fun w => hp_any (c :: r) 34 w (b := false) (by rw [hasP_34]; exact beq_eq_false_iff_ne.2 (fun e => h34 e.symm)))
      rw [if_neg (fun e => h34 e.1)] at hv
      rw [hv]
      generalize c :: r = t at *
      clear hv
      go_enter Tryd.func41, Tryd.ntmps41
      go_wp2_with (first
        | (go_at_call 58; refine (HP.out _).mono ?_; rintro e w2 ⟨rfl, rfl⟩))
      go_ret
      exact ⟨rfl, Below.refl _ _⟩
end Go.Proofs.YtkppeejbmalefaaDoor
