/- meaning, nameOf, addressOf of package envelope. -/
/- addressOf of package envelope. -/
import Derived.Test.YtkppeejbmalefaaGreatDoorU15
import Derived.Test.YtkppeejbmalefaaGreatDoorU13
section
namespace Go.Proofs.YtkppeejbmalefaaGreatDoor
open Go.RowKit Go.Shelf
/-- A builder of this call's own, in block B, with these bytes. -/
structure BB (w0 : World) (B : Nat) (ys : List UInt8) (w : World) : Prop where
  is : Lib.IsBuilderF 89 5 B B (Lib.byteCells ys) w
  bel : Below B w0 w
  siz : B ≤ w.heap.size
theorem BB.new (w : World) : BB w w.heap.size [] (w.alloc (.cells #[.pointer none, .slice none 0 0] 89)) :=
  ⟨Lib.IsBuilderF.of (Lib.fresh_isBuilder _ _ w), (Below.refl _ _).alloc (Nat.le_refl _) _, by rw [World.size_alloc]; omega⟩
theorem BB.byte {w0 w : World} {B : Nat} {ys : List UInt8} (h : BB w0 B ys w) (c : UInt8) (hl : ys.length ≤ 1000000000) {k : Int} (hk : (c.toNat : Int) = k) :
    Calls Tryz.prog 79 #[.pointer (some ⟨B, 0, none⟩), .int .u8 k] w fun e w' => e = .returned .nilIface ∧ BB w0 B (ys ++ [c]) w' := by
  subst hk
  refine (Tryz.Builder_WriteByte_k B B _ (c.toNat : Int) w h.is (by rw [Lib.byteCells_length]; omega) h.siz).mono ?_
  rintro e w' ⟨rfl, h1, h2, _⟩
  have hcb : Lib.byteCells ys ++ [.int .u8 (c.toNat : Int)] = Lib.byteCells (ys ++ [c]) := by simp [Lib.byteCells]
  rw [hcb] at h1
  exact ⟨rfl, Or.inr h1, h.bel.trans h2, Nat.le_trans h.siz h2.size⟩
theorem BB.text {w0 w : World} {B : Nat} {ys : List UInt8} (h : BB w0 B ys w) (x : List UInt8) (hl : ys.length + x.length ≤ 1000000000) :
    Calls Tryz.prog 75 #[.pointer (some ⟨B, 0, none⟩), .string ⟨x.toArray⟩] w fun e w' => e = .returned (.tuple #[.int .i64 x.length, .nilIface]) ∧ BB w0 B (ys ++ x) w' := by
  refine (Tryz.Builder_WriteString_k B B _ ⟨x.toArray⟩ w h.is (by rw [Lib.byteCells_length, size_lit]; omega) h.siz).mono ?_
  rintro e w' ⟨rfl, h1, h2, _⟩
  have hcb : Lib.byteCells ys ++ Lib.strCells ⟨x.toArray⟩ = Lib.byteCells (ys ++ x) := byteCells_app ys x
  rw [hcb] at h1
  exact ⟨by rw [size_lit], Or.inr h1, h.bel.trans h2, Nat.le_trans h.siz h2.size⟩
theorem BB.str {w0 w : World} {B : Nat} {ys : List UInt8} (h : BB w0 B ys w) :
    Calls Tryz.prog 55 #[.pointer (some ⟨B, 0, none⟩)] w fun e w' => e = .returned (.string ⟨ys.toArray⟩) ∧ Below B w0 w' := by
  refine (Tryz.Builder_String_any_k B B ys w h.is h.siz).mono ?_
  rintro e w' ⟨rfl, _, h2, _⟩
  exact ⟨rfl, h.bel.trans h2⟩
theorem isB_below {B b : Nat} {bs : List Value} {w w' : World} (h : Lib.IsBuilderF 89 5 B b bs w) (hb : Below w.heap.size w w') : Lib.IsBuilderF 89 5 B b bs w' :=
  isBuilder_mvs h (Mvs.of_below (S := fun _ => False) hb) (fun c => c) (fun _ c => c.elim)
theorem BB.then {w0 w w' : World} {B : Nat} {ys : List UInt8} (h : BB w0 B ys w) (hb : Below w.heap.size w w') : BB w0 B ys w' :=
  ⟨isB_below h.is hb, h.bel.trans (hb.mono h.siz), Nat.le_trans h.siz hb.size⟩
/-- What is left of a closed quoted text. -/
structure Lf (t : List UInt8) : Prop where
  len : qL t = t.length
  run : rn .q t = .o
theorem Lf.one {c : UInt8} (h : Lf [c]) : c = 34 := by
  have := h.run
  by_cases h1 : c = 34
  · exact h1
  · by_cases h2 : c = 92
    · subst h2; simp [rn, nx] at this
    · simp [rn, nx, h1, h2] at this
theorem Lf.ne {t : List UInt8} (h : Lf t) : t ≠ [] := by
  rintro rfl
  have := h.run
  simp [rn] at this
theorem Lf.two {c d : UInt8} {r : List UInt8} (h : Lf (c :: d :: r)) : c ≠ 34 := by
  rintro rfl
  have := h.len
  rw [qL_34] at this
  simp at this
theorem Lf.esc {d : UInt8} {r : List UInt8} (h : Lf (92 :: d :: r)) : Lf r ∧ mnQ (92 :: d :: r) = d :: mnQ r := by
  refine ⟨⟨?_, h.run⟩, by simp [mnQ]⟩
  have := h.len
  rw [qL_92] at this
  simp at this
  exact this
theorem Lf.oth {c d : UInt8} {r : List UInt8} (h : Lf (c :: d :: r)) (h2 : c ≠ 92) : Lf (d :: r) ∧ mnQ (c :: d :: r) = c :: mnQ (d :: r) := by
  have h1 := h.two
  refine ⟨⟨?_, ?_⟩, by rw [mnQ, if_neg h1, if_neg h2]⟩
  · have := h.len
    rw [qL_c h1 h2] at this
    simp at this ⊢
    exact this
  · have := h.run
    rw [rn_cons] at this
    have e : nx .q c = .q := by simp [nx, h1, h2]
    rw [e] at this
    exact this
set_option maxHeartbeats 1000000 in
theorem meaning_any (r : List UInt8) (hf : Lf r) (w : World) (hl : r.length ≤ 999999) :
    Calls Tryz.prog 98 #[.string ⟨(34 :: r).toArray⟩] w fun e w' => e = .returned (.string ⟨(mnQ r).toArray⟩) ∧ Below w.heap.size w w' := by
  have HF : Hid (([] : List UInt8) ++ mnQ ((34 :: r).drop 1) = mnQ r ∧ Lf ((34 :: r).drop 1)) := ⟨rfl, hf⟩
  obtain ⟨M, hM⟩ : ∃ M, mnQ r = M := ⟨_, rfl⟩
  rw [hM] at HF ⊢
  have hMl : M.length ≤ 999999 := by have := mnQ_len r; rw [hM] at this; omega
  have hn : (34 :: r).length = r.length + 1 := rfl
  have hr0 : 0 < r.length := List.length_pos_iff.2 hf.ne
  obtain ⟨l, hl0⟩ : ∃ l, 34 :: r = l := ⟨_, rfl⟩
  rw [hl0] at HF hn ⊢
  have hsz := size_lit l
  have hll : l.length ≤ 1000000 := by omega
  have hl2 : 2 ≤ l.length := by omega
  clear hM hl0 hf hl hn hr0
  have HB0 := hide (BB.new w)
  go_enter Tryz.func98, Tryz.ntmps98
  go_wp2
  go_loopw [4] (fun v wx => ∃ (j : Nat) (ys : List UInt8), v = .int .i64 j ∧ 1 ≤ j ∧ j ≤ l.length ∧ Hid (BB w w.heap.size ys wx) ∧ Hid (ys ++ mnQ (l.drop j) = M ∧ Lf (l.drop j))) (fun v _ => l.length - (intOf v).toNat)
  case atStart => exact ⟨1, [], by go_num, by omega, by omega, HB0, HF⟩
  case round =>
    obtain ⟨j, ys, rfl, hj1, hj, HB, HJ⟩ := hrel
    clear HB0 HF
    have hyl : ys.length ≤ 1000000 := by
      have := congrArg List.length HJ.out.1
      rw [List.length_append] at this
      omega
    by_cases hlt : j + 1 < l.length
    · obtain ⟨c, hc, hat⟩ := at_str l j (by omega)
      obtain ⟨d, hd, hat2⟩ := at_str l (j + 1) hlt
      have hdr : l.drop j = c :: d :: l.drop (j + 2) := by rw [drop_at (by omega), drop_at hlt, hc, hd]
      have hdr1 : l.drop (j + 1) = d :: l.drop (j + 2) := by rw [drop_at hlt, hd]
      obtain ⟨hJ1, hJ2⟩ := HJ.out
      rw [hdr] at hJ1 hJ2
      have hlt' : (j : Int) < (l.length : Int) - 1 := by omega
      by_cases h92 : c = 92
      · subst h92
        have HW := hide (HB.out.byte d (by omega) rfl)
        have HN : Hid ((ys ++ [d]) ++ mnQ (l.drop (j + 2)) = M ∧ Lf (l.drop (j + 2))) := by
          obtain ⟨k1, k2⟩ := hJ2.esc
          rw [k2] at hJ1
          exact ⟨by rw [← hJ1]; simp, k1⟩
        clear hJ1 hJ2 hdr hdr1 HJ
        go_wp2_with (first
          | (go_at_call 79; refine HW.out.mono ?_; rintro e w2 ⟨rfl, hb2⟩; replace hb2 := hide hb2))
        go_roundw
        case rel => exact ⟨j + 2, ys ++ [d], by go_num, by omega, by omega, hb2, HN⟩
        case measure => simp [intOf]; omega
      · have h92' := u8_ne (k := 92) rfl h92
        have HW := hide (HB.out.byte c (by omega) rfl)
        have HN : Hid ((ys ++ [c]) ++ mnQ (l.drop (j + 1)) = M ∧ Lf (l.drop (j + 1))) := by
          obtain ⟨k1, k2⟩ := hJ2.oth h92
          rw [k2] at hJ1
          rw [hdr1]
          exact ⟨by rw [← hJ1]; simp, k1⟩
        clear hJ1 hJ2 hdr hdr1 HJ
        go_wp2_with (first
          | (go_at_call 79; refine HW.out.mono ?_; rintro e w2 ⟨rfl, hb2⟩; replace hb2 := hide hb2))
        go_roundw
        case rel => exact ⟨j + 1, ys ++ [c], by go_num, by omega, by omega, hb2, HN⟩
        case measure => simp [intOf]; omega
    · have hne := HJ.out.2.ne
      have hjl : j < l.length := by
        by_cases h : j < l.length
        · exact h
        · exact absurd (List.drop_of_length_le (by omega)) hne
      have hdr : l.drop j = [l[j]] := by rw [drop_at hjl, List.drop_of_length_le (by omega)]
      obtain ⟨hJ1, hJ2⟩ := HJ.out
      rw [hdr] at hJ1 hJ2
      have h34 := hJ2.one
      rw [h34] at hJ1
      have HY : Hid (ys = M) := by
        have : mnQ [34] = [] := by simp [mnQ]
        rw [this, List.append_nil] at hJ1
        exact hJ1
      have hlt' : ¬ ((j : Int) < (l.length : Int) - 1) := by omega
      have HW := hide (HB.out.str)
      clear hJ1 hJ2 hdr HJ h34 hne
      go_wp2_with (first
        | (go_at_call 55; refine HW.out.mono ?_; rintro e w2 ⟨rfl, hb2⟩; replace hb2 := hide hb2))
      go_ret
      exact ⟨by rw [← HY.out]; rfl, hb2.out⟩
theorem hasP_34 (c : UInt8) (r : List UInt8) : Lib.hasPrefix (c :: r) [34] = (34 == c) := by simp [Lib.hasPrefix, List.isPrefixOf]
theorem hp_any (s : List UInt8) (c : UInt8) (w : World) {b : Bool} (hb : Lib.hasPrefix s [c] = b) : Calls Tryz.prog 86 #[.string ⟨s.toArray⟩, .string ⟨#[c]⟩] w fun e w' => e = .returned (.bool b) ∧ w' = w := by
  subst hb
  exact Tryz.strings_HasPrefix ⟨s.toArray⟩ ⟨#[c]⟩ w
theorem enName_any (t : List UInt8) (ht : rn .o t = .o) (w : World) (hl : t.length ≤ 1000000) :
    Calls Tryz.prog 67 #[.string ⟨t.toArray⟩] w fun e w' => e = .returned (.string ⟨(nmV t).toArray⟩) ∧ Below w.heap.size w w' := by
  cases t with
  | nil =>
    have HP := hide (fun w => hp_any [] 34 w (b := false) rfl)
    go_enter Tryz.func67, Tryz.ntmps67
    go_wp2_with (first
      | (go_at_call 86; refine (HP.out _).mono ?_; rintro e w2 ⟨rfl, rfl⟩))
    go_ret
    exact ⟨rfl, Below.refl _ _⟩
  | cons c r =>
    have hv : nmV (c :: r) = if c = 34 ∧ qL r = r.length then mnQ r else c :: r := rfl
    by_cases h34 : c = 34
    · subst h34
      have HP := hide (fun w => hp_any (34 :: r) 34 w (b := true) (by rw [hasP_34]; rfl))
      have HE := hide (fun w => be_any (34 :: r) 0 (by simp) w hl)
      rw [List.drop_zero, stp_cons, if_pos rfl] at HE
      have hql := qL_le r
      by_cases hq : qL r = r.length
      · rw [if_pos ⟨rfl, hq⟩] at hv
        have HM := hide (fun w => meaning_any r ⟨hq, ht⟩ w (by simpa using hl))
        rw [hv]
        generalize mnQ r = M at *
        have hsz := size_lit (34 :: r)
        have hln : (34 :: r).length = r.length + 1 := rfl
        rw [hq] at HE
        generalize 34 :: r = t at *
        have hqe : ((r.length : Int) + 1 == t.length) = true := by rw [beq_iff_eq]; omega
        clear hv hq hql
        go_enter Tryz.func67, Tryz.ntmps67
        go_wp2_with (first
          | (go_at_call 86; refine (HP.out _).mono ?_; rintro e w2 ⟨rfl, rfl⟩)
          | (go_at_call 59; refine (HE.out _).mono ?_; rintro e w3 ⟨rfl, rfl⟩)
          | (go_at_call 98; refine (HM.out _).mono ?_; rintro e w4 ⟨rfl, hb4⟩; replace hb4 := hide hb4))
        go_ret
        exact ⟨rfl, hb4.out⟩
      · rw [if_neg (fun e => hq e.2)] at hv
        rw [hv]
        have hsz := size_lit (34 :: r)
        have hln : (34 :: r).length = r.length + 1 := rfl
        generalize 34 :: r = t at *
        generalize qL r = Q at *
        have hqe : ((0 : Int) + ((Q : Int) + 1) == t.length) = false := by rw [beq_eq_false_iff_ne]; omega
        have hqe2 : (((Q : Int) + 1) == t.length) = false := by rw [beq_eq_false_iff_ne]; omega
        clear hv
        go_enter Tryz.func67, Tryz.ntmps67
        go_wp2_with (first
          | (go_at_call 86; refine (HP.out _).mono ?_; rintro e w2 ⟨rfl, rfl⟩)
          | (go_at_call 59; refine (HE.out _).mono ?_; rintro e w3 ⟨rfl, rfl⟩))
        go_ret
        exact ⟨rfl, Below.refl _ _⟩
    · have HP := hide (fun w => hp_any (c :: r) 34 w (b := false) (by rw [hasP_34]; exact beq_eq_false_iff_ne.2 (fun e => h34 e.symm)))
      rw [if_neg (fun e => h34 e.1)] at hv
      rw [hv]
      generalize c :: r = t at *
      clear hv
      go_enter Tryz.func67, Tryz.ntmps67
      go_wp2_with (first
        | (go_at_call 86; refine (HP.out _).mono ?_; rintro e w2 ⟨rfl, rfl⟩))
      go_ret
      exact ⟨rfl, Below.refl _ _⟩
end Go.Proofs.YtkppeejbmalefaaGreatDoor

end
section
namespace Go.Proofs.YtkppeejbmalefaaGreatDoor
open Go.RowKit Go.Shelf
theorem la_any (l : List UInt8) (w : World) (hl : l.length ≤ 1000000) : Calls Tryz.prog 69 #[.string ⟨l.toArray⟩, .int .u8 64] w fun e w' => e = .returned (.int .i64 (Go.Lib.Pa.lastIdx l 64 l.length)) ∧ w' = w := by
  have H : Hid (∀ w, Calls Tryz.prog 100 #[.string ⟨l.toArray⟩, .int .u8 64] w fun e w' => e = .returned (.int .i64 (Go.Lib.Pa.lastIdx l 64 l.length)) ∧ w' = w) := fun w => Tryz.bytealg_LastIndexByteString ⟨l.toArray⟩ 64 w (by rw [size_lit]; omega)
  generalize Go.Lib.Pa.lastIdx l 64 l.length = x at *
  go_enter Tryz.func69, Tryz.ntmps69
  go_wp2_with (first
    | (go_at_call 100; refine (H.out _).mono ?_; rintro e w2 ⟨rfl, rfl⟩))
  go_ret
  exact ⟨rfl, rfl⟩
theorem tow_in : ∀ {p : List UInt8} (q : List UInt8), (62 : UInt8) ∉ p → tow (p ++ 62 :: q) = p
  | [], q, _ => rfl
  | c :: r, q, h => by
    have hc : c ≠ 62 := fun e => h (by simp [e])
    have ih := tow_in (p := r) q (fun e => h (by simp [e]))
    unfold tow at *
    rw [List.cons_append, List.takeWhile_cons, if_pos (by simp [hc]), ih]
theorem tow_out : ∀ {p : List UInt8}, (62 : UInt8) ∉ p → tow p = p
  | [], _ => rfl
  | c :: r, h => by
    have hc : c ≠ 62 := fun e => h (by simp [e])
    have ih := tow_out (p := r) (fun e => h (by simp [e]))
    unfold tow at *
    rw [List.takeWhile_cons, if_pos (by simp [hc]), ih]
theorem cut_tow (l : List UInt8) : (cutV 62 l).1 = tow l := by
  by_cases h : (62 : UInt8) ∈ l
  · obtain ⟨p, q, rfl, hp⟩ := split_at_byte l h
    rw [cutV_in q hp, tow_in q hp]
  · rw [cutV_out h, tow_out h]
theorem locK_neg {l : List UInt8} (h : Go.Lib.Pa.lastIdx l 64 l.length < 0) : locK l l.length = (l, []) := by
  unfold locK
  rw [if_pos h]
theorem locK_pos {l : List UInt8} {i : Nat} (h : Go.Lib.Pa.lastIdx l 64 l.length = i) : locK l l.length = (l.take i, l.drop (i + 1)) := by
  unfold locK
  rw [h, if_neg (by omega)]
  simp
/-- A struct of three texts that is written over in its block. -/
theorem three_sets {w : World} {b : Nat} {t : TypeId} {a b' c x y z : Value} (h : Blk w b #[a, b', c] t) : Blk (((w.setCell ⟨b, 0, none⟩ x).setCell ⟨b, 1, none⟩ y).setCell ⟨b, 2, none⟩ z) b #[x, y, z] t := ((h.set 0 x).set 1 y).set 2 z
theorem three_below {w0 w : World} {b : Nat} {x y z : Value} (h : Below w0.heap.size w0 w) (hb : w0.heap.size ≤ b) : Below w0.heap.size w0 (((w.setCell ⟨b, 0, none⟩ x).setCell ⟨b, 1, none⟩ y).setCell ⟨b, 2, none⟩ z) :=
  ((h.setCell hb _).setCell hb _).setCell hb _
theorem adO_eq {p nm ad : List UInt8} (h : nmA p = (nm, ad)) {lo dm : List UInt8} (h2 : locK ad ad.length = (lo, dm)) : adO p = ⟨nm, lo, dm⟩ := by
  unfold adO
  rw [h]
  simp only [h2]
def adAgg (a : Ad) : Value := .agg #[.string ⟨a.name.toArray⟩, .string ⟨a.loc.toArray⟩, .string ⟨a.dom.toArray⟩]
set_option maxHeartbeats 2000000 in
theorem addr_any (p : List UInt8) (w : World) (hl : p.length ≤ 1000000) :
    Calls Tryz.prog 30 #[.string ⟨p.toArray⟩] w fun e w' => e = .returned (adAgg (adO p)) ∧ Below w.heap.size w w' := by
  have hsz := size_lit p
  have HP := hide (fun w => place_any p 60 w hl)
  have hple := plE_le 60 .o p
  have hA : Blk (w.alloc (.cells #[.string ⟨#[]⟩, .string ⟨#[]⟩, .string ⟨#[]⟩] 39)) w.heap.size #[.string ⟨#[]⟩, .string ⟨#[]⟩, .string ⟨#[]⟩] 39 := Blk.new w _ _
  have HA := hide hA
  have HA2 := hide ((Below.refl w.heap.size w).alloc (Nat.le_refl _) (.cells #[.string ⟨#[]⟩, .string ⟨#[]⟩, .string ⟨#[]⟩] 39))
  clear hA
  obtain ⟨k, hk⟩ : ∃ k, plE 60 .o p = k := ⟨_, rfl⟩
  by_cases hlt : k < p.length
  · have hn : nmA p = (nmV (Lib.trimS (p.take k) [32, 9]), tow (p.drop (k + 1))) := by
      unfold nmA
      rw [hk, if_pos hlt]
    have hrun : rn .o (p.take k) = .o := by
      have := (plE_run (m := 60) (s := .o) (l := p) (by rw [hk]; exact hlt)).1
      rw [hk] at this
      exact this
    have htl : (p.take k).length ≤ 1000000 := by rw [List.length_take]; omega
    have HT := hide (fun w => trim_any (p.take k) w htl)
    have HN := hide (fun w => enName_any (Lib.trimS (p.take k) [32, 9]) (rn_trim hrun) w (Nat.le_trans (trim_len _) htl))
    have hdl : (p.drop (k + 1)).length ≤ 1000000 := by rw [List.length_drop]; omega
    have HC := hide (fun w => cut_any 62 (p.drop (k + 1)) w hdl)
    rw [cut_tow] at HC
    have hal : (tow (p.drop (k + 1))).length ≤ 1000000 := Nat.le_trans (tow_len _) hdl
    have e1 : (⟨p.toArray⟩ : ByteArray).extract 0 k = ⟨(p.take k).toArray⟩ := ext_take p k
    have e2 : (⟨p.toArray⟩ : ByteArray).extract (k + 1) p.length = ⟨(p.drop (k + 1)).toArray⟩ := ext_drop p (k + 1)
    rw [hk] at HP hple
    have hlt' : (k : Int) < p.length := by omega
    generalize nmV (Lib.trimS (p.take k) [32, 9]) = nm at *
    generalize tow (p.drop (k + 1)) = ad at *
    generalize Lib.trimS (p.take k) [32, 9] = tr at *
    generalize (cutV 62 (p.drop (k + 1))).2.1 = c1 at *
    generalize (cutV 62 (p.drop (k + 1))).2.2 = c2 at *
    generalize p.drop (k + 1) = dr at *
    generalize p.take k = tk at *
    have HL := hide (fun w => la_any ad w hal)
    have hsa := size_lit ad
    clear hrun htl hdl
    by_cases hx : Go.Lib.Pa.lastIdx ad 64 ad.length < 0
    · have HO := hide (adO_eq hn (locK_neg hx))
      generalize Go.Lib.Pa.lastIdx ad 64 ad.length = x at *
      have hx' : ¬ (0 ≤ x) := by omega
      rw [HO.out]
      clear hn HO
      go_enter Tryz.func30, Tryz.ntmps30
      go_wp2_with (first
        | (go_at_call 28; refine (HP.out _).mono ?_; rintro e w1 ⟨rfl, rfl⟩)
        | (go_at_call 29; refine (HT.out _).mono ?_; rintro e w2 ⟨rfl, hb2⟩; replace hb2 := hide hb2)
        | (go_at_call 67; refine (HN.out _).mono ?_; rintro e w3 ⟨rfl, hb3⟩; replace hb3 := hide hb3)
        | (go_at_call 68; refine (HC.out _).mono ?_; rintro e w4 ⟨rfl, hb4⟩
           have HB4 := hide ((hb2.out.trans (hb3.out.mono hb2.out.size)).trans (hb4.mono (hb2.out.trans (hb3.out.mono hb2.out.size)).size))
           have HB := hide (HA2.out.trans (HB4.out.mono (by simp)))
           have HK := hide (HA.out.below HB4.out HA.out.lt)
           have hcR := HK.out.cell
           have hfR := HK.out.frozen
           have hlR := HK.out.lt
           clear hb2 hb3 hb4 HB4)
        | (go_at_call 69; refine (HL.out _).mono ?_; rintro e w5 ⟨rfl, rfl⟩))
      have h9 := (three_sets HK.out (x := .string ⟨nm.toArray⟩) (y := .string ⟨ad.toArray⟩) (z := .string ⟨#[]⟩)).cell
      exact bodyPost_ret (v := .agg #[.string ⟨nm.toArray⟩, .string ⟨ad.toArray⟩, .string ⟨#[]⟩]) (by simp [results, Tryz.results30, go_sem, h9]) rfl ⟨rfl, three_below HB.out (Nat.le_refl _)⟩
    · have hxb := (Go.Lib.Pa.lastIdx_bounds ad 64 ad.length).2
      obtain ⟨i, hi⟩ : ∃ i : Nat, Go.Lib.Pa.lastIdx ad 64 ad.length = i := ⟨(Go.Lib.Pa.lastIdx ad 64 ad.length).toNat, by omega⟩
      have HO := hide (adO_eq hn (locK_pos hi))
      rw [hi] at HL hxb
      have f1 : (⟨ad.toArray⟩ : ByteArray).extract 0 i = ⟨(ad.take i).toArray⟩ := ext_take ad i
      have f2 : (⟨ad.toArray⟩ : ByteArray).extract (i + 1) ad.length = ⟨(ad.drop (i + 1)).toArray⟩ := ext_drop ad (i + 1)
      generalize ad.take i = lo at *
      generalize ad.drop (i + 1) = dm at *
      clear hx hi
      rw [HO.out]
      clear hn HO
      go_enter Tryz.func30, Tryz.ntmps30
      go_wp2_with (first
        | (go_at_call 28; refine (HP.out _).mono ?_; rintro e w1 ⟨rfl, rfl⟩)
        | (go_at_call 29; refine (HT.out _).mono ?_; rintro e w2 ⟨rfl, hb2⟩; replace hb2 := hide hb2)
        | (go_at_call 67; refine (HN.out _).mono ?_; rintro e w3 ⟨rfl, hb3⟩; replace hb3 := hide hb3)
        | (go_at_call 68; refine (HC.out _).mono ?_; rintro e w4 ⟨rfl, hb4⟩
           have HB4 := hide ((hb2.out.trans (hb3.out.mono hb2.out.size)).trans (hb4.mono (hb2.out.trans (hb3.out.mono hb2.out.size)).size))
           have HB := hide (HA2.out.trans (HB4.out.mono (by simp)))
           have HK := hide (HA.out.below HB4.out HA.out.lt)
           have hcR := HK.out.cell
           have hfR := HK.out.frozen
           have hlR := HK.out.lt
           clear hb2 hb3 hb4 HB4)
        | (go_at_call 69; refine (HL.out _).mono ?_; rintro e w5 ⟨rfl, rfl⟩))
      go_quiet (fail)
      have HK9 : Hid (Blk (w5.drewN nq) w.heap.size #[.string ⟨#[]⟩, .string ⟨#[]⟩, .string ⟨#[]⟩] 39) := HK.out.drewN nq
      have HB9 : Hid (Below w.heap.size w (w5.drewN nq)) := ⟨HB.out.os, HB.out.tape, HB.out.output, HB.out.size, HB.out.block⟩
      generalize w5.drewN nq = w9 at *
      clear hcR hfR hlR
      have hcR := HK9.out.cell
      have hfR := HK9.out.frozen
      have hlR := HK9.out.lt
      replace HK := HK9
      replace HB := HB9
      clear HK9 HB9
      go_wp2
      have h9 := (three_sets HK.out (x := .string ⟨nm.toArray⟩) (y := .string ⟨lo.toArray⟩) (z := .string ⟨dm.toArray⟩)).cell
      exact bodyPost_ret (v := .agg #[.string ⟨nm.toArray⟩, .string ⟨lo.toArray⟩, .string ⟨dm.toArray⟩]) (by simp [results, Tryz.results30, go_sem, h9]) rfl ⟨rfl, three_below HB.out (Nat.le_refl _)⟩
  · have hn : nmA p = ([], p) := by
      unfold nmA
      rw [hk, if_neg hlt]
    rw [hk] at HP hple
    have hlt' : ¬ ((k : Int) < p.length) := by omega
    obtain ⟨ad, had⟩ : ∃ ad, ad = p := ⟨_, rfl⟩
    subst had
    have HL := hide (fun w => la_any ad w hl)
    by_cases hx : Go.Lib.Pa.lastIdx ad 64 ad.length < 0
    · have HO := hide (adO_eq hn (locK_neg hx))
      generalize Go.Lib.Pa.lastIdx ad 64 ad.length = x at *
      have hx' : ¬ (0 ≤ x) := by omega
      rw [HO.out]
      clear hn HO
      go_enter Tryz.func30, Tryz.ntmps30
      go_wp2_with (first
        | (go_at_call 28; refine (HP.out _).mono ?_; rintro e w1 ⟨rfl, rfl⟩)
        | (go_at_call 69; refine (HL.out _).mono ?_; rintro e w5 ⟨rfl, rfl⟩))
      exact bodyPost_ret (v := .agg #[.string ⟨#[]⟩, .string ⟨ad.toArray⟩, .string ⟨#[]⟩]) (by simp [results, Tryz.results30, go_sem]) rfl ⟨rfl, (Below.refl _ _).alloc (Nat.le_refl _) _⟩
    · have hxb := (Go.Lib.Pa.lastIdx_bounds ad 64 ad.length).2
      obtain ⟨i, hi⟩ : ∃ i : Nat, Go.Lib.Pa.lastIdx ad 64 ad.length = i := ⟨(Go.Lib.Pa.lastIdx ad 64 ad.length).toNat, by omega⟩
      have HO := hide (adO_eq hn (locK_pos hi))
      rw [hi] at HL hxb
      have f1 : (⟨ad.toArray⟩ : ByteArray).extract 0 i = ⟨(ad.take i).toArray⟩ := ext_take ad i
      have f2 : (⟨ad.toArray⟩ : ByteArray).extract (i + 1) ad.length = ⟨(ad.drop (i + 1)).toArray⟩ := ext_drop ad (i + 1)
      generalize ad.take i = lo at *
      generalize ad.drop (i + 1) = dm at *
      clear hx hi
      rw [HO.out]
      clear hn HO
      go_enter Tryz.func30, Tryz.ntmps30
      go_wp2_with (first
        | (go_at_call 28; refine (HP.out _).mono ?_; rintro e w1 ⟨rfl, rfl⟩)
        | (go_at_call 69; refine (HL.out _).mono ?_; rintro e w5 ⟨rfl, rfl⟩))
      go_quiet (fail)
      have HK := hide (HA.out.drewN nq)
      have HB : Hid (Below w.heap.size w (World.drewN (w.alloc (.cells #[.string ⟨#[]⟩, .string ⟨#[]⟩, .string ⟨#[]⟩] 39)) nq)) := ⟨HA2.out.os, HA2.out.tape, HA2.out.output, HA2.out.size, HA2.out.block⟩
      generalize World.drewN (w.alloc (.cells #[.string ⟨#[]⟩, .string ⟨#[]⟩, .string ⟨#[]⟩] 39)) nq = w9 at *
      have hcR := HK.out.cell
      have hfR := HK.out.frozen
      have hlR := HK.out.lt
      go_wp2
      have h9 := (three_sets HK.out (x := .string ⟨#[]⟩) (y := .string ⟨lo.toArray⟩) (z := .string ⟨dm.toArray⟩)).cell
      exact bodyPost_ret (v := .agg #[.string ⟨#[]⟩, .string ⟨lo.toArray⟩, .string ⟨dm.toArray⟩]) (by simp [results, Tryz.results30, go_sem, h9]) rfl ⟨rfl, three_below HB.out (Nat.le_refl _)⟩
end Go.Proofs.YtkppeejbmalefaaGreatDoor

end
