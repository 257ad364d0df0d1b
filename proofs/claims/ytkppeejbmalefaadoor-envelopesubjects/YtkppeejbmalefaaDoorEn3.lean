/- addressOf of package envelope. -/
import Derived.Test.YtkppeejbmalefaaDoorEn2
namespace Go.Proofs.YtkppeejbmalefaaDoor
open Go.RowKit Go.Shelf
theorem la_any (l : List UInt8) (w : World) (hl : l.length ≤ 1000000) : Calls Tryd.prog 43 #[.string ⟨l.toArray⟩, .int .u8 64] w fun e w' => e = .returned (.int .i64 (Go.Lib.Pa.lastIdx l 64 l.length)) ∧ w' = w := by
  have H : Hid (∀ w, Calls Tryd.prog 61 #[.string ⟨l.toArray⟩, .int .u8 64] w fun e w' => e = .returned (.int .i64 (Go.Lib.Pa.lastIdx l 64 l.length)) ∧ w' = w) := fun w => Tryd.bytealg_LastIndexByteString ⟨l.toArray⟩ 64 w (by rw [size_lit]; omega)
  generalize Go.Lib.Pa.lastIdx l 64 l.length = x at *
  go_enter Tryd.func43, Tryd.ntmps43
  go_wp2_with (first
    | (go_at_call 61; refine (H.out _).mono ?_; rintro e w2 ⟨rfl, rfl⟩))
  go_ret
  exact ⟨rfl, rfl⟩
theorem tow_in : ∀ {p : List UInt8} (q : List UInt8), (62 : UInt8) ∉ p → tow (p ++ 62 :: q) = p
  | [], q, _ => rfl
  | c :: r, q, h => by
    have hc : c ≠ 62 := fun e => h (by simp [e])
    have ih := tow_in (p := r) q (fun e => h (by simp [e]))
    unfold tow at *
    rw [List.cons_append, List.takeWhile_cons, if_pos (by simp [hc]), ih]
theorem tow_out : ∀ {p : List UInt8}, (62 : UInt8) ∉ p → tow p = p
  | [], _ => rfl
  | c :: r, h => by
    have hc : c ≠ 62 := fun e => h (by simp [e])
    have ih := tow_out (p := r) (fun e => h (by simp [e]))
    unfold tow at *
    rw [List.takeWhile_cons, if_pos (by simp [hc]), ih]
theorem cut_tow (l : List UInt8) : (cutV 62 l).1 = tow l := by
  by_cases h : (62 : UInt8) ∈ l
  · obtain ⟨p, q, rfl, hp⟩ := split_at_byte l h
    rw [cutV_in q hp, tow_in q hp]
  · rw [cutV_out h, tow_out h]
theorem locK_neg {l : List UInt8} (h : Go.Lib.Pa.lastIdx l 64 l.length < 0) : locK l l.length = (l, []) := by
  unfold locK
  rw [if_pos h]
theorem locK_pos {l : List UInt8} {i : Nat} (h : Go.Lib.Pa.lastIdx l 64 l.length = i) : locK l l.length = (l.take i, l.drop (i + 1)) := by
  unfold locK
  rw [h, if_neg (by omega)]
  simp
/-- A struct of three texts that is written over in its block. -/
theorem three_sets {w : World} {b : Nat} {t : TypeId} {a b' c x y z : Value} (h : Blk w b #[a, b', c] t) : Blk (((w.setCell ⟨b, 0, none⟩ x).setCell ⟨b, 1, none⟩ y).setCell ⟨b, 2, none⟩ z) b #[x, y, z] t := ((h.set 0 x).set 1 y).set 2 z
theorem three_below {w0 w : World} {b : Nat} {x y z : Value} (h : Below w0.heap.size w0 w) (hb : w0.heap.size ≤ b) : Below w0.heap.size w0 (((w.setCell ⟨b, 0, none⟩ x).setCell ⟨b, 1, none⟩ y).setCell ⟨b, 2, none⟩ z) :=
  ((h.setCell hb _).setCell hb _).setCell hb _
theorem adO_eq {p nm ad : List UInt8} (h : nmA p = (nm, ad)) {lo dm : List UInt8} (h2 : locK ad ad.length = (lo, dm)) : adO p = ⟨nm, lo, dm⟩ := by
  unfold adO
  rw [h]
  simp only [h2]
def adAgg (a : Ad) : Value := .agg #[.string ⟨a.name.toArray⟩, .string ⟨a.loc.toArray⟩, .string ⟨a.dom.toArray⟩]
set_option maxHeartbeats 2000000 in
theorem addr_any (p : List UInt8) (w : World) (hl : p.length ≤ 1000000) :
    Calls Tryd.prog 17 #[.string ⟨p.toArray⟩] w fun e w' => e = .returned (adAgg (adO p)) ∧ Below w.heap.size w w' := by
  have hsz := size_lit p
  have HP := hide (fun w => place_any p 60 w hl)
  have hple := plE_le 60 .o p
  have hA : Blk (w.alloc (.cells #[.string ⟨#[]⟩, .string ⟨#[]⟩, .string ⟨#[]⟩] 29)) w.heap.size #[.string ⟨#[]⟩, .string ⟨#[]⟩, .string ⟨#[]⟩] 29 := Blk.new w _ _
  have HA := hide hA
  have HA2 := hide ((Below.refl w.heap.size w).alloc (Nat.le_refl _) (.cells #[.string ⟨#[]⟩, .string ⟨#[]⟩, .string ⟨#[]⟩] 29))
  clear hA
  obtain ⟨k, hk⟩ : ∃ k, plE 60 .o p = k := ⟨_, rfl⟩
  by_cases hlt : k < p.length
  · have hn : nmA p = (nmV (Lib.trimS (p.take k) [32, 9]), tow (p.drop (k + 1))) := by
      unfold nmA
      rw [hk, if_pos hlt]
    have hrun : rn .o (p.take k) = .o := by
      have := (plE_run (m := 60) (s := .o) (l := p) (by rw [hk]; exact hlt)).1
      rw [hk] at this
      exact this
    have htl : (p.take k).length ≤ 1000000 := by rw [List.length_take]; omega
    have HT := hide (fun w => trim_any (p.take k) w htl)
    have HN := hide (fun w => enName_any (Lib.trimS (p.take k) [32, 9]) (rn_trim hrun) w (Nat.le_trans (trim_len _) htl))
    have hdl : (p.drop (k + 1)).length ≤ 1000000 := by rw [List.length_drop]; omega
    have HC := hide (fun w => cut_any 62 (p.drop (k + 1)) w hdl)
    rw [cut_tow] at HC
    have hal : (tow (p.drop (k + 1))).length ≤ 1000000 := Nat.le_trans (tow_len _) hdl
    have e1 : (⟨p.toArray⟩ : ByteArray).extract 0 k = ⟨(p.take k).toArray⟩ := ext_take p k
    have e2 : (⟨p.toArray⟩ : ByteArray).extract (k + 1) p.length = ⟨(p.drop (k + 1)).toArray⟩ := ext_drop p (k + 1)
    rw [hk] at HP hple
    have hlt' : (k : Int) < p.length := by omega
    generalize nmV (Lib.trimS (p.take k) [32, 9]) = nm at *
    generalize tow (p.drop (k + 1)) = ad at *
    generalize Lib.trimS (p.take k) [32, 9] = tr at *
    generalize (cutV 62 (p.drop (k + 1))).2.1 = c1 at *
    generalize (cutV 62 (p.drop (k + 1))).2.2 = c2 at *
    generalize p.drop (k + 1) = dr at *
    generalize p.take k = tk at *
    have HL := hide (fun w => la_any ad w hal)
    have hsa := size_lit ad
    clear hrun htl hdl
    by_cases hx : Go.Lib.Pa.lastIdx ad 64 ad.length < 0
    · have HO := hide (adO_eq hn (locK_neg hx))
      generalize Go.Lib.Pa.lastIdx ad 64 ad.length = x at *
      have hx' : ¬ (0 ≤ x) := by omega
      rw [HO.out]
      clear hn HO
      go_enter Tryd.func17, Tryd.ntmps17
      go_wp2_with (first
        | (go_at_call 15; refine (HP.out _).mono ?_; rintro e w1 ⟨rfl, rfl⟩)
        | (go_at_call 16; refine (HT.out _).mono ?_; rintro e w2 ⟨rfl, hb2⟩; replace hb2 := hide hb2)
        | (go_at_call 41; refine (HN.out _).mono ?_; rintro e w3 ⟨rfl, hb3⟩; replace hb3 := hide hb3)
        | (go_at_call 42; refine (HC.out _).mono ?_; rintro e w4 ⟨rfl, hb4⟩
           have HB4 := hide ((hb2.out.trans (hb3.out.mono hb2.out.size)).trans (hb4.mono (hb2.out.trans (hb3.out.mono hb2.out.size)).size))
           have HB := hide (HA2.out.trans (HB4.out.mono (by simp)))
           have HK := hide (HA.out.below HB4.out HA.out.lt)
           have hcR := HK.out.cell
           have hfR := HK.out.frozen
           have hlR := HK.out.lt
           clear hb2 hb3 hb4 HB4)
        | (go_at_call 43; refine (HL.out _).mono ?_; rintro e w5 ⟨rfl, rfl⟩))
      have h9 := (three_sets HK.out (x := .string ⟨nm.toArray⟩) (y := .string ⟨ad.toArray⟩) (z := .string ⟨#[]⟩)).cell
      exact bodyPost_ret (v := .agg #[.string ⟨nm.toArray⟩, .string ⟨ad.toArray⟩, .string ⟨#[]⟩]) (by simp [results, Tryd.results17, go_sem, h9]) rfl ⟨rfl, three_below HB.out (Nat.le_refl _)⟩
    · have hxb := (Go.Lib.Pa.lastIdx_bounds ad 64 ad.length).2
      obtain ⟨i, hi⟩ : ∃ i : Nat, Go.Lib.Pa.lastIdx ad 64 ad.length = i := ⟨(Go.Lib.Pa.lastIdx ad 64 ad.length).toNat, by omega⟩
      have HO := hide (adO_eq hn (locK_pos hi))
      rw [hi] at HL hxb
      have f1 : (⟨ad.toArray⟩ : ByteArray).extract 0 i = ⟨(ad.take i).toArray⟩ := ext_take ad i
      have f2 : (⟨ad.toArray⟩ : ByteArray).extract (i + 1) ad.length = ⟨(ad.drop (i + 1)).toArray⟩ := ext_drop ad (i + 1)
      generalize ad.take i = lo at *
      generalize ad.drop (i + 1) = dm at *
      clear hx hi
      rw [HO.out]
      clear hn HO
      go_enter Tryd.func17, Tryd.ntmps17
      go_wp2_with (first
        | (go_at_call 15; refine (HP.out _).mono ?_; rintro e w1 ⟨rfl, rfl⟩)
        | (go_at_call 16; refine (HT.out _).mono ?_; rintro e w2 ⟨rfl, hb2⟩; replace hb2 := hide hb2)
        | (go_at_call 41; refine (HN.out _).mono ?_; rintro e w3 ⟨rfl, hb3⟩; replace hb3 := hide hb3)
        | (go_at_call 42; refine (HC.out _).mono ?_; rintro e w4 ⟨rfl, hb4⟩
           have HB4 := hide ((hb2.out.trans (hb3.out.mono hb2.out.size)).trans (hb4.mono (hb2.out.trans (hb3.out.mono hb2.out.size)).size))
           have HB := hide (HA2.out.trans (HB4.out.mono (by simp)))
           have HK := hide (HA.out.below HB4.out HA.out.lt)
           have hcR := HK.out.cell
           have hfR := HK.out.frozen
           have hlR := HK.out.lt
           clear hb2 hb3 hb4 HB4)
        | (go_at_call 43; refine (HL.out _).mono ?_; rintro e w5 ⟨rfl, rfl⟩))
      go_quiet (fail)
      have HK9 : Hid (Blk (w5.drewN nq) w.heap.size #[.string ⟨#[]⟩, .string ⟨#[]⟩, .string ⟨#[]⟩] 29) := HK.out.drewN nq
      have HB9 : Hid (Below w.heap.size w (w5.drewN nq)) := ⟨HB.out.os, HB.out.tape, HB.out.output, HB.out.size, HB.out.block⟩
      generalize w5.drewN nq = w9 at *
      clear hcR hfR hlR
      have hcR := HK9.out.cell
      have hfR := HK9.out.frozen
      have hlR := HK9.out.lt
      replace HK := HK9
      replace HB := HB9
      clear HK9 HB9
      go_wp2
      have h9 := (three_sets HK.out (x := .string ⟨nm.toArray⟩) (y := .string ⟨lo.toArray⟩) (z := .string ⟨dm.toArray⟩)).cell
      exact bodyPost_ret (v := .agg #[.string ⟨nm.toArray⟩, .string ⟨lo.toArray⟩, .string ⟨dm.toArray⟩]) (by simp [results, Tryd.results17, go_sem, h9]) rfl ⟨rfl, three_below HB.out (Nat.le_refl _)⟩
  · have hn : nmA p = ([], p) := by
      unfold nmA
      rw [hk, if_neg hlt]
    rw [hk] at HP hple
    have hlt' : ¬ ((k : Int) < p.length) := by omega
    obtain ⟨ad, had⟩ : ∃ ad, ad = p := ⟨_, rfl⟩
    subst had
    have HL := hide (fun w => la_any ad w hl)
    by_cases hx : Go.Lib.Pa.lastIdx ad 64 ad.length < 0
    · have HO := hide (adO_eq hn (locK_neg hx))
      generalize Go.Lib.Pa.lastIdx ad 64 ad.length = x at *
      have hx' : ¬ (0 ≤ x) := by omega
      rw [HO.out]
      clear hn HO
      go_enter Tryd.func17, Tryd.ntmps17
      go_wp2_with (first
        | (go_at_call 15; refine (HP.out _).mono ?_; rintro e w1 ⟨rfl, rfl⟩)
        | (go_at_call 43; refine (HL.out _).mono ?_; rintro e w5 ⟨rfl, rfl⟩))
      exact bodyPost_ret (v := .agg #[.string ⟨#[]⟩, .string ⟨ad.toArray⟩, .string ⟨#[]⟩]) (by simp [results, Tryd.results17, go_sem]) rfl ⟨rfl, (Below.refl _ _).alloc (Nat.le_refl _) _⟩
    · have hxb := (Go.Lib.Pa.lastIdx_bounds ad 64 ad.length).2
      obtain ⟨i, hi⟩ : ∃ i : Nat, Go.Lib.Pa.lastIdx ad 64 ad.length = i := ⟨(Go.Lib.Pa.lastIdx ad 64 ad.length).toNat, by omega⟩
      have HO := hide (adO_eq hn (locK_pos hi))
      rw [hi] at HL hxb
      have f1 : (⟨ad.toArray⟩ : ByteArray).extract 0 i = ⟨(ad.take i).toArray⟩ := ext_take ad i
      have f2 : (⟨ad.toArray⟩ : ByteArray).extract (i + 1) ad.length = ⟨(ad.drop (i + 1)).toArray⟩ := ext_drop ad (i + 1)
      generalize ad.take i = lo at *
      generalize ad.drop (i + 1) = dm at *
      clear hx hi
      rw [HO.out]
      clear hn HO
      go_enter Tryd.func17, Tryd.ntmps17
      go_wp2_with (first
        | (go_at_call 15; refine (HP.out _).mono ?_; rintro e w1 ⟨rfl, rfl⟩)
        | (go_at_call 43; refine (HL.out _).mono ?_; rintro e w5 ⟨rfl, rfl⟩))
      go_quiet (fail)
      have HK := hide (HA.out.drewN nq)
      have HB : Hid (Below w.heap.size w (World.drewN (w.alloc (.cells #[.string ⟨#[]⟩, .string ⟨#[]⟩, .string ⟨#[]⟩] 29)) nq)) := ⟨HA2.out.os, HA2.out.tape, HA2.out.output, HA2.out.size, HA2.out.block⟩
      generalize World.drewN (w.alloc (.cells #[.string ⟨#[]⟩, .string ⟨#[]⟩, .string ⟨#[]⟩] 29)) nq = w9 at *
      have hcR := HK.out.cell
      have hfR := HK.out.frozen
      have hlR := HK.out.lt
      go_wp2
      have h9 := (three_sets HK.out (x := .string ⟨#[]⟩) (y := .string ⟨lo.toArray⟩) (z := .string ⟨dm.toArray⟩)).cell
      exact bodyPost_ret (v := .agg #[.string ⟨#[]⟩, .string ⟨lo.toArray⟩, .string ⟨dm.toArray⟩]) (by simp [results, Tryd.results17, go_sem, h9]) rfl ⟨rfl, three_below HB.out (Nat.le_refl _)⟩
end Go.Proofs.YtkppeejbmalefaaDoor
