/- The law BoxesMoves. -/
import Derived.Test.YtelpjiiladbigaaDoorBo13
set_option linter.unusedSimpArgs false
set_option linter.unusedVariables false
namespace Go.Proofs.YtelpjiiladbigaaDoor
open Go.RowKit Go.Shelf
set_option maxRecDepth 20000 in
set_option maxHeartbeats 2000000 in
theorem boxesMoves_walk {B : Nat} {w : World} (hM : MX B w) (hB : B ≤ w.heap.size) (name frm dst : List UInt8) :
    Calls Tryd.prog 5 #[.string ⟨name.toArray⟩, .string ⟨frm.toArray⟩, .string ⟨dst.toArray⟩] w fun e w' => e = .returned (.bool true) ∧ Below w.heap.size w w' := by
  have HA := hide (alive13 hM hB)
  have hs1 := size_lit name
  have hs2 := size_lit frm
  have hs3 := size_lit dst
  clear hM
  by_cases h1 : name.length ≤ 1000
  case neg =>
    have h1' : (1000 : Int) < name.length := by omega
    go_enter Tryd.func5, Tryd.ntmps5
    go_wp2_with (go_at_call 9; refine HA.out.mono ?_; rintro e w1 ⟨rfl, hb1⟩)
    go_ret
    exact ⟨rfl, hb1⟩
  have h1' : ¬ (1000 : Int) < name.length := by omega
  by_cases h2 : frm.length ≤ 1000
  case neg =>
    have h2' : (1000 : Int) < frm.length := by omega
    go_enter Tryd.func5, Tryd.ntmps5
    go_wp2_with (go_at_call 9; refine HA.out.mono ?_; rintro e w1 ⟨rfl, hb1⟩)
    go_ret
    exact ⟨rfl, hb1⟩
  have h2' : ¬ (1000 : Int) < frm.length := by omega
  by_cases h3 : dst.length ≤ 1000
  case neg =>
    have h3' : (1000 : Int) < dst.length := by omega
    go_enter Tryd.func5, Tryd.ntmps5
    go_wp2_with (go_at_call 9; refine HA.out.mono ?_; rintro e w1 ⟨rfl, hb1⟩)
    go_ret
    exact ⟨rfl, hb1⟩
  have h3' : ¬ (1000 : Int) < dst.length := by omega
  obtain ⟨S, K, hSK, HU⟩ : ∃ (S : List UInt8) (K : Bool), movV (movO name frm dst) = .returned (.tuple #[.string ⟨S.toArray⟩, .bool K]) ∧ Hid (undB name frm = (K && (name != frm))) := by
    refine ⟨_, _, rfl, ?_⟩
    show _ = _
    unfold movO
    by_cases he : name = frm
    · subst he
      rw [if_pos rfl, und_self]
      simp
    · rw [if_neg he]
      cases hu : undB name frm with
      | false => simp
      | true => simp [he]
  have HMo := hide (fun w => moved_any name frm dst w (by omega) (by omega) (by omega))
  have HRm := hide (fun w => rmoved_any name frm dst w (by omega) (by omega) (by omega))
  rw [hSK] at HMo HRm
  have HUn := hide (fun w => under_any name frm w (by omega))
  have HAb := hide (fun w => above_any name w (by omega))
  have hab := abvK_len name name.length
  rw [abvK_end] at hab
  have HAL := hide hab
  clear hab hSK
  obtain ⟨i0, hi, hz0, hz1, hz2⟩ := info_three strInfo
  go_enter Tryd.func5, Tryd.ntmps5
  go_wp2_with (first
    | (go_at_call 9; refine HA.out.mono ?_; rintro e w1 ⟨rfl, hb1⟩; replace hb1 := hide hb1)
    | (go_at_call 17; refine (HMo.out _).mono ?_; rintro e w7 ⟨rfl, h7⟩; subst h7)
    | (go_at_call 18; refine (HRm.out _).mono ?_; rintro e w8 ⟨rfl, h8⟩; subst h8))
  go_loopw [11, 45] (fun v3 v7 wr => ∃ i : Nat, v7 = .int .i64 i ∧ i ≤ name.length ∧ Hid (Texts w wr v3 (abvK name i))) (fun _ v7 _ => name.length - (intOf v7).toNat)
  case atStart => exact ⟨0, rfl, Nat.zero_le _, hb1.out.alloc hb1.out.size _, some _, Rw.new (e := 9) [] [] (Blk.new _ _ _) rfl rfl (Nat.le_refl _) (Nat.zero_le _), fun g h => by cases h; exact hb1.out.size⟩
  case round =>
    obtain ⟨i, rfl, hi1, HT⟩ := hrel
    obtain ⟨hb, G, hr, hg⟩ := id HT.out
    obtain ⟨A, c, rfl⟩ := hr.form
    by_cases hlt : i < name.length
    · have hlt' : (i : Int) < name.length := by omega
      obtain ⟨d, hd, hat⟩ : ∃ c, name[i] = c ∧ ∀ h : i < (⟨name.toArray⟩ : ByteArray).size, (⟨name.toArray⟩ : ByteArray)[i]'h = c := ⟨_, rfl, fun _ => rfl⟩
      have hkl := abvK_len name i
      by_cases h47 : d = 47
      · have HK : Hid (abvK name (i + 1) = abvK name i ++ [name.take i]) := abvK_yes (by rw [List.getElem?_eq_getElem hlt, hd, h47])
        have e1 := ext_take name i
        subst h47
        have HR := hide hr
        have HB := hide hb
        have HG := hide hg
        clear hr hb hg HT hd
        generalize name.take i = x at *
        generalize abvK name i = xs at *
        have hil : (i : Int) ≤ name.length := by omega
        go_wp2_with (at_builtin; refine wpList_append_rw rfl _ _ 33 33 rfl 9 i0 (.string ⟨#[]⟩) 1 16 Tryd.underlying33 hi hz0 hz1 hz2 rfl rfl (HR.out.keep (S := fun _ => False) ((Mvs.refl _ _).alloc _) (fun _ _ c => c)) _ 1 _ rfl (src_one _ Tryd.underlying33) (by simp only [maxLen]; omega) (by omega) ?_)
        intro v4 w4 G4 hr4 hm4 hg4
        have T4 := hide (Texts.grow HB.out HG.out hr4 hm4 (by simpa using hg4))
        clear hr4 hm4 hg4
        go_wp2
        go_roundw
        case rel => exact ⟨i + 1, by go_num, by omega, by rw [HK.out]; exact T4.out⟩
        case measure => simp [intOf]; omega
      · have b47 : ¬ (d.toNat : Int) = 47 := fun e => h47 (UInt8.toNat_inj.1 (by rw [show (47 : UInt8).toNat = 47 from rfl]; omega))
        have HK : Hid (abvK name (i + 1) = abvK name i) := abvK_no (by rw [List.getElem?_eq_getElem hlt, hd]; intro e; exact h47 (by injection e))
        clear hr hb hg hd
        go_wp2
        go_roundw
        case rel => exact ⟨i + 1, by go_num, by omega, by rw [HK.out]; exact HT.out⟩
        case measure => simp [intOf]; omega
    · obtain rfl : i = name.length := by omega
      have htx := HT.out.tx
      have HB := hide HT.out.1
      rw [abvK_end] at htx
      have HTX := hide htx
      clear hr hb hg HT htx
      have HAb2 : Hid (∀ W, Below wr.heap.size wr W → Calls Tryd.prog 21 #[.string ⟨name.toArray⟩] W fun e w' => ∃ A2 c2, e = .returned (.slice A2 (abvL name).length c2) ∧ Below wr.heap.size wr w' ∧ TX w' (.slice A2 (abvL name).length c2) (abvL name)) := fun W hW => (HAb.out W).mono fun e w' h => by
        obtain ⟨v, he, ht⟩ := h
        obtain ⟨A2, c2, rfl, _⟩ := id ht.tx
        exact ⟨A2, c2, he, hW.trans (ht.1.mono hW.size), ht.tx⟩
      have HSa : Hid (∀ W A2 c2, Below wr.heap.size wr W → TX W (.slice A2 (abvL name).length c2) (abvL name) → Calls Tryd.prog 20 #[.slice A2 (abvL name).length c2, .slice A (abvK name name.length).length c] W fun e w' => e = .returned (.bool true) ∧ Below wr.heap.size wr w') := fun W A2 c2 hW ht => (tsame_yes W ht (HTX.out.below hW) (by have := HAL.out; omega)).mono fun e w' h => by
        obtain ⟨he, n, rfl⟩ := h
        exact ⟨he, hW.trans ((bel_drewN W n).mono hW.size)⟩
      cases hne : (name != frm) with
      | false =>
        have hq : (name == frm) = true := by simpa [bne] using hne
        rw [hne] at HU
        have HUn2 : Hid (∀ w, Calls Tryd.prog 19 #[.string ⟨name.toArray⟩, .string ⟨frm.toArray⟩] w fun e w' => e = .returned (.bool false) ∧ w' = w) := fun w => by have := HUn.out w; rw [HU.out] at this; simpa using this
        clear HUn HU
        cases K
        · go_wp2_with (first
            | (go_at_call 19; refine (HUn2.out _).mono ?_; rintro e w' ⟨rfl, rfl⟩)
            | (go_at_call 21; refine (HAb2.out _ (Below.refl _ _)).mono ?_; rintro e w2 ⟨A2, c2, rfl, hb2, ht2⟩; replace hb2 := hide hb2; replace ht2 := hide ht2)
            | (go_at_call 20; refine (HSa.out _ _ _ hb2.out ht2.out).mono ?_; rintro e w3 ⟨rfl, hb3⟩))
          go_ret
          exact ⟨by simp, HB.out.trans (hb3.mono HB.out.size)⟩
        · go_wp2_with (first
            | (go_at_call 19; refine (HUn2.out _).mono ?_; rintro e w' ⟨rfl, rfl⟩)
            | (go_at_call 21; refine (HAb2.out _ (Below.refl _ _)).mono ?_; rintro e w2 ⟨A2, c2, rfl, hb2, ht2⟩; replace hb2 := hide hb2; replace ht2 := hide ht2)
            | (go_at_call 20; refine (HSa.out _ _ _ hb2.out ht2.out).mono ?_; rintro e w3 ⟨rfl, hb3⟩))
          go_ret
          exact ⟨by simp, HB.out.trans (hb3.mono HB.out.size)⟩
      | true =>
        have hq : (name == frm) = false := by simpa [bne] using hne
        rw [hne] at HU
        have HUn2 : Hid (∀ w, Calls Tryd.prog 19 #[.string ⟨name.toArray⟩, .string ⟨frm.toArray⟩] w fun e w' => e = .returned (.bool K) ∧ w' = w) := fun w => by have := HUn.out w; rw [HU.out] at this; simpa using this
        clear HUn HU
        cases K
        · go_wp2_with (first
            | (go_at_call 19; refine (HUn2.out _).mono ?_; rintro e w' ⟨rfl, rfl⟩)
            | (go_at_call 21; refine (HAb2.out _ (Below.refl _ _)).mono ?_; rintro e w2 ⟨A2, c2, rfl, hb2, ht2⟩; replace hb2 := hide hb2; replace ht2 := hide ht2)
            | (go_at_call 20; refine (HSa.out _ _ _ hb2.out ht2.out).mono ?_; rintro e w3 ⟨rfl, hb3⟩))
          go_ret
          exact ⟨by simp, HB.out.trans (hb3.mono HB.out.size)⟩
        · go_wp2_with (first
            | (go_at_call 19; refine (HUn2.out _).mono ?_; rintro e w' ⟨rfl, rfl⟩)
            | (go_at_call 21; refine (HAb2.out _ (Below.refl _ _)).mono ?_; rintro e w2 ⟨A2, c2, rfl, hb2, ht2⟩; replace hb2 := hide hb2; replace ht2 := hide ht2)
            | (go_at_call 20; refine (HSa.out _ _ _ hb2.out ht2.out).mono ?_; rintro e w3 ⟨rfl, hb3⟩))
          go_ret
          exact ⟨by simp, HB.out.trans (hb3.mono HB.out.size)⟩
end Go.Proofs.YtelpjiiladbigaaDoor
