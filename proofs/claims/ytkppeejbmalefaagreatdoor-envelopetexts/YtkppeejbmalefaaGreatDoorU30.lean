/- Text of the document's layer 11. -/
import Derived.Test.YtkppeejbmalefaaGreatDoorU28
import Derived.Test.YtkppeejbmalefaaGreatDoorU29
import Derived.Deep.Cut
set_option linter.unusedSimpArgs false
set_option linter.unusedVariables false
namespace Go.Proofs.YtkppeejbmalefaaGreatDoor
open Go.RowKit Go.Shelf
set_option maxRecDepth 20000 in
set_option maxHeartbeats 8000000 in
theorem rtext11_any (m : List UInt8) (w : World) (hm : m.length ≤ 10000) :
    Calls Tryz.prog 7 #[.string ⟨m.toArray⟩] w fun e w' => e = .returned (.string ⟨(envT m).toArray⟩) ∧ Below w.heap.size w w' := by
  have HH := hide (rheader_any m w (by omega))
  have HFl := hide (fdsE_len m)
  have HFd : Hid (∀ x ∈ (fdsOf m).map Fd.fi, x.name.length ≤ 10000 ∧ x.value.length ≤ 10000) := fun x hx => by have := fdsE_bd m x hx; omega
  have HT : Hid (envT m = brk (envW ((fdsOf m).map Fd.fi))) := rfl
  have HDf : Hid (fdsOf m = if (hd (splitS m) 0).1.length ≤ 200 then (hd (splitS m) 0).1 else []) := rfl
  generalize envT m = N at *
  go_enter Tryz.func7, Tryz.ntmps7
  go_wp2_with fail
  refine HH.out.mono ?_
  rintro e w1 ⟨hb1, v, rfl, hfd⟩
  generalize ((hd (splitS m) 0).2 : Nat) = bn at *
  have hfa := hfd.faE
  obtain ⟨Af, cf, rfl⟩ := hfd.form
  have HB0 := hide hb1
  clear hb1 hfd HH
  have HFf := hide hfa
  have hFl : ((fdsOf m).map Fd.fi).length ≤ 200 := by rw [List.length_map]; exact HFl.out
  obtain ⟨L, hL⟩ : ∃ L, (hd (splitS m) 0).1.length = L := ⟨_, rfl⟩
  have HLe := hide hL
  rw [hL] at HDf ⊢
  clear hfa hL
  go_upto_if 18 with fail
  go_cut [3] from 16 (fun v3 wq => w1 = wq ∧ Hid (FA w1 v3 ((fdsOf m).map Fd.fi)))
  case first =>
    by_cases h200 : L ≤ 200
    · have h200' : ¬ ((L : Int) > 200) := by omega
      have HFF : Hid (FA w1 (.slice Af L cf) ((fdsOf m).map Fd.fi)) := by
        rw [HDf.out, if_pos h200]
        have := HFf.out
        exact HLe.out ▸ this
      go_wp2
      go_meet
      case rel => exact ⟨rfl, HFF⟩
    · have h200' : ((L : Int) > 200) := by omega
      have HFF : Hid (FA w1 (.slice none 0 0) ((fdsOf m).map Fd.fi)) := by
        rw [HDf.out, if_neg h200]
        exact ⟨none, 0, rfl, fun i hi => by simp at hi⟩
      go_wp2
      go_meet
      case rel => exact ⟨rfl, HFF⟩
  case rest =>
    obtain ⟨rfl, HFa⟩ := hcut
    obtain ⟨Ag, cg, rfl, _⟩ := HFa.out
    generalize (fdsOf m).map Fd.fi = fs at *
    clear HDf HFl HFf
    have HFst : Hid (∀ n, (fstE n fs).length ≤ 10000) := fun n => fst_len (fun x hx => (HFd.out x hx).2)
    have HGt : Hid (∀ (n : List UInt8) W, n.length ≤ 100 → Below w1.heap.size w1 W → Calls Tryz.prog 19 #[.slice Ag fs.length cg, .string ⟨n.toArray⟩] W fun e w' => ∃ u, e = .returned u ∧ Texts W w' u (valsOf n fs)) := fun n W hn hb => rget_any n _ fs W (HFa.out.below hb) (by omega) (by omega) (fun x hx => by have := (HFd.out x hx).1; omega)
    have hTx := tx_of w1 lowNs _ rfl (k := 10) rfl
    have hA1 := (Below.refl w1.heap.size w1).alloc (Nat.le_refl _) (.cells (lowNs.map fun x => Value.string ⟨x.toArray⟩).toArray 9)
    have HNm : Hid (∀ k (hk : k < lowNs.length) W, Below (w1.alloc (.cells (lowNs.map fun x => Value.string ⟨x.toArray⟩).toArray 9)).heap.size (w1.alloc (.cells (lowNs.map fun x => Value.string ⟨x.toArray⟩).toArray 9)) W → W.cell? ⟨w1.heap.size, k, none⟩ = some (.string ⟨lowNs[k].toArray⟩)) := fun k hk W hb => by
      obtain ⟨A, c, e, h⟩ := hTx.below hb
      obtain ⟨g, o, e2, _, h3⟩ := h k hk
      cases e
      cases e2
      rw [Nat.zero_add] at h3
      exact h3
    have HA1 := hide hA1
    have hs1 : (w1.alloc (.cells (lowNs.map fun x => Value.string ⟨x.toArray⟩).toArray 9)).heap.size = w1.heap.size + 1 := World.size_alloc _ _
    obtain ⟨W1, hW1⟩ : ∃ W1, w1.alloc (.cells (lowNs.map fun x => Value.string ⟨x.toArray⟩).toArray 9) = W1 := ⟨_, rfl⟩
    rw [hW1] at HNm HA1 hs1
    have HW1 := hide hW1
    clear hTx hA1 hW1
    go_wp2
    change Code.wp _ _ _ _ (w1.alloc (.cells (lowNs.map fun x => Value.string ⟨x.toArray⟩).toArray 9))
    rw [HW1.out]
    have HP0 : Hid (([40] : List UInt8) = prE fs 0) := rfl
    have HF0 : Hid (([78, 73, 76] : List UInt8) = frE fs 0) := rfl
    clear HW1
    go_loopw [5, 6, 21] (fun v5 v6 v21 wr => ∃ (k : Nat) (S FR : List UInt8), v21 = .int .i64 k ∧ k ≤ 10 ∧ v5 = .string ⟨S.toArray⟩ ∧ v6 = .string ⟨FR.toArray⟩ ∧ Hid (S = prE fs k) ∧ Hid (FR = frE fs k) ∧ Hid (Below W1.heap.size W1 wr)) (fun _ _ v21 _ => 10 - (intOf v21).toNat)
    case atStart => exact ⟨0, [40], [78, 73, 76], rfl, by omega, rfl, rfl, HP0, HF0, Below.refl _ _⟩
    case round =>
      obtain ⟨k, S, FR, rfl, hk, rfl, rfl, HS, HF, HBr⟩ := hrel
      clear HP0 HF0
      have hSl : S.length ≤ 100000000 := by rw [HS.out]; exact pr_len HFst.out k
      have hFRl : FR.length ≤ 100000000 := by
        rw [HF.out]
        unfold frE
        split
        · exact tE_len HFst.out nFrom
        · simp [tNil]
      have hSz := size_lit S
      have hFz := size_lit FR
      by_cases hk10 : k < 10
      · have hkl : k < lowNs.length := hk10
        have hk10' : (k : Int) < 10 := by omega
        have hk1 : k + 1 ≤ 10 := hk10
        have hcell := HNm.out k hkl wr HBr.out
        have hnl := lowNs_len _ (List.getElem_mem hkl)
        have hpn := pr_next fs hkl
        rw [← HS.out] at hpn
        have HGc : Hid (∀ W, Below W1.heap.size W1 W → Calls Tryz.prog 19 #[.slice Ag fs.length cg, .string ⟨lowNs[k].toArray⟩] W fun e w' => ∃ u, e = .returned u ∧ Texts W w' u (valsOf lowNs[k] fs)) := fun W hb => HGt.out _ W hnl (HA1.out.trans (hb.mono HA1.out.size))
        have hn2 : k = 2 → lowNs[k] = [102, 114, 111, 109] := fun h => by subst h; rfl
        generalize lowNs[k] = n at *
        rcases (by omega : k = 0 ∨ k = 1 ∨ (7 < k) ∨ k = 2 ∨ (k = 3 ∨ k = 4) ∨ (5 ≤ k ∧ k ≤ 7)) with h | h | h | h | h | h
        · subst h
          rw [if_pos rfl, List.nil_append] at hpn
          have HPn : Hid (prE fs (0 + 1) = S ++ valE n fs) := hpn
          have HFn : Hid (FR = frE fs (0 + 1)) := HF.out
          obtain ⟨S1, hS1⟩ : ∃ S1, S1 = S := ⟨_, rfl⟩
          subst hS1
          clear hpn HS HF HGt hn2
          have HWd : Hid (prE fs (0 + 1) = S1 ++ valE n fs) := HPn.out
          have HVe : Hid (valE n fs = if (valsOf n fs).isEmpty then tNil else quoI (fstE n fs)) := rfl
          by_cases hv0 : valsOf n fs = []
          · have HV2 : Hid (valE n fs = tNil) := by rw [HVe.out, hv0]; rfl
            rw [hv0] at HGc
            rw [HV2.out] at HWd
            have cN : (⟨S1.toArray⟩ : ByteArray) ++ ⟨#[78, 73, 76]⟩ = ⟨(S1 ++ tNil).toArray⟩ := cat_lit S1 tNil
            obtain ⟨S2, hS2⟩ : ∃ S2, S1 ++ tNil = S2 := ⟨_, rfl⟩
            rw [hS2] at cN HWd
            clear HVe HV2 hv0 hS2
            go_wp2_with (first
              | (go_at_call 19; refine (HGc.out _ HBr.out).mono ?_; rintro e w3 ⟨u, rfl, hT3⟩
                 have HB3 := hide hT3.1
                 obtain ⟨A3, c3, rfl, _⟩ := hT3.tx
                 clear hT3))
            go_roundw
            case rel => exact ⟨0 + 1, S2, FR, by go_num, hk1, rfl, rfl, HWd.out.symm, HFn, HBr.out.trans (HB3.out.mono HBr.out.size)⟩
            case measure => first | (simp [intOf]; done) | (simp [intOf]; omega)
          · have hne : (valsOf n fs).isEmpty = false := by simpa using hv0
            have HV2 : Hid (valE n fs = quoI (fstE n fs)) := by rw [HVe.out, hne]; rfl
            rw [HV2.out] at HWd
            have hpos : 0 < (valsOf n fs).length := List.length_pos_iff.2 hv0
            have HHd := hide (head_fst hv0)
            have HQ := hide (fun w => rquote_any (fstE n fs) w (by have := HFst.out n; omega))
            have hql := quoE_len (fstE n fs) (by have := HFst.out n; omega)
            have hfb := HFst.out n
            have cN : (⟨S1.toArray⟩ : ByteArray) ++ ⟨(quoI (fstE n fs)).toArray⟩ = ⟨(S1 ++ quoI (fstE n fs)).toArray⟩ := cat_lit S1 _
            obtain ⟨S2, hS2⟩ : ∃ S2, S1 ++ quoI (fstE n fs) = S2 := ⟨_, rfl⟩
            rw [hS2] at cN HWd
            have hqz := size_lit (quoI (fstE n fs))
            generalize quoI (fstE n fs) = QQ at *
            generalize fstE n fs = ff at *
            generalize valsOf n fs = vs at *
            have hvl : ¬ ((vs.length : Int) = 0) := by omega
            have hvl2 : (0 : Int) < vs.length := by omega
            clear HVe HV2 hv0 hS2 hne
            go_wp2_with (first
              | (go_at_call 19; refine (HGc.out _ HBr.out).mono ?_; rintro e w3 ⟨u, rfl, hT3⟩
                 have HB3 := hide hT3.1
                 obtain ⟨g3, o3, c3, rfl, hcell3⟩ := hT3.tx.head HHd.out
                 clear hT3)
              | (go_at_call 20; refine (HQ.out _).mono ?_; rintro e w4 ⟨rfl, hb4⟩
                 have HB4 := hide (HB3.out.trans (hb4.mono HB3.out.size))
                 clear hb4))
            go_roundw
            case rel => exact ⟨0 + 1, S2, FR, by go_num, hk1, rfl, rfl, HWd.out.symm, HFn, HBr.out.trans (HB4.out.mono HBr.out.size)⟩
            case measure => first | (simp [intOf]; done) | (simp [intOf]; omega)
        · rw [if_neg (by omega)] at hpn
          have hk0 : ((k : Int) > 0) := by omega
          have cS : (⟨S.toArray⟩ : ByteArray) ++ ⟨#[32]⟩ = ⟨(S ++ [32]).toArray⟩ := cat_lit S [32]
          obtain ⟨S1, hS1⟩ : ∃ S1, S ++ [32] = S1 := ⟨_, rfl⟩
          rw [← List.append_assoc, hS1] at hpn
          rw [hS1] at cS
          have hS1l : S1.length ≤ 100000001 := by rw [← hS1]; simp; omega
          have hS1z := size_lit S1
          clear hS1
          subst h
          have HPn : Hid (prE fs (1 + 1) = S1 ++ valE n fs) := hpn
          have HFn : Hid (FR = frE fs (1 + 1)) := HF.out
          clear hpn HS HF HGt hn2
          have HWd : Hid (prE fs (1 + 1) = S1 ++ valE n fs) := HPn.out
          have HVe : Hid (valE n fs = if (valsOf n fs).isEmpty then tNil else quoI (fstE n fs)) := rfl
          by_cases hv0 : valsOf n fs = []
          · have HV2 : Hid (valE n fs = tNil) := by rw [HVe.out, hv0]; rfl
            rw [hv0] at HGc
            rw [HV2.out] at HWd
            have cN : (⟨S1.toArray⟩ : ByteArray) ++ ⟨#[78, 73, 76]⟩ = ⟨(S1 ++ tNil).toArray⟩ := cat_lit S1 tNil
            obtain ⟨S2, hS2⟩ : ∃ S2, S1 ++ tNil = S2 := ⟨_, rfl⟩
            rw [hS2] at cN HWd
            clear HVe HV2 hv0 hS2
            go_wp2_with (first
              | (go_at_call 19; refine (HGc.out _ HBr.out).mono ?_; rintro e w3 ⟨u, rfl, hT3⟩
                 have HB3 := hide hT3.1
                 obtain ⟨A3, c3, rfl, _⟩ := hT3.tx
                 clear hT3))
            go_roundw
            case rel => exact ⟨1 + 1, S2, FR, by go_num, hk1, rfl, rfl, HWd.out.symm, HFn, HBr.out.trans (HB3.out.mono HBr.out.size)⟩
            case measure => first | (simp [intOf]; done) | (simp [intOf]; omega)
          · have hne : (valsOf n fs).isEmpty = false := by simpa using hv0
            have HV2 : Hid (valE n fs = quoI (fstE n fs)) := by rw [HVe.out, hne]; rfl
            rw [HV2.out] at HWd
            have hpos : 0 < (valsOf n fs).length := List.length_pos_iff.2 hv0
            have HHd := hide (head_fst hv0)
            have HQ := hide (fun w => rquote_any (fstE n fs) w (by have := HFst.out n; omega))
            have hql := quoE_len (fstE n fs) (by have := HFst.out n; omega)
            have hfb := HFst.out n
            have cN : (⟨S1.toArray⟩ : ByteArray) ++ ⟨(quoI (fstE n fs)).toArray⟩ = ⟨(S1 ++ quoI (fstE n fs)).toArray⟩ := cat_lit S1 _
            obtain ⟨S2, hS2⟩ : ∃ S2, S1 ++ quoI (fstE n fs) = S2 := ⟨_, rfl⟩
            rw [hS2] at cN HWd
            have hqz := size_lit (quoI (fstE n fs))
            generalize quoI (fstE n fs) = QQ at *
            generalize fstE n fs = ff at *
            generalize valsOf n fs = vs at *
            have hvl : ¬ ((vs.length : Int) = 0) := by omega
            have hvl2 : (0 : Int) < vs.length := by omega
            clear HVe HV2 hv0 hS2 hne
            go_wp2_with (first
              | (go_at_call 19; refine (HGc.out _ HBr.out).mono ?_; rintro e w3 ⟨u, rfl, hT3⟩
                 have HB3 := hide hT3.1
                 obtain ⟨g3, o3, c3, rfl, hcell3⟩ := hT3.tx.head HHd.out
                 clear hT3)
              | (go_at_call 20; refine (HQ.out _).mono ?_; rintro e w4 ⟨rfl, hb4⟩
                 have HB4 := hide (HB3.out.trans (hb4.mono HB3.out.size))
                 clear hb4))
            go_roundw
            case rel => exact ⟨1 + 1, S2, FR, by go_num, hk1, rfl, rfl, HWd.out.symm, HFn, HBr.out.trans (HB4.out.mono HBr.out.size)⟩
            case measure => first | (simp [intOf]; done) | (simp [intOf]; omega)
        · rw [if_neg (by omega)] at hpn
          have hk0 : ((k : Int) > 0) := by omega
          have cS : (⟨S.toArray⟩ : ByteArray) ++ ⟨#[32]⟩ = ⟨(S ++ [32]).toArray⟩ := cat_lit S [32]
          obtain ⟨S1, hS1⟩ : ∃ S1, S ++ [32] = S1 := ⟨_, rfl⟩
          rw [← List.append_assoc, hS1] at hpn
          rw [hS1] at cS
          have hS1l : S1.length ≤ 100000001 := by rw [← hS1]; simp; omega
          have hS1z := size_lit S1
          clear hS1
          have HPn : Hid (prE fs (k + 1) = S1 ++ valE n fs) := by have := hpn; unfold wdE at this; rw [if_pos (by omega)] at this; exact this
          have HFn : Hid (FR = frE fs (k + 1)) := by have := HF.out; unfold frE at this ⊢; rw [if_pos (by omega)] at this ⊢; exact this
          have hk2 : ¬ ((k : Int) < 2) := by omega
          have hk7 : ((k : Int) > 7) := by omega
          clear hpn HS HF HGt hn2
          have HWd : Hid (prE fs (k + 1) = S1 ++ valE n fs) := HPn.out
          have HVe : Hid (valE n fs = if (valsOf n fs).isEmpty then tNil else quoI (fstE n fs)) := rfl
          by_cases hv0 : valsOf n fs = []
          · have HV2 : Hid (valE n fs = tNil) := by rw [HVe.out, hv0]; rfl
            rw [hv0] at HGc
            rw [HV2.out] at HWd
            have cN : (⟨S1.toArray⟩ : ByteArray) ++ ⟨#[78, 73, 76]⟩ = ⟨(S1 ++ tNil).toArray⟩ := cat_lit S1 tNil
            obtain ⟨S2, hS2⟩ : ∃ S2, S1 ++ tNil = S2 := ⟨_, rfl⟩
            rw [hS2] at cN HWd
            clear HVe HV2 hv0 hS2
            go_wp2_with (first
              | (go_at_call 19; refine (HGc.out _ HBr.out).mono ?_; rintro e w3 ⟨u, rfl, hT3⟩
                 have HB3 := hide hT3.1
                 obtain ⟨A3, c3, rfl, _⟩ := hT3.tx
                 clear hT3))
            go_roundw
            case rel => exact ⟨k + 1, S2, FR, by go_num, hk1, rfl, rfl, HWd.out.symm, HFn, HBr.out.trans (HB3.out.mono HBr.out.size)⟩
            case measure => first | (simp [intOf]; done) | (simp [intOf]; omega)
          · have hne : (valsOf n fs).isEmpty = false := by simpa using hv0
            have HV2 : Hid (valE n fs = quoI (fstE n fs)) := by rw [HVe.out, hne]; rfl
            rw [HV2.out] at HWd
            have hpos : 0 < (valsOf n fs).length := List.length_pos_iff.2 hv0
            have HHd := hide (head_fst hv0)
            have HQ := hide (fun w => rquote_any (fstE n fs) w (by have := HFst.out n; omega))
            have hql := quoE_len (fstE n fs) (by have := HFst.out n; omega)
            have hfb := HFst.out n
            have cN : (⟨S1.toArray⟩ : ByteArray) ++ ⟨(quoI (fstE n fs)).toArray⟩ = ⟨(S1 ++ quoI (fstE n fs)).toArray⟩ := cat_lit S1 _
            obtain ⟨S2, hS2⟩ : ∃ S2, S1 ++ quoI (fstE n fs) = S2 := ⟨_, rfl⟩
            rw [hS2] at cN HWd
            have hqz := size_lit (quoI (fstE n fs))
            generalize quoI (fstE n fs) = QQ at *
            generalize fstE n fs = ff at *
            generalize valsOf n fs = vs at *
            have hvl : ¬ ((vs.length : Int) = 0) := by omega
            have hvl2 : (0 : Int) < vs.length := by omega
            clear HVe HV2 hv0 hS2 hne
            go_wp2_with (first
              | (go_at_call 19; refine (HGc.out _ HBr.out).mono ?_; rintro e w3 ⟨u, rfl, hT3⟩
                 have HB3 := hide hT3.1
                 obtain ⟨g3, o3, c3, rfl, hcell3⟩ := hT3.tx.head HHd.out
                 clear hT3)
              | (go_at_call 20; refine (HQ.out _).mono ?_; rintro e w4 ⟨rfl, hb4⟩
                 have HB4 := hide (HB3.out.trans (hb4.mono HB3.out.size))
                 clear hb4))
            go_roundw
            case rel => exact ⟨k + 1, S2, FR, by go_num, hk1, rfl, rfl, HWd.out.symm, HFn, HBr.out.trans (HB4.out.mono HBr.out.size)⟩
            case measure => first | (simp [intOf]; done) | (simp [intOf]; omega)
        · rw [if_neg (by omega)] at hpn
          have hk0 : ((k : Int) > 0) := by omega
          have cS : (⟨S.toArray⟩ : ByteArray) ++ ⟨#[32]⟩ = ⟨(S ++ [32]).toArray⟩ := cat_lit S [32]
          obtain ⟨S1, hS1⟩ : ∃ S1, S ++ [32] = S1 := ⟨_, rfl⟩
          rw [← List.append_assoc, hS1] at hpn
          rw [hS1] at cS
          have hS1l : S1.length ≤ 100000001 := by rw [← hS1]; simp; omega
          have hS1z := size_lit S1
          clear hS1
          have hn3 := hn2 h
          have HPn : Hid (prE fs (k + 1) = S1 ++ tE n fs) := by have := hpn; unfold wdE at this; rw [if_neg (by omega), if_neg (by omega)] at this; exact this
          have HFn : Hid (frE fs (k + 1) = tE n fs) := by show _ = _; unfold frE; rw [if_pos (by omega), hn3, tE_from]
          clear hn3
          subst h
          clear hpn HS HF HGt hn2
          have HWd : Hid (prE fs (2 + 1) = S1 ++ tE n fs) := HPn.out
          have HFn2 : Hid (frE fs (2 + 1) = tE n fs) := HFn
          by_cases hv0 : valsOf n fs = []
          · have HT2 : Hid (tE n fs = tNil) := by
              show _ = _
              unfold tE fstE
              rw [hv0]
              exact lst_nil.2 adsV_nil
            rw [hv0] at HGc
            rw [HT2.out] at HWd
            rw [HT2.out] at HFn2
            have cN : (⟨S1.toArray⟩ : ByteArray) ++ ⟨#[78, 73, 76]⟩ = ⟨(S1 ++ tNil).toArray⟩ := cat_lit S1 tNil
            obtain ⟨S2, hS2⟩ : ∃ S2, S1 ++ tNil = S2 := ⟨_, rfl⟩
            rw [hS2] at cN HWd
            clear hS2
            clear HT2 hv0
            go_wp2_with (first
              | (go_at_call 19; refine (HGc.out _ HBr.out).mono ?_; rintro e w3 ⟨u, rfl, hT3⟩
                 have HB3 := hide hT3.1
                 obtain ⟨A3, c3, rfl, _⟩ := hT3.tx
                 clear hT3))
            go_roundw
            case rel => exact ⟨2 + 1, S2, tNil, by go_num, hk1, rfl, rfl, HWd.out.symm, HFn2.out.symm, HBr.out.trans (HB3.out.mono HBr.out.size)⟩
            case measure => first | (simp [intOf]; done) | (simp [intOf]; omega)
          · have hpos : 0 < (valsOf n fs).length := List.length_pos_iff.2 hv0
            have HHd := hide (head_fst hv0)
            have hfb := HFst.out n
            have HAd := hide (fun w => rads_any (fstE n fs) w (by omega))
            have HLs : Hid (∀ w v, ReadOf Ad.cs 3 w v (adsV (fstE n fs)) → Calls Tryz.prog 21 #[v] w fun e w' => e = .returned (.string ⟨(tE n fs).toArray⟩) ∧ Below w.heap.size w w') := fun w v hr => rlst_any (adsV (fstE n fs)) v w hr (by have := adsV_50 (fstE n fs); omega) (M := 10000) (by omega) (adsV_le hfb)
            have htl := tE_len HFst.out n
            have cN : (⟨S1.toArray⟩ : ByteArray) ++ ⟨(tE n fs).toArray⟩ = ⟨(S1 ++ (tE n fs)).toArray⟩ := cat_lit S1 (tE n fs)
            obtain ⟨S2, hS2⟩ : ∃ S2, S1 ++ (tE n fs) = S2 := ⟨_, rfl⟩
            rw [hS2] at cN HWd
            clear hS2
            generalize adsV (fstE n fs) = as1 at *
            generalize fstE n fs = ff at *
            generalize valsOf n fs = vs at *
            have HFn3 := hide HFn2.out
            have htz := size_lit (tE n fs)
            generalize tE n fs = TT at *
            have hvl2 : ((vs.length : Int) > 0) := by omega
            clear hv0
            go_wp2_with (first
              | (go_at_call 19; refine (HGc.out _ HBr.out).mono ?_; rintro e w3 ⟨u, rfl, hT3⟩
                 have HB3 := hide hT3.1
                 obtain ⟨g3, o3, c3, rfl, hcell3⟩ := hT3.tx.head HHd.out
                 clear hT3)
              | (go_at_call 22; refine (HAd.out _).mono ?_; rintro e w4 ⟨hb4, u4, rfl, hr4⟩
                 have HLc := hide (HLs.out w4 u4 (hr4.reads Ad.cs_len))
                 have HB4 := hide (HB3.out.trans (hb4.mono HB3.out.size))
                 obtain ⟨A4, c4, rfl⟩ := hr4.form
                 clear hr4 hb4)
              | (go_at_call 21; refine HLc.out.mono ?_; rintro e w5 ⟨rfl, hb5⟩
                 have HB5 := hide (HB4.out.trans (hb5.mono HB4.out.size))
                 clear hb5))
            go_roundw
            case rel => exact ⟨2 + 1, S2, TT, by go_num, hk1, rfl, rfl, HWd.out.symm, HFn3.out.symm, HBr.out.trans (HB5.out.mono HBr.out.size)⟩
            case measure => first | (simp [intOf]; done) | (simp [intOf]; omega)
        · rcases h with h | h
          · rw [if_neg (by omega)] at hpn
            have hk0 : ((k : Int) > 0) := by omega
            have cS : (⟨S.toArray⟩ : ByteArray) ++ ⟨#[32]⟩ = ⟨(S ++ [32]).toArray⟩ := cat_lit S [32]
            obtain ⟨S1, hS1⟩ : ∃ S1, S ++ [32] = S1 := ⟨_, rfl⟩
            rw [← List.append_assoc, hS1] at hpn
            rw [hS1] at cS
            have hS1l : S1.length ≤ 100000001 := by rw [← hS1]; simp; omega
            have hS1z := size_lit S1
            clear hS1
            have HPn : Hid (prE fs (k + 1) = S1 ++ (if tE n fs = tNil then FR else tE n fs)) := by have := hpn; unfold wdE at this; rw [if_neg (by omega), if_pos (by omega)] at this; have h2 := HF.out; unfold frE at h2; rw [if_pos (by omega)] at h2; rw [h2]; exact this
            have HFn : Hid (FR = frE fs (k + 1)) := by have := HF.out; unfold frE at this ⊢; rw [if_pos (by omega)] at this ⊢; exact this
            subst h
            clear hpn HS HF HGt hn2
            have HWs : Hid (prE fs (3 + 1) = S1 ++ (if tE n fs = tNil then FR else tE n fs)) := HPn.out
            by_cases hv0 : valsOf n fs = []
            · have HT2 : Hid (tE n fs = tNil) := by
                show _ = _
                unfold tE fstE
                rw [hv0]
                exact lst_nil.2 adsV_nil
              rw [hv0] at HGc
              have HWd : Hid (prE fs (3 + 1) = S1 ++ FR) := by have := HWs.out; rw [HT2.out, if_pos rfl] at this; exact this
              have cN : (⟨S1.toArray⟩ : ByteArray) ++ ⟨FR.toArray⟩ = ⟨(S1 ++ FR).toArray⟩ := cat_lit S1 FR
              obtain ⟨S2, hS2⟩ : ∃ S2, S1 ++ FR = S2 := ⟨_, rfl⟩
              rw [hS2] at cN HWd
              clear hS2
              clear HT2 hv0
              go_wp2_with (first
                | (go_at_call 19; refine (HGc.out _ HBr.out).mono ?_; rintro e w3 ⟨u, rfl, hT3⟩
                   have HB3 := hide hT3.1
                   obtain ⟨A3, c3, rfl, _⟩ := hT3.tx
                   clear hT3))
              go_roundw
              case rel => exact ⟨3 + 1, S2, FR, by go_num, hk1, rfl, rfl, HWd.out.symm, HFn, HBr.out.trans (HB3.out.mono HBr.out.size)⟩
              case measure => first | (simp [intOf]; done) | (simp [intOf]; omega)
            · have hpos : 0 < (valsOf n fs).length := List.length_pos_iff.2 hv0
              have HHd := hide (head_fst hv0)
              have hfb := HFst.out n
              have HAd := hide (fun w => rads_any (fstE n fs) w (by omega))
              have HLs : Hid (∀ w v, ReadOf Ad.cs 3 w v (adsV (fstE n fs)) → Calls Tryz.prog 21 #[v] w fun e w' => e = .returned (.string ⟨(tE n fs).toArray⟩) ∧ Below w.heap.size w w') := fun w v hr => rlst_any (adsV (fstE n fs)) v w hr (by have := adsV_50 (fstE n fs); omega) (M := 10000) (by omega) (adsV_le hfb)
              have htl := tE_len HFst.out n
              by_cases htn : tE n fs = tNil
              · have HWd : Hid (prE fs (3 + 1) = S1 ++ FR) := by have := HWs.out; rw [htn, if_pos rfl] at this; exact this
                rw [htn] at HLs
                have cN : (⟨S1.toArray⟩ : ByteArray) ++ ⟨FR.toArray⟩ = ⟨(S1 ++ FR).toArray⟩ := cat_lit S1 FR
                obtain ⟨S2, hS2⟩ : ∃ S2, S1 ++ FR = S2 := ⟨_, rfl⟩
                rw [hS2] at cN HWd
                clear hS2
                generalize adsV (fstE n fs) = as1 at *
                generalize fstE n fs = ff at *
                generalize valsOf n fs = vs at *
                unfold tNil at HLs
                have hvl2 : ((vs.length : Int) > 0) := by omega
                clear hv0 htn
                go_wp2_with (first
                  | (go_at_call 19; refine (HGc.out _ HBr.out).mono ?_; rintro e w3 ⟨u, rfl, hT3⟩
                     have HB3 := hide hT3.1
                     obtain ⟨g3, o3, c3, rfl, hcell3⟩ := hT3.tx.head HHd.out
                     clear hT3)
                  | (go_at_call 22; refine (HAd.out _).mono ?_; rintro e w4 ⟨hb4, u4, rfl, hr4⟩
                     have HLc := hide (HLs.out w4 u4 (hr4.reads Ad.cs_len))
                     have HB4 := hide (HB3.out.trans (hb4.mono HB3.out.size))
                     obtain ⟨A4, c4, rfl⟩ := hr4.form
                     clear hr4 hb4)
                  | (go_at_call 21; refine HLc.out.mono ?_; rintro e w5 ⟨rfl, hb5⟩
                     have HB5 := hide (HB4.out.trans (hb5.mono HB4.out.size))
                     clear hb5))
                go_roundw
                case rel => exact ⟨3 + 1, S2, FR, by go_num, hk1, rfl, rfl, HWd.out.symm, HFn, HBr.out.trans (HB5.out.mono HBr.out.size)⟩
                case measure => first | (simp [intOf]; done) | (simp [intOf]; omega)
              · have HWd : Hid (prE fs (3 + 1) = S1 ++ tE n fs) := by have := HWs.out; rw [if_neg htn] at this; exact this
                have htn2 : (tE n fs == tNil) = false := beq_eq_false_iff_ne.2 htn
                have hne3 : ¬ ((⟨(tE n fs).toArray⟩ : ByteArray) = ⟨#[78, 73, 76]⟩) := fun e => htn (by have := congrArg (fun b : ByteArray => b.data.toList) e; simpa [tNil] using this)
                have cN : (⟨S1.toArray⟩ : ByteArray) ++ ⟨(tE n fs).toArray⟩ = ⟨(S1 ++ (tE n fs)).toArray⟩ := cat_lit S1 (tE n fs)
                obtain ⟨S2, hS2⟩ : ∃ S2, S1 ++ (tE n fs) = S2 := ⟨_, rfl⟩
                rw [hS2] at cN HWd
                clear hS2
                generalize adsV (fstE n fs) = as1 at *
                generalize fstE n fs = ff at *
                generalize valsOf n fs = vs at *
                have htz := size_lit (tE n fs)
                unfold tNil at htn2
                generalize tE n fs = TT at *
                have hvl2 : ((vs.length : Int) > 0) := by omega
                clear hv0 htn
                go_wp2_with (first
                  | (go_at_call 19; refine (HGc.out _ HBr.out).mono ?_; rintro e w3 ⟨u, rfl, hT3⟩
                     have HB3 := hide hT3.1
                     obtain ⟨g3, o3, c3, rfl, hcell3⟩ := hT3.tx.head HHd.out
                     clear hT3)
                  | (go_at_call 22; refine (HAd.out _).mono ?_; rintro e w4 ⟨hb4, u4, rfl, hr4⟩
                     have HLc := hide (HLs.out w4 u4 (hr4.reads Ad.cs_len))
                     have HB4 := hide (HB3.out.trans (hb4.mono HB3.out.size))
                     obtain ⟨A4, c4, rfl⟩ := hr4.form
                     clear hr4 hb4)
                  | (go_at_call 21; refine HLc.out.mono ?_; rintro e w5 ⟨rfl, hb5⟩
                     have HB5 := hide (HB4.out.trans (hb5.mono HB4.out.size))
                     clear hb5))
                go_roundw
                case rel => exact ⟨3 + 1, S2, FR, by go_num, hk1, rfl, rfl, HWd.out.symm, HFn, HBr.out.trans (HB5.out.mono HBr.out.size)⟩
                case measure => first | (simp [intOf]; done) | (simp [intOf]; omega)
          · rw [if_neg (by omega)] at hpn
            have hk0 : ((k : Int) > 0) := by omega
            have cS : (⟨S.toArray⟩ : ByteArray) ++ ⟨#[32]⟩ = ⟨(S ++ [32]).toArray⟩ := cat_lit S [32]
            obtain ⟨S1, hS1⟩ : ∃ S1, S ++ [32] = S1 := ⟨_, rfl⟩
            rw [← List.append_assoc, hS1] at hpn
            rw [hS1] at cS
            have hS1l : S1.length ≤ 100000001 := by rw [← hS1]; simp; omega
            have hS1z := size_lit S1
            clear hS1
            have HPn : Hid (prE fs (k + 1) = S1 ++ (if tE n fs = tNil then FR else tE n fs)) := by have := hpn; unfold wdE at this; rw [if_neg (by omega), if_pos (by omega)] at this; have h2 := HF.out; unfold frE at h2; rw [if_pos (by omega)] at h2; rw [h2]; exact this
            have HFn : Hid (FR = frE fs (k + 1)) := by have := HF.out; unfold frE at this ⊢; rw [if_pos (by omega)] at this ⊢; exact this
            subst h
            clear hpn HS HF HGt hn2
            have HWs : Hid (prE fs (4 + 1) = S1 ++ (if tE n fs = tNil then FR else tE n fs)) := HPn.out
            by_cases hv0 : valsOf n fs = []
            · have HT2 : Hid (tE n fs = tNil) := by
                show _ = _
                unfold tE fstE
                rw [hv0]
                exact lst_nil.2 adsV_nil
              rw [hv0] at HGc
              have HWd : Hid (prE fs (4 + 1) = S1 ++ FR) := by have := HWs.out; rw [HT2.out, if_pos rfl] at this; exact this
              have cN : (⟨S1.toArray⟩ : ByteArray) ++ ⟨FR.toArray⟩ = ⟨(S1 ++ FR).toArray⟩ := cat_lit S1 FR
              obtain ⟨S2, hS2⟩ : ∃ S2, S1 ++ FR = S2 := ⟨_, rfl⟩
              rw [hS2] at cN HWd
              clear hS2
              clear HT2 hv0
              go_wp2_with (first
                | (go_at_call 19; refine (HGc.out _ HBr.out).mono ?_; rintro e w3 ⟨u, rfl, hT3⟩
                   have HB3 := hide hT3.1
                   obtain ⟨A3, c3, rfl, _⟩ := hT3.tx
                   clear hT3))
              go_roundw
              case rel => exact ⟨4 + 1, S2, FR, by go_num, hk1, rfl, rfl, HWd.out.symm, HFn, HBr.out.trans (HB3.out.mono HBr.out.size)⟩
              case measure => first | (simp [intOf]; done) | (simp [intOf]; omega)
            · have hpos : 0 < (valsOf n fs).length := List.length_pos_iff.2 hv0
              have HHd := hide (head_fst hv0)
              have hfb := HFst.out n
              have HAd := hide (fun w => rads_any (fstE n fs) w (by omega))
              have HLs : Hid (∀ w v, ReadOf Ad.cs 3 w v (adsV (fstE n fs)) → Calls Tryz.prog 21 #[v] w fun e w' => e = .returned (.string ⟨(tE n fs).toArray⟩) ∧ Below w.heap.size w w') := fun w v hr => rlst_any (adsV (fstE n fs)) v w hr (by have := adsV_50 (fstE n fs); omega) (M := 10000) (by omega) (adsV_le hfb)
              have htl := tE_len HFst.out n
              by_cases htn : tE n fs = tNil
              · have HWd : Hid (prE fs (4 + 1) = S1 ++ FR) := by have := HWs.out; rw [htn, if_pos rfl] at this; exact this
                rw [htn] at HLs
                have cN : (⟨S1.toArray⟩ : ByteArray) ++ ⟨FR.toArray⟩ = ⟨(S1 ++ FR).toArray⟩ := cat_lit S1 FR
                obtain ⟨S2, hS2⟩ : ∃ S2, S1 ++ FR = S2 := ⟨_, rfl⟩
                rw [hS2] at cN HWd
                clear hS2
                generalize adsV (fstE n fs) = as1 at *
                generalize fstE n fs = ff at *
                generalize valsOf n fs = vs at *
                unfold tNil at HLs
                have hvl2 : ((vs.length : Int) > 0) := by omega
                clear hv0 htn
                go_wp2_with (first
                  | (go_at_call 19; refine (HGc.out _ HBr.out).mono ?_; rintro e w3 ⟨u, rfl, hT3⟩
                     have HB3 := hide hT3.1
                     obtain ⟨g3, o3, c3, rfl, hcell3⟩ := hT3.tx.head HHd.out
                     clear hT3)
                  | (go_at_call 22; refine (HAd.out _).mono ?_; rintro e w4 ⟨hb4, u4, rfl, hr4⟩
                     have HLc := hide (HLs.out w4 u4 (hr4.reads Ad.cs_len))
                     have HB4 := hide (HB3.out.trans (hb4.mono HB3.out.size))
                     obtain ⟨A4, c4, rfl⟩ := hr4.form
                     clear hr4 hb4)
                  | (go_at_call 21; refine HLc.out.mono ?_; rintro e w5 ⟨rfl, hb5⟩
                     have HB5 := hide (HB4.out.trans (hb5.mono HB4.out.size))
                     clear hb5))
                go_roundw
                case rel => exact ⟨4 + 1, S2, FR, by go_num, hk1, rfl, rfl, HWd.out.symm, HFn, HBr.out.trans (HB5.out.mono HBr.out.size)⟩
                case measure => first | (simp [intOf]; done) | (simp [intOf]; omega)
              · have HWd : Hid (prE fs (4 + 1) = S1 ++ tE n fs) := by have := HWs.out; rw [if_neg htn] at this; exact this
                have htn2 : (tE n fs == tNil) = false := beq_eq_false_iff_ne.2 htn
                have hne3 : ¬ ((⟨(tE n fs).toArray⟩ : ByteArray) = ⟨#[78, 73, 76]⟩) := fun e => htn (by have := congrArg (fun b : ByteArray => b.data.toList) e; simpa [tNil] using this)
                have cN : (⟨S1.toArray⟩ : ByteArray) ++ ⟨(tE n fs).toArray⟩ = ⟨(S1 ++ (tE n fs)).toArray⟩ := cat_lit S1 (tE n fs)
                obtain ⟨S2, hS2⟩ : ∃ S2, S1 ++ (tE n fs) = S2 := ⟨_, rfl⟩
                rw [hS2] at cN HWd
                clear hS2
                generalize adsV (fstE n fs) = as1 at *
                generalize fstE n fs = ff at *
                generalize valsOf n fs = vs at *
                have htz := size_lit (tE n fs)
                unfold tNil at htn2
                generalize tE n fs = TT at *
                have hvl2 : ((vs.length : Int) > 0) := by omega
                clear hv0 htn
                go_wp2_with (first
                  | (go_at_call 19; refine (HGc.out _ HBr.out).mono ?_; rintro e w3 ⟨u, rfl, hT3⟩
                     have HB3 := hide hT3.1
                     obtain ⟨g3, o3, c3, rfl, hcell3⟩ := hT3.tx.head HHd.out
                     clear hT3)
                  | (go_at_call 22; refine (HAd.out _).mono ?_; rintro e w4 ⟨hb4, u4, rfl, hr4⟩
                     have HLc := hide (HLs.out w4 u4 (hr4.reads Ad.cs_len))
                     have HB4 := hide (HB3.out.trans (hb4.mono HB3.out.size))
                     obtain ⟨A4, c4, rfl⟩ := hr4.form
                     clear hr4 hb4)
                  | (go_at_call 21; refine HLc.out.mono ?_; rintro e w5 ⟨rfl, hb5⟩
                     have HB5 := hide (HB4.out.trans (hb5.mono HB4.out.size))
                     clear hb5))
                go_roundw
                case rel => exact ⟨4 + 1, S2, FR, by go_num, hk1, rfl, rfl, HWd.out.symm, HFn, HBr.out.trans (HB5.out.mono HBr.out.size)⟩
                case measure => first | (simp [intOf]; done) | (simp [intOf]; omega)
        · rw [if_neg (by omega)] at hpn
          have hk0 : ((k : Int) > 0) := by omega
          have cS : (⟨S.toArray⟩ : ByteArray) ++ ⟨#[32]⟩ = ⟨(S ++ [32]).toArray⟩ := cat_lit S [32]
          obtain ⟨S1, hS1⟩ : ∃ S1, S ++ [32] = S1 := ⟨_, rfl⟩
          rw [← List.append_assoc, hS1] at hpn
          rw [hS1] at cS
          have hS1l : S1.length ≤ 100000001 := by rw [← hS1]; simp; omega
          have hS1z := size_lit S1
          clear hS1
          have HPn : Hid (prE fs (k + 1) = S1 ++ tE n fs) := by have := hpn; unfold wdE at this; rw [if_neg (by omega), if_neg (by omega)] at this; exact this
          have HFn : Hid (FR = frE fs (k + 1)) := by have := HF.out; unfold frE at this ⊢; rw [if_pos (by omega)] at this ⊢; exact this
          have hk2 : ¬ ((k : Int) < 2) := by omega
          have hk7 : ¬ ((k : Int) > 7) := by omega
          have hk22 : ((k : Int) == 2) = false := by rw [beq_eq_false_iff_ne]; omega
          have hk33 : ((k : Int) == 3) = false := by rw [beq_eq_false_iff_ne]; omega
          have hk44 : ((k : Int) == 4) = false := by rw [beq_eq_false_iff_ne]; omega
          have hk2b : ¬ ((k : Int) = 2) := by omega
          clear hpn HS HF HGt hn2
          have HWd : Hid (prE fs (k + 1) = S1 ++ tE n fs) := HPn.out
          by_cases hv0 : valsOf n fs = []
          · have HT2 : Hid (tE n fs = tNil) := by
              show _ = _
              unfold tE fstE
              rw [hv0]
              exact lst_nil.2 adsV_nil
            rw [hv0] at HGc
            rw [HT2.out] at HWd
            have cN : (⟨S1.toArray⟩ : ByteArray) ++ ⟨#[78, 73, 76]⟩ = ⟨(S1 ++ tNil).toArray⟩ := cat_lit S1 tNil
            obtain ⟨S2, hS2⟩ : ∃ S2, S1 ++ tNil = S2 := ⟨_, rfl⟩
            rw [hS2] at cN HWd
            clear hS2
            clear HT2 hv0
            go_wp2_with (first
              | (go_at_call 19; refine (HGc.out _ HBr.out).mono ?_; rintro e w3 ⟨u, rfl, hT3⟩
                 have HB3 := hide hT3.1
                 obtain ⟨A3, c3, rfl, _⟩ := hT3.tx
                 clear hT3))
            go_roundw
            case rel => exact ⟨k + 1, S2, FR, by go_num, hk1, rfl, rfl, HWd.out.symm, HFn, HBr.out.trans (HB3.out.mono HBr.out.size)⟩
            case measure => first | (simp [intOf]; done) | (simp [intOf]; omega)
          · have hpos : 0 < (valsOf n fs).length := List.length_pos_iff.2 hv0
            have HHd := hide (head_fst hv0)
            have hfb := HFst.out n
            have HAd := hide (fun w => rads_any (fstE n fs) w (by omega))
            have HLs : Hid (∀ w v, ReadOf Ad.cs 3 w v (adsV (fstE n fs)) → Calls Tryz.prog 21 #[v] w fun e w' => e = .returned (.string ⟨(tE n fs).toArray⟩) ∧ Below w.heap.size w w') := fun w v hr => rlst_any (adsV (fstE n fs)) v w hr (by have := adsV_50 (fstE n fs); omega) (M := 10000) (by omega) (adsV_le hfb)
            have htl := tE_len HFst.out n
            have cN : (⟨S1.toArray⟩ : ByteArray) ++ ⟨(tE n fs).toArray⟩ = ⟨(S1 ++ (tE n fs)).toArray⟩ := cat_lit S1 (tE n fs)
            obtain ⟨S2, hS2⟩ : ∃ S2, S1 ++ (tE n fs) = S2 := ⟨_, rfl⟩
            rw [hS2] at cN HWd
            clear hS2
            generalize adsV (fstE n fs) = as1 at *
            generalize fstE n fs = ff at *
            generalize valsOf n fs = vs at *
            have htz := size_lit (tE n fs)
            generalize tE n fs = TT at *
            have hvl2 : ((vs.length : Int) > 0) := by omega
            clear hv0
            go_wp2_with (first
              | (go_at_call 19; refine (HGc.out _ HBr.out).mono ?_; rintro e w3 ⟨u, rfl, hT3⟩
                 have HB3 := hide hT3.1
                 obtain ⟨g3, o3, c3, rfl, hcell3⟩ := hT3.tx.head HHd.out
                 clear hT3)
              | (go_at_call 22; refine (HAd.out _).mono ?_; rintro e w4 ⟨hb4, u4, rfl, hr4⟩
                 have HLc := hide (HLs.out w4 u4 (hr4.reads Ad.cs_len))
                 have HB4 := hide (HB3.out.trans (hb4.mono HB3.out.size))
                 obtain ⟨A4, c4, rfl⟩ := hr4.form
                 clear hr4 hb4)
              | (go_at_call 21; refine HLc.out.mono ?_; rintro e w5 ⟨rfl, hb5⟩
                 have HB5 := hide (HB4.out.trans (hb5.mono HB4.out.size))
                 clear hb5))
            go_roundw
            case rel => exact ⟨k + 1, S2, FR, by go_num, hk1, rfl, rfl, HWd.out.symm, HFn, HBr.out.trans (HB5.out.mono HBr.out.size)⟩
            case measure => first | (simp [intOf]; done) | (simp [intOf]; omega)
      · obtain rfl : k = 10 := by omega
        have cE : (⟨S.toArray⟩ : ByteArray) ++ ⟨#[41]⟩ = ⟨N.toArray⟩ := by
          rw [HT.out, HS.out, ← pr_all]
          exact cat_lit _ [41]
        clear HS HF HGt HNm
        go_wp2
        go_ret
        exact ⟨rfl, HB0.out.trans ((HA1.out.trans (HBr.out.mono HA1.out.size)).mono HB0.out.size)⟩
end Go.Proofs.YtkppeejbmalefaaGreatDoor
