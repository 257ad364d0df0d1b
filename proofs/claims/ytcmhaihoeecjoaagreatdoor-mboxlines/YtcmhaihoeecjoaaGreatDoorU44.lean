/- What follows the day's name in the document's ParseMail: leaves B8. -/
/- What follows the day's name in the document's ParseMail. -/
import Derived.Test.YtcmhaihoeecjoaaGreatDoorU41
import Derived.Test.YtcmhaihoeecjoaaGreatDoorU42
import Derived.Test.YtcmhaihoeecjoaaGreatDoorU43
section
namespace Go.Proofs.YtcmhaihoeecjoaaGreatDoor.Da
open Go.RowKit
set_option maxRecDepth 20000 in
set_option maxHeartbeats 8000000 in
theorem tail_B8z (s : List UInt8) (w : World) (R : Value) (u6 u10 u11 u12 u13 u14 u15 u16 u17 u18 u19 u20 u21 u22 u23 u24 u25 u26 u27 u28 u29 u30 u31 u32 u33 u34 u35 u36 u37 u38 u39 u40 u41 u42 u43 u44 u45 u46 u47 u48 u49 u50 u51 u52 u53 u54 u55 u56 u57 u58 u59 u60 u61 u62 u63 : Value) (wc : World) (a0 a1 a2 a3 a4 : List UInt8) (g o cap : Nat) (hrow : Row5 wc g o a0 a1 a2 a3 a4) (hb : Below w.heap.size w wc) (l0 : a0.length ≤ 900) (l2 : a2.length ≤ 900) (l3 : a3.length ≤ 900) (l4 : a4.length ≤ 900) (HDoc : DocM [a0, a1, a2, a3, a4] R) (k1 : likeB a0 [48] = false) (k2 : likeB a0 [48, 48] = true) (j : Nat) (hj : j < 12) (kp : findEq monB a1 12 0 = j) (ky : likeB a2 [48, 48, 48, 48] = true) (k5 : likeB a3 [48, 48, 58, 48, 48] = false) (k8 : likeB a3 [48, 48, 58, 48, 48, 58, 48, 48] = true) (kz : ¬ ∃ z, ZOK a4 z) : (tailOf Tryz.f32).wp Tryz.prog (bodyPost Tryz.prog Tryz.f32 fun e w' => e = .returned R ∧ Below w.heap.size w w') { tmps := #[.string ⟨s.toArray⟩, undef, .int .i64 0, .int .i64 0, .slice (some ⟨g, o, none⟩) 5 cap, .int .i64 2, u6, undef, undef, undef, u10, u11, u12, u13, u14, u15, u16, u17, u18, u19, u20, u21, u22, u23, u24, u25, u26, u27, u28, u29, u30, u31, u32, u33, u34, u35, u36, u37, u38, u39, u40, u41, u42, u43, u44, u45, u46, u47, u48, u49, u50, u51, u52, u53, u54, u55, u56, u57, u58, u59, u60, u61, u62, u63, undef, undef, undef, undef, undef, undef, undef, undef, undef, undef, undef, undef, undef, undef, undef, undef, undef, undef, undef, undef, undef, undef, undef, undef, undef, undef, undef, undef, undef, undef, undef, undef, undef, undef, undef, undef, undef, undef, undef, undef, undef, undef, undef, undef, undef, undef, undef, undef, undef, undef, undef, undef, undef, undef, undef, undef, undef, undef, undef, undef, undef, undef, undef, undef, undef, undef, undef, undef, undef, undef, undef, undef, undef, undef, undef, undef, undef, undef, undef, undef, undef, undef, undef, undef, undef, undef, undef, undef, undef, undef, undef, undef, undef, undef, undef, undef], defers := [] } wc := by
  have HRow := hide hrow
  have HB := hide hb
  obtain ⟨hg, c0, c1, c2, c3, c4⟩ := hrow
  have hbad := fun hb => docM_bad HDoc hb
  clear hb
  have HD1 := hide (like_calls l0 k1)
  have HD2 := hide (like_calls l0 k2)
  have hd0 := ((likeB_digs 2 a0).1 k2).2
  have hd0l : a0.length = 1 ∨ a0.length = 2 := .inr ((likeB_digs 2 a0).1 k2).1
  clear k1 k2
  have HP := hide (place_calls kp)
  have hj0 : ¬ (j : Int) < 0 := by omega
  have hj12 : (j : Int) < 12 := by omega
  have HY := hide (like_calls l2 ky)
  have HT5 := hide (like_calls l3 k5)
  have HT8 := hide (like_calls l3 k8)
  have HZ := hide (fun w => rzone_no a4 w l4 (fun z h => kz ⟨z, h⟩))
  have hR := hbad (by rintro ⟨_, _, _, _, h⟩; exact kz h)
  clear hbad HDoc kp ky k5 kz hd0 hd0l k8
  delta tailOf
  dsimp only [seqR, Tryz.f32, Option.getD_some]
  go_wp2_with (first
    | (go_at_call_of 59 (Value.string { data := #[48] }); refine (HD1.out _).mono ?_; rintro e wX ⟨rfl, hbX⟩; replace HRow := hide (HRow.out.below hbX); replace HB := hide (HB.out.trans (hbX.mono HB.out.size)); obtain ⟨hg, c0, c1, c2, c3, c4⟩ := HRow.out; clear hbX)
    | (go_at_call_of 59 (Value.string { data := #[48, 48] }); refine (HD2.out _).mono ?_; rintro e wX ⟨rfl, hbX⟩; replace HRow := hide (HRow.out.below hbX); replace HB := hide (HB.out.trans (hbX.mono HB.out.size)); obtain ⟨hg, c0, c1, c2, c3, c4⟩ := HRow.out; clear hbX)
    | (go_at_call 58; refine (HP.out _).mono ?_; rintro e w' ⟨rfl, rfl⟩)
    | (go_at_call_of 59 (Value.string { data := #[48, 48, 48, 48] }); refine (HY.out _).mono ?_; rintro e wX ⟨rfl, hbX⟩; replace HRow := hide (HRow.out.below hbX); replace HB := hide (HB.out.trans (hbX.mono HB.out.size)); obtain ⟨hg, c0, c1, c2, c3, c4⟩ := HRow.out; clear hbX)
    | (go_at_call_of 59 (Value.string { data := #[48, 48, 58, 48, 48] }); refine (HT5.out _).mono ?_; rintro e wX ⟨rfl, hbX⟩; replace HRow := hide (HRow.out.below hbX); replace HB := hide (HB.out.trans (hbX.mono HB.out.size)); obtain ⟨hg, c0, c1, c2, c3, c4⟩ := HRow.out; clear hbX)
    | (go_at_call_of 59 (Value.string { data := #[48, 48, 58, 48, 48, 58, 48, 48] }); refine (HT8.out _).mono ?_; rintro e wX ⟨rfl, hbX⟩; replace HRow := hide (HRow.out.below hbX); replace HB := hide (HB.out.trans (hbX.mono HB.out.size)); obtain ⟨hg, c0, c1, c2, c3, c4⟩ := HRow.out; clear hbX)
    | (go_at_call 60; refine (HZ.out _).mono ?_; rintro e wX ⟨rfl, hbX⟩; replace HRow := hide (HRow.out.below hbX); replace HB := hide (HB.out.trans (hbX.mono HB.out.size)); obtain ⟨hg, c0, c1, c2, c3, c4⟩ := HRow.out; clear hbX))
  go_ret2
  exact ⟨by rw [hR]; rfl, HB.out⟩
set_option maxRecDepth 20000 in
set_option maxHeartbeats 8000000 in
theorem tail_B8g (s : List UInt8) (w : World) (R : Value) (u6 u10 u11 u12 u13 u14 u15 u16 u17 u18 u19 u20 u21 u22 u23 u24 u25 u26 u27 u28 u29 u30 u31 u32 u33 u34 u35 u36 u37 u38 u39 u40 u41 u42 u43 u44 u45 u46 u47 u48 u49 u50 u51 u52 u53 u54 u55 u56 u57 u58 u59 u60 u61 u62 u63 : Value) (wc : World) (a0 a1 a2 a3 a4 : List UInt8) (g o cap : Nat) (hrow : Row5 wc g o a0 a1 a2 a3 a4) (hb : Below w.heap.size w wc) (l0 : a0.length ≤ 900) (l2 : a2.length ≤ 900) (l3 : a3.length ≤ 900) (l4 : a4.length ≤ 900) (HDoc : DocM [a0, a1, a2, a3, a4] R) (k1 : likeB a0 [48] = false) (k2 : likeB a0 [48, 48] = true) (j : Nat) (hj : j < 12) (kp : findEq monB a1 12 0 = j) (ky : likeB a2 [48, 48, 48, 48] = true) (k5 : likeB a3 [48, 48, 58, 48, 48] = false) (k8 : likeB a3 [48, 48, 58, 48, 48, 58, 48, 48] = true) (hmj : a1 = nameT monB j) (z : Int) (kz : ZOK a4 z) : (tailOf Tryz.f32).wp Tryz.prog (bodyPost Tryz.prog Tryz.f32 fun e w' => e = .returned R ∧ Below w.heap.size w w') { tmps := #[.string ⟨s.toArray⟩, undef, .int .i64 0, .int .i64 0, .slice (some ⟨g, o, none⟩) 5 cap, .int .i64 2, u6, undef, undef, undef, u10, u11, u12, u13, u14, u15, u16, u17, u18, u19, u20, u21, u22, u23, u24, u25, u26, u27, u28, u29, u30, u31, u32, u33, u34, u35, u36, u37, u38, u39, u40, u41, u42, u43, u44, u45, u46, u47, u48, u49, u50, u51, u52, u53, u54, u55, u56, u57, u58, u59, u60, u61, u62, u63, undef, undef, undef, undef, undef, undef, undef, undef, undef, undef, undef, undef, undef, undef, undef, undef, undef, undef, undef, undef, undef, undef, undef, undef, undef, undef, undef, undef, undef, undef, undef, undef, undef, undef, undef, undef, undef, undef, undef, undef, undef, undef, undef, undef, undef, undef, undef, undef, undef, undef, undef, undef, undef, undef, undef, undef, undef, undef, undef, undef, undef, undef, undef, undef, undef, undef, undef, undef, undef, undef, undef, undef, undef, undef, undef, undef, undef, undef, undef, undef, undef, undef, undef, undef, undef, undef, undef, undef, undef, undef, undef, undef, undef, undef, undef, undef], defers := [] } wc := by
  have HRow := hide hrow
  have HB := hide hb
  obtain ⟨hg, c0, c1, c2, c3, c4⟩ := hrow
  clear hb
  have HD1 := hide (like_calls l0 k1)
  have HD2 := hide (like_calls l0 k2)
  have hd0 := ((likeB_digs 2 a0).1 k2).2
  have hd0l : a0.length = 1 ∨ a0.length = 2 := .inr ((likeB_digs 2 a0).1 k2).1
  clear k1 k2
  have HP := hide (place_calls kp)
  have hj0 : ¬ (j : Int) < 0 := by omega
  have hj12 : (j : Int) < 12 := by omega
  have HY := hide (like_calls l2 ky)
  have hy4 := (likeB_digs 4 a2).1 ky
  have HT5 := hide (like_calls l3 k5)
  have HT8 := hide (like_calls l3 k8)
  obtain ⟨hs', ms, ss, htf, hsl, msl, ssl, hsd, msd, ssd⟩ := (like_t8 a3).1 k8
  have HZ := hide (fun w => rzone_yes a4 z w l4 kz)
  have hzr := zok_range kz
  have hR := docM_good HDoc (j := j) (hs := hs') (ms := ms) (ts := (58 :: ss)) (v := (valL ss 0)) (z := z) ⟨hd0l, hd0, hj, hmj, hy4.1, hy4.2, htf, hsl, hsd, msl, msd, .inr ⟨ss, rfl, ssl, ssd, rfl⟩, kz⟩
  have hL3 : a3.length = 8 := by rw [htf]; simp [hsl, msl, ssl]
  have e1 : (⟨a3.toArray⟩ : ByteArray).extract 0 2 = ⟨hs'.toArray⟩ := piece a3 [] hs' (58 :: (ms ++ 58 :: ss)) 0 2 htf rfl (by omega)
  have e2 : (⟨a3.toArray⟩ : ByteArray).extract 3 5 = ⟨ms.toArray⟩ := piece a3 (hs' ++ [58]) ms (58 :: ss) 3 5 (by rw [htf]; simp) (by simp [hsl]) (by omega)
  have e3 : (⟨a3.toArray⟩ : ByteArray).extract 6 8 = ⟨ss.toArray⟩ := piece a3 (hs' ++ 58 :: (ms ++ [58])) ss [] 6 8 (by rw [htf]; simp) (by simp [hsl, msl]) (by omega)
  have HVs := hide (fun w => value_any ss w (by omega) ssd)
  have HV0 := hide (fun w => value_any a0 w (by omega) hd0)
  have HV2 := hide (fun w => value_any a2 w (by omega) hy4.2)
  have HVh := hide (fun w => value_any hs' w (by omega) hsd)
  have HVm := hide (fun w => value_any ms w (by omega) msd)
  have HM := hide (fun w => made_any (valL a2 0) ((j : Int) + 1) (valL a0 0) (valL hs' 0) (valL ms 0) (valL ss 0 : Int) 0 z w hzr)
  obtain ⟨T, N, hTN⟩ := madeV_form (valL a2 0) ((j : Int) + 1) (valL a0 0) (valL hs' 0) (valL ms 0) (valL ss 0 : Int) z
  have HRT : Hid (R = .tuple #[.int .i64 T, .int .i64 N]) := by rw [hR]; exact hTN
  rw [hTN] at HM
  have hwr : IntKind.i64.wrap ((j : Int) + 1) = (j : Int) + 1 := by rw [IntKind.wrap_i64]; omega
  clear HDoc kp ky hmj hR hTN htf kz k5 k8 ssd hsd msd hy4 hd0 hd0l hzr
  generalize (valL a2 0 : Int) = Y at *
  generalize (valL a0 0 : Int) = D at *
  generalize (valL hs' 0 : Int) = H at *
  generalize (valL ms 0 : Int) = MI at *
  generalize (valL ss 0 : Int) = SS at *
  delta tailOf
  dsimp only [seqR, Tryz.f32, Option.getD_some]
  go_wp2_with (first
    | (go_at_call_of 59 (Value.string { data := #[48] }); refine (HD1.out _).mono ?_; rintro e wX ⟨rfl, hbX⟩; replace HRow := hide (HRow.out.below hbX); replace HB := hide (HB.out.trans (hbX.mono HB.out.size)); obtain ⟨hg, c0, c1, c2, c3, c4⟩ := HRow.out; clear hbX)
    | (go_at_call_of 59 (Value.string { data := #[48, 48] }); refine (HD2.out _).mono ?_; rintro e wX ⟨rfl, hbX⟩; replace HRow := hide (HRow.out.below hbX); replace HB := hide (HB.out.trans (hbX.mono HB.out.size)); obtain ⟨hg, c0, c1, c2, c3, c4⟩ := HRow.out; clear hbX)
    | (go_at_call 58; refine (HP.out _).mono ?_; rintro e w' ⟨rfl, rfl⟩)
    | (go_at_call_of 59 (Value.string { data := #[48, 48, 48, 48] }); refine (HY.out _).mono ?_; rintro e wX ⟨rfl, hbX⟩; replace HRow := hide (HRow.out.below hbX); replace HB := hide (HB.out.trans (hbX.mono HB.out.size)); obtain ⟨hg, c0, c1, c2, c3, c4⟩ := HRow.out; clear hbX)
    | (go_at_call_of 59 (Value.string { data := #[48, 48, 58, 48, 48] }); refine (HT5.out _).mono ?_; rintro e wX ⟨rfl, hbX⟩; replace HRow := hide (HRow.out.below hbX); replace HB := hide (HB.out.trans (hbX.mono HB.out.size)); obtain ⟨hg, c0, c1, c2, c3, c4⟩ := HRow.out; clear hbX)
    | (go_at_call_of 59 (Value.string { data := #[48, 48, 58, 48, 48, 58, 48, 48] }); refine (HT8.out _).mono ?_; rintro e wX ⟨rfl, hbX⟩; replace HRow := hide (HRow.out.below hbX); replace HB := hide (HB.out.trans (hbX.mono HB.out.size)); obtain ⟨hg, c0, c1, c2, c3, c4⟩ := HRow.out; clear hbX)
    | (go_at_call 60; refine (HZ.out _).mono ?_; rintro e wX ⟨rfl, hbX⟩; replace HRow := hide (HRow.out.below hbX); replace HB := hide (HB.out.trans (hbX.mono HB.out.size)); obtain ⟨hg, c0, c1, c2, c3, c4⟩ := HRow.out; clear hbX))
  have n0 := World.new_ne wX ⟨g, o, none⟩ c0
  have n1 := World.new_ne wX ⟨g, o + 1, none⟩ c1
  have n2 := World.new_ne wX ⟨g, o + 2, none⟩ c2
  have n3 := World.new_ne wX ⟨g, o + 3, none⟩ c3
  go_region_held3 (fun w' => w'.cell? ⟨g, o, none⟩ = some (.string ⟨a0.toArray⟩) ∧ w'.cell? ⟨g, o + 1, none⟩ = some (.string ⟨a1.toArray⟩) ∧ w'.cell? ⟨g, o + 2, none⟩ = some (.string ⟨a2.toArray⟩) ∧ w'.cell? ⟨g, o + 3, none⟩ = some (.string ⟨a3.toArray⟩)) (go_keep) (first | (go_at_call_of 61 (Value.string { data := List.toArray a0 }); refine (HV0.out _).mono ?_; rintro e w' ⟨rfl, rfl⟩) | (go_at_call_of 61 (Value.string { data := List.toArray a2 }); refine (HV2.out _).mono ?_; rintro e w' ⟨rfl, rfl⟩) | (go_at_call_of 61 (Value.string { data := List.toArray hs' }); refine (HVh.out _).mono ?_; rintro e w' ⟨rfl, rfl⟩) | (go_at_call_of 61 (Value.string { data := List.toArray ms }); refine (HVm.out _).mono ?_; rintro e w' ⟨rfl, rfl⟩) | (go_at_call 58; refine (HP.out _).mono ?_; rintro e w' ⟨rfl, rfl⟩))
  all_goals go_wp2_with (first | (go_at_call_of 61 (Value.string { data := List.toArray ss }); refine (HVs.out _).mono ?_; rintro e w' ⟨rfl, rfl⟩) | (go_at_call 62; refine (HM.out _).mono ?_; rintro e wM ⟨rfl, hbM⟩; replace hbM := hide hbM))
  all_goals go_ret2
  all_goals exact ⟨by rw [HRT.out]; rfl, HB.out.trans ((((Below.refl _ _).alloc (Nat.le_refl _) _).drew.trans (hbM.out.mono (by simp))).mono HB.out.size)⟩
end Go.Proofs.YtcmhaihoeecjoaaGreatDoor.Da

end
section
namespace Go.Proofs.YtcmhaihoeecjoaaGreatDoor.Da
open Go.RowKit
theorem tail_all (s : List UInt8) (w : World) (R : Value) (v4 u6 u10 u11 u12 u13 u14 u15 u16 u17 u18 u19 u20 u21 u22 u23 u24 u25 u26 u27 u28 u29 u30 u31 u32 u33 u34 u35 u36 u37 u38 u39 u40 u41 u42 u43 u44 u45 u46 u47 u48 u49 u50 u51 u52 u53 u54 u55 u56 u57 u58 u59 u60 u61 u62 u63 : Value) (wc : World) (ws : List (List UInt8)) (hall : ∀ x ∈ ws, x.length ≤ 900) (HTx : Texts w wc v4 ws) (HDoc : DocM ws R) : (tailOf Tryz.f32).wp Tryz.prog (bodyPost Tryz.prog Tryz.f32 fun e w' => e = .returned R ∧ Below w.heap.size w w') { tmps := #[.string ⟨s.toArray⟩, undef, .int .i64 0, .int .i64 0, v4, .int .i64 2, u6, undef, undef, undef, u10, u11, u12, u13, u14, u15, u16, u17, u18, u19, u20, u21, u22, u23, u24, u25, u26, u27, u28, u29, u30, u31, u32, u33, u34, u35, u36, u37, u38, u39, u40, u41, u42, u43, u44, u45, u46, u47, u48, u49, u50, u51, u52, u53, u54, u55, u56, u57, u58, u59, u60, u61, u62, u63, undef, undef, undef, undef, undef, undef, undef, undef, undef, undef, undef, undef, undef, undef, undef, undef, undef, undef, undef, undef, undef, undef, undef, undef, undef, undef, undef, undef, undef, undef, undef, undef, undef, undef, undef, undef, undef, undef, undef, undef, undef, undef, undef, undef, undef, undef, undef, undef, undef, undef, undef, undef, undef, undef, undef, undef, undef, undef, undef, undef, undef, undef, undef, undef, undef, undef, undef, undef, undef, undef, undef, undef, undef, undef, undef, undef, undef, undef, undef, undef, undef, undef, undef, undef, undef, undef, undef, undef, undef, undef, undef, undef, undef, undef, undef, undef], defers := [] } wc := by
  by_cases h5 : ws.length = 5
  · obtain ⟨a0, a1, a2, a3, a4, rfl⟩ : ∃ a0 a1 a2 a3 a4, ws = [a0, a1, a2, a3, a4] := by
      match ws, h5 with
      | [a0, a1, a2, a3, a4], _ => exact ⟨a0, a1, a2, a3, a4, rfl⟩
    obtain ⟨g, o, cap, rfl, _, hrow, hb⟩ := texts_five HTx
    cases k1 : likeB a0 [48] with
    | true =>
      rcases findEq_inv a1 12 0 with kp | ⟨j, _, hj, hmj, kp⟩
      · exact tail_Ap s w R u6 u10 u11 u12 u13 u14 u15 u16 u17 u18 u19 u20 u21 u22 u23 u24 u25 u26 u27 u28 u29 u30 u31 u32 u33 u34 u35 u36 u37 u38 u39 u40 u41 u42 u43 u44 u45 u46 u47 u48 u49 u50 u51 u52 u53 u54 u55 u56 u57 u58 u59 u60 u61 u62 u63 wc a0 a1 a2 a3 a4 g o cap hrow hb (hall a0 (by simp)) (hall a2 (by simp)) (hall a3 (by simp)) (hall a4 (by simp)) HDoc k1 kp
      · have hj2 : j < 12 := by omega
        cases ky : likeB a2 [48, 48, 48, 48] with
        | false => exact tail_Ay s w R u6 u10 u11 u12 u13 u14 u15 u16 u17 u18 u19 u20 u21 u22 u23 u24 u25 u26 u27 u28 u29 u30 u31 u32 u33 u34 u35 u36 u37 u38 u39 u40 u41 u42 u43 u44 u45 u46 u47 u48 u49 u50 u51 u52 u53 u54 u55 u56 u57 u58 u59 u60 u61 u62 u63 wc a0 a1 a2 a3 a4 g o cap hrow hb (hall a0 (by simp)) (hall a2 (by simp)) (hall a3 (by simp)) (hall a4 (by simp)) HDoc k1 j hj2 kp ky
        | true =>
          cases k5 : likeB a3 [48, 48, 58, 48, 48] with
          | true =>
            by_cases kz : ∃ z, ZOK a4 z
            · obtain ⟨z, kz⟩ := kz
              exact tail_A5g s w R u6 u10 u11 u12 u13 u14 u15 u16 u17 u18 u19 u20 u21 u22 u23 u24 u25 u26 u27 u28 u29 u30 u31 u32 u33 u34 u35 u36 u37 u38 u39 u40 u41 u42 u43 u44 u45 u46 u47 u48 u49 u50 u51 u52 u53 u54 u55 u56 u57 u58 u59 u60 u61 u62 u63 wc a0 a1 a2 a3 a4 g o cap hrow hb (hall a0 (by simp)) (hall a2 (by simp)) (hall a3 (by simp)) (hall a4 (by simp)) HDoc k1 j hj2 kp ky k5 hmj z kz
            · exact tail_A5z s w R u6 u10 u11 u12 u13 u14 u15 u16 u17 u18 u19 u20 u21 u22 u23 u24 u25 u26 u27 u28 u29 u30 u31 u32 u33 u34 u35 u36 u37 u38 u39 u40 u41 u42 u43 u44 u45 u46 u47 u48 u49 u50 u51 u52 u53 u54 u55 u56 u57 u58 u59 u60 u61 u62 u63 wc a0 a1 a2 a3 a4 g o cap hrow hb (hall a0 (by simp)) (hall a2 (by simp)) (hall a3 (by simp)) (hall a4 (by simp)) HDoc k1 j hj2 kp ky k5 kz
          | false =>
            cases k8 : likeB a3 [48, 48, 58, 48, 48, 58, 48, 48] with
            | true =>
              by_cases kz : ∃ z, ZOK a4 z
              · obtain ⟨z, kz⟩ := kz
                exact tail_A8g s w R u6 u10 u11 u12 u13 u14 u15 u16 u17 u18 u19 u20 u21 u22 u23 u24 u25 u26 u27 u28 u29 u30 u31 u32 u33 u34 u35 u36 u37 u38 u39 u40 u41 u42 u43 u44 u45 u46 u47 u48 u49 u50 u51 u52 u53 u54 u55 u56 u57 u58 u59 u60 u61 u62 u63 wc a0 a1 a2 a3 a4 g o cap hrow hb (hall a0 (by simp)) (hall a2 (by simp)) (hall a3 (by simp)) (hall a4 (by simp)) HDoc k1 j hj2 kp ky k5 k8 hmj z kz
              · exact tail_A8z s w R u6 u10 u11 u12 u13 u14 u15 u16 u17 u18 u19 u20 u21 u22 u23 u24 u25 u26 u27 u28 u29 u30 u31 u32 u33 u34 u35 u36 u37 u38 u39 u40 u41 u42 u43 u44 u45 u46 u47 u48 u49 u50 u51 u52 u53 u54 u55 u56 u57 u58 u59 u60 u61 u62 u63 wc a0 a1 a2 a3 a4 g o cap hrow hb (hall a0 (by simp)) (hall a2 (by simp)) (hall a3 (by simp)) (hall a4 (by simp)) HDoc k1 j hj2 kp ky k5 k8 kz
            | false => exact tail_At s w R u6 u10 u11 u12 u13 u14 u15 u16 u17 u18 u19 u20 u21 u22 u23 u24 u25 u26 u27 u28 u29 u30 u31 u32 u33 u34 u35 u36 u37 u38 u39 u40 u41 u42 u43 u44 u45 u46 u47 u48 u49 u50 u51 u52 u53 u54 u55 u56 u57 u58 u59 u60 u61 u62 u63 wc a0 a1 a2 a3 a4 g o cap hrow hb (hall a0 (by simp)) (hall a2 (by simp)) (hall a3 (by simp)) (hall a4 (by simp)) HDoc k1 j hj2 kp ky k5 k8
    | false =>
      cases k2 : likeB a0 [48, 48] with
      | true =>
        rcases findEq_inv a1 12 0 with kp | ⟨j, _, hj, hmj, kp⟩
        · exact tail_Bp s w R u6 u10 u11 u12 u13 u14 u15 u16 u17 u18 u19 u20 u21 u22 u23 u24 u25 u26 u27 u28 u29 u30 u31 u32 u33 u34 u35 u36 u37 u38 u39 u40 u41 u42 u43 u44 u45 u46 u47 u48 u49 u50 u51 u52 u53 u54 u55 u56 u57 u58 u59 u60 u61 u62 u63 wc a0 a1 a2 a3 a4 g o cap hrow hb (hall a0 (by simp)) (hall a2 (by simp)) (hall a3 (by simp)) (hall a4 (by simp)) HDoc k1 k2 kp
        · have hj2 : j < 12 := by omega
          cases ky : likeB a2 [48, 48, 48, 48] with
          | false => exact tail_By s w R u6 u10 u11 u12 u13 u14 u15 u16 u17 u18 u19 u20 u21 u22 u23 u24 u25 u26 u27 u28 u29 u30 u31 u32 u33 u34 u35 u36 u37 u38 u39 u40 u41 u42 u43 u44 u45 u46 u47 u48 u49 u50 u51 u52 u53 u54 u55 u56 u57 u58 u59 u60 u61 u62 u63 wc a0 a1 a2 a3 a4 g o cap hrow hb (hall a0 (by simp)) (hall a2 (by simp)) (hall a3 (by simp)) (hall a4 (by simp)) HDoc k1 k2 j hj2 kp ky
          | true =>
            cases k5 : likeB a3 [48, 48, 58, 48, 48] with
            | true =>
              by_cases kz : ∃ z, ZOK a4 z
              · obtain ⟨z, kz⟩ := kz
                exact tail_B5g s w R u6 u10 u11 u12 u13 u14 u15 u16 u17 u18 u19 u20 u21 u22 u23 u24 u25 u26 u27 u28 u29 u30 u31 u32 u33 u34 u35 u36 u37 u38 u39 u40 u41 u42 u43 u44 u45 u46 u47 u48 u49 u50 u51 u52 u53 u54 u55 u56 u57 u58 u59 u60 u61 u62 u63 wc a0 a1 a2 a3 a4 g o cap hrow hb (hall a0 (by simp)) (hall a2 (by simp)) (hall a3 (by simp)) (hall a4 (by simp)) HDoc k1 k2 j hj2 kp ky k5 hmj z kz
              · exact tail_B5z s w R u6 u10 u11 u12 u13 u14 u15 u16 u17 u18 u19 u20 u21 u22 u23 u24 u25 u26 u27 u28 u29 u30 u31 u32 u33 u34 u35 u36 u37 u38 u39 u40 u41 u42 u43 u44 u45 u46 u47 u48 u49 u50 u51 u52 u53 u54 u55 u56 u57 u58 u59 u60 u61 u62 u63 wc a0 a1 a2 a3 a4 g o cap hrow hb (hall a0 (by simp)) (hall a2 (by simp)) (hall a3 (by simp)) (hall a4 (by simp)) HDoc k1 k2 j hj2 kp ky k5 kz
            | false =>
              cases k8 : likeB a3 [48, 48, 58, 48, 48, 58, 48, 48] with
              | true =>
                by_cases kz : ∃ z, ZOK a4 z
                · obtain ⟨z, kz⟩ := kz
                  exact tail_B8g s w R u6 u10 u11 u12 u13 u14 u15 u16 u17 u18 u19 u20 u21 u22 u23 u24 u25 u26 u27 u28 u29 u30 u31 u32 u33 u34 u35 u36 u37 u38 u39 u40 u41 u42 u43 u44 u45 u46 u47 u48 u49 u50 u51 u52 u53 u54 u55 u56 u57 u58 u59 u60 u61 u62 u63 wc a0 a1 a2 a3 a4 g o cap hrow hb (hall a0 (by simp)) (hall a2 (by simp)) (hall a3 (by simp)) (hall a4 (by simp)) HDoc k1 k2 j hj2 kp ky k5 k8 hmj z kz
                · exact tail_B8z s w R u6 u10 u11 u12 u13 u14 u15 u16 u17 u18 u19 u20 u21 u22 u23 u24 u25 u26 u27 u28 u29 u30 u31 u32 u33 u34 u35 u36 u37 u38 u39 u40 u41 u42 u43 u44 u45 u46 u47 u48 u49 u50 u51 u52 u53 u54 u55 u56 u57 u58 u59 u60 u61 u62 u63 wc a0 a1 a2 a3 a4 g o cap hrow hb (hall a0 (by simp)) (hall a2 (by simp)) (hall a3 (by simp)) (hall a4 (by simp)) HDoc k1 k2 j hj2 kp ky k5 k8 kz
              | false => exact tail_Bt s w R u6 u10 u11 u12 u13 u14 u15 u16 u17 u18 u19 u20 u21 u22 u23 u24 u25 u26 u27 u28 u29 u30 u31 u32 u33 u34 u35 u36 u37 u38 u39 u40 u41 u42 u43 u44 u45 u46 u47 u48 u49 u50 u51 u52 u53 u54 u55 u56 u57 u58 u59 u60 u61 u62 u63 wc a0 a1 a2 a3 a4 g o cap hrow hb (hall a0 (by simp)) (hall a2 (by simp)) (hall a3 (by simp)) (hall a4 (by simp)) HDoc k1 k2 j hj2 kp ky k5 k8
      | false => exact tail_D s w R u6 u10 u11 u12 u13 u14 u15 u16 u17 u18 u19 u20 u21 u22 u23 u24 u25 u26 u27 u28 u29 u30 u31 u32 u33 u34 u35 u36 u37 u38 u39 u40 u41 u42 u43 u44 u45 u46 u47 u48 u49 u50 u51 u52 u53 u54 u55 u56 u57 u58 u59 u60 u61 u62 u63 wc a0 a1 a2 a3 a4 g o cap hrow hb (hall a0 (by simp)) (hall a2 (by simp)) (hall a3 (by simp)) (hall a4 (by simp)) HDoc k1 k2
  · exact tail_len s w R v4 u6 u10 u11 u12 u13 u14 u15 u16 u17 u18 u19 u20 u21 u22 u23 u24 u25 u26 u27 u28 u29 u30 u31 u32 u33 u34 u35 u36 u37 u38 u39 u40 u41 u42 u43 u44 u45 u46 u47 u48 u49 u50 u51 u52 u53 u54 u55 u56 u57 u58 u59 u60 u61 u62 u63 wc ws h5 HTx HDoc
end Go.Proofs.YtcmhaihoeecjoaaGreatDoor.Da

end
