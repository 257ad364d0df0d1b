/- What follows the day's name in the document's ParseMail: its frame; words that are not five, or no day. -/
/- What follows the day's name in the document's ParseMail: leaves A0. -/
import Derived.Test.YtcmhaihoeecjoaaGreatDoorU40
import Derived.Deep.RegionHeld3
section
namespace Go.Proofs.YtcmhaihoeecjoaaGreatDoor.Da
open Go.RowKit
def seqR : Code → Code
  | .seq _ b => b
  | c => c
/-- What follows the first four statements of a body. -/
def tailOf (f : Func) : Code := seqR (seqR (seqR (seqR (f.body.getD .skip))))
set_option maxRecDepth 20000 in
set_option maxHeartbeats 8000000 in
theorem tail_len (s : List UInt8) (w : World) (R : Value) (v4 u6 u10 u11 u12 u13 u14 u15 u16 u17 u18 u19 u20 u21 u22 u23 u24 u25 u26 u27 u28 u29 u30 u31 u32 u33 u34 u35 u36 u37 u38 u39 u40 u41 u42 u43 u44 u45 u46 u47 u48 u49 u50 u51 u52 u53 u54 u55 u56 u57 u58 u59 u60 u61 u62 u63 : Value) (wc : World) (ws : List (List UInt8)) (h5 : ws.length ≠ 5) (HTx : Texts w wc v4 ws) (HDoc : DocM ws R) : (tailOf Tryz.f32).wp Tryz.prog (bodyPost Tryz.prog Tryz.f32 fun e w' => e = .returned R ∧ Below w.heap.size w w') { tmps := #[.string ⟨s.toArray⟩, undef, .int .i64 0, .int .i64 0, v4, .int .i64 2, u6, undef, undef, undef, u10, u11, u12, u13, u14, u15, u16, u17, u18, u19, u20, u21, u22, u23, u24, u25, u26, u27, u28, u29, u30, u31, u32, u33, u34, u35, u36, u37, u38, u39, u40, u41, u42, u43, u44, u45, u46, u47, u48, u49, u50, u51, u52, u53, u54, u55, u56, u57, u58, u59, u60, u61, u62, u63, undef, undef, undef, undef, undef, undef, undef, undef, undef, undef, undef, undef, undef, undef, undef, undef, undef, undef, undef, undef, undef, undef, undef, undef, undef, undef, undef, undef, undef, undef, undef, undef, undef, undef, undef, undef, undef, undef, undef, undef, undef, undef, undef, undef, undef, undef, undef, undef, undef, undef, undef, undef, undef, undef, undef, undef, undef, undef, undef, undef, undef, undef, undef, undef, undef, undef, undef, undef, undef, undef, undef, undef, undef, undef, undef, undef, undef, undef, undef, undef, undef, undef, undef, undef, undef, undef, undef, undef, undef, undef, undef, undef, undef, undef, undef, undef], defers := [] } wc := by
  have hR := docM_len HDoc h5
  obtain ⟨hb, G, hr, _⟩ := HTx
  obtain ⟨A, c, rfl⟩ := hr.form
  have hne : ((ws.length : Int) != 5) = true := bne_iff_ne.2 (by omega)
  have HB := hide hb
  clear hr hb HDoc
  delta tailOf
  dsimp only [seqR, Tryz.f32, Option.getD_some]
  go_wp2
  go_ret2
  exact ⟨by rw [hR]; rfl, HB.out⟩
set_option maxRecDepth 20000 in
set_option maxHeartbeats 8000000 in
theorem tail_D (s : List UInt8) (w : World) (R : Value) (u6 u10 u11 u12 u13 u14 u15 u16 u17 u18 u19 u20 u21 u22 u23 u24 u25 u26 u27 u28 u29 u30 u31 u32 u33 u34 u35 u36 u37 u38 u39 u40 u41 u42 u43 u44 u45 u46 u47 u48 u49 u50 u51 u52 u53 u54 u55 u56 u57 u58 u59 u60 u61 u62 u63 : Value) (wc : World) (a0 a1 a2 a3 a4 : List UInt8) (g o cap : Nat) (hrow : Row5 wc g o a0 a1 a2 a3 a4) (hb : Below w.heap.size w wc) (l0 : a0.length ≤ 900) (_l2 : a2.length ≤ 900) (_l3 : a3.length ≤ 900) (_l4 : a4.length ≤ 900) (HDoc : DocM [a0, a1, a2, a3, a4] R) (k1 : likeB a0 [48] = false) (k2 : likeB a0 [48, 48] = false) : (tailOf Tryz.f32).wp Tryz.prog (bodyPost Tryz.prog Tryz.f32 fun e w' => e = .returned R ∧ Below w.heap.size w w') { tmps := #[.string ⟨s.toArray⟩, undef, .int .i64 0, .int .i64 0, .slice (some ⟨g, o, none⟩) 5 cap, .int .i64 2, u6, undef, undef, undef, u10, u11, u12, u13, u14, u15, u16, u17, u18, u19, u20, u21, u22, u23, u24, u25, u26, u27, u28, u29, u30, u31, u32, u33, u34, u35, u36, u37, u38, u39, u40, u41, u42, u43, u44, u45, u46, u47, u48, u49, u50, u51, u52, u53, u54, u55, u56, u57, u58, u59, u60, u61, u62, u63, undef, undef, undef, undef, undef, undef, undef, undef, undef, undef, undef, undef, undef, undef, undef, undef, undef, undef, undef, undef, undef, undef, undef, undef, undef, undef, undef, undef, undef, undef, undef, undef, undef, undef, undef, undef, undef, undef, undef, undef, undef, undef, undef, undef, undef, undef, undef, undef, undef, undef, undef, undef, undef, undef, undef, undef, undef, undef, undef, undef, undef, undef, undef, undef, undef, undef, undef, undef, undef, undef, undef, undef, undef, undef, undef, undef, undef, undef, undef, undef, undef, undef, undef, undef, undef, undef, undef, undef, undef, undef, undef, undef, undef, undef, undef, undef], defers := [] } wc := by
  have HRow := hide hrow
  have HB := hide hb
  obtain ⟨hg, c0, c1, c2, c3, c4⟩ := hrow
  have hbad := fun hb => docM_bad HDoc hb
  clear hb
  have HD1 := hide (like_calls l0 k1)
  have HD2 := hide (like_calls l0 k2)
  have hR := hbad (by
    rintro ⟨h | h, _⟩
    · rw [k1] at h; cases h
    · rw [k2] at h; cases h)
  clear hbad HDoc k1 k2
  delta tailOf
  dsimp only [seqR, Tryz.f32, Option.getD_some]
  go_wp2_with (first
    | (go_at_call_of 59 (Value.string { data := #[48] }); refine (HD1.out _).mono ?_; rintro e wX ⟨rfl, hbX⟩; replace HRow := hide (HRow.out.below hbX); replace HB := hide (HB.out.trans (hbX.mono HB.out.size)); obtain ⟨hg, c0, c1, c2, c3, c4⟩ := HRow.out; clear hbX)
    | (go_at_call_of 59 (Value.string { data := #[48, 48] }); refine (HD2.out _).mono ?_; rintro e wX ⟨rfl, hbX⟩; replace HRow := hide (HRow.out.below hbX); replace HB := hide (HB.out.trans (hbX.mono HB.out.size)); obtain ⟨hg, c0, c1, c2, c3, c4⟩ := HRow.out; clear hbX))
  go_ret2
  exact ⟨by rw [hR]; rfl, HB.out⟩
end Go.Proofs.YtcmhaihoeecjoaaGreatDoor.Da

end
section
namespace Go.Proofs.YtcmhaihoeecjoaaGreatDoor.Da
open Go.RowKit
set_option maxRecDepth 20000 in
set_option maxHeartbeats 8000000 in
theorem tail_Ap (s : List UInt8) (w : World) (R : Value) (u6 u10 u11 u12 u13 u14 u15 u16 u17 u18 u19 u20 u21 u22 u23 u24 u25 u26 u27 u28 u29 u30 u31 u32 u33 u34 u35 u36 u37 u38 u39 u40 u41 u42 u43 u44 u45 u46 u47 u48 u49 u50 u51 u52 u53 u54 u55 u56 u57 u58 u59 u60 u61 u62 u63 : Value) (wc : World) (a0 a1 a2 a3 a4 : List UInt8) (g o cap : Nat) (hrow : Row5 wc g o a0 a1 a2 a3 a4) (hb : Below w.heap.size w wc) (l0 : a0.length ≤ 900) (_l2 : a2.length ≤ 900) (_l3 : a3.length ≤ 900) (_l4 : a4.length ≤ 900) (HDoc : DocM [a0, a1, a2, a3, a4] R) (k1 : likeB a0 [48] = true) (kp : findEq monB a1 12 0 = -1) : (tailOf Tryz.f32).wp Tryz.prog (bodyPost Tryz.prog Tryz.f32 fun e w' => e = .returned R ∧ Below w.heap.size w w') { tmps := #[.string ⟨s.toArray⟩, undef, .int .i64 0, .int .i64 0, .slice (some ⟨g, o, none⟩) 5 cap, .int .i64 2, u6, undef, undef, undef, u10, u11, u12, u13, u14, u15, u16, u17, u18, u19, u20, u21, u22, u23, u24, u25, u26, u27, u28, u29, u30, u31, u32, u33, u34, u35, u36, u37, u38, u39, u40, u41, u42, u43, u44, u45, u46, u47, u48, u49, u50, u51, u52, u53, u54, u55, u56, u57, u58, u59, u60, u61, u62, u63, undef, undef, undef, undef, undef, undef, undef, undef, undef, undef, undef, undef, undef, undef, undef, undef, undef, undef, undef, undef, undef, undef, undef, undef, undef, undef, undef, undef, undef, undef, undef, undef, undef, undef, undef, undef, undef, undef, undef, undef, undef, undef, undef, undef, undef, undef, undef, undef, undef, undef, undef, undef, undef, undef, undef, undef, undef, undef, undef, undef, undef, undef, undef, undef, undef, undef, undef, undef, undef, undef, undef, undef, undef, undef, undef, undef, undef, undef, undef, undef, undef, undef, undef, undef, undef, undef, undef, undef, undef, undef, undef, undef, undef, undef, undef, undef], defers := [] } wc := by
  have HRow := hide hrow
  have HB := hide hb
  obtain ⟨hg, c0, c1, c2, c3, c4⟩ := hrow
  have hbad := fun hb => docM_bad HDoc hb
  clear hb
  have HD1 := hide (like_calls l0 k1)
  have hd0 := ((likeB_digs 1 a0).1 k1).2
  have hd0l : a0.length = 1 ∨ a0.length = 2 := .inl ((likeB_digs 1 a0).1 k1).1
  clear k1
  have hR := hbad (by rintro ⟨_, ⟨i, hi⟩, _⟩; omega)
  have HP := hide (place_calls kp)
  clear hbad HDoc kp hd0 hd0l
  delta tailOf
  dsimp only [seqR, Tryz.f32, Option.getD_some]
  go_wp2_with (first
    | (go_at_call_of 59 (Value.string { data := #[48] }); refine (HD1.out _).mono ?_; rintro e wX ⟨rfl, hbX⟩; replace HRow := hide (HRow.out.below hbX); replace HB := hide (HB.out.trans (hbX.mono HB.out.size)); obtain ⟨hg, c0, c1, c2, c3, c4⟩ := HRow.out; clear hbX)
    | (go_at_call 58; refine (HP.out _).mono ?_; rintro e w' ⟨rfl, rfl⟩))
  go_ret2
  exact ⟨by rw [hR]; rfl, HB.out⟩
set_option maxRecDepth 20000 in
set_option maxHeartbeats 8000000 in
theorem tail_Ay (s : List UInt8) (w : World) (R : Value) (u6 u10 u11 u12 u13 u14 u15 u16 u17 u18 u19 u20 u21 u22 u23 u24 u25 u26 u27 u28 u29 u30 u31 u32 u33 u34 u35 u36 u37 u38 u39 u40 u41 u42 u43 u44 u45 u46 u47 u48 u49 u50 u51 u52 u53 u54 u55 u56 u57 u58 u59 u60 u61 u62 u63 : Value) (wc : World) (a0 a1 a2 a3 a4 : List UInt8) (g o cap : Nat) (hrow : Row5 wc g o a0 a1 a2 a3 a4) (hb : Below w.heap.size w wc) (l0 : a0.length ≤ 900) (l2 : a2.length ≤ 900) (_l3 : a3.length ≤ 900) (_l4 : a4.length ≤ 900) (HDoc : DocM [a0, a1, a2, a3, a4] R) (k1 : likeB a0 [48] = true) (j : Nat) (hj : j < 12) (kp : findEq monB a1 12 0 = j) (ky : likeB a2 [48, 48, 48, 48] = false) : (tailOf Tryz.f32).wp Tryz.prog (bodyPost Tryz.prog Tryz.f32 fun e w' => e = .returned R ∧ Below w.heap.size w w') { tmps := #[.string ⟨s.toArray⟩, undef, .int .i64 0, .int .i64 0, .slice (some ⟨g, o, none⟩) 5 cap, .int .i64 2, u6, undef, undef, undef, u10, u11, u12, u13, u14, u15, u16, u17, u18, u19, u20, u21, u22, u23, u24, u25, u26, u27, u28, u29, u30, u31, u32, u33, u34, u35, u36, u37, u38, u39, u40, u41, u42, u43, u44, u45, u46, u47, u48, u49, u50, u51, u52, u53, u54, u55, u56, u57, u58, u59, u60, u61, u62, u63, undef, undef, undef, undef, undef, undef, undef, undef, undef, undef, undef, undef, undef, undef, undef, undef, undef, undef, undef, undef, undef, undef, undef, undef, undef, undef, undef, undef, undef, undef, undef, undef, undef, undef, undef, undef, undef, undef, undef, undef, undef, undef, undef, undef, undef, undef, undef, undef, undef, undef, undef, undef, undef, undef, undef, undef, undef, undef, undef, undef, undef, undef, undef, undef, undef, undef, undef, undef, undef, undef, undef, undef, undef, undef, undef, undef, undef, undef, undef, undef, undef, undef, undef, undef, undef, undef, undef, undef, undef, undef, undef, undef, undef, undef, undef, undef], defers := [] } wc := by
  have HRow := hide hrow
  have HB := hide hb
  obtain ⟨hg, c0, c1, c2, c3, c4⟩ := hrow
  have hbad := fun hb => docM_bad HDoc hb
  clear hb
  have HD1 := hide (like_calls l0 k1)
  have hd0 := ((likeB_digs 1 a0).1 k1).2
  have hd0l : a0.length = 1 ∨ a0.length = 2 := .inl ((likeB_digs 1 a0).1 k1).1
  clear k1
  have HP := hide (place_calls kp)
  have hj0 : ¬ (j : Int) < 0 := by omega
  have hj12 : (j : Int) < 12 := by omega
  have hR := hbad (by rintro ⟨_, _, h, _⟩; rw [ky] at h; cases h)
  have HY := hide (like_calls l2 ky)
  clear hbad HDoc kp ky hd0 hd0l
  delta tailOf
  dsimp only [seqR, Tryz.f32, Option.getD_some]
  go_wp2_with (first
    | (go_at_call_of 59 (Value.string { data := #[48] }); refine (HD1.out _).mono ?_; rintro e wX ⟨rfl, hbX⟩; replace HRow := hide (HRow.out.below hbX); replace HB := hide (HB.out.trans (hbX.mono HB.out.size)); obtain ⟨hg, c0, c1, c2, c3, c4⟩ := HRow.out; clear hbX)
    | (go_at_call 58; refine (HP.out _).mono ?_; rintro e w' ⟨rfl, rfl⟩)
    | (go_at_call_of 59 (Value.string { data := #[48, 48, 48, 48] }); refine (HY.out _).mono ?_; rintro e wX ⟨rfl, hbX⟩; replace HRow := hide (HRow.out.below hbX); replace HB := hide (HB.out.trans (hbX.mono HB.out.size)); obtain ⟨hg, c0, c1, c2, c3, c4⟩ := HRow.out; clear hbX))
  go_ret2
  exact ⟨by rw [hR]; rfl, HB.out⟩
set_option maxRecDepth 20000 in
set_option maxHeartbeats 8000000 in
theorem tail_At (s : List UInt8) (w : World) (R : Value) (u6 u10 u11 u12 u13 u14 u15 u16 u17 u18 u19 u20 u21 u22 u23 u24 u25 u26 u27 u28 u29 u30 u31 u32 u33 u34 u35 u36 u37 u38 u39 u40 u41 u42 u43 u44 u45 u46 u47 u48 u49 u50 u51 u52 u53 u54 u55 u56 u57 u58 u59 u60 u61 u62 u63 : Value) (wc : World) (a0 a1 a2 a3 a4 : List UInt8) (g o cap : Nat) (hrow : Row5 wc g o a0 a1 a2 a3 a4) (hb : Below w.heap.size w wc) (l0 : a0.length ≤ 900) (l2 : a2.length ≤ 900) (l3 : a3.length ≤ 900) (_l4 : a4.length ≤ 900) (HDoc : DocM [a0, a1, a2, a3, a4] R) (k1 : likeB a0 [48] = true) (j : Nat) (hj : j < 12) (kp : findEq monB a1 12 0 = j) (ky : likeB a2 [48, 48, 48, 48] = true) (k5 : likeB a3 [48, 48, 58, 48, 48] = false) (k8 : likeB a3 [48, 48, 58, 48, 48, 58, 48, 48] = false) : (tailOf Tryz.f32).wp Tryz.prog (bodyPost Tryz.prog Tryz.f32 fun e w' => e = .returned R ∧ Below w.heap.size w w') { tmps := #[.string ⟨s.toArray⟩, undef, .int .i64 0, .int .i64 0, .slice (some ⟨g, o, none⟩) 5 cap, .int .i64 2, u6, undef, undef, undef, u10, u11, u12, u13, u14, u15, u16, u17, u18, u19, u20, u21, u22, u23, u24, u25, u26, u27, u28, u29, u30, u31, u32, u33, u34, u35, u36, u37, u38, u39, u40, u41, u42, u43, u44, u45, u46, u47, u48, u49, u50, u51, u52, u53, u54, u55, u56, u57, u58, u59, u60, u61, u62, u63, undef, undef, undef, undef, undef, undef, undef, undef, undef, undef, undef, undef, undef, undef, undef, undef, undef, undef, undef, undef, undef, undef, undef, undef, undef, undef, undef, undef, undef, undef, undef, undef, undef, undef, undef, undef, undef, undef, undef, undef, undef, undef, undef, undef, undef, undef, undef, undef, undef, undef, undef, undef, undef, undef, undef, undef, undef, undef, undef, undef, undef, undef, undef, undef, undef, undef, undef, undef, undef, undef, undef, undef, undef, undef, undef, undef, undef, undef, undef, undef, undef, undef, undef, undef, undef, undef, undef, undef, undef, undef, undef, undef, undef, undef, undef, undef], defers := [] } wc := by
  have HRow := hide hrow
  have HB := hide hb
  obtain ⟨hg, c0, c1, c2, c3, c4⟩ := hrow
  have hbad := fun hb => docM_bad HDoc hb
  clear hb
  have HD1 := hide (like_calls l0 k1)
  have hd0 := ((likeB_digs 1 a0).1 k1).2
  have hd0l : a0.length = 1 ∨ a0.length = 2 := .inl ((likeB_digs 1 a0).1 k1).1
  clear k1
  have HP := hide (place_calls kp)
  have hj0 : ¬ (j : Int) < 0 := by omega
  have hj12 : (j : Int) < 12 := by omega
  have HY := hide (like_calls l2 ky)
  have HT5 := hide (like_calls l3 k5)
  have HT8 := hide (like_calls l3 k8)
  have hR := hbad (by
    rintro ⟨_, _, _, h | h, _⟩
    · rw [k5] at h; cases h
    · rw [k8] at h; cases h)
  clear hbad HDoc kp ky k5 k8 hd0 hd0l
  delta tailOf
  dsimp only [seqR, Tryz.f32, Option.getD_some]
  go_wp2_with (first
    | (go_at_call_of 59 (Value.string { data := #[48] }); refine (HD1.out _).mono ?_; rintro e wX ⟨rfl, hbX⟩; replace HRow := hide (HRow.out.below hbX); replace HB := hide (HB.out.trans (hbX.mono HB.out.size)); obtain ⟨hg, c0, c1, c2, c3, c4⟩ := HRow.out; clear hbX)
    | (go_at_call 58; refine (HP.out _).mono ?_; rintro e w' ⟨rfl, rfl⟩)
    | (go_at_call_of 59 (Value.string { data := #[48, 48, 48, 48] }); refine (HY.out _).mono ?_; rintro e wX ⟨rfl, hbX⟩; replace HRow := hide (HRow.out.below hbX); replace HB := hide (HB.out.trans (hbX.mono HB.out.size)); obtain ⟨hg, c0, c1, c2, c3, c4⟩ := HRow.out; clear hbX)
    | (go_at_call_of 59 (Value.string { data := #[48, 48, 58, 48, 48] }); refine (HT5.out _).mono ?_; rintro e wX ⟨rfl, hbX⟩; replace HRow := hide (HRow.out.below hbX); replace HB := hide (HB.out.trans (hbX.mono HB.out.size)); obtain ⟨hg, c0, c1, c2, c3, c4⟩ := HRow.out; clear hbX)
    | (go_at_call_of 59 (Value.string { data := #[48, 48, 58, 48, 48, 58, 48, 48] }); refine (HT8.out _).mono ?_; rintro e wX ⟨rfl, hbX⟩; replace HRow := hide (HRow.out.below hbX); replace HB := hide (HB.out.trans (hbX.mono HB.out.size)); obtain ⟨hg, c0, c1, c2, c3, c4⟩ := HRow.out; clear hbX))
  go_ret2
  exact ⟨by rw [hR]; rfl, HB.out⟩
end Go.Proofs.YtcmhaihoeecjoaaGreatDoor.Da

end
