/- What follows the day's name in the document's ParseMail. -/
import Derived.Test.YtabncmepkoiheaaDoorRf9A0
import Derived.Test.YtabncmepkoiheaaDoorRf9A5
import Derived.Test.YtabncmepkoiheaaDoorRf9A8
import Derived.Test.YtabncmepkoiheaaDoorRf9B0
import Derived.Test.YtabncmepkoiheaaDoorRf9B5
import Derived.Test.YtabncmepkoiheaaDoorRf9B8
namespace Go.Proofs.YtabncmepkoiheaaDoor
open Go.RowKit
theorem tail_all (s : List UInt8) (w : World) (R : Value) (v4 u6 u10 u11 u12 u13 u14 u15 u16 u17 u18 u19 u20 u21 u22 u23 u24 u25 u26 u27 u28 u29 u30 u31 u32 u33 u34 u35 u36 u37 u38 u39 u40 u41 u42 u43 u44 u45 u46 u47 u48 u49 u50 u51 u52 u53 u54 u55 u56 u57 u58 u59 u60 u61 u62 u63 : Value) (wc : World) (ws : List (List UInt8)) (hall : ∀ x ∈ ws, x.length ≤ 900) (HTx : Texts w wc v4 ws) (HDoc : DocM ws R) : (tailOf Tryd.f13).wp Tryd.prog (bodyPost Tryd.prog Tryd.f13 fun e w' => e = .returned R ∧ Below w.heap.size w w') { tmps := #[.string ⟨s.toArray⟩, undef, .int .i64 0, .int .i64 0, v4, .int .i64 2, u6, undef, undef, undef, u10, u11, u12, u13, u14, u15, u16, u17, u18, u19, u20, u21, u22, u23, u24, u25, u26, u27, u28, u29, u30, u31, u32, u33, u34, u35, u36, u37, u38, u39, u40, u41, u42, u43, u44, u45, u46, u47, u48, u49, u50, u51, u52, u53, u54, u55, u56, u57, u58, u59, u60, u61, u62, u63, undef, undef, undef, undef, undef, undef, undef, undef, undef, undef, undef, undef, undef, undef, undef, undef, undef, undef, undef, undef, undef, undef, undef, undef, undef, undef, undef, undef, undef, undef, undef, undef, undef, undef, undef, undef, undef, undef, undef, undef, undef, undef, undef, undef, undef, undef, undef, undef, undef, undef, undef, undef, undef, undef, undef, undef, undef, undef, undef, undef, undef, undef, undef, undef, undef, undef, undef, undef, undef, undef, undef, undef, undef, undef, undef, undef, undef, undef, undef, undef, undef, undef, undef, undef, undef, undef, undef, undef, undef, undef, undef, undef, undef, undef, undef, undef], defers := [] } wc := by
  by_cases h5 : ws.length = 5
  · obtain ⟨a0, a1, a2, a3, a4, rfl⟩ : ∃ a0 a1 a2 a3 a4, ws = [a0, a1, a2, a3, a4] := by
      match ws, h5 with
      | [a0, a1, a2, a3, a4], _ => exact ⟨a0, a1, a2, a3, a4, rfl⟩
    obtain ⟨g, o, cap, rfl, _, hrow, hb⟩ := texts_five HTx
    cases k1 : likeB a0 [48] with
    | true =>
      rcases findEq_inv a1 12 0 with kp | ⟨j, _, hj, hmj, kp⟩
      · exact tail_Ap s w R u6 u10 u11 u12 u13 u14 u15 u16 u17 u18 u19 u20 u21 u22 u23 u24 u25 u26 u27 u28 u29 u30 u31 u32 u33 u34 u35 u36 u37 u38 u39 u40 u41 u42 u43 u44 u45 u46 u47 u48 u49 u50 u51 u52 u53 u54 u55 u56 u57 u58 u59 u60 u61 u62 u63 wc a0 a1 a2 a3 a4 g o cap hrow hb (hall a0 (by simp)) (hall a2 (by simp)) (hall a3 (by simp)) (hall a4 (by simp)) HDoc k1 kp
      · have hj2 : j < 12 := by omega
        cases ky : likeB a2 [48, 48, 48, 48] with
        | false => exact tail_Ay s w R u6 u10 u11 u12 u13 u14 u15 u16 u17 u18 u19 u20 u21 u22 u23 u24 u25 u26 u27 u28 u29 u30 u31 u32 u33 u34 u35 u36 u37 u38 u39 u40 u41 u42 u43 u44 u45 u46 u47 u48 u49 u50 u51 u52 u53 u54 u55 u56 u57 u58 u59 u60 u61 u62 u63 wc a0 a1 a2 a3 a4 g o cap hrow hb (hall a0 (by simp)) (hall a2 (by simp)) (hall a3 (by simp)) (hall a4 (by simp)) HDoc k1 j hj2 kp ky
        | true =>
          cases k5 : likeB a3 [48, 48, 58, 48, 48] with
          | true =>
            by_cases kz : ∃ z, ZOK a4 z
            · obtain ⟨z, kz⟩ := kz
              exact tail_A5g s w R u6 u10 u11 u12 u13 u14 u15 u16 u17 u18 u19 u20 u21 u22 u23 u24 u25 u26 u27 u28 u29 u30 u31 u32 u33 u34 u35 u36 u37 u38 u39 u40 u41 u42 u43 u44 u45 u46 u47 u48 u49 u50 u51 u52 u53 u54 u55 u56 u57 u58 u59 u60 u61 u62 u63 wc a0 a1 a2 a3 a4 g o cap hrow hb (hall a0 (by simp)) (hall a2 (by simp)) (hall a3 (by simp)) (hall a4 (by simp)) HDoc k1 j hj2 kp ky k5 hmj z kz
            · exact tail_A5z s w R u6 u10 u11 u12 u13 u14 u15 u16 u17 u18 u19 u20 u21 u22 u23 u24 u25 u26 u27 u28 u29 u30 u31 u32 u33 u34 u35 u36 u37 u38 u39 u40 u41 u42 u43 u44 u45 u46 u47 u48 u49 u50 u51 u52 u53 u54 u55 u56 u57 u58 u59 u60 u61 u62 u63 wc a0 a1 a2 a3 a4 g o cap hrow hb (hall a0 (by simp)) (hall a2 (by simp)) (hall a3 (by simp)) (hall a4 (by simp)) HDoc k1 j hj2 kp ky k5 kz
          | false =>
            cases k8 : likeB a3 [48, 48, 58, 48, 48, 58, 48, 48] with
            | true =>
              by_cases kz : ∃ z, ZOK a4 z
              · obtain ⟨z, kz⟩ := kz
                exact tail_A8g s w R u6 u10 u11 u12 u13 u14 u15 u16 u17 u18 u19 u20 u21 u22 u23 u24 u25 u26 u27 u28 u29 u30 u31 u32 u33 u34 u35 u36 u37 u38 u39 u40 u41 u42 u43 u44 u45 u46 u47 u48 u49 u50 u51 u52 u53 u54 u55 u56 u57 u58 u59 u60 u61 u62 u63 wc a0 a1 a2 a3 a4 g o cap hrow hb (hall a0 (by simp)) (hall a2 (by simp)) (hall a3 (by simp)) (hall a4 (by simp)) HDoc k1 j hj2 kp ky k5 k8 hmj z kz
              · exact tail_A8z s w R u6 u10 u11 u12 u13 u14 u15 u16 u17 u18 u19 u20 u21 u22 u23 u24 u25 u26 u27 u28 u29 u30 u31 u32 u33 u34 u35 u36 u37 u38 u39 u40 u41 u42 u43 u44 u45 u46 u47 u48 u49 u50 u51 u52 u53 u54 u55 u56 u57 u58 u59 u60 u61 u62 u63 wc a0 a1 a2 a3 a4 g o cap hrow hb (hall a0 (by simp)) (hall a2 (by simp)) (hall a3 (by simp)) (hall a4 (by simp)) HDoc k1 j hj2 kp ky k5 k8 kz
            | false => exact tail_At s w R u6 u10 u11 u12 u13 u14 u15 u16 u17 u18 u19 u20 u21 u22 u23 u24 u25 u26 u27 u28 u29 u30 u31 u32 u33 u34 u35 u36 u37 u38 u39 u40 u41 u42 u43 u44 u45 u46 u47 u48 u49 u50 u51 u52 u53 u54 u55 u56 u57 u58 u59 u60 u61 u62 u63 wc a0 a1 a2 a3 a4 g o cap hrow hb (hall a0 (by simp)) (hall a2 (by simp)) (hall a3 (by simp)) (hall a4 (by simp)) HDoc k1 j hj2 kp ky k5 k8
    | false =>
      cases k2 : likeB a0 [48, 48] with
      | true =>
        rcases findEq_inv a1 12 0 with kp | ⟨j, _, hj, hmj, kp⟩
        · exact tail_Bp s w R u6 u10 u11 u12 u13 u14 u15 u16 u17 u18 u19 u20 u21 u22 u23 u24 u25 u26 u27 u28 u29 u30 u31 u32 u33 u34 u35 u36 u37 u38 u39 u40 u41 u42 u43 u44 u45 u46 u47 u48 u49 u50 u51 u52 u53 u54 u55 u56 u57 u58 u59 u60 u61 u62 u63 wc a0 a1 a2 a3 a4 g o cap hrow hb (hall a0 (by simp)) (hall a2 (by simp)) (hall a3 (by simp)) (hall a4 (by simp)) HDoc k1 k2 kp
        · have hj2 : j < 12 := by omega
          cases ky : likeB a2 [48, 48, 48, 48] with
          | false => exact tail_By s w R u6 u10 u11 u12 u13 u14 u15 u16 u17 u18 u19 u20 u21 u22 u23 u24 u25 u26 u27 u28 u29 u30 u31 u32 u33 u34 u35 u36 u37 u38 u39 u40 u41 u42 u43 u44 u45 u46 u47 u48 u49 u50 u51 u52 u53 u54 u55 u56 u57 u58 u59 u60 u61 u62 u63 wc a0 a1 a2 a3 a4 g o cap hrow hb (hall a0 (by simp)) (hall a2 (by simp)) (hall a3 (by simp)) (hall a4 (by simp)) HDoc k1 k2 j hj2 kp ky
          | true =>
            cases k5 : likeB a3 [48, 48, 58, 48, 48] with
            | true =>
              by_cases kz : ∃ z, ZOK a4 z
              · obtain ⟨z, kz⟩ := kz
                exact tail_B5g s w R u6 u10 u11 u12 u13 u14 u15 u16 u17 u18 u19 u20 u21 u22 u23 u24 u25 u26 u27 u28 u29 u30 u31 u32 u33 u34 u35 u36 u37 u38 u39 u40 u41 u42 u43 u44 u45 u46 u47 u48 u49 u50 u51 u52 u53 u54 u55 u56 u57 u58 u59 u60 u61 u62 u63 wc a0 a1 a2 a3 a4 g o cap hrow hb (hall a0 (by simp)) (hall a2 (by simp)) (hall a3 (by simp)) (hall a4 (by simp)) HDoc k1 k2 j hj2 kp ky k5 hmj z kz
              · exact tail_B5z s w R u6 u10 u11 u12 u13 u14 u15 u16 u17 u18 u19 u20 u21 u22 u23 u24 u25 u26 u27 u28 u29 u30 u31 u32 u33 u34 u35 u36 u37 u38 u39 u40 u41 u42 u43 u44 u45 u46 u47 u48 u49 u50 u51 u52 u53 u54 u55 u56 u57 u58 u59 u60 u61 u62 u63 wc a0 a1 a2 a3 a4 g o cap hrow hb (hall a0 (by simp)) (hall a2 (by simp)) (hall a3 (by simp)) (hall a4 (by simp)) HDoc k1 k2 j hj2 kp ky k5 kz
            | false =>
              cases k8 : likeB a3 [48, 48, 58, 48, 48, 58, 48, 48] with
              | true =>
                by_cases kz : ∃ z, ZOK a4 z
                · obtain ⟨z, kz⟩ := kz
                  exact tail_B8g s w R u6 u10 u11 u12 u13 u14 u15 u16 u17 u18 u19 u20 u21 u22 u23 u24 u25 u26 u27 u28 u29 u30 u31 u32 u33 u34 u35 u36 u37 u38 u39 u40 u41 u42 u43 u44 u45 u46 u47 u48 u49 u50 u51 u52 u53 u54 u55 u56 u57 u58 u59 u60 u61 u62 u63 wc a0 a1 a2 a3 a4 g o cap hrow hb (hall a0 (by simp)) (hall a2 (by simp)) (hall a3 (by simp)) (hall a4 (by simp)) HDoc k1 k2 j hj2 kp ky k5 k8 hmj z kz
                · exact tail_B8z s w R u6 u10 u11 u12 u13 u14 u15 u16 u17 u18 u19 u20 u21 u22 u23 u24 u25 u26 u27 u28 u29 u30 u31 u32 u33 u34 u35 u36 u37 u38 u39 u40 u41 u42 u43 u44 u45 u46 u47 u48 u49 u50 u51 u52 u53 u54 u55 u56 u57 u58 u59 u60 u61 u62 u63 wc a0 a1 a2 a3 a4 g o cap hrow hb (hall a0 (by simp)) (hall a2 (by simp)) (hall a3 (by simp)) (hall a4 (by simp)) HDoc k1 k2 j hj2 kp ky k5 k8 kz
              | false => exact tail_Bt s w R u6 u10 u11 u12 u13 u14 u15 u16 u17 u18 u19 u20 u21 u22 u23 u24 u25 u26 u27 u28 u29 u30 u31 u32 u33 u34 u35 u36 u37 u38 u39 u40 u41 u42 u43 u44 u45 u46 u47 u48 u49 u50 u51 u52 u53 u54 u55 u56 u57 u58 u59 u60 u61 u62 u63 wc a0 a1 a2 a3 a4 g o cap hrow hb (hall a0 (by simp)) (hall a2 (by simp)) (hall a3 (by simp)) (hall a4 (by simp)) HDoc k1 k2 j hj2 kp ky k5 k8
      | false => exact tail_D s w R u6 u10 u11 u12 u13 u14 u15 u16 u17 u18 u19 u20 u21 u22 u23 u24 u25 u26 u27 u28 u29 u30 u31 u32 u33 u34 u35 u36 u37 u38 u39 u40 u41 u42 u43 u44 u45 u46 u47 u48 u49 u50 u51 u52 u53 u54 u55 u56 u57 u58 u59 u60 u61 u62 u63 wc a0 a1 a2 a3 a4 g o cap hrow hb (hall a0 (by simp)) (hall a2 (by simp)) (hall a3 (by simp)) (hall a4 (by simp)) HDoc k1 k2
  · exact tail_len s w R v4 u6 u10 u11 u12 u13 u14 u15 u16 u17 u18 u19 u20 u21 u22 u23 u24 u25 u26 u27 u28 u29 u30 u31 u32 u33 u34 u35 u36 u37 u38 u39 u40 u41 u42 u43 u44 u45 u46 u47 u48 u49 u50 u51 u52 u53 u54 u55 u56 u57 u58 u59 u60 u61 u62 u63 wc ws h5 HTx HDoc
end Go.Proofs.YtabncmepkoiheaaDoor
