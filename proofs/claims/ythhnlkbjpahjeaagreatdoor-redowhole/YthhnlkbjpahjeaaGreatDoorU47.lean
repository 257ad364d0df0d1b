/- The law's second loop: crash, open, look, again and again. -/
import Derived.Test.YthhnlkbjpahjeaaGreatDoorU46
import Derived.Deep.Cut
import Derived.Deep.CutRange
set_option linter.unusedSimpArgs false
set_option linter.unusedVariables false
namespace Go.Proofs.YthhnlkbjpahjeaaGreatDoor
open Go.RowKit Go.Maps Go.Sort
set_option maxRecDepth 20000 in
set_option maxHeartbeats 16000000 in
theorem whole_loop (a : Nat → Addr) (w0 w : World) (d lg b1 b2 : Nat) (ρ : Nat → Option Role) (s : St) (p : PD) (Al : List Nm) (B : Nm → Nat) (V : Nm → Option (List UInt8)) (ys : List OpA) (b : Bool) (un1 ub1 un2 ub2 : Value) (l1 l2 : List (Nm × Nm)) (v10 : Value) (Ac : Option Addr) (nC cC : Nat) (u0 u1 u3 u4 u5 u6 u7 u8 u11 u14 u15 u16 u17 u18 u19 u20 u21 u22 u23 u24 u25 u26 u27 u28 u29 u30 u31 u32 u33 u34 u35 u36 u37 u38 u39 u40 u41 u42 u43 u44 u45 u46 u47 u48 u49 u50 u51 u52 u53 u54 u55 u56 u57 u58 u59 u60 u61 u62 u63 u64 u65 u66 u67 u68 u69 u70 u71 u72 u73 u74 u75 u76 u77 u78 u79 u80 u81 u82 u83 u84 u85 u86 u87 u88 u89 u90 u91 u92 u93 u94 u95 u96 u97 u98 u99 u100 u101 u102 u103 u104 u105 u106 u107 u108 u109 u110 u111 u112 u113 u114 u115 u116 u117 u118 u119 u120 u121 u122 u123 u124 u125 u126 u127 u128 u129 u130 u131 u132 u133 u134 u135 u136 u137 u138 u139 u140 u141 u142 u143 u144 u145 u146 u147 u148 u149 u150 u151 u152 u153 u154 u155 u156 u157 u158 u159 u160 u161 u162 u163 u164 u165 u166 u167 u168 u169 u170 u171 u172 u173 u174 u175 u176 u177 u178 u179 u180 u181 u182 u183 u184 u185 u186 u187 u188 : Value)
    (hE : Errs w0 a) (h : Held a w0 w d lg b1 b2 ρ s p Al B 300 100 V ys b un1 ub1 un2 ub2 l1 l2) (hcu : CutsR w0 Ac nC) (hn : nC ≤ 8) (hv : (b = true ∧ v10 = .nilIface) ∨ (b = false ∧ v10 = errV a 7)) :
    (seqW (seqW (seqW (seqW (seqW (seqW (seqW (seqW (seqW (seqW (seqW (seqW (seqW (seqW (seqW (Tryz.f3.body.getD .skip)))))))))))))))).wp Tryz.prog (bodyPost Tryz.prog Tryz.f3 (fun e w' => e = .returned (.bool true) ∧ Below w0.heap.size w0 w')) { tmps := #[u0, u1, .slice Ac nC cC, u3, u4, u5, u6, u7, u8, pv d, v10, u11, pv b1, pv b2, u14, u15, u16, u17, u18, u19, u20, u21, u22, u23, u24, u25, u26, u27, u28, u29, u30, u31, u32, u33, u34, u35, u36, u37, u38, u39, u40, u41, u42, u43, u44, u45, u46, u47, u48, u49, u50, u51, u52, u53, u54, u55, u56, u57, u58, u59, u60, u61, u62, u63, u64, u65, u66, u67, u68, u69, u70, u71, u72, u73, u74, u75, u76, u77, u78, u79, u80, u81, u82, u83, u84, u85, u86, u87, u88, u89, u90, u91, u92, u93, u94, u95, u96, u97, u98, u99, u100, u101, u102, u103, u104, u105, u106, u107, u108, u109, u110, u111, u112, u113, u114, u115, u116, u117, u118, u119, u120, u121, u122, u123, u124, u125, u126, u127, u128, u129, u130, u131, u132, u133, u134, u135, u136, u137, u138, u139, u140, u141, u142, u143, u144, u145, u146, u147, u148, u149, u150, u151, u152, u153, u154, u155, u156, u157, u158, u159, u160, u161, u162, u163, u164, u165, u166, u167, u168, u169, u170, u171, u172, u173, u174, u175, u176, u177, u178, u179, u180, u181, u182, u183, u184, u185, u186, u187, u188], defers := [] } w := by
  have HH0 := hide h
  have HV := hide hv
  have HEr := hide hE
  have HCu := hide hcu
  unfold pv
  clear h hE hcu hv
  dsimp only [seqW, Tryz.f3, Option.getD_some]
  apply wp_seq_k
  intro K1 HK1
  go_cut [2] from 14 (fun v2 wq => ∃ ρ s p k, k ≤ 5000 ∧ Hid (Held a w0 wq d lg b1 b2 ρ s p Al B k 100 V ys b un1 ub1 un2 ub2 l1 l2))
  case rest =>
    obtain ⟨ρ', s', p', k', hk', HH'⟩ := hcut
    apply_assumption
    exact whole_end a w0 wc d lg b1 b2 ρ' s' p' Al B k' 100 V ys b un1 ub1 un2 ub2 l1 l2 v10 _ _ _ _ _ _ _ _ _ _ _ _ _ _ _ _ _ _ _ _ _ _ _ _ _ _ _ _ _ _ _ _ _ _ _ _ _ _ _ _ _ _ _ _ _ _ _ _ _ _ _ _ _ _ _ _ _ _ _ _ _ _ _ _ _ _ _ _ _ _ _ _ _ _ _ _ _ _ _ _ _ _ _ _ _ _ _ _ _ _ _ _ _ _ _ _ _ _ _ _ _ _ _ _ _ _ _ _ _ _ _ _ _ _ _ _ _ _ _ _ _ _ _ _ _ _ _ _ _ _ _ _ _ _ _ _ _ _ _ _ _ _ _ _ _ _ _ _ _ _ _ _ _ _ _ _ _ _ _ _ _ _ _ _ _ _ _ _ _ _ _ _ _ _ _ _ _ _ _ _ _ _ _ _ _ HEr.out HH'.out hk' (by omega) HV.out
  case first =>
    go_wp2
    go_loopw [116] (fun v wx => ∃ (i : Nat) (ρ : Nat → Option Role) (s : St) (p : PD), v = .int .i64 i ∧ i ≤ nC ∧ Hid (Held a w0 wx d lg b1 b2 ρ s p Al B (300 + 200 * i) 100 V ys b un1 ub1 un2 ub2 l1 l2)) (fun v _ => nC - (intOf v).toNat)
    case atStart => exact ⟨0, ρ, s, p, rfl, Nat.zero_le _, HH0⟩
    case round =>
      clear HH0
      obtain ⟨i, ρ1, s1, p1, rfl, hin, HH⟩ := hrel
      by_cases hlt : i < nC
      · have hlt' : (i : Int) < nC := by omega
        obtain ⟨g, o, Ai, ni, ci, rfl, hg, hcell, hkp⟩ := HCu.out i hlt
        have hB1 := HH.out.ok.dk.below
        have c1 : wr.cell? ⟨g, o + i, none⟩ = some (.slice Ai ni ci) := (hB1.cell (p := ⟨g, o + i, none⟩) hg).trans hcell
        have HKp := hide hkp
        have hci := hkp.1
        have hcm := hkp.2.1
        have HC := hide (crash_lo (b := b) HH.out.env.lim HH.out.env.fits HH.out.ok (by omega) (by omega) HH.out.sure (keep_in HH.out.ok.dk hkp))
        unfold pv at HC
        clear hkp hcell
        go_wp2_with fail
        refine HC.out.mono ?_
        rintro e w1 ⟨rfl, ρ2, s2, p2, KS, O2, T2, g2, a2, q2⟩
        have HKS := hide KS
        have HO2 := hide O2
        have F12 := hide (HH.out.f1.turn T2)
        have F22 := hide (HH.out.f2.turn T2)
        have HG2 := hide g2
        clear HC KS O2 T2 a2 q2 g2 c1 hB1
        go_upto_if 125 with fail
        go_cut [15] from 117 to 161 (fun v15 wq => v15 = .slice Ai ni ci ∧ ∃ s3, Hid (OK w0 wq d ρ2 s3 p2 Al B (300 + 200 * i + 100) 0) ∧ Hid (s3.off = false) ∧ Hid (Turn w1 wq ρ2 ρ2))
        case first =>
          by_cases h1 : 1 < ni
          · have h1' : (1 : Int) < ni := by omega
            obtain ⟨gi, oi, rfl, hgi, _, hxs⟩ := HKp.out.2.2 (by omega)
            obtain ⟨x, hx, hxm⟩ := hxs 1 h1
            have c2 : w1.cell? ⟨gi, oi + 1, none⟩ = some (.int .i64 x) := (HO2.out.dk.below.cell (p := ⟨gi, oi + 1, none⟩) hgi).trans hx
            have HAr := hide (fun (n : Int) (hn : n ≤ 9223372036854775807) => arm_lo HO2.out hn)
            unfold pv at HAr
            clear hxs hx
            go_wp2_with fail
            refine (HAr.out _ (by omega)).mono ?_
            rintro e w2 ⟨rfl, O3, T3⟩
            replace O3 := hide O3
            replace T3 := hide T3
            go_wp2
            all_goals
              go_meet
              case rel => exact ⟨rfl, _, O3, HG2, T3⟩
          · have h1' : ¬ (1 : Int) < ni := by omega
            go_wp2
            go_meet
            case rel => exact ⟨rfl, s2, HO2, HG2, Turn.refl _ _⟩
        case rest =>
          obtain ⟨rfl, s3, HO3, HG3, HT3⟩ := hcut
          have HO := hide (opens_lo (cb := true) (K := 300 + 200 * i + 174) (J := 16) HEr.out HH.out.env HH.out.form HO3.out HG3.out (fun e => by cases e) (by omega) (by omega) (by omega) (by omega) HKS.out)
          have F13 := hide (F12.out.turn HT3.out)
          have F23 := hide (F22.out.turn HT3.out)
          unfold pv at HO
          clear F12 F22 HO2 HKS HO3 HG3 HT3 HG2
          go_wp2_with fail
          refine HO.out.mono ?_
          rintro e w4 (⟨m, rfl, ρ4, s4, p4, hSh, L4, g4, q4, T4⟩ | ⟨rfl, ρ4, s4, p4, ⟨rfl, hB⟩, O4, g4, q4, _, T4⟩)
          · have F14 := hide (F13.out.turn T4)
            have F24 := hide (F23.out.turn T4)
            have HSh := hide hSh
            have HL4 := hide L4
            have HG4 := hide g4
            clear F13 F23 HO q4 T4 L4 g4
            rcases hSh.2 with hC | ⟨rfl, hC⟩
            · clear hSh
              have HSu := hide (Shows.sure (rec := recB (opsB ys)) (rec_ne ys) HSh.out)
              have HF := hide (files_lo HH.out.env.lim HL4.out HG4.out (by omega) hC (after_redo HH.out.env.fits HH.out.redo))
              unfold pv at HF ⊢
              clear hC
              go_wp2_with fail
              refine HF.out.mono ?_
              rintro e w5 ⟨vn, vb, ns, bs, rfl, t1, t2, hR, hnn, hb5⟩
              obtain ⟨An, cn, rfl, _, _⟩ := t1.form
              obtain ⟨Ab, cb, rfl, _, _⟩ := t2.form
              have F15 := F14.out.then hb5
              have F25 := F24.out.then hb5
              have HL5 := hide (HL4.out.then hb5)
              have HS2 := hide (fun W (hb : Below w5.heap.size w5 W) => same_lo (W := W) (t1.below hb) (t2.below hb) hR hnn (F25.t1.below hb) (F25.t2.below hb))
              have k20 : w5.cell? ⟨b2, 0, none⟩ = some un2 := F25.blk.cell 0
              have k21 : w5.cell? ⟨b2, 1, none⟩ = some ub2 := F25.blk.cell 1
              have lt2 : b2 < w5.heap.size := F25.blk.lt
              have hS : decide (ns = l2.map (·.1) ∧ bs = l2.map (·.2)) = true := same_true hR HH.out.rep2
              rw [hS] at HS2
              obtain ⟨N1, hN1⟩ : ∃ N1, ns.length = N1 := ⟨_, rfl⟩
              obtain ⟨N2, hN2⟩ : ∃ N2, bs.length = N2 := ⟨_, rfl⟩
              rw [hN1, hN2] at HS2 ⊢
              replace F15 := hide F15
              replace F25 := hide F25
              clear HF F14 F24 HL4 hb5 t1 t2 hS hN1 hN2 hR hnn
              go_wp2_with fail
              refine (HS2.out _ (((Below.refl _ _).alloc (Nat.le_refl _) _))).mono ?_
              rintro e w6 ⟨rfl, hb6⟩
              have hbw : Below w5.heap.size w5 w6 := ((Below.refl w5.heap.size w5).alloc (Nat.le_refl _) _).trans (hb6.mono (by simp))
              have F16 := hide (F15.out.then hbw)
              have F26 := hide (F25.out.then hbw)
              have HL6 := hide (HL5.out.then hbw)
              clear hb6 HS2 k20 k21 hbw HL5 F15 F25
              have HAr := hide (arm_lo HL6.out.ok (n := -1) (by decide))
              unfold pv at HAr
              go_wp2_with (go_at_call 12; refine HAr.out.mono ?_; rintro e w8 ⟨rfl, O8, T8⟩; replace O8 := hide O8; replace T8 := hide T8)
              go_roundw
              case rel => exact ⟨i + 1, _, _, _, by go_num, by omega, ⟨HH.out.env, HH.out.form, HH.out.redo, O8.out.mono (by omega) (by omega), HSu.out, HH.out.rep1, HH.out.rep2, F16.out.turn T8.out, F26.out.turn T8.out⟩⟩
              case measure => simp [intOf]; omega
            · clear hSh
              obtain rfl : v10 = .iface 191 (.pointer (some (a 7))) := by
                rcases HV.out with ⟨e, _⟩ | ⟨_, e⟩
                · cases e
                · exact e
              have HSu := hide (Shows.sure (rec := recB (opsB ys)) (rec_ne ys) HSh.out)
              have HF := hide (files_lo HH.out.env.lim HL4.out HG4.out (by omega) hC HH.out.redo)
              unfold pv at HF ⊢
              clear hC
              go_wp2_with fail
              refine HF.out.mono ?_
              rintro e w5 ⟨vn, vb, ns, bs, rfl, t1, t2, hR, hnn, hb5⟩
              obtain ⟨An, cn, rfl, _, _⟩ := t1.form
              obtain ⟨Ab, cb, rfl, _, _⟩ := t2.form
              have F15 := F14.out.then hb5
              have F25 := F24.out.then hb5
              have HL5 := hide (HL4.out.then hb5)
              have HS1 := hide (fun W (hb : Below w5.heap.size w5 W) => same_lo (W := W) (t1.below hb) (t2.below hb) hR hnn (F15.t1.below hb) (F15.t2.below hb))
              have HS2 := hide (fun W (hb : Below w5.heap.size w5 W) => same_lo (W := W) (t1.below hb) (t2.below hb) hR hnn (F25.t1.below hb) (F25.t2.below hb))
              have k10 : w5.cell? ⟨b1, 0, none⟩ = some un1 := F15.blk.cell 0
              have k11 : w5.cell? ⟨b1, 1, none⟩ = some ub1 := F15.blk.cell 1
              have lt1 : b1 < w5.heap.size := F15.blk.lt
              have k20 : w5.cell? ⟨b2, 0, none⟩ = some un2 := F25.blk.cell 0
              have k21 : w5.cell? ⟨b2, 1, none⟩ = some ub2 := F25.blk.cell 1
              have lt2 : b2 < w5.heap.size := F25.blk.lt
              have hS : decide (ns = l1.map (·.1) ∧ bs = l1.map (·.2)) = true := same_true hR HH.out.rep1
              rw [hS] at HS1
              obtain ⟨t, ht⟩ : ∃ t, decide (ns = l2.map (·.1) ∧ bs = l2.map (·.2)) = t := ⟨_, rfl⟩
              rw [ht] at HS2
              obtain ⟨N1, hN1⟩ : ∃ N1, ns.length = N1 := ⟨_, rfl⟩
              obtain ⟨N2, hN2⟩ : ∃ N2, bs.length = N2 := ⟨_, rfl⟩
              rw [hN1, hN2] at HS1 HS2 ⊢
              replace F15 := hide F15
              replace F25 := hide F25
              clear HF F14 F24 HL4 hb5 t1 t2 hS hN1 hN2 hR hnn ht
              go_wp2_with fail
              refine (HS2.out _ (((Below.refl _ _).alloc (Nat.le_refl _) _))).mono ?_
              rintro e w6 ⟨rfl, hb6⟩
              have hbw : Below w5.heap.size w5 w6 := ((Below.refl w5.heap.size w5).alloc (Nat.le_refl _) _).trans (hb6.mono (by simp))
              cases t with
              | true =>
                have F16 := hide (F15.out.then hbw)
                have F26 := hide (F25.out.then hbw)
                have HL6 := hide (HL5.out.then hbw)
                clear hb6 HS1 HS2 k10 k11 k20 k21 hbw HL5 F15 F25
                have HAr := hide (arm_lo HL6.out.ok (n := -1) (by decide))
                unfold pv at HAr
                go_wp2_with (go_at_call 12; refine HAr.out.mono ?_; rintro e w8 ⟨rfl, O8, T8⟩; replace O8 := hide O8; replace T8 := hide T8)
                go_roundw
                case rel => exact ⟨i + 1, _, _, _, by go_num, by omega, ⟨HH.out.env, HH.out.form, HH.out.redo, O8.out.mono (by omega) (by omega), HSu.out, HH.out.rep1, HH.out.rep2, F16.out.turn T8.out, F26.out.turn T8.out⟩⟩
                case measure => simp [intOf]; omega
              | false =>
                have c10 : w6.cell? ⟨b1, 0, none⟩ = some un1 := (hbw.cell (p := ⟨b1, 0, none⟩) lt1).trans k10
                have c11 : w6.cell? ⟨b1, 1, none⟩ = some ub1 := (hbw.cell (p := ⟨b1, 1, none⟩) lt1).trans k11
                have c30 : w6.cell? ⟨w5.heap.size, 0, none⟩ = some (.slice An N1 cn) := (hb6.cell (p := ⟨w5.heap.size, 0, none⟩) (by simp)).trans (by simp)
                have c31 : w6.cell? ⟨w5.heap.size, 1, none⟩ = some (.slice Ab N2 cb) := (hb6.cell (p := ⟨w5.heap.size, 1, none⟩) (by simp)).trans (by simp)
                have HC1 := hide (HS1.out w6 hbw)
                have HBw := hide hbw
                clear hb6 HS2 HS1 k20 k21 k10 k11 hbw
                go_wp2_with fail
                refine HC1.out.mono ?_
                rintro e w7 ⟨rfl, hb7⟩
                have hbx := HBw.out.trans (hb7.mono HBw.out.size)
                have F16 := hide (F15.out.then hbx)
                have F26 := hide (F25.out.then hbx)
                have HL6 := hide (HL5.out.then hbx)
                clear hb7 hbx HC1 HBw HL5 F15 F25 c10 c11 c30 c31
                have HAr := hide (arm_lo HL6.out.ok (n := -1) (by decide))
                unfold pv at HAr
                go_wp2_with (go_at_call 12; refine HAr.out.mono ?_; rintro e w8 ⟨rfl, O8, T8⟩; replace O8 := hide O8; replace T8 := hide T8)
                go_roundw
                case rel => exact ⟨i + 1, _, _, _, by go_num, by omega, ⟨HH.out.env, HH.out.form, HH.out.redo, O8.out.mono (by omega) (by omega), HSu.out, HH.out.rep1, HH.out.rep2, F16.out.turn T8.out, F26.out.turn T8.out⟩⟩
                case measure => simp [intOf]; omega
          · have F14 := hide (F13.out.turn T4)
            have F24 := hide (F23.out.turn T4)
            replace O4 := hide O4
            replace hB := hide hB
            clear F13 F23 HO q4 T4 g4
            unfold errV
            go_wp2
            go_roundw
            case rel => exact ⟨i + 1, _, _, _, by go_num, by omega, ⟨HH.out.env, HH.out.form, HH.out.redo, O4.out.mono (by omega) (by omega), .inr ⟨rfl, hB.out⟩, HH.out.rep1, HH.out.rep2, F14.out, F24.out⟩⟩
            case measure => simp [intOf]; omega
      · obtain rfl : nC = i := by omega
        go_wp2
        go_meet
        case rel => exact ⟨ρ1, s1, p1, _, by omega, HH⟩
end Go.Proofs.YthhnlkbjpahjeaaGreatDoor
