/- The document's Parse of sections: the names. -/
import Derived.Test.YtegplihhbdmnbaaGreatDoorU41
set_option linter.unusedVariables false
set_option linter.unusedSimpArgs false
namespace Go.Proofs.YtegplihhbdmnbaaGreatDoor
open Go.RowKit Go.Shelf
set_option maxRecDepth 20000 in
set_option maxHeartbeats 8000000 in
theorem rparse_names (t word WH : List UInt8) (PATH : List Int) (i K wl : Nat) (A : Option Addr) (cA : Nat) (w wc : World) (ht : t.length ≤ 2000) (hPl : PATH.length ≤ 2000) (hiK : i ≤ K) (hKl : K ≤ t.length) (hwK : K - i = wl) (HW1 : Hid ((t.drop i).take wl = word)) (HWU : Hid (word.map upB = WH)) (HWL : Hid (WH.length = K - i)) (HLOP : Hid (Lo (w.heap.size + 2) (.slice A PATH.length cA))) (CC : List UInt8) (HW2 : Hid (t.drop K = CC)) (HD2 : Hid (DP w wc #[.slice A PATH.length cA, .string ⟨WH.toArray⟩, .slice none 0 0])) (HR2 : Hid (RowOf siF 1 (w.heap.size + 2) wc (.slice A PATH.length cA) PATH)) (HDO : Hid (docO t = if rgtB ⟨PATH, WH, rdL CC⟩ = true ∧ secT ⟨PATH, WH, rdL CC⟩ = t.take i ++ (WH ++ t.drop K) then some ⟨PATH, WH, rdL CC⟩ else none)) (u1 u6 u8 u9 u10 u11 u12 u13 u14 u15 u16 u17 u18 u19 u20 u21 u22 u23 u24 u25 u26 u27 u28 u29 u30 u31 u32 u33 u34 u35 u36 u37 u38 u39 u40 u41 u42 u43 u44 u45 u46 u47 u48 u49 u50 u51 u52 u53 u54 u55 u56 u57 u58 u59 u60 u61 u62 u63 u64 u65 u66 u67 u68 u69 u70 u71 u72 u73 u74 u75 u76 u77 u78 u79 u80 u81 u82 u83 u84 u85 u86 u87 u88 u89 u90 u91 u92 u93 u94 u95 u96 u97 u98 u99 u100 u101 u102 u103 u104 u105 u106 u107 u108 u109 u110 u111 u112 u113 u114 u115 u116 u117 u118 u119 u120 u121 u122 u123 u124 u125 u126 u127 u128 u129 u130 u131 u132 u133 u134 u135 u136 u137 u138 u139 u140 u141 u142 u143 u144 u145 u146 u147 u148 u149 u150 u151 u152 u153 u154 u155 u156 u157 u158 u159 u160 u161 u162 u163 u164 u165 u166 u167 u168 u169 u170 u171 u172 u173 u174 u175 u176 u177 u178 u179 : Value) :
    (seqR (seqR (seqR (seqR (seqR (seqR (seqR (Tryz.f7.body.getD .skip)))))))).wp Tryz.prog (bodyPost Tryz.prog Tryz.f7 (DocOut w (docO t))) { tmps := #[.string ⟨t.toArray⟩, u1, .pointer (some ⟨w.heap.size, 0, none⟩), .bool false, .pointer (some ⟨w.heap.size + 1, 0, none⟩), .int .i64 (i : Nat), u6, .int .i64 (K : Nat), u8, u9, u10, u11, u12, u13, u14, u15, u16, u17, u18, u19, u20, u21, u22, u23, u24, u25, u26, u27, u28, u29, u30, u31, u32, u33, u34, u35, u36, u37, u38, u39, u40, u41, u42, u43, u44, u45, u46, u47, u48, u49, u50, u51, u52, u53, u54, u55, u56, u57, u58, u59, u60, u61, u62, u63, u64, u65, u66, u67, u68, u69, u70, u71, u72, u73, u74, u75, u76, u77, u78, u79, u80, u81, u82, u83, u84, u85, u86, u87, u88, u89, u90, u91, u92, u93, u94, u95, u96, u97, u98, u99, u100, u101, u102, u103, u104, u105, u106, u107, u108, u109, u110, u111, u112, u113, u114, u115, u116, u117, u118, u119, u120, u121, u122, u123, u124, u125, u126, u127, u128, u129, u130, u131, u132, u133, u134, u135, u136, u137, u138, u139, u140, u141, u142, u143, u144, u145, u146, u147, u148, u149, u150, u151, u152, u153, u154, u155, u156, u157, u158, u159, u160, u161, u162, u163, u164, u165, u166, u167, u168, u169, u170, u171, u172, u173, u174, u175, u176, u177, u178, u179], defers := [] } wc := by
  have hsz := size_lit t
  dsimp only [seqR, Tryz.f7, Option.getD_some]
  go_upto_region 15 with fail
  have hccl : CC.length = t.length - K := by rw [← HW2.out, List.length_drop]
  obtain ⟨op, hop⟩ : ∃ b, decide (3 ≤ CC.length ∧ CC[1]? = some 40) = b := ⟨_, rfl⟩
  have HOP := hide hop
  clear hop
  go_cut [106] from 8 (fun v106 wq => wc = wq ∧ v106 = .bool op)
  case first =>
    by_cases h1 : K + 2 < t.length
    · have h1' : (K : Int) + 2 < t.length := by omega
      obtain ⟨c, hc, hat⟩ := sf_at t (K + 1) (by omega)
      have hcc1 : CC[1]? = some c := by
        rw [← HW2.out, List.getElem?_drop, List.getElem?_eq_getElem (by omega : K + 1 < t.length), hc]
      have hat' : ∀ h : K + 1 < (⟨t.toArray⟩ : ByteArray).size, (⟨t.toArray⟩ : ByteArray)[K + 1]'h = c := hat
      by_cases h40 : c = 40
      · have he : op = true := by
          rw [← HOP.out, decide_eq_true_eq]
          exact ⟨by omega, by rw [hcc1, h40]⟩
        subst he
        subst h40
        clear hc hcc1 hat'
        go_wp2
        go_meet
        case rel => exact ⟨rfl, rfl⟩
      · have he : op = false := by
          rw [← HOP.out, decide_eq_false_iff_not]
          intro e
          rw [hcc1] at e
          exact h40 (Option.some.inj e.2)
        subst he
        have l4 : ((c.toNat : Int) == 40) = false := by rw [beq_eq_false_iff_ne]; exact fun e => h40 (UInt8.toNat_inj.1 (Int.ofNat.inj e))
        clear hc hcc1 hat' h40
        go_wp2
        go_meet
        case rel => exact ⟨rfl, rfl⟩
    · have h1' : ¬ (K : Int) + 2 < t.length := by omega
      have he : op = false := by
        rw [← HOP.out, decide_eq_false_iff_not]
        intro e
        omega
      subst he
      go_wp2
      go_meet
      case rel => exact ⟨rfl, rfl⟩
  case rest =>
    obtain ⟨hww, rfl⟩ := hcut
    subst hww
    obtain ⟨NAMES, hNM⟩ : ∃ x, rdL CC = x := ⟨_, rfl⟩
    rw [hNM] at HDO
    have HNM : Hid (NAMES = if op = true then rdS [] (CC.drop 2) else []) := by
      show _ = _
      rw [← hNM, ← HOP.out]
      unfold rdL
      by_cases h : 3 ≤ CC.length ∧ CC[1]? = some 40
      · rw [if_pos h, if_pos (decide_eq_true h)]
      · rw [if_neg h, if_neg (by simpa using h)]
    clear hNM
    have HRP := hide (HR2.out.reads siF_len)
    have HLO := hide HR2.out.lo
    go_upto_if 106 with fail
    go_cut [7] from 8 (fun v7 wq => v7 = .int .i64 (K : Nat) ∧ ∃ nv, Hid (ReadOf ssF 1 wq nv NAMES) ∧ Hid (Lo (w.heap.size + 2) nv) ∧ Hid (DP w wq #[.slice A PATH.length cA, .string ⟨WH.toArray⟩, nv]) ∧ Hid (ReadOf siF 1 wq (.slice A PATH.length cA) PATH))
    case first =>
      cases op with
      | false =>
        have he : NAMES = [] := HNM.out
        go_wp2
        go_meet
        case rel => exact ⟨rfl, .slice none 0 0, by rw [he]; exact ReadOf.nil _ _ _, (fun _ _ _ e => by cases e), HD2, HRP⟩
      | true =>
        obtain ⟨i1, hj, hy0, hy1, hy2⟩ := seInfo seStrInfoD
        have hK2 : K + 3 ≤ t.length := by
          have := (of_decide_eq_true HOP.out).1
          omega
        have HS0 : Hid (([] : List (List UInt8)) ++ rdS ((t.drop (K + 2)).take (K + 2 - (K + 2))) (t.drop (K + 2)) = NAMES) := by
          show _ = _
          rw [HNM.out, if_pos rfl, ← HW2.out, List.drop_drop]
          simp
        go_wp2_with fail
        go_loopw [8, 9] (fun v8 v9 wr => ∃ (fr p : Nat) (ns : List (List UInt8)) (nv : Value), fr ≤ p ∧ p ≤ t.length ∧ v8 = .int .i64 fr ∧ v9 = .int .i64 p ∧ ns.length ≤ p ∧ wc.heap.size ≤ wr.heap.size ∧ Hid (ns ++ rdS ((t.drop fr).take (p - fr)) (t.drop p) = NAMES) ∧ Hid (RowOf ssF 1 wc.heap.size wr nv ns) ∧ Hid (DP w wr #[.slice A PATH.length cA, .string ⟨WH.toArray⟩, nv]) ∧ Hid (ReadOf siF 1 wr (.slice A PATH.length cA) PATH)) (fun _ v9 _ => t.length - (intOf v9).toNat)
        case atStart => exact ⟨K + 2, K + 2, [], .slice none 0 0, Nat.le_refl _, by omega, by go_num, by go_num, Nat.zero_le _, Nat.le_refl _, HS0, RowOf.nil _ _ _ _, HD2, HRP⟩
        case round =>
          obtain ⟨fr, p, ns, nv, hfp, hpl, rfl, rfl, hnl, hwr, HS, HNR, HD3, HR3⟩ := hrel
          clear HS0
          obtain ⟨A2, c2, rfl⟩ := HNR.out.form
          have hcO := HD3.out.out.cell
          have hfO := HD3.out.out.frozen
          have hlO := HD3.out.out.lt
          have hwcl : w.heap.size + 1 < wc.heap.size := HD2.out.out.lt
          by_cases hlt : p < t.length
          · have hlt' : (p : Int) < t.length := by omega
            obtain ⟨c, hc, hat⟩ := sf_at t p hlt
            have hdp : t.drop p = c :: t.drop (p + 1) := by rw [drop_cons hlt, hc]
            by_cases hsep : c = 32 ∨ c = 41
            · have HS2 : Hid ((ns ++ [(t.drop fr).take (p - fr)]) ++ rdS ((t.drop (p + 1)).take (p + 1 - (p + 1))) (t.drop (p + 1)) = NAMES) := by
                have := HS.out
                rw [hdp, rdS, if_pos hsep] at this
                show _ = _
                rw [← this]
                simp
              have hsl := sl2 t fr p hfp (by omega)
              obtain ⟨PC, hPC⟩ : ∃ x, (t.drop fr).take (p - fr) = x := ⟨_, rfl⟩
              rw [hPC] at HS2 hsl
              clear hPC hc hdp HS
              obtain ⟨G, hr, hG⟩ := HNR.out
              have HRO : Hid (Rw (wr.drew.alloc (.cells #[.string ⟨PC.toArray⟩] 9)) 1 (.slice A2 ns.length c2) ns.length (ns.flatMap ssF) G) := hr.keep (S := fun _ => False) ((Mvs.refl _ wr).drew.alloc _) (fun _ _ c => c)
              have HSR : Hid (Src Tryz.prog 1 24 (.slice (some ⟨wr.heap.size, 0, none⟩) 1 1) 1 [.string ⟨PC.toArray⟩] (wr.drew.alloc (.cells #[.string ⟨PC.toArray⟩] 9))) := seSrcStrD (w := wr.drew) PC rfl
              replace hG := hide hG
              clear hr
              have l32 : c = 32 ∨ (((c.toNat : Int) == 32) = false ∧ c = 41) := by
                rcases hsep with h | h
                · exact .inl h
                · exact .inr ⟨by rw [h]; rfl, h⟩
              clear hsep
              rcases l32 with rfl | ⟨l1, rfl⟩
              all_goals
                go_wp2
                go_region_law (
                  refine step_append_rw rfl (.tmp 127) (.tmp 132) 24 24 rfl 9 i1 (.string ⟨#[]⟩) 1 16 Tryz.underlying24 hj hy0 hy1 hy2 rfl (by simp [Act.eval]) HRO.out _ 1 [.string ⟨PC.toArray⟩] (by simp [Act.eval]) HSR.out (by simp only [maxLen]; omega) (by omega) ?_
                  intro v4 w4 G4 hr4 hm4 hg4
                  have HN4 : Hid (RowOf ssF 1 wc.heap.size w4 v4 (ns ++ [PC])) := RowOf.growN hG.out hr4 hg4 (by simp; omega)
                  have HD4 : Hid (DP w w4 #[.slice A PATH.length cA, .string ⟨WH.toArray⟩, .slice A2 ns.length c2]) := (HD3.out.below (((Below.refl _ wr).drew).alloc (Nat.le_refl _) _)).mvs hm4 (fun k hk e => by have := hG.out k e.symm; omega)
                  have HR4 : Hid (ReadOf siF 1 w4 (.slice A PATH.length cA) PATH) := (HR3.out.below (((Below.refl _ wr).drew).alloc (Nat.le_refl _) _)).keepM hm4 (fun hx A' n c e eS => by have h1 := hG.out _ eS.symm; have h2 := HRP.out.lt0 hx A' n c e; omega)
                  obtain ⟨A4, c4, hv4⟩ := HN4.out.form
                  rw [show (ns ++ [PC]).length = ns.length + 1 by simp] at hv4
                  subst hv4
                  have hcO4 := HD4.out.out.cell
                  have hfO4 := HD4.out.out.frozen
                  have hlO4 := HD4.out.out.lt
                  have hsz4 : wc.heap.size ≤ w4.heap.size := by have := hm4.size; simp at this; omega
                  clear hr4 hm4 hg4)
                all_goals
                  go_wp2
                  go_roundw
                  case rel => exact ⟨p + 1, p + 1, ns ++ [PC], .slice A4 (ns.length + 1) c4, Nat.le_refl _, by omega, by go_num, by go_num, by rw [List.length_append]; simp; omega, by simpa using hsz4, HS2, HN4.out.set_low ⟨w.heap.size + 1, 2, none⟩ _ (by dsimp only; omega), HD4.out.set 2 _, HR4.out.set_other ⟨w.heap.size + 1, 2, none⟩ _ (fun hx A' n c e => by have := HLO.out A' n c e; dsimp only; omega)⟩
                  case measure => simp [intOf]; omega
            · have HS2 : Hid (ns ++ rdS ((t.drop fr).take (p + 1 - fr)) (t.drop (p + 1)) = NAMES) := by
                have := HS.out
                rw [hdp, rdS, if_neg hsep] at this
                show _ = _
                rw [← this]
                congr 2
                rw [show p + 1 - fr = (p - fr) + 1 by omega, List.take_succ_eq_append_getElem (by rw [List.length_drop]; omega)]
                congr 2
                rw [List.getElem_drop]
                simp only [show fr + (p - fr) = p by omega]
                exact hc
              have l1 : ((c.toNat : Int) == 32) = false := by rw [beq_eq_false_iff_ne]; exact fun e => hsep (.inl (UInt8.toNat_inj.1 (Int.ofNat.inj e)))
              have l2 : ((c.toNat : Int) == 41) = false := by rw [beq_eq_false_iff_ne]; exact fun e => hsep (.inr (UInt8.toNat_inj.1 (Int.ofNat.inj e)))
              clear hc hdp HS hsep
              go_wp2
              go_roundw
              case rel => exact ⟨fr, p + 1, ns, _, by omega, by omega, rfl, by go_num, by omega, hwr, HS2, HNR, HD3, HR3⟩
              case measure => simp [intOf]; omega
          · have hlt' : ¬ (p : Int) < t.length := by omega
            have he : ns = NAMES := by
              have := HS.out
              rw [List.drop_of_length_le (by omega : t.length ≤ p)] at this
              simpa [rdS] using this
            clear HS
            subst he
            go_wp2
            go_meet
            case rel => exact ⟨rfl, _, HNR.out.reads ssF_lenD, (fun A n c e => by have := HNR.out.lo A n c e; omega), HD3, HR3⟩
    case rest =>
      obtain ⟨rfl, nv, HNV, HNLO, HD3, HRP3⟩ := hcut
      have hnb : NAMES.length ≤ 2000 ∧ ∀ x ∈ NAMES, x.length ≤ 2000 := by
        rw [HNM.out]
        split
        · obtain ⟨h1, h2⟩ := rdS_bd (CC.drop 2) []
          rw [List.length_drop] at h1 h2
          refine ⟨by omega, fun x hx => ?_⟩
          have := h2 x hx
          simp only [List.length_nil] at this
          omega
        · exact ⟨by simp, (fun x hx => by cases hx)⟩
      apply_assumption
      exact rparse_tail t word WH PATH i K wl A cA w _ ht hPl hiK hKl hwK HW1 HWU HWL HLOP NAMES nv HNV HNLO HD3 HRP3 hnb HDO _ _ _ _ _ _ _ _ _ _ _ _ _ _ _ _ _ _ _ _ _ _ _ _ _ _ _ _ _ _ _ _ _ _ _ _ _ _ _ _ _ _ _ _ _ _ _ _ _ _ _ _ _ _ _ _ _ _ _ _ _ _ _ _ _ _ _ _ _ _ _ _ _ _ _ _ _ _ _ _ _ _ _ _ _ _ _ _ _ _ _ _ _ _ _ _ _ _ _ _ _ _ _ _ _ _ _ _ _ _ _ _ _ _ _ _ _ _ _ _ _ _ _ _ _ _ _ _ _ _ _ _ _ _ _ _ _ _ _ _ _ _ _ _ _ _ _ _ _ _ _ _ _ _ _ _ _ _ _ _ _ _ _ _ _ _ _ _ _ _ _ _ _ _ 
end Go.Proofs.YtegplihhbdmnbaaGreatDoor
