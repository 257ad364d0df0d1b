/- The law, from the look at the files behind the first Commit to the second loop. -/
import Derived.Test.YthhnlkbjpahjeaaGreatDoorU47
set_option linter.unusedSimpArgs false
set_option linter.unusedVariables false
namespace Go.Proofs.YthhnlkbjpahjeaaGreatDoor
open Go.RowKit Go.Maps Go.Sort
/-- What stands between the first Commit and the second. -/
structure Begun (w0 w : World) (d lg b1 : Nat) (ρ : Nat → Option Role) (s : St) (p : PD) (Al : List Nm) (B : Nm → Nat) (V : Nm → Option (List UInt8)) (un1 ub1 : Value) (l1 : List (Nm × Nm)) : Prop where
  lim : Lim Al B
  lo : LO w0 w lg d false ρ s p Al B 80 20
  off : s.off = false
  quo : s.quota = 1048576
  calm : Calm V redoN [] p
  op : p.op = none
  redo : V redoN = none
  rep1 : PRep V l1
  num : l1.length ≤ 100
  vals : ∀ x ∈ l1, x.2.length ≤ 1000000
  f1 : FileAt w ρ lg b1 un1 ub1 l1
theorem Begun.then {w0 w w' : World} {d lg b1 : Nat} {ρ : Nat → Option Role} {s : St} {p : PD} {Al : List Nm} {B : Nm → Nat} {V : Nm → Option (List UInt8)} {un1 ub1 : Value} {l1 : List (Nm × Nm)} (h : Begun w0 w d lg b1 ρ s p Al B V un1 ub1 l1) (hb : Below w.heap.size w w') : Begun w0 w' d lg b1 ρ s p Al B V un1 ub1 l1 :=
  ⟨h.lim, h.lo.then hb, h.off, h.quo, h.calm, h.op, h.redo, h.rep1, h.num, h.vals, h.f1.then hb⟩
/-- What is known of the second change. -/
structure Second (w0 : World) (v2 : Value) (ys : List OpA) (Al : List Nm) (B : Nm → Nat) (V : Nm → Option (List UInt8)) : Prop where
  ops : OPs w0 v2 ys
  size : sizeOps ys ≤ 1000000
  num : ys.length ≤ 20001
  sum : (ys.map (fun x => x.bytes.length)).sum ≤ 1000000
  al : formB ys = true → ∀ x ∈ ys, x.name ∈ Al
  len : formB ys = true → ∀ x ∈ ys, ((V x.name).getD []).length + x.bytes.length ≤ B x.name
  recd : formB ys = true → (recB (opsB ys)).length ≤ B redoN
theorem form_is {ys : List OpA} (hf : formB ys = true) : ∀ x ∈ ys, Is x (chOf x) := fun x hx => by
  have := opForm_parts (((good_allN (form_parts hf).2.2.1).1 x hx).1)
  exact ⟨by show x.kind = ((x.kind.toNat : Nat) : Int); omega, rfl, by show x.at_ = ((x.at_.toNat : Nat) : Int); omega, rfl⟩
theorem Second.env {w0 : World} {v2 : Value} {ys : List OpA} {Al : List Nm} {B : Nm → Nat} {V : Nm → Option (List UInt8)} (h : Second w0 v2 ys Al B V) (hl : Lim Al B) (hf : formB ys = true) (hfit : Fits V (ys.map chOf) redoN) : Env V (ys.map chOf) Al B := by
  refine ⟨hl, hfit, ?_, ?_⟩
  · intro c hc
    obtain ⟨y, hy, rfl⟩ := List.mem_map.1 hc
    exact h.al hf y hy
  · intro c hc
    obtain ⟨y, hy, rfl⟩ := List.mem_map.1 hc
    exact h.len hf y hy
set_option maxRecDepth 20000 in
set_option maxHeartbeats 16000000 in
theorem whole_refused (a : Nat → Addr) (w0 w : World) (d lg b1 : Nat) (ρ : Nat → Option Role) (s : St) (p : PD) (Al : List Nm) (B : Nm → Nat) (V : Nm → Option (List UInt8)) (ys : List OpA) (un1 ub1 : Value) (l1 : List (Nm × Nm)) (v2 : Value) (Ac : Option Addr) (nC cC : Nat) (b2 i : Nat) (v10 : Value) (u0 u1 u3 u4 u5 u6 u7 u8 u14 u15 u16 u17 u18 u19 u20 u21 u22 u23 u24 u25 u26 u27 u28 u29 u30 u31 u32 u33 u34 u35 u36 u37 u38 u39 u40 u41 u42 u43 u44 u45 u46 u47 u48 u49 u50 u51 u52 u53 u54 u55 u56 u57 u58 u59 u60 u61 u62 u63 u64 u65 u66 u67 u68 u69 u70 u71 u72 u73 u74 u75 u76 u77 u78 u79 u80 u81 u82 u83 u84 u85 u86 u87 u88 u89 u90 u91 u92 u93 u94 u95 u96 u97 u98 u99 u100 u101 u102 u103 u104 u105 u106 u107 u108 u109 u110 u111 u112 u113 u114 u115 u116 u117 u118 u119 u120 u121 u122 u123 u124 u125 u126 u127 u128 u129 u130 u131 u132 u133 u134 u135 u136 u137 u138 u139 u140 u141 u142 u143 u144 u145 u146 u147 u148 u149 u150 u151 u152 u153 u154 u155 u156 u157 u158 u159 u160 u161 u162 u163 u164 u165 u166 u167 u168 u169 u170 u171 u172 u173 u174 u175 u176 u177 u178 u179 u180 u181 u182 u183 u184 u185 u186 u187 u188 : Value)
    (hE : Errs w0 a) (h : Begun w0 w d lg b1 ρ s p Al B V un1 ub1 l1) (hi : i < 13) (hi7 : i ≠ 7) (hv : v10 = errV a i) :
    (seqW (seqW (seqW (seqW (seqW (seqW (seqW (seqW (seqW (seqW (seqW (seqW (seqW (seqW (Tryz.f3.body.getD .skip))))))))))))))).wp Tryz.prog (bodyPost Tryz.prog Tryz.f3 (fun e w' => e = .returned (.bool true) ∧ Below w0.heap.size w0 w')) { tmps := #[u0, u1, .slice Ac nC cC, u3, u4, u5, u6, u7, u8, pv d, v10, pv lg, pv b1, pv b2, u14, u15, u16, u17, u18, u19, u20, u21, u22, u23, u24, u25, u26, u27, u28, u29, u30, u31, u32, u33, u34, u35, u36, u37, u38, u39, u40, u41, u42, u43, u44, u45, u46, u47, u48, u49, u50, u51, u52, u53, u54, u55, u56, u57, u58, u59, u60, u61, u62, u63, u64, u65, u66, u67, u68, u69, u70, u71, u72, u73, u74, u75, u76, u77, u78, u79, u80, u81, u82, u83, u84, u85, u86, u87, u88, u89, u90, u91, u92, u93, u94, u95, u96, u97, u98, u99, u100, u101, u102, u103, u104, u105, u106, u107, u108, u109, u110, u111, u112, u113, u114, u115, u116, u117, u118, u119, u120, u121, u122, u123, u124, u125, u126, u127, u128, u129, u130, u131, u132, u133, u134, u135, u136, u137, u138, u139, u140, u141, u142, u143, u144, u145, u146, u147, u148, u149, u150, u151, u152, u153, u154, u155, u156, u157, u158, u159, u160, u161, u162, u163, u164, u165, u166, u167, u168, u169, u170, u171, u172, u173, u174, u175, u176, u177, u178, u179, u180, u181, u182, u183, u184, u185, u186, u187, u188], defers := [] } w := by
  have HN := hide (num_err i hi w a (hE.below h.lo.lg.dk.below))
  have HH := hide h
  have hne : ((i : Int) + 1 != 8) = true := bne_iff_ne.2 (by omega)
  subst hv
  unfold pv errV
  clear h hE hi7 hi
  dsimp only [seqW, Tryz.f3, Option.getD_some]
  go_wp2_with fail
  refine HN.out.mono ?_
  rintro e w1 ⟨rfl, hb1⟩
  replace HH := hide (HH.out.then hb1)
  clear hb1 HN
  obtain ⟨W, hW⟩ : ∃ W, w1 = W := ⟨_, rfl⟩
  subst hW
  clear w
  rename World => w
  have F1 := hide HH.out.f1
  have k10 : w.cell? ⟨b1, 0, none⟩ = some un1 := F1.out.blk.cell 0
  have k11 : w.cell? ⟨b1, 1, none⟩ = some ub1 := F1.out.blk.cell 1
  have HRep := hide HH.out.rep1
  have HF := hide (files_lo HH.out.lim (HH.out.lo.then (Below.refl _ _).drew) HH.out.off (by omega) HH.out.calm HH.out.redo)
  have HB0 := hide HH.out.lo.lg.dk.below
  unfold pv at HF
  go_upto_region 27 with fail
  refine regionL 3 (fun W => W.cell? ⟨b1, 0, none⟩ = some un1 ∧ W.cell? ⟨b1, 1, none⟩ = some ub1) (by kernel_rfl) ?_
  have HT0 : (fun W : World => W.cell? ⟨b1, 0, none⟩ = some un1 ∧ W.cell? ⟨b1, 1, none⟩ = some ub1) w.drew := ⟨k10, k11⟩
  refine takeW (i := 0) (v := (.pointer (some ⟨lg, 0, none⟩))) rfl (by kernel_rfl) (by kernel_rfl) (by kernel_rfl) rfl (fun _ _ _ h => h) (fun _ => HT0) (Or.inl ⟨by rfl, fun W _ => by go_simp⟩) ?_
  try simp only [Act.put, List.getElem_toArray, List.getElem_cons_succ, List.getElem_cons_zero, List.setIfInBounds_toArray, List.set_cons_zero, List.set_cons_succ]
  refine takeL (i := 2) (v := (.agg #[un1, ub1])) rfl (by kernel_rfl) (by kernel_rfl) (by kernel_rfl) (by kernel_rfl) (by kernel_rfl) (fun _ _ _ h => h) HT0 (Or.inl ⟨by rfl, fun W hW => by obtain ⟨t0, t1⟩ := hW; go_simp⟩) ?_
  try simp only [Act.put, List.getElem_toArray, List.getElem_cons_succ, List.getElem_cons_zero, List.setIfInBounds_toArray, List.set_cons_zero, List.set_cons_succ]
  refine readyL (rs := [1]) (by kernel_rfl) (by simp) ?_
  refine AllL.cons rfl (fun K hK => ?_) AllL.nil
  try simp only [List.getElem_toArray, List.getElem_cons_succ, List.getElem_cons_zero]
  go_simp
  refine HF.out.mono ?_
  rintro e w3 ⟨vn, vb, ns, bs, rfl, t1, t2, hR, hnn, hb3⟩
  have hb3w : Below w.heap.size w w3 := ((Below.refl w.heap.size w).drew).trans hb3
  have F13 := F1.out.then hb3w
  refine hK.out _ _ (fun _ => ⟨F13.blk.cell 0, F13.blk.cell 1⟩) (fun _ => ?_)
  clear hK K HT0
  try simp only [Act.put, List.getElem_toArray, List.getElem_cons_succ, List.getElem_cons_zero, List.setIfInBounds_toArray, List.set_cons_zero, List.set_cons_succ]
  have HS := hide (same_lo (W := w3) t1 t2 hR hnn F13.t1 F13.t2)
  rw [show decide (ns = l1.map (·.1) ∧ bs = l1.map (·.2)) = true from same_true hR HRep.out] at HS
  have HB3 := hide hb3w
  clear HF t1 t2 hR hnn hb3 F13 hb3w
  refine readyL (rs := [3]) (by kernel_rfl) (by simp) ?_
  refine AllL.cons rfl (fun K hK => ?_) AllL.nil
  try simp only [List.getElem_toArray, List.getElem_cons_succ, List.getElem_cons_zero]
  go_simp
  refine HS.out.mono ?_
  rintro e w4 ⟨rfl, hb4⟩
  have HB4 := hide (HB3.out.trans (hb4.mono HB3.out.size))
  clear hb4 HB3 HS
  refine hK.out _ _ (vac (by kernel_rfl)) (fun _ => ?_)
  clear hK K
  try simp only [Act.put, List.getElem_toArray, List.getElem_cons_succ, List.getElem_cons_zero, List.setIfInBounds_toArray, List.set_cons_zero, List.set_cons_succ]
  refine readyL (rs := [4]) (by kernel_rfl) (by simp) ?_
  refine AllL.cons rfl (fun K hK => ?_) AllL.nil
  try simp only [List.getElem_toArray, List.getElem_cons_succ, List.getElem_cons_zero]
  go_simp
  refine hK.out _ _ (vac (by kernel_rfl)) (fun _ => ?_)
  clear hK K
  try simp only [Act.put, List.getElem_toArray, List.getElem_cons_succ, List.getElem_cons_zero, List.setIfInBounds_toArray, List.set_cons_zero, List.set_cons_succ]
  refine doneL (by kernel_rfl) ?_ _
  go_wp2
  go_ret
  exact ⟨rfl, HB0.out.trans (HB4.out.mono HB0.out.size)⟩
set_option maxRecDepth 20000 in
set_option maxHeartbeats 16000000 in
theorem whole_if (a : Nat → Addr) (w0 w : World) (d lg b1 : Nat) (ρ : Nat → Option Role) (s : St) (p : PD) (Al : List Nm) (B : Nm → Nat) (V : Nm → Option (List UInt8)) (ys : List OpA) (un1 ub1 : Value) (l1 : List (Nm × Nm)) (v2 : Value) (Ac : Option Addr) (nC cC : Nat) (ws : World) (b2 : Nat) (un2 ub2 : Value) (v10 : Value) (u0 u1 u3 u4 u5 u6 u7 u8 u14 u15 u16 u17 u18 u19 u20 u21 u22 u23 u24 u25 u26 u27 u28 u29 u30 u31 u32 u33 u34 u35 u36 u37 u38 u39 u40 u41 u42 u43 u44 u45 u46 u47 u48 u49 u50 u51 u52 u53 u54 u55 u56 u57 u58 u59 u60 u61 u62 u63 u64 u65 u66 u67 u68 u69 u70 u71 u72 u73 u74 u75 u76 u77 u78 u79 u80 u81 u82 u83 u84 u85 u86 u87 u88 u89 u90 u91 u92 u93 u94 u95 u96 u97 u98 u99 u100 u101 u102 u103 u104 u105 u106 u107 u108 u109 u110 u111 u112 u113 u114 u115 u116 u117 u118 u119 u120 u121 u122 u123 u124 u125 u126 u127 u128 u129 u130 u131 u132 u133 u134 u135 u136 u137 u138 u139 u140 u141 u142 u143 u144 u145 u146 u147 u148 u149 u150 u151 u152 u153 u154 u155 u156 u157 u158 u159 u160 u161 u162 u163 u164 u165 u166 u167 u168 u169 u170 u171 u172 u173 u174 u175 u176 u177 u178 u179 u180 u181 u182 u183 u184 u185 u186 u187 u188 : Value)
    (hE : Errs w0 a) (h : Begun w0 ws d lg b1 ρ s p Al B V un1 ub1 l1) (h2 : Second w0 v2 ys Al B V) (hF2 : FileAt ws ρ lg b2 un2 ub2 (doAll l1 ys)) (hcu : CutsR w0 Ac nC) (hn : nC ≤ 8) (hC : Com2 a w0 ws lg d ρ p Al B V ys 80 20 200 60 1048576 v10 w) :
    (seqW (seqW (seqW (seqW (seqW (seqW (seqW (seqW (seqW (seqW (seqW (seqW (seqW (seqW (Tryz.f3.body.getD .skip))))))))))))))).wp Tryz.prog (bodyPost Tryz.prog Tryz.f3 (fun e w' => e = .returned (.bool true) ∧ Below w0.heap.size w0 w')) { tmps := #[u0, u1, .slice Ac nC cC, u3, u4, u5, u6, u7, u8, pv d, v10, pv lg, pv b1, pv b2, u14, u15, u16, u17, u18, u19, u20, u21, u22, u23, u24, u25, u26, u27, u28, u29, u30, u31, u32, u33, u34, u35, u36, u37, u38, u39, u40, u41, u42, u43, u44, u45, u46, u47, u48, u49, u50, u51, u52, u53, u54, u55, u56, u57, u58, u59, u60, u61, u62, u63, u64, u65, u66, u67, u68, u69, u70, u71, u72, u73, u74, u75, u76, u77, u78, u79, u80, u81, u82, u83, u84, u85, u86, u87, u88, u89, u90, u91, u92, u93, u94, u95, u96, u97, u98, u99, u100, u101, u102, u103, u104, u105, u106, u107, u108, u109, u110, u111, u112, u113, u114, u115, u116, u117, u118, u119, u120, u121, u122, u123, u124, u125, u126, u127, u128, u129, u130, u131, u132, u133, u134, u135, u136, u137, u138, u139, u140, u141, u142, u143, u144, u145, u146, u147, u148, u149, u150, u151, u152, u153, u154, u155, u156, u157, u158, u159, u160, u161, u162, u163, u164, u165, u166, u167, u168, u169, u170, u171, u172, u173, u174, u175, u176, u177, u178, u179, u180, u181, u182, u183, u184, u185, u186, u187, u188], defers := [] } w := by
  rcases hC with ⟨b, hv, hf, hfit, ρ', s', p', hS, hO, hq, hT⟩ | ⟨i, hi, hi7, hv, s', hL, hoff, hq, hT⟩
  · have HH : Hid (Held a w0 w d lg b1 b2 ρ' s' p' Al B 300 100 V ys b un1 ub1 un2 ub2 l1 (doAll l1 ys)) := ⟨h2.env h.lim hf hfit, hf, h.redo, hO.mono (by omega) (by omega), hS, h.rep1, h.rep1.change (form_is hf) hfit, h.f1.turnL hT, hF2.turnL hT⟩
    have HV := hide hv
    have HEr := hide hE
    have HCu := hide hcu
    have HN := hide (num_err 7 (by decide) w a (hE.below hO.dk.below))
    clear hE h h2 hF2 hcu hS hO hq hT hfit hf
    unfold pv
    dsimp only [seqW, Tryz.f3, Option.getD_some]
    apply wp_seq_k
    intro K1 HK1
    go_cut [2] from 14 (fun v2 wq => v2 = .slice Ac nC cC ∧ Hid (Held a w0 wq d lg b1 b2 ρ' s' p' Al B 300 100 V ys b un1 ub1 un2 ub2 l1 (doAll l1 ys)))
    case rest =>
      obtain ⟨rfl, HH'⟩ := hcut
      apply_assumption
      exact whole_loop a w0 wc d lg b1 b2 ρ' s' p' Al B V ys b un1 ub1 un2 ub2 l1 (doAll l1 ys) v10 Ac nC cC _ _ _ _ _ _ _ _ _ _ _ _ _ _ _ _ _ _ _ _ _ _ _ _ _ _ _ _ _ _ _ _ _ _ _ _ _ _ _ _ _ _ _ _ _ _ _ _ _ _ _ _ _ _ _ _ _ _ _ _ _ _ _ _ _ _ _ _ _ _ _ _ _ _ _ _ _ _ _ _ _ _ _ _ _ _ _ _ _ _ _ _ _ _ _ _ _ _ _ _ _ _ _ _ _ _ _ _ _ _ _ _ _ _ _ _ _ _ _ _ _ _ _ _ _ _ _ _ _ _ _ _ _ _ _ _ _ _ _ _ _ _ _ _ _ _ _ _ _ _ _ _ _ _ _ _ _ _ _ _ _ _ _ _ _ _ _ _ _ _ _ _ _ _ _ _ _ _ _ _ _ _ _ _ HEr.out HH'.out HCu.out hn HV.out
    case first =>
      rcases hv with ⟨rfl, rfl⟩ | ⟨rfl, hv⟩
      · go_wp2
        go_meet
        case rel => exact ⟨rfl, HH⟩
      · obtain rfl : v10 = .iface 191 (.pointer (some (a 7))) := hv
        go_wp2_with (go_at_call 13; refine HN.out.mono ?_; rintro e w5 ⟨rfl, hb5⟩; replace hb5 := hide hb5)
        go_meet
        case rel => exact ⟨rfl, ⟨HH.out.env, HH.out.form, HH.out.redo, HH.out.ok.then hb5.out, HH.out.sure, HH.out.rep1, HH.out.rep2, HH.out.f1.then hb5.out, HH.out.f2.then hb5.out⟩⟩
  · exact whole_refused a w0 w d lg b1 ρ s' p Al B V ys un1 ub1 l1 v2 Ac nC cC b2 i v10 u0 u1 u3 u4 u5 u6 u7 u8 u14 u15 u16 u17 u18 u19 u20 u21 u22 u23 u24 u25 u26 u27 u28 u29 u30 u31 u32 u33 u34 u35 u36 u37 u38 u39 u40 u41 u42 u43 u44 u45 u46 u47 u48 u49 u50 u51 u52 u53 u54 u55 u56 u57 u58 u59 u60 u61 u62 u63 u64 u65 u66 u67 u68 u69 u70 u71 u72 u73 u74 u75 u76 u77 u78 u79 u80 u81 u82 u83 u84 u85 u86 u87 u88 u89 u90 u91 u92 u93 u94 u95 u96 u97 u98 u99 u100 u101 u102 u103 u104 u105 u106 u107 u108 u109 u110 u111 u112 u113 u114 u115 u116 u117 u118 u119 u120 u121 u122 u123 u124 u125 u126 u127 u128 u129 u130 u131 u132 u133 u134 u135 u136 u137 u138 u139 u140 u141 u142 u143 u144 u145 u146 u147 u148 u149 u150 u151 u152 u153 u154 u155 u156 u157 u158 u159 u160 u161 u162 u163 u164 u165 u166 u167 u168 u169 u170 u171 u172 u173 u174 u175 u176 u177 u178 u179 u180 u181 u182 u183 u184 u185 u186 u187 u188 hE ⟨h.lim, hL, hoff, hq, h.calm, h.op, h.redo, h.rep1, h.num, h.vals, h.f1.turnL hT⟩ hi hi7 hv
set_option maxRecDepth 20000 in
set_option maxHeartbeats 16000000 in
theorem whole_com (a : Nat → Addr) (w0 w : World) (d lg b1 : Nat) (ρ : Nat → Option Role) (s : St) (p : PD) (Al : List Nm) (B : Nm → Nat) (V : Nm → Option (List UInt8)) (ys : List OpA) (un1 ub1 : Value) (l1 : List (Nm × Nm)) (v2 : Value) (Ac : Option Addr) (nC cC : Nat) (b2 : Nat) (un2 ub2 : Value) (A2 : Option Addr) (n2 c2 : Nat) (u0 u3 u4 u5 u6 u7 u8 u10 u14 u15 u16 u17 u18 u19 u20 u21 u22 u23 u24 u25 u26 u27 u28 u29 u30 u31 u32 u33 u34 u35 u36 u37 u38 u39 u40 u41 u42 u43 u44 u45 u46 u47 u48 u49 u50 u51 u52 u53 u54 u55 u56 u57 u58 u59 u60 u61 u62 u63 u64 u65 u66 u67 u68 u69 u70 u71 u72 u73 u74 u75 u76 u77 u78 u79 u80 u81 u82 u83 u84 u85 u86 u87 u88 u89 u90 u91 u92 u93 u94 u95 u96 u97 u98 u99 u100 u101 u102 u103 u104 u105 u106 u107 u108 u109 u110 u111 u112 u113 u114 u115 u116 u117 u118 u119 u120 u121 u122 u123 u124 u125 u126 u127 u128 u129 u130 u131 u132 u133 u134 u135 u136 u137 u138 u139 u140 u141 u142 u143 u144 u145 u146 u147 u148 u149 u150 u151 u152 u153 u154 u155 u156 u157 u158 u159 u160 u161 u162 u163 u164 u165 u166 u167 u168 u169 u170 u171 u172 u173 u174 u175 u176 u177 u178 u179 u180 u181 u182 u183 u184 u185 u186 u187 u188 : Value)
    (hE : Errs w0 a) (h : Begun w0 w d lg b1 ρ s p Al B V un1 ub1 l1) (h2 : Second w0 v2 ys Al B V) (hv2 : v2 = .slice A2 n2 c2) (hF2 : FileAt w ρ lg b2 un2 ub2 (doAll l1 ys)) (hcu : CutsR w0 Ac nC) (hn : nC ≤ 8) :
    (seqW (seqW (seqW (seqW (seqW (seqW (seqW (seqW (seqW (seqW (seqW (seqW (seqW (Tryz.f3.body.getD .skip)))))))))))))).wp Tryz.prog (bodyPost Tryz.prog Tryz.f3 (fun e w' => e = .returned (.bool true) ∧ Below w0.heap.size w0 w')) { tmps := #[u0, .slice A2 n2 c2, .slice Ac nC cC, u3, u4, u5, u6, u7, u8, pv d, u10, pv lg, pv b1, pv b2, u14, u15, u16, u17, u18, u19, u20, u21, u22, u23, u24, u25, u26, u27, u28, u29, u30, u31, u32, u33, u34, u35, u36, u37, u38, u39, u40, u41, u42, u43, u44, u45, u46, u47, u48, u49, u50, u51, u52, u53, u54, u55, u56, u57, u58, u59, u60, u61, u62, u63, u64, u65, u66, u67, u68, u69, u70, u71, u72, u73, u74, u75, u76, u77, u78, u79, u80, u81, u82, u83, u84, u85, u86, u87, u88, u89, u90, u91, u92, u93, u94, u95, u96, u97, u98, u99, u100, u101, u102, u103, u104, u105, u106, u107, u108, u109, u110, u111, u112, u113, u114, u115, u116, u117, u118, u119, u120, u121, u122, u123, u124, u125, u126, u127, u128, u129, u130, u131, u132, u133, u134, u135, u136, u137, u138, u139, u140, u141, u142, u143, u144, u145, u146, u147, u148, u149, u150, u151, u152, u153, u154, u155, u156, u157, u158, u159, u160, u161, u162, u163, u164, u165, u166, u167, u168, u169, u170, u171, u172, u173, u174, u175, u176, u177, u178, u179, u180, u181, u182, u183, u184, u185, u186, u187, u188], defers := [] } w := by
  subst hv2
  have HC := hide (commit2_lo (K := 200) (J := 60) hE h.lim h.lo h.off h.quo (by decide) h.calm h.op (opf_in h.lo.lg.dk h2.ops) h2.size h2.al h2.len h2.recd (by omega) (by omega) (by omega) (by omega))
  have HH := hide h
  have H2 := hide h2
  have HF2 := hide hF2
  have HEr := hide hE
  have HCu := hide hcu
  clear hE h h2 hF2 hcu
  unfold pv at HC ⊢
  dsimp only [seqW, Tryz.f3, Option.getD_some]
  apply wp_seq_k
  intro K1 HK1
  go_cut [10] from 14 (fun v10 wq => Hid (Com2 a w0 w lg d ρ p Al B V ys 80 20 200 60 1048576 v10 wq))
  case rest =>
    apply_assumption
    exact whole_if a w0 wc d lg b1 ρ s p Al B V ys un1 ub1 l1 (.slice A2 n2 c2) Ac nC cC w b2 un2 ub2 _ _ _ _ _ _ _ _ _ _ _ _ _ _ _ _ _ _ _ _ _ _ _ _ _ _ _ _ _ _ _ _ _ _ _ _ _ _ _ _ _ _ _ _ _ _ _ _ _ _ _ _ _ _ _ _ _ _ _ _ _ _ _ _ _ _ _ _ _ _ _ _ _ _ _ _ _ _ _ _ _ _ _ _ _ _ _ _ _ _ _ _ _ _ _ _ _ _ _ _ _ _ _ _ _ _ _ _ _ _ _ _ _ _ _ _ _ _ _ _ _ _ _ _ _ _ _ _ _ _ _ _ _ _ _ _ _ _ _ _ _ _ _ _ _ _ _ _ _ _ _ _ _ _ _ _ _ _ _ _ _ _ _ _ _ _ _ _ _ _ _ _ _ _ _ _ _ _ _ _ _ _ _ _ HEr.out HH.out H2.out HF2.out HCu.out hn hcut.out
  case first =>
    go_wp2_with fail
    refine HC.out.mono ?_
    rintro e w1 ⟨v, rfl, hc⟩
    replace hc := hide hc
    go_wp2
    go_meet
    case rel => exact hc
set_option maxRecDepth 20000 in
set_option maxHeartbeats 16000000 in
theorem whole_arm (a : Nat → Addr) (w0 w : World) (d lg b1 : Nat) (ρ : Nat → Option Role) (s : St) (p : PD) (Al : List Nm) (B : Nm → Nat) (V : Nm → Option (List UInt8)) (ys : List OpA) (un1 ub1 : Value) (l1 : List (Nm × Nm)) (v2 : Value) (Ac : Option Addr) (nC cC : Nat) (b2 : Nat) (un2 ub2 : Value) (A2 : Option Addr) (n2 c2 : Nat) (u0 u3 u4 u5 u6 u7 u8 u10 u14 u15 u16 u17 u18 u19 u20 u21 u22 u23 u24 u25 u26 u27 u28 u29 u30 u31 u32 u33 u34 u35 u36 u37 u38 u39 u40 u41 u42 u43 u44 u45 u46 u47 u48 u49 u50 u51 u52 u53 u54 u55 u56 u57 u58 u59 u60 u61 u62 u63 u64 u65 u66 u67 u68 u69 u70 u71 u72 u73 u74 u75 u76 u77 u78 u79 u80 u81 u82 u83 u84 u85 u86 u87 u88 u89 u90 u91 u92 u93 u94 u95 u96 u97 u98 u99 u100 u101 u102 u103 u104 u105 u106 u107 u108 u109 u110 u111 u112 u113 u114 u115 u116 u117 u118 u119 u120 u121 u122 u123 u124 u125 u126 u127 u128 u129 u130 u131 u132 u133 u134 u135 u136 u137 u138 u139 u140 u141 u142 u143 u144 u145 u146 u147 u148 u149 u150 u151 u152 u153 u154 u155 u156 u157 u158 u159 u160 u161 u162 u163 u164 u165 u166 u167 u168 u169 u170 u171 u172 u173 u174 u175 u176 u177 u178 u179 u180 u181 u182 u183 u184 u185 u186 u187 u188 : Value)
    (hE : Errs w0 a) (h : Begun w0 w d lg b1 ρ s p Al B V un1 ub1 l1) (h2 : Second w0 v2 ys Al B V) (hv2 : v2 = .slice A2 n2 c2) (hF2 : FileAt w ρ lg b2 un2 ub2 (doAll l1 ys)) (hcu : CutsR w0 Ac nC) (hn : nC ≤ 8) :
    (seqW (seqW (seqW (seqW (seqW (seqW (seqW (seqW (seqW (seqW (seqW (seqW (Tryz.f3.body.getD .skip))))))))))))).wp Tryz.prog (bodyPost Tryz.prog Tryz.f3 (fun e w' => e = .returned (.bool true) ∧ Below w0.heap.size w0 w')) { tmps := #[u0, .slice A2 n2 c2, .slice Ac nC cC, u3, u4, u5, u6, u7, u8, pv d, u10, pv lg, pv b1, pv b2, u14, u15, u16, u17, u18, u19, u20, u21, u22, u23, u24, u25, u26, u27, u28, u29, u30, u31, u32, u33, u34, u35, u36, u37, u38, u39, u40, u41, u42, u43, u44, u45, u46, u47, u48, u49, u50, u51, u52, u53, u54, u55, u56, u57, u58, u59, u60, u61, u62, u63, u64, u65, u66, u67, u68, u69, u70, u71, u72, u73, u74, u75, u76, u77, u78, u79, u80, u81, u82, u83, u84, u85, u86, u87, u88, u89, u90, u91, u92, u93, u94, u95, u96, u97, u98, u99, u100, u101, u102, u103, u104, u105, u106, u107, u108, u109, u110, u111, u112, u113, u114, u115, u116, u117, u118, u119, u120, u121, u122, u123, u124, u125, u126, u127, u128, u129, u130, u131, u132, u133, u134, u135, u136, u137, u138, u139, u140, u141, u142, u143, u144, u145, u146, u147, u148, u149, u150, u151, u152, u153, u154, u155, u156, u157, u158, u159, u160, u161, u162, u163, u164, u165, u166, u167, u168, u169, u170, u171, u172, u173, u174, u175, u176, u177, u178, u179, u180, u181, u182, u183, u184, u185, u186, u187, u188], defers := [] } w := by
  subst hv2
  have HH := hide h
  have H2 := hide h2
  have HF2 := hide hF2
  have HEr := hide hE
  have HCu := hide hcu
  clear hE h h2 hF2 hcu
  unfold pv
  dsimp only [seqW, Tryz.f3, Option.getD_some]
  apply wp_seq_k
  intro K1 HK1
  go_cut [2] from 14 (fun v2 wq => v2 = .slice Ac nC cC ∧ ∃ s3, Hid (Begun w0 wq d lg b1 ρ s3 p Al B V un1 ub1 l1) ∧ Hid (FileAt wq ρ lg b2 un2 ub2 (doAll l1 ys)))
  case rest =>
    obtain ⟨rfl, s3, H3, HF3⟩ := hcut
    apply_assumption
    exact whole_com a w0 wc d lg b1 ρ s3 p Al B V ys un1 ub1 l1 (.slice A2 n2 c2) Ac nC cC b2 un2 ub2 A2 n2 c2 _ _ _ _ _ _ _ _ _ _ _ _ _ _ _ _ _ _ _ _ _ _ _ _ _ _ _ _ _ _ _ _ _ _ _ _ _ _ _ _ _ _ _ _ _ _ _ _ _ _ _ _ _ _ _ _ _ _ _ _ _ _ _ _ _ _ _ _ _ _ _ _ _ _ _ _ _ _ _ _ _ _ _ _ _ _ _ _ _ _ _ _ _ _ _ _ _ _ _ _ _ _ _ _ _ _ _ _ _ _ _ _ _ _ _ _ _ _ _ _ _ _ _ _ _ _ _ _ _ _ _ _ _ _ _ _ _ _ _ _ _ _ _ _ _ _ _ _ _ _ _ _ _ _ _ _ _ _ _ _ _ _ _ _ _ _ _ _ _ _ _ _ _ _ _ _ _ _ _ _ _ _ _ HEr.out H3.out H2.out rfl HF3.out HCu.out hn
  case first =>
    by_cases h0 : 0 < nC
    · have h0' : (0 : Int) < nC := by omega
      obtain ⟨g, o, Ai, ni, ci, rfl, hg, hcell, hkp⟩ := HCu.out 0 h0
      have c1 : w.cell? ⟨g, o, none⟩ = some (.slice Ai ni ci) := (HH.out.lo.lg.dk.below.cell (p := ⟨g, o + 0, none⟩) hg).trans hcell
      have hci := hkp.1
      have hcm := hkp.2.1
      clear hcell
      by_cases h1 : 0 < ni
      · have h1' : (0 : Int) < ni := by omega
        obtain ⟨gi, oi, rfl, hgi, _, hxs⟩ := hkp.2.2 (by omega)
        obtain ⟨x, hx, hxm⟩ := hxs 0 h1
        have c2 : w.cell? ⟨gi, oi, none⟩ = some (.int .i64 x) := (HH.out.lo.lg.dk.below.cell (p := ⟨gi, oi + 0, none⟩) hgi).trans hx
        have HAr := hide (fun (n : Int) (hn : n ≤ 9223372036854775807) => arm_lo HH.out.lo.ok hn)
        unfold pv at HAr
        clear hxs hx hkp
        go_wp2_with fail
        refine (HAr.out _ (by omega)).mono ?_
        rintro e w2 ⟨rfl, O3, T3⟩
        replace O3 := hide O3
        replace T3 := hide T3
        go_wp2
        all_goals
          go_meet
          case rel => exact ⟨rfl, _, ⟨HH.out.lim, ⟨HH.out.lo.lg.turn O3.out.dk T3.out, O3.out⟩, HH.out.off, HH.out.quo, HH.out.calm, HH.out.op, HH.out.redo, HH.out.rep1, HH.out.num, HH.out.vals, HH.out.f1.turn T3.out⟩, HF2.out.turn T3.out⟩
      · have h1' : ¬ (0 : Int) < ni := by omega
        clear hkp
        go_wp2
        go_meet
        case rel => exact ⟨rfl, s, HH, HF2⟩
    · have h0' : ¬ (0 : Int) < nC := by omega
      go_wp2
      go_meet
      case rel => exact ⟨rfl, s, HH, HF2⟩
set_option maxRecDepth 20000 in
set_option maxHeartbeats 16000000 in
theorem whole_do (a : Nat → Addr) (w0 w : World) (d lg b1 : Nat) (ρ : Nat → Option Role) (s : St) (p : PD) (Al : List Nm) (B : Nm → Nat) (V : Nm → Option (List UInt8)) (ys : List OpA) (un1 ub1 : Value) (l1 : List (Nm × Nm)) (v2 : Value) (Ac : Option Addr) (nC cC : Nat) (A2 : Option Addr) (n2 c2 : Nat) (u0 u3 u4 u5 u6 u7 u8 u10 u13 u14 u15 u16 u17 u18 u19 u20 u21 u22 u23 u24 u25 u26 u27 u28 u29 u30 u31 u32 u33 u34 u35 u36 u37 u38 u39 u40 u41 u42 u43 u44 u45 u46 u47 u48 u49 u50 u51 u52 u53 u54 u55 u56 u57 u58 u59 u60 u61 u62 u63 u64 u65 u66 u67 u68 u69 u70 u71 u72 u73 u74 u75 u76 u77 u78 u79 u80 u81 u82 u83 u84 u85 u86 u87 u88 u89 u90 u91 u92 u93 u94 u95 u96 u97 u98 u99 u100 u101 u102 u103 u104 u105 u106 u107 u108 u109 u110 u111 u112 u113 u114 u115 u116 u117 u118 u119 u120 u121 u122 u123 u124 u125 u126 u127 u128 u129 u130 u131 u132 u133 u134 u135 u136 u137 u138 u139 u140 u141 u142 u143 u144 u145 u146 u147 u148 u149 u150 u151 u152 u153 u154 u155 u156 u157 u158 u159 u160 u161 u162 u163 u164 u165 u166 u167 u168 u169 u170 u171 u172 u173 u174 u175 u176 u177 u178 u179 u180 u181 u182 u183 u184 u185 u186 u187 u188 : Value)
    (hE : Errs w0 a) (h : Begun w0 w d lg b1 ρ s p Al B V un1 ub1 l1) (h2 : Second w0 v2 ys Al B V) (hv2 : v2 = .slice A2 n2 c2) (hcu : CutsR w0 Ac nC) (hn : nC ≤ 8) :
    (seqW (seqW (seqW (seqW (seqW (seqW (seqW (seqW (seqW (seqW (seqW (Tryz.f3.body.getD .skip)))))))))))).wp Tryz.prog (bodyPost Tryz.prog Tryz.f3 (fun e w' => e = .returned (.bool true) ∧ Below w0.heap.size w0 w')) { tmps := #[u0, .slice A2 n2 c2, .slice Ac nC cC, u3, u4, u5, u6, u7, u8, pv d, u10, pv lg, pv b1, u13, u14, u15, u16, u17, u18, u19, u20, u21, u22, u23, u24, u25, u26, u27, u28, u29, u30, u31, u32, u33, u34, u35, u36, u37, u38, u39, u40, u41, u42, u43, u44, u45, u46, u47, u48, u49, u50, u51, u52, u53, u54, u55, u56, u57, u58, u59, u60, u61, u62, u63, u64, u65, u66, u67, u68, u69, u70, u71, u72, u73, u74, u75, u76, u77, u78, u79, u80, u81, u82, u83, u84, u85, u86, u87, u88, u89, u90, u91, u92, u93, u94, u95, u96, u97, u98, u99, u100, u101, u102, u103, u104, u105, u106, u107, u108, u109, u110, u111, u112, u113, u114, u115, u116, u117, u118, u119, u120, u121, u122, u123, u124, u125, u126, u127, u128, u129, u130, u131, u132, u133, u134, u135, u136, u137, u138, u139, u140, u141, u142, u143, u144, u145, u146, u147, u148, u149, u150, u151, u152, u153, u154, u155, u156, u157, u158, u159, u160, u161, u162, u163, u164, u165, u166, u167, u168, u169, u170, u171, u172, u173, u174, u175, u176, u177, u178, u179, u180, u181, u182, u183, u184, u185, u186, u187, u188], defers := [] } w := by
  subst hv2
  have free : ∀ b, w.heap.size ≤ b → ρ b = none ∧ b ≠ lg := fun b hb => ⟨h.lo.lg.dk.free hb, fun e => by have := h.lo.lg.lb.lt; omega⟩
  have HD := hide (rdo_any w un1 ub1 (.slice A2 n2 c2) l1 ys h.f1.t1 h.f1.t2 (h2.ops.below h.lo.lg.dk.below) h2.num h.num h.vals h2.sum (fun b => ρ b = none ∧ b ≠ lg) free h.f1.off)
  have HFree := hide free
  have k10 : w.cell? ⟨b1, 0, none⟩ = some un1 := h.f1.blk.cell 0
  have k11 : w.cell? ⟨b1, 1, none⟩ = some ub1 := h.f1.blk.cell 1
  have HH := hide h
  have H2 := hide h2
  have HEr := hide hE
  have HCu := hide hcu
  clear hE h h2 hcu free
  unfold pv
  dsimp only [seqW, Tryz.f3, Option.getD_some]
  apply wp_seq_k
  intro K1 HK1
  go_cut [13] from 14 (fun v13 wq => ∃ b2 un2 ub2, v13 = .pointer (some ⟨b2, 0, none⟩) ∧ Hid (Begun w0 wq d lg b1 ρ s p Al B V un1 ub1 l1) ∧ Hid (FileAt wq ρ lg b2 un2 ub2 (doAll l1 ys)))
  case rest =>
    obtain ⟨b2, un2, ub2, rfl, H3, HF3⟩ := hcut
    apply_assumption
    exact whole_arm a w0 wc d lg b1 ρ s p Al B V ys un1 ub1 l1 (.slice A2 n2 c2) Ac nC cC b2 un2 ub2 A2 n2 c2 _ _ _ _ _ _ _ _ _ _ _ _ _ _ _ _ _ _ _ _ _ _ _ _ _ _ _ _ _ _ _ _ _ _ _ _ _ _ _ _ _ _ _ _ _ _ _ _ _ _ _ _ _ _ _ _ _ _ _ _ _ _ _ _ _ _ _ _ _ _ _ _ _ _ _ _ _ _ _ _ _ _ _ _ _ _ _ _ _ _ _ _ _ _ _ _ _ _ _ _ _ _ _ _ _ _ _ _ _ _ _ _ _ _ _ _ _ _ _ _ _ _ _ _ _ _ _ _ _ _ _ _ _ _ _ _ _ _ _ _ _ _ _ _ _ _ _ _ _ _ _ _ _ _ _ _ _ _ _ _ _ _ _ _ _ _ _ _ _ _ _ _ _ _ _ _ _ _ _ _ _ _ _ HEr.out H3.out H2.out rfl HF3.out HCu.out hn
  case first =>
    go_wp2_with fail
    refine HD.out.mono ?_
    rintro e w1 ⟨un2, ub2, rfl, t1, t2, hb1, hoff⟩
    obtain ⟨An, cn, rfl, _, _⟩ := t1.form
    obtain ⟨Ab, cb, rfl, _, _⟩ := t2.form
    have T1 := hide t1
    have T2 := hide t2
    have HB1 := hide hb1
    have HOff := hide hoff
    have hz := hb1.size
    obtain ⟨N1, hN1⟩ : ∃ N1, ((doAll l1 ys).map (·.1)).length = N1 := ⟨_, rfl⟩
    obtain ⟨N2, hN2⟩ : ∃ N2, ((doAll l1 ys).map (·.2)).length = N2 := ⟨_, rfl⟩
    rw [hN1] at T1 HOff ⊢
    rw [hN2] at T2 HOff ⊢
    clear t1 t2 hb1 hoff HD hN1 hN2 k10 k11
    go_wp2
    go_meet
    case rel =>
      have hB2 := (Below.refl w1.heap.size w1).alloc (Nat.le_refl _) (.cells #[.slice An N1 cn, .slice Ab N2 cb] 37)
      exact ⟨_, _, _, rfl, HH.out.then (HB1.out.trans (hB2.mono HB1.out.size)), ⟨Blk.new _ _ _, T1.out.below hB2, T2.out.below hB2, HFree.out _ hz, HOff.out⟩⟩
set_option maxRecDepth 20000 in
set_option maxHeartbeats 16000000 in
theorem whole_was (a : Nat → Addr) (w0 w : World) (d lg b1 : Nat) (ρ : Nat → Option Role) (s : St) (p : PD) (Al : List Nm) (B : Nm → Nat) (V : Nm → Option (List UInt8)) (ys : List OpA) (un1 ub1 : Value) (l1 : List (Nm × Nm)) (v2 : Value) (Ac : Option Addr) (nC cC : Nat) (A2 : Option Addr) (n2 c2 : Nat) (u0 u3 u4 u5 u6 u7 u8 u10 u13 u14 u15 u16 u17 u18 u19 u20 u21 u22 u23 u24 u25 u26 u27 u28 u29 u30 u31 u32 u33 u34 u35 u36 u37 u38 u39 u40 u41 u42 u43 u44 u45 u46 u47 u48 u49 u50 u51 u52 u53 u54 u55 u56 u57 u58 u59 u60 u61 u62 u63 u64 u65 u66 u67 u68 u69 u70 u71 u72 u73 u74 u75 u76 u77 u78 u79 u80 u81 u82 u83 u84 u85 u86 u87 u88 u89 u90 u91 u92 u93 u94 u95 u96 u97 u98 u99 u100 u101 u102 u103 u104 u105 u106 u107 u108 u109 u110 u111 u112 u113 u114 u115 u116 u117 u118 u119 u120 u121 u122 u123 u124 u125 u126 u127 u128 u129 u130 u131 u132 u133 u134 u135 u136 u137 u138 u139 u140 u141 u142 u143 u144 u145 u146 u147 u148 u149 u150 u151 u152 u153 u154 u155 u156 u157 u158 u159 u160 u161 u162 u163 u164 u165 u166 u167 u168 u169 u170 u171 u172 u173 u174 u175 u176 u177 u178 u179 u180 u181 u182 u183 u184 u185 u186 u187 u188 : Value)
    (hE : Errs w0 a) (h : Begun w0 w d lg b1 ρ s p Al B V un1 ub1 l1) (h2 : Second w0 v2 ys Al B V) (hv2 : v2 = .slice A2 n2 c2) (hcu : CutsR w0 Ac nC) (hn : nC ≤ 8) :
    (seqW (seqW (seqW (seqW (seqW (seqW (seqW (seqW (seqW (seqW (Tryz.f3.body.getD .skip))))))))))).wp Tryz.prog (bodyPost Tryz.prog Tryz.f3 (fun e w' => e = .returned (.bool true) ∧ Below w0.heap.size w0 w')) { tmps := #[u0, .slice A2 n2 c2, .slice Ac nC cC, u3, u4, u5, u6, u7, u8, pv d, u10, pv lg, pv b1, u13, u14, u15, u16, u17, u18, u19, u20, u21, u22, u23, u24, u25, u26, u27, u28, u29, u30, u31, u32, u33, u34, u35, u36, u37, u38, u39, u40, u41, u42, u43, u44, u45, u46, u47, u48, u49, u50, u51, u52, u53, u54, u55, u56, u57, u58, u59, u60, u61, u62, u63, u64, u65, u66, u67, u68, u69, u70, u71, u72, u73, u74, u75, u76, u77, u78, u79, u80, u81, u82, u83, u84, u85, u86, u87, u88, u89, u90, u91, u92, u93, u94, u95, u96, u97, u98, u99, u100, u101, u102, u103, u104, u105, u106, u107, u108, u109, u110, u111, u112, u113, u114, u115, u116, u117, u118, u119, u120, u121, u122, u123, u124, u125, u126, u127, u128, u129, u130, u131, u132, u133, u134, u135, u136, u137, u138, u139, u140, u141, u142, u143, u144, u145, u146, u147, u148, u149, u150, u151, u152, u153, u154, u155, u156, u157, u158, u159, u160, u161, u162, u163, u164, u165, u166, u167, u168, u169, u170, u171, u172, u173, u174, u175, u176, u177, u178, u179, u180, u181, u182, u183, u184, u185, u186, u187, u188], defers := [] } w := by
  subst hv2
  have HH := hide h
  have H2 := hide h2
  have HEr := hide hE
  have HCu := hide hcu
  have F1 := hide h.f1
  have k10 : w.cell? ⟨b1, 0, none⟩ = some un1 := h.f1.blk.cell 0
  have k11 : w.cell? ⟨b1, 1, none⟩ = some ub1 := h.f1.blk.cell 1
  have HRep := hide h.rep1
  have HF := hide (files_lo h.lim (h.lo.then (Below.refl _ _).drew) h.off (by omega) h.calm h.redo)
  clear hE h h2 hcu
  unfold pv at HF ⊢
  dsimp only [seqW, Tryz.f3, Option.getD_some]
  apply wp_seq_k
  intro K1 HK1
  go_cut [2] from 13 (fun v2 wq => v2 = .slice Ac nC cC ∧ Hid (Below w.heap.size w wq))
  case rest =>
    obtain ⟨rfl, HBw⟩ := hcut
    apply_assumption
    exact whole_do a w0 wc d lg b1 ρ s p Al B V ys un1 ub1 l1 (.slice A2 n2 c2) Ac nC cC A2 n2 c2 _ _ _ _ _ _ _ _ _ _ _ _ _ _ _ _ _ _ _ _ _ _ _ _ _ _ _ _ _ _ _ _ _ _ _ _ _ _ _ _ _ _ _ _ _ _ _ _ _ _ _ _ _ _ _ _ _ _ _ _ _ _ _ _ _ _ _ _ _ _ _ _ _ _ _ _ _ _ _ _ _ _ _ _ _ _ _ _ _ _ _ _ _ _ _ _ _ _ _ _ _ _ _ _ _ _ _ _ _ _ _ _ _ _ _ _ _ _ _ _ _ _ _ _ _ _ _ _ _ _ _ _ _ _ _ _ _ _ _ _ _ _ _ _ _ _ _ _ _ _ _ _ _ _ _ _ _ _ _ _ _ _ _ _ _ _ _ _ _ _ _ _ _ _ _ _ _ _ _ _ _ _ _ _ HEr.out (HH.out.then HBw.out) H2.out rfl HCu.out hn
  case first =>
    go_upto_region 20 with fail
    refine regionL 3 (fun W => W.cell? ⟨b1, 0, none⟩ = some un1 ∧ W.cell? ⟨b1, 1, none⟩ = some ub1) (by kernel_rfl) ?_
    have HT0 : (fun W : World => W.cell? ⟨b1, 0, none⟩ = some un1 ∧ W.cell? ⟨b1, 1, none⟩ = some ub1) w.drew := ⟨k10, k11⟩
    refine takeW (i := 0) (v := (.pointer (some ⟨lg, 0, none⟩))) rfl (by kernel_rfl) (by kernel_rfl) (by kernel_rfl) rfl (fun _ _ _ h => h) (fun _ => HT0) (Or.inl ⟨by rfl, fun W _ => by go_simp⟩) ?_
    try simp only [Act.put, List.getElem_toArray, List.getElem_cons_succ, List.getElem_cons_zero, List.setIfInBounds_toArray, List.set_cons_zero, List.set_cons_succ]
    refine takeL (i := 2) (v := (.agg #[un1, ub1])) rfl (by kernel_rfl) (by kernel_rfl) (by kernel_rfl) (by kernel_rfl) (by kernel_rfl) (fun _ _ _ h => h) HT0 (Or.inl ⟨by rfl, fun W hW => by obtain ⟨t0, t1⟩ := hW; go_simp⟩) ?_
    try simp only [Act.put, List.getElem_toArray, List.getElem_cons_succ, List.getElem_cons_zero, List.setIfInBounds_toArray, List.set_cons_zero, List.set_cons_succ]
    refine readyL (rs := [1]) (by kernel_rfl) (by simp) ?_
    refine AllL.cons rfl (fun K hK => ?_) AllL.nil
    try simp only [List.getElem_toArray, List.getElem_cons_succ, List.getElem_cons_zero]
    go_simp
    refine HF.out.mono ?_
    rintro e w3 ⟨vn, vb, ns, bs, rfl, t1, t2, hR, hnn, hb3⟩
    have hb3w : Below w.heap.size w w3 := ((Below.refl w.heap.size w).drew).trans hb3
    have F13 := F1.out.then hb3w
    refine hK.out _ _ (fun _ => ⟨F13.blk.cell 0, F13.blk.cell 1⟩) (fun _ => ?_)
    clear hK K HT0
    try simp only [Act.put, List.getElem_toArray, List.getElem_cons_succ, List.getElem_cons_zero, List.setIfInBounds_toArray, List.set_cons_zero, List.set_cons_succ]
    have HS := hide (same_lo (W := w3) t1 t2 hR hnn F13.t1 F13.t2)
    rw [show decide (ns = l1.map (·.1) ∧ bs = l1.map (·.2)) = true from same_true hR HRep.out] at HS
    have HB3 := hide hb3w
    clear HF t1 t2 hR hnn hb3 F13 hb3w
    refine readyL (rs := [3]) (by kernel_rfl) (by simp) ?_
    refine AllL.cons rfl (fun K hK => ?_) AllL.nil
    try simp only [List.getElem_toArray, List.getElem_cons_succ, List.getElem_cons_zero]
    go_simp
    refine HS.out.mono ?_
    rintro e w4 ⟨rfl, hb4⟩
    have HB4 := hide (HB3.out.trans (hb4.mono HB3.out.size))
    clear hb4 HB3 HS
    refine hK.out _ _ (vac (by kernel_rfl)) (fun _ => ?_)
    clear hK K
    try simp only [Act.put, List.getElem_toArray, List.getElem_cons_succ, List.getElem_cons_zero, List.setIfInBounds_toArray, List.set_cons_zero, List.set_cons_succ]
    refine readyL (rs := [4]) (by kernel_rfl) (by simp) ?_
    refine AllL.cons rfl (fun K hK => ?_) AllL.nil
    try simp only [List.getElem_toArray, List.getElem_cons_succ, List.getElem_cons_zero]
    go_simp
    refine hK.out _ _ (vac (by kernel_rfl)) (fun _ => ?_)
    clear hK K
    try simp only [Act.put, List.getElem_toArray, List.getElem_cons_succ, List.getElem_cons_zero, List.setIfInBounds_toArray, List.set_cons_zero, List.set_cons_succ]
    refine doneL (by kernel_rfl) ?_ _
    go_wp2
    go_meet
    case rel => exact ⟨rfl, HB4⟩
end Go.Proofs.YthhnlkbjpahjeaaGreatDoor
