/- The first Commit, and the law itself. -/
/- RedoWhole: the law answers true, whatever came in. -/
/- A change that came in, opened, with the sizes of its parts. -/
import Derived.Test.YthhnlkbjpahjeaaGreatDoorU48
import Derived.Test.YthhnlkbjpahjeaaGreatDoorU43
import Derived.Deep.Strs
import Derived.Lib.SmallJoins
import Derived.SizedLaws
section
set_option linter.unusedSimpArgs false
set_option linter.unusedVariables false
namespace Go.Proofs.YthhnlkbjpahjeaaGreatDoor
open Go.RowKit Go.Maps Go.Sort
theorem LO.keepB {w0 w w' : World} {l d : Nat} {dead : Bool} {ρ : Nat → Option Role} {s : St} {p : PD} {Al : List Nm} {B : Nm → Nat} {k j b : Nat} (h : LO w0 w l d dead ρ s p Al B k j) (hm : Mvs (fun k => k = b) w w') (hb : ρ b = none) (hl : b ≠ l) (h0 : w0.heap.size ≤ b) : LO w0 w' l d dead ρ s p Al B k j := by
  have hd := h.lg.dk.keep hm (fun k r hr e => by subst e; rw [hb] at hr; cases hr) (fun k e => by subst e; exact h0)
  exact ⟨⟨hd, hm.blk h.lg.lb (fun e => hl e.symm), h.lg.rl, h.lg.low⟩, ⟨hd, h.ok.rel, h.ok.bd, h.ok.ow⟩⟩
theorem tr_none (w : World) : TR w (.slice none 0 0) (([] : List (Nm × Nm)).map (·.1)) := ⟨none, 0, rfl, Nat.le_refl _, Nat.zero_le _, fun _ => rfl, fun h => absurd rfl h⟩
theorem tr_none2 (w : World) : TR w (.slice none 0 0) (([] : List (Nm × Nm)).map (·.2)) := ⟨none, 0, rfl, Nat.le_refl _, Nat.zero_le _, fun _ => rfl, fun h => absurd rfl h⟩
theorem prep_none : PRep (fun _ => none) [] := ⟨List.Pairwise.nil, fun n => ⟨(fun h => by cases h), (fun h => by cases h)⟩, rfl⟩
theorem allB_sum : ∀ ys : List OpA, (ys.map (fun x => x.bytes.length)).sum = allB ys
  | [] => rfl
  | y :: ys => by rw [List.map_cons, List.sum_cons, allB_sum ys]; rfl
theorem allB_pick {xs : List OpA} (h : allB xs ≤ 20001) : allB (pick xs) ≤ 20001 := (pick_fine h).all
theorem was_vals {xs : List OpA} {V : Nm → Option (List UInt8)} {l : List (Nm × Nm)} (h : allB xs ≤ 20001) (hW : Was xs V) (hP : PRep V l) : ∀ x ∈ l, x.2.length ≤ 1000000 := fun x hx => by
  have h1 := hW.len x.1
  have h2 := tb_le (pick xs) x.1
  have h3 := allB_pick h
  rw [hP.vals x hx]
  omega
/-- What came in. -/
structure Came (w0 : World) (v1 v2 : Value) (xs ys : List OpA) (Ac : Option Addr) (nC : Nat) : Prop where
  o1 : OPs w0 v1 xs
  o2 : OPs w0 v2 ys
  a1 : allB xs ≤ 20001
  a2 : allB ys ≤ 20001
  z1 : sizeOps xs ≤ 1000000
  z2 : sizeOps ys ≤ 1000000
  n1 : xs.length ≤ 20000
  n2 : ys.length ≤ 20000
  cut : CutsR w0 Ac nC
  few : nC ≤ 8
theorem Came.second {w0 : World} {v1 v2 : Value} {xs ys : List OpA} {Ac : Option Addr} {nC : Nat} (h : Came w0 v1 v2 xs ys Ac nC) {V : Nm → Option (List UInt8)} (hW : Was xs V) : Second w0 v2 ys (alOf (pick xs) (pick ys)) (boundOf (pick xs) (pick ys)) V :=
  ⟨h.o2, h.z2, by have := h.n2; omega, by rw [allB_sum]; have := h.a2; omega, al_second, len_second hW h.a2, fun hf => rec_len h.a2 hf _ _⟩
set_option maxRecDepth 20000 in
set_option maxHeartbeats 16000000 in
theorem whole_first (a : Nat → Addr) (w0 w : World) (d lg b1 : Nat) (ρ : Nat → Option Role) (s : St) (p : PD) (xs ys : List OpA) (A1 A2 Ac : Option Addr) (n1 c1 n2 c2 nC cC : Nat) (u3 u4 u5 u6 u7 u8 u10 u13 u14 u15 u16 u17 u18 u19 u20 u21 u22 u23 u24 u25 u26 u27 u28 u29 u30 u31 u32 u33 u34 u35 u36 u37 u38 u39 u40 u41 u42 u43 u44 u45 u46 u47 u48 u49 u50 u51 u52 u53 u54 u55 u56 u57 u58 u59 u60 u61 u62 u63 u64 u65 u66 u67 u68 u69 u70 u71 u72 u73 u74 u75 u76 u77 u78 u79 u80 u81 u82 u83 u84 u85 u86 u87 u88 u89 u90 u91 u92 u93 u94 u95 u96 u97 u98 u99 u100 u101 u102 u103 u104 u105 u106 u107 u108 u109 u110 u111 u112 u113 u114 u115 u116 u117 u118 u119 u120 u121 u122 u123 u124 u125 u126 u127 u128 u129 u130 u131 u132 u133 u134 u135 u136 u137 u138 u139 u140 u141 u142 u143 u144 u145 u146 u147 u148 u149 u150 u151 u152 u153 u154 u155 u156 u157 u158 u159 u160 u161 u162 u163 u164 u165 u166 u167 u168 u169 u170 u171 u172 u173 u174 u175 u176 u177 u178 u179 u180 u181 u182 u183 u184 u185 u186 u187 u188 : Value)
    (hE : Errs w0 a) (hc : Came w0 (.slice A1 n1 c1) (.slice A2 n2 c2) xs ys Ac nC) (hL : LO w0 w lg d false ρ s p (alOf (pick xs) (pick ys)) (boundOf (pick xs) (pick ys)) 2 1) (hC : Calm (fun _ => none) redoN [] p) (hop : p.op = none) (hoff : s.off = false) (hq : s.quota = 1048576) (ha : s.armed < 0)
    (hb : Blk w b1 #[.slice none 0 0, .slice none 0 0] 37) (hρ : ρ b1 = none) (hbl : b1 ≠ lg) (hb0 : w0.heap.size ≤ b1) :
    (seqW (seqW (seqW (seqW (seqW (seqW (seqW (seqW (seqW (Tryz.f3.body.getD .skip)))))))))).wp Tryz.prog (bodyPost Tryz.prog Tryz.f3 (fun e w' => e = .returned (.bool true) ∧ Below w0.heap.size w0 w')) { tmps := #[.slice A1 n1 c1, .slice A2 n2 c2, .slice Ac nC cC, u3, u4, u5, u6, u7, u8, pv d, u10, pv lg, pv b1, u13, u14, u15, u16, u17, u18, u19, u20, u21, u22, u23, u24, u25, u26, u27, u28, u29, u30, u31, u32, u33, u34, u35, u36, u37, u38, u39, u40, u41, u42, u43, u44, u45, u46, u47, u48, u49, u50, u51, u52, u53, u54, u55, u56, u57, u58, u59, u60, u61, u62, u63, u64, u65, u66, u67, u68, u69, u70, u71, u72, u73, u74, u75, u76, u77, u78, u79, u80, u81, u82, u83, u84, u85, u86, u87, u88, u89, u90, u91, u92, u93, u94, u95, u96, u97, u98, u99, u100, u101, u102, u103, u104, u105, u106, u107, u108, u109, u110, u111, u112, u113, u114, u115, u116, u117, u118, u119, u120, u121, u122, u123, u124, u125, u126, u127, u128, u129, u130, u131, u132, u133, u134, u135, u136, u137, u138, u139, u140, u141, u142, u143, u144, u145, u146, u147, u148, u149, u150, u151, u152, u153, u154, u155, u156, u157, u158, u159, u160, u161, u162, u163, u164, u165, u166, u167, u168, u169, u170, u171, u172, u173, u174, u175, u176, u177, u178, u179, u180, u181, u182, u183, u184, u185, u186, u187, u188], defers := [] } w := by
  have hlim := lim_of (pick_fine hc.a1) (pick_fine hc.a2)
  have HCm := hide (commit1_lo (K := 76) (J := 17) (V := fun _ => none) hE hlim hL hoff ha hq (by decide) hC hop (opf_in hL.lg.dk hc.o1) hc.z1 al_first (len_first hc.a1) (fun hf => rec_len hc.a1 hf _ _) (by omega) (by omega) (by omega) (by omega))
  have HLim := hide hlim
  have HC0 := hide hC
  have HOp := hide hop
  have HBk := hide hb
  have HRb := hide hρ
  have HBl := hide hbl
  have HB0 := hide hb0
  have HEr := hide hE
  have HCa := hide hc
  clear hlim hE hc hL hC hop hoff hq ha hb hρ hbl hb0
  unfold pv at HCm ⊢
  dsimp only [seqW, Tryz.f3, Option.getD_some]
  apply wp_seq_k
  intro K1 HK1
  go_cut [1, 2] from 13 (fun v1 v2 wq => v1 = .slice A2 n2 c2 ∧ v2 = .slice Ac nC cC ∧ ∃ ρ s p V un1 ub1 l1, Hid (Begun w0 wq d lg b1 ρ s p (alOf (pick xs) (pick ys)) (boundOf (pick xs) (pick ys)) V un1 ub1 l1) ∧ Hid (Was xs V))
  case rest =>
    obtain ⟨rfl, rfl, ρ', s', p', V, un1, ub1, l1, HBg, HW⟩ := hcut
    apply_assumption
    exact whole_was a w0 wc d lg b1 ρ' s' p' (alOf (pick xs) (pick ys)) (boundOf (pick xs) (pick ys)) V ys un1 ub1 l1 (.slice A2 n2 c2) Ac nC cC A2 n2 c2 _ _ _ _ _ _ _ _ _ _ _ _ _ _ _ _ _ _ _ _ _ _ _ _ _ _ _ _ _ _ _ _ _ _ _ _ _ _ _ _ _ _ _ _ _ _ _ _ _ _ _ _ _ _ _ _ _ _ _ _ _ _ _ _ _ _ _ _ _ _ _ _ _ _ _ _ _ _ _ _ _ _ _ _ _ _ _ _ _ _ _ _ _ _ _ _ _ _ _ _ _ _ _ _ _ _ _ _ _ _ _ _ _ _ _ _ _ _ _ _ _ _ _ _ _ _ _ _ _ _ _ _ _ _ _ _ _ _ _ _ _ _ _ _ _ _ _ _ _ _ _ _ _ _ _ _ _ _ _ _ _ _ _ _ _ _ _ _ _ _ _ _ _ _ _ _ _ _ _ _ _ _ _ _ HEr.out HBg.out (HCa.out.second HW.out) rfl HCa.out.cut HCa.out.few
  case first =>
    go_wp2_with fail
    refine HCm.out.mono ?_
    rintro e w1 ⟨v, rfl, ⟨rfl, hf, hfit, ρ1, s1, p1, hC1, ho1, L1, g1, q1, a1, T1⟩ | ⟨i, hi, rfl, s1, L1, g1, q1, a1, T1⟩⟩
    · have hW : Was xs (afterV (fun _ => none) (xs.map chOf)) := .inr ⟨hf, rfl⟩
      have hPr : PRep (afterV (fun _ => none) (xs.map chOf)) (doAll [] xs) := prep_none.change (form_is hf) hfit
      have hlen := doAll_len xs []
      have h16 := (form_parts hf).2.1
      have hbk1 : Blk w1 b1 #[.slice none 0 0, .slice none 0 0] 37 := T1.1.blk HBk.out (by
        rintro (⟨r, e⟩ | e)
        · rw [HRb.out] at e
          cases e
        · exact HBl.out e)
      have hρ1 : ρ1 b1 = none := T1.2 b1 HBk.out.lt HRb.out
      have hF0 : ∀ b, w1.heap.size ≤ b → ρ1 b = none ∧ b ≠ lg ∧ b ≠ b1 := fun b hb => ⟨L1.lg.dk.free hb, fun e => by have := L1.lg.lb.lt; omega, fun e => by have := hbk1.lt; omega⟩
      have HD := hide (rdo_any w1 (.slice none 0 0) (.slice none 0 0) (.slice A1 n1 c1) [] xs (tr_none w1) (tr_none2 w1) (HCa.out.o1.below L1.lg.dk.below) (by have := HCa.out.n1; omega) (by simp) (fun p hp => by cases hp) (by rw [allB_sum]; have := HCa.out.a1; omega) (fun b => ρ1 b = none ∧ b ≠ lg ∧ b ≠ b1) hF0 (fun h => absurd rfl h))
      have k10 : w1.cell? ⟨b1, 0, none⟩ = some (.slice none 0 0) := hbk1.cell 0
      have k11 : w1.cell? ⟨b1, 1, none⟩ = some (.slice none 0 0) := hbk1.cell 1
      have HBk1 := hide hbk1
      have HR1 := hide hρ1
      have HL1 := hide L1
      have HW := hide hW
      have HPr := hide hPr
      have HC1 := hide hC1
      have HO1 := hide ho1
      have HG1 := hide g1
      have HQ1 := hide q1
      have HLen : Hid ((doAll [] xs).length ≤ 100) := by show _ ≤ _; simp at hlen; omega
      clear HCm hC1 ho1 L1 g1 q1 a1 T1 hW hPr hlen h16 hbk1 hρ1 hF0 hfit hf
      go_wp2_with fail
      refine HD.out.mono ?_
      rintro e w2 ⟨un, ub, rfl, t1, t2, hb2, hfo⟩
      obtain ⟨An, cn, rfl, _, _⟩ := t1.form
      obtain ⟨Ab, cb, rfl, _, _⟩ := t2.form
      have hbk2 := HBk1.out.below hb2 HBk1.out.lt
      have hcf := hbk2.frozen
      have hcc := hbk2.cell
      have hlt2 : b1 < w2.heap.size := hbk2.lt
      have HBk2 := hide hbk2
      have T1 := hide t1
      have T2 := hide t2
      have HL2 := hide (HL1.out.then hb2)
      have HFo := hide hfo
      obtain ⟨N1, hN1⟩ : ∃ N1, ((doAll [] xs).map (·.1)).length = N1 := ⟨_, rfl⟩
      obtain ⟨N2, hN2⟩ : ∃ N2, ((doAll [] xs).map (·.2)).length = N2 := ⟨_, rfl⟩
      rw [hN1] at T1 HFo ⊢
      rw [hN2] at T2 HFo ⊢
      clear t1 t2 hb2 hfo HD hN1 hN2 k10 k11 hbk2 HBk1 HL1
      go_wp2
      go_meet
      case rel =>
        have hM : Mvs (fun k => k = b1) w2 ((w2.setCell ⟨b1, 0, none⟩ (.slice An N1 cn)).setCell ⟨b1, 1, none⟩ (.slice Ab N2 cb)) := ((Mvs.refl (fun k => k = b1) w2).setCell ⟨b1, 0, none⟩ _ (fun _ => rfl)).setCell ⟨b1, 1, none⟩ _ (fun _ => rfl)
        have hL3 := (HL2.out.keepB hM HR1.out HBl.out HB0.out).mono (K := 80) (J := 20) (by omega) (by omega)
        refine ⟨rfl, rfl, _, _, _, _, _, _, _, ⟨HLim.out, hL3, HG1.out, HQ1.out, HC1.out, HO1.out, HW.out.redo HCa.out.a1, HPr.out, HLen.out, was_vals HCa.out.a1 HW.out HPr.out, ⟨(HBk2.out.set 0 _).set 1 _, ?_, ?_, ⟨HR1.out, HBl.out⟩, ?_⟩⟩, HW⟩
        · exact T1.out.keep2 hM (fun h0 A n c e e2 => (HFo.out (by simpa using h0) A n c (.inl e)).2.2 e2)
        · exact T2.out.keep2 hM (fun h0 A n c e e2 => (HFo.out (by simpa using h0) A n c (.inr e)).2.2 e2)
        · intro h0 A n c e
          have := HFo.out h0 A n c e
          exact ⟨this.1, this.2.1⟩
    · have HB1 : Hid (FileAt w1 ρ lg b1 (.slice none 0 0) (.slice none 0 0) []) := by
        refine ⟨T1.1.blk HBk.out ?_, tr_none _, tr_none2 _, ⟨HRb.out, HBl.out⟩, fun h => absurd rfl h⟩
        rintro (⟨r, e⟩ | e)
        · rw [HRb.out] at e
          cases e
        · exact HBl.out e
      have HBg : Hid (Begun w0 w1 d lg b1 ρ s1 p (alOf (pick xs) (pick ys)) (boundOf (pick xs) (pick ys)) (fun _ => none) (.slice none 0 0) (.slice none 0 0) []) :=
        ⟨HLim.out, L1.mono (by omega) (by omega), g1, q1, HC0.out, HOp.out, rfl, prep_none, by simp, (fun x hx => by cases hx), HB1.out⟩
      clear HCm L1 g1 q1 a1 T1
      unfold errV
      go_wp2
      go_meet
      case rel => exact ⟨rfl, rfl, ρ, s1, p, _, _, _, _, HBg, .inl rfl⟩
end Go.Proofs.YthhnlkbjpahjeaaGreatDoor

end
section
set_option linter.unusedSimpArgs false
set_option linter.unusedVariables false
namespace Go.Proofs.YthhnlkbjpahjeaaGreatDoor
open Go.RowKit Go.Maps Go.Sort
set_option maxRecDepth 20000 in
set_option maxHeartbeats 16000000 in
theorem redoWhole_walk (xs ys : List OpA) (v1 v2 : Value) (Ac : Option Addr) (nC cC : Nat) (w : World) (a : Nat → Addr) (hE : Errs w a) (h1 : OPs w v1 xs) (r1 : Reach xs) (h2 : OPs w v2 ys) (r2 : Reach ys) (hcc : nC ≤ cC) (hcm : cC ≤ maxLen) (hcu : CutsR w Ac nC) :
    Calls Tryz.prog 3 #[v1, v2, .slice Ac nC cC] w fun e w' => e = .returned (.bool true) ∧ Below w.heap.size w w' := by
  have HAl := hide (alive_yes w a hE)
  have HL1 := hide (fun w' (hb : Below w.heap.size w w') => long_any xs v1 w' (h1.below hb) r1)
  have HL2 := hide (fun w' (hb : Below w.heap.size w w') => long_any ys v2 w' (h2.below hb) r2)
  have HO1 := hide h1
  have HO2 := hide h2
  have HEr := hide hE
  have HCu := hide hcu
  obtain ⟨A1, c1, rfl, hl1, hm1⟩ := h1.form
  obtain ⟨A2, c2, rfl, hl2, hm2⟩ := h2.form
  have hmx1 : c1 ≤ 9223372036854775807 := by simp only [maxLen] at hm1; omega
  have hmx2 : c2 ≤ 9223372036854775807 := by simp only [maxLen] at hm2; omega
  have hmxC : cC ≤ 9223372036854775807 := by simp only [maxLen] at hcm; omega
  obtain ⟨n1, hn1⟩ : ∃ n, xs.length = n := ⟨_, rfl⟩
  obtain ⟨n2, hn2⟩ : ∃ n, ys.length = n := ⟨_, rfl⟩
  rw [hn1] at HL1 HO1 hl1 ⊢
  rw [hn2] at HL2 HO2 hl2 ⊢
  have HN1 := hide hn1
  have HN2 := hide hn2
  clear hE h1 h2 hcu hm1 hm2 hcm r1 r2 hn1 hn2
  go_enter Tryz.func3, Tryz.ntmps3
  go_wp2_with fail
  refine HAl.out.mono ?_
  rintro e w1 ⟨rfl, hb1⟩
  have HB1 := hide hb1
  have HC1 := hide (HL1.out w1 hb1)
  clear hb1 HAl HL1
  go_wp2_with fail
  refine HC1.out.mono ?_
  rintro e w2 ⟨rfl, hb2⟩
  have HB2 := hide (HB1.out.trans (hb2.mono HB1.out.size))
  clear hb2 HB1 HC1
  cases hx : longB xs with
  | true =>
    go_wp2
    go_ret
    exact ⟨rfl, HB2.out⟩
  | false =>
    have HX := hide (of_long hx)
    have HC2 := hide (HL2.out w2 HB2.out)
    clear hx HL2
    go_wp2_with fail
    refine HC2.out.mono ?_
    rintro e w3 ⟨rfl, hb3⟩
    have HB3 := hide (HB2.out.trans (hb3.mono HB2.out.size))
    clear hb3 HB2 HC2
    cases hy : longB ys with
    | true =>
      go_wp2
      go_ret
      exact ⟨rfl, HB3.out⟩
    | false =>
      have HY := hide (of_long hy)
      clear hy
      by_cases h8 : 8 < nC
      · have h8' : (8 : Int) < nC := by omega
        go_wp2
        go_ret
        exact ⟨rfl, HB3.out⟩
      · have h8' : ¬ (8 : Int) < nC := by omega
        have hfew : nC ≤ 8 := by omega
        go_wp2
        go_loopw [37] (fun v wx => ∃ (i : Nat), v = .int .i64 i ∧ i ≤ nC ∧ wx = w3) (fun v _ => nC - (intOf v).toNat)
        case atStart => exact ⟨0, rfl, Nat.zero_le _, rfl⟩
        case round =>
          obtain ⟨i, rfl, hin, rfl⟩ := hrel
          by_cases hlt : i < nC
          · have hlt' : (i : Int) < nC := by omega
            obtain ⟨g, o, Ai, ni, ci, rfl, hg, hcell, hkp⟩ := HCu.out i hlt
            have cc : wr.cell? ⟨g, o + i, none⟩ = some (.slice Ai ni ci) := (HB3.out.cell (p := ⟨g, o + i, none⟩) hg).trans hcell
            have hci := hkp.1
            have hcm := hkp.2.1
            clear hcell hkp
            by_cases h40 : 40 < ni
            · have h40' : (40 : Int) < ni := by omega
              go_wp2
              go_ret
              exact ⟨rfl, HB3.out⟩
            · have h40' : ¬ (40 : Int) < ni := by omega
              go_wp2
              go_roundw
              case rel => exact ⟨i + 1, by go_num, by omega, by first | rfl | trivial⟩
              case measure => simp [intOf]; omega
          · obtain rfl : nC = i := by omega
            have HNw := hide (new_any w wr 1048576 (by decide) (by decide) HB3.out)
            have HCa : Hid (Came w (.slice A1 n1 c1) (.slice A2 n2 c2) xs ys Ac nC) := ⟨HO1.out, HO2.out, HX.out.1, HY.out.1, HX.out.2.1, HY.out.2.1, HX.out.2.2, HY.out.2.2, HCu.out, hfew⟩
            unfold pv at HNw
            clear HO1 HO2 HX HY HCu
            go_wp2_with fail
            refine HNw.out.mono ?_
            rintro e w4 ⟨rfl, hb4, hD4⟩
            have HFm := hide (format_lo (a := a) HEr.out (lim_of (pick_fine HCa.out.a1) (pick_fine HCa.out.a2)) (List.mem_cons_self ..) hD4 (by decide) (by decide))
            unfold pv at HFm
            obtain ⟨D, hDd⟩ : ∃ D, wr.heap.size + 3 = D := ⟨_, rfl⟩
            rw [hDd] at HFm ⊢
            clear HNw hb4 hD4 hDd
            go_wp2_with fail
            refine HFm.out.mono ?_
            rintro e w5 ⟨rfl, ρ5, s5, p5, L5, C5, o5, f5, q5, a5⟩
            obtain ⟨LG5, hLG⟩ : ∃ l, w4.heap.size = l := ⟨_, rfl⟩
            rw [hLG] at L5 ⊢
            have HL5 := hide L5
            have HC5 := hide C5
            have HO5 := hide o5
            have HF5 := hide f5
            have HQ5 := hide q5
            have HA5 := hide a5
            clear HFm L5 C5 o5 f5 q5 a5 hLG HB3
            go_upto_region 17 with fail
            go_cut [12] from 13 (fun v12 wq => ∃ b1, v12 = .pointer (some ⟨b1, 0, none⟩) ∧ w5.heap.size ≤ b1 ∧ Hid (Blk wq b1 #[.slice none 0 0, .slice none 0 0] 37) ∧ Hid (Below w5.heap.size w5 wq))
            case rest =>
              obtain ⟨b1, rfl, hb1, HBk, HBw⟩ := hcut
              apply_assumption
              exact whole_first a w wc D LG5 b1 ρ5 s5 p5 xs ys A1 A2 Ac n1 c1 n2 c2 nC cC _ _ _ _ _ _ _ _ _ _ _ _ _ _ _ _ _ _ _ _ _ _ _ _ _ _ _ _ _ _ _ _ _ _ _ _ _ _ _ _ _ _ _ _ _ _ _ _ _ _ _ _ _ _ _ _ _ _ _ _ _ _ _ _ _ _ _ _ _ _ _ _ _ _ _ _ _ _ _ _ _ _ _ _ _ _ _ _ _ _ _ _ _ _ _ _ _ _ _ _ _ _ _ _ _ _ _ _ _ _ _ _ _ _ _ _ _ _ _ _ _ _ _ _ _ _ _ _ _ _ _ _ _ _ _ _ _ _ _ _ _ _ _ _ _ _ _ _ _ _ _ _ _ _ _ _ _ _ _ _ _ _ _ _ _ _ _ _ _ _ _ _ _ _ _ _ _ _ _ _ _ _ _ HEr.out HCa.out (HL5.out.then HBw.out) HC5.out HO5.out HF5.out HQ5.out HA5.out HBk.out (HL5.out.lg.dk.free hb1) (fun e => by have := HL5.out.lg.lb.lt; omega) (Nat.le_trans HL5.out.lg.dk.below.size hb1)
            case first =>
              go_wp2
              go_meet
              case rel => exact ⟨_, rfl, Nat.le_refl _, Blk.new _ _ _, (Below.refl _ _).alloc (Nat.le_refl _) _⟩
end Go.Proofs.YthhnlkbjpahjeaaGreatDoor

end
section
namespace Go.Proofs.YthhnlkbjpahjeaaGreatDoor
open Go.RowKit
theorem list_of {α : Type} : ∀ (n : Nat) (p : Nat → α → Prop), (∀ i, i < n → ∃ x, p i x) → ∃ l : List α, l.length = n ∧ ∀ i (h : i < l.length), p i l[i]
  | 0, _, _ => ⟨[], rfl, fun i h => by simp at h⟩
  | n + 1, p, hp => by
    obtain ⟨l, hl, h⟩ := list_of n p (fun i hi => hp i (by omega))
    obtain ⟨x, hx⟩ := hp n (by omega)
    refine ⟨l ++ [x], by simp [hl], fun i hi => ?_⟩
    by_cases hlt : i < l.length
    · rw [List.getElem_append_left hlt]
      exact h i hlt
    · have hi' : i = n := by simp at hi; omega
      subst hi'
      rw [List.getElem_append_right (by omega)]
      simpa using hx
section
variable {H : Type} {enc : TypeId × Value → H} {P : Program} {W : World}
theorem ar_of_trod {t e : TypeId} {k : IntKind} (ht : P.underlying t = some (.slice e)) (he : P.underlying e = some (.int k)) (hc : P.cellsOf e = 1) {fuel : Nat} {cs : List Value} {x : DataW H × List MemPlace}
    (hf : DataW.trod enc P W 0 (fun _ => true) true fuel t cs = some x) (hlt : ∀ y ∈ x.2, y.block < W.heap.size) : ∃ (v : Value) (zs : List Int), cs = [v] ∧ AR W v (zs.map (Value.int k)) ∧ ∀ z ∈ zs, (Lit.int k z).wf = true := by
  rcases Go.ChangeShapes.open_ints ht he hc hf with ⟨rfl, hx⟩ | ⟨a, len, cap, zs, rfl, _, hl, hm, hz, rfl, hcell, hwz⟩
  · exact ⟨_, [], rfl, ⟨none, 0, rfl, Nat.le_refl _, Nat.zero_le _, fun _ => rfl, fun h => absurd rfl h⟩, fun _ h => by cases h⟩
  · simp only [if_true] at hz
    have hlen : ((zs.take len).map (Value.int k)).length = len := by simp; omega
    refine ⟨_, zs.take len, rfl, ⟨some a, cap, by rw [hlen], by omega, hm, (fun h => by simp at h), fun hne => ?_⟩, fun z hz' => hwz z (List.mem_of_mem_take hz')⟩
    have hpos : 0 < len := by
      rcases Nat.eq_zero_or_pos len with h0 | h0
      · subst h0; simp at hne
      · exact h0
    obtain ⟨ab, ao, spot⟩ := a
    have hspot : spot = none := by simpa [Addr.add] using World.cell?_spot (hcell 0 (by omega))
    subst hspot
    refine ⟨ab, ao, rfl, hlt (.cell ab ao) (MemPlace.mem_row.2 ⟨0, by omega, by simp⟩), fun j u hu => ?_⟩
    have hj := (List.getElem?_eq_some_iff.1 hu).1
    rw [hlen] at hj
    have := hcell j (by omega)
    rw [Go.WideShapes.add_plain] at this
    rw [this, ← hu]
    simp [List.getElem?_take_of_lt hj, List.getD_eq_getElem?_getD, List.getElem?_eq_getElem (show j < zs.length by omega)]
theorem one_cell {cs : List Value} {i : Nat} {v : Value} (h : (cs.drop i).take 1 = [v]) : cs[i]? = some v := by
  have := congrArg (·[0]?) h
  simpa using this
theorem len_of_trod {t e : TypeId} (ht : P.underlying t = some (.slice e)) (hby : 0 < P.bytesOf e) {fuel : Nat} {cs : List Value} {x : DataW H × List MemPlace} (hf : DataW.trod enc P W 0 (fun _ => true) true fuel t cs = some x) {R : Nat} (hw : ∀ n ∈ x.1.weights P t, n ≤ R) :
    ∀ A n c, cs = [.slice A n c] → n ≤ R := by
  rintro A n c rfl
  rcases Go.Deep.open_slice ht hf with ⟨hcs, _⟩ | ⟨a, len, cap, m, n', D, Pl, hcs, _, _, _, _, hx, _⟩
  · simp only [List.cons.injEq, Value.slice.injEq, and_true] at hcs
    omega
  · simp only [List.cons.injEq, Value.slice.injEq, and_true] at hcs
    obtain ⟨_, rfl, _⟩ := hcs
    have h1 := hw ((((List.range n).map D).length + ((List.range (m - n)).map fun j => D (n + j)).length) * P.bytesOf e) (by rw [hx]; simp [DataW.weights, ht])
    rw [List.length_map, List.length_range] at h1
    exact Nat.le_trans (Nat.le_trans (Nat.le_add_right n _) (Nat.le_mul_of_pos_right _ hby)) h1
theorem weightsAll_mem {e : TypeId} : ∀ {l : List (DataW H)} {d : DataW H}, d ∈ l → ∀ n ∈ d.weights P e, n ∈ DataW.weightsAll P e l
  | d' :: r, d, hd, n, hn => by
    simp only [DataW.weightsAll, List.mem_append]
    rcases List.mem_cons.1 hd with rfl | h
    · exact Or.inl hn
    · exact Or.inr (weightsAll_mem h n hn)
theorem open_change {t e ti ts tb tu : TypeId} {f0 f1 f2 f3 : Field} (ht : P.underlying t = some (.slice e)) (he : P.underlying e = some (.struct #[f0, f1, f2, f3])) (hi : P.underlying ti = some (.int .i64)) (hs : P.underlying ts = some .string) (hb : P.underlying tb = some (.slice tu)) (hu : P.underlying tu = some (.int .u8))
    (ce : P.cellsOf e = 4) (ci : P.cellsOf ti = 1) (cs' : P.cellsOf ts = 1) (cb : P.cellsOf tb = 1) (cu : P.cellsOf tu = 1) (be : 0 < P.bytesOf e) (bu : 0 < P.bytesOf tu) (t0 : f0.type = ti) (o0 : f0.offset = 0) (t1 : f1.type = ts) (o1 : f1.offset = 1) (t2 : f2.type = ti) (o2 : f2.offset = 2) (t3 : f3.type = tb) (o3 : f3.offset = 3) {base : Nat} {v : Value} {d : DataW H} {p : List MemPlace}
    (hval : Value.okWide P W .any base t v) (h : DataW.Trod enc P W 0 (fun _ => true) true t v d p) (hlt : ∀ x ∈ p, x.block < W.heap.size) (hw : ∀ n ∈ d.weights P t, n ≤ 140737488351232) : ∃ ops : List OpA, OPs W v ops ∧ Reach ops := by
  obtain ⟨a1, len, cap, rfl⟩ := Go.WideShapes.okWide_slice ht hval
  obtain ⟨fuel, hf⟩ := h
  have hlenR := len_of_trod ht be hf hw a1 len cap (by simp [Value.cells])
  rcases Go.Deep.open_slice ht hf with ⟨hcs, hx⟩ | ⟨a, len', cap', m, n, D, Pl, hcs, _, hl, hm, hmm, hx, hel⟩
  · simp [Value.cells] at hcs
    obtain ⟨rfl, rfl, rfl⟩ := hcs
    exact ⟨[], ⟨none, 0, rfl, Nat.le_refl _, Nat.zero_le _, fun _ => rfl, fun h => absurd rfl h⟩, Nat.zero_le _, fun x hx => by cases hx⟩
  · simp [Value.cells] at hcs
    obtain ⟨rfl, rfl, rfl⟩ := hcs
    simp only [Prod.mk.injEq] at hx
    obtain ⟨rfl, rfl⟩ := hx
    simp only [if_true] at hmm
    subst hmm
    rw [ce] at hel hlt
    obtain ⟨ss, hsl, hss⟩ := list_of (α := OpA) len (fun i st => (W.cell? ((a.add (i * 4)).add 0) = some (.int .i64 st.kind) ∧ W.cell? ((a.add (i * 4)).add 1) = some (.string ⟨st.name.toArray⟩) ∧ W.cell? ((a.add (i * 4)).add 2) = some (.int .i64 st.at_) ∧ W.cell? ((a.add (i * 4)).add 3) = some st.val ∧ BR W st.val st.bytes) ∧ st.name.length ≤ 140737488351232 ∧ st.bytes.length ≤ 140737488351232) (fun i hi' => by
      obtain ⟨cs1, h1, h2⟩ := hel i (by omega)
      obtain ⟨_, hlen, hcell⟩ := World.cells?_some h1
      obtain ⟨y0, y1, y2, y3, n', hD, _, k0, k1, k2, k3⟩ := Go.Joins.trod_struct4 he h2
      simp only [Prod.mk.injEq] at hD
      rw [t0, o0, ci] at k0
      rw [t1, o1, cs'] at k1
      rw [t2, o2, ci] at k2
      rw [t3, o3, cb] at k3
      obtain ⟨z0, e0, _, _⟩ := DataW.trod_int hi k0
      obtain ⟨s1, e1, hy1, _⟩ := DataW.trod_string hs k1
      obtain ⟨z2, e2, _, _⟩ := DataW.trod_int hi k2
      have hwD : ∀ n ∈ (D i).weights P e, n ≤ 140737488351232 := fun n hn => hw n (by
        simp only [DataW.weights, ht, List.mem_cons, List.mem_append]
        exact .inr (.inl (weightsAll_mem (List.mem_map.2 ⟨i, List.mem_range.2 hi', rfl⟩) n hn)))
      rw [hD.1] at hwD
      simp only [DataW.weights, he] at hwD
      have hw1 : s1.data.toList.length ≤ 140737488351232 := hwD _ (by rw [hy1]; simp [DataW.weightsEach, DataW.weights])
      have hw3 : ∀ n ∈ y3.1.weights P tb, n ≤ 140737488351232 := fun n hn => hwD n (by
        simp only [List.map_cons, List.map_nil, DataW.weightsEach, t3, List.mem_append]
        exact .inr (.inr (.inr (.inl hn))))
      obtain ⟨vb, zs, e3, hA, hwf⟩ := ar_of_trod hb hu cu k3 (fun y hy => hlt y (by
        refine List.mem_append_right _ (List.mem_flatMap.2 ⟨i, List.mem_range.2 (by omega), ?_⟩)
        rw [hD.2]
        simp [hy]))
      obtain ⟨bs, hbs⟩ := bytes_of hwf
      rw [hbs] at hA
      obtain ⟨Ab, cb', hvb, _⟩ := BR.form hA
      have hb3 := len_of_trod hb bu k3 hw3 Ab bs.length cb' (by rw [e3, hvb])
      refine ⟨⟨z0, s1.data.toList, z2, vb, bs⟩, ⟨(hcell 0 (by omega)).trans (one_cell e0), ?_, (hcell 2 (by omega)).trans (one_cell e2), (hcell 3 (by omega)).trans (one_cell e3), hA⟩, hw1, hb3⟩
      rw [(hcell 1 (by omega)).trans (one_cell e1)])
    subst hsl
    refine ⟨ss, ⟨some a, _, rfl, hl, hm, (fun h => by cases h), fun hne => ?_⟩, hlenR, fun x hx => ?_⟩
    · have hpos := List.length_pos_iff.2 hne
      obtain ⟨ab, ao, spot⟩ := a
      have hspot : spot = none := by simpa [Addr.add] using World.cell?_spot (hss 0 hpos).1.1
      subst hspot
      refine ⟨ab, ao, rfl, hlt (.cell ab ao) (List.mem_append_left _ (MemPlace.mem_row.2 ⟨0, by omega, by simp⟩)), fun i hi' => ?_⟩
      have := (hss i hi').1
      simp only [Go.WideShapes.add_plain, Nat.add_zero] at this
      exact this
    · obtain ⟨i, hi', rfl⟩ := List.getElem_of_mem hx
      exact (hss i hi').2
end
theorem opCells : Tryz.prog.cellsOf 48 = 4 := by kernel_rfl
theorem opInt : Tryz.prog.cellsOf 3 = 1 := by kernel_rfl
theorem opStr : Tryz.prog.cellsOf 9 = 1 := by kernel_rfl
theorem opBytes : Tryz.prog.cellsOf 46 = 1 := by kernel_rfl
theorem opByte : Tryz.prog.cellsOf 5 = 1 := by kernel_rfl
theorem opBy : 0 < Tryz.prog.bytesOf 48 := by
  rw [show Tryz.prog.bytesOf 48 = 56 by kernel_rfl]
  decide
theorem opBu : 0 < Tryz.prog.bytesOf 5 := by
  rw [show Tryz.prog.bytesOf 5 = 1 by kernel_rfl]
  decide
set_option maxRecDepth 100000 in
theorem open_ops {H : Type} {enc : TypeId × Value → H} {W : World} {base : Nat} {v : Value} {d : DataW H} {p : List MemPlace} (hval : Value.okWide Tryz.prog W .any base 22 v) (h : DataW.Trod enc Tryz.prog W 0 (fun _ => true) true 22 v d p) (hlt : ∀ x ∈ p, x.block < W.heap.size) (hw : ∀ n ∈ d.weights Tryz.prog 22, n ≤ 140737488351232) : ∃ ops : List OpA, OPs W v ops ∧ Reach ops :=
  open_change Tryz.underlying22 Tryz.underlying48 Tryz.underlying3 Tryz.underlying9 Tryz.underlying46 Tryz.underlying5 opCells opInt opStr opBytes opByte opBy opBu rfl rfl rfl rfl rfl rfl rfl rfl hval h hlt hw
end Go.Proofs.YthhnlkbjpahjeaaGreatDoor

end
