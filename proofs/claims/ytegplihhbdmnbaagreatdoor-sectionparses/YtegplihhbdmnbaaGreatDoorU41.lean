/- The document's Parse of sections. -/
import Derived.Test.YtegplihhbdmnbaaGreatDoorU27
import Derived.Test.YtegplihhbdmnbaaGreatDoorU28
import Derived.Test.YtegplihhbdmnbaaGreatDoorU36
import Derived.Test.YtegplihhbdmnbaaGreatDoorU40
import Derived.Deep.CutBlock
set_option linter.unusedVariables false
set_option linter.unusedSimpArgs false
namespace Go.Proofs.YtegplihhbdmnbaaGreatDoor
open Go.RowKit Go.Shelf
theorem dg_nat {c : UInt8} (h : dgB c = true) : 48 ≤ c.toNat ∧ c.toNat ≤ 57 := by simpa [dgB] using h
theorem dg_not {c : UInt8} (h : dgB c = false) : c.toNat < 48 ∨ 57 < c.toNat := by
  simp only [dgB] at h
  simp at h
  omega
theorem drop_cons {l : List UInt8} {j : Nat} (hj : j < l.length) : l.drop j = l[j] :: l.drop (j + 1) := List.drop_eq_getElem_cons hj
/-- The two blocks of the document's Parse: its result, and what is read. -/
structure DP (w : World) (wr : World) (cs : Array Value) : Prop where
  res : Blk wr w.heap.size #[.slice none 0 0, .string ⟨#[]⟩, .slice none 0 0] 31
  out : Blk wr (w.heap.size + 1) cs 31
  low : Below w.heap.size w wr
theorem DP.below {w wr wr' : World} {cs : Array Value} (h : DP w wr cs) (hb : Below wr.heap.size wr wr') : DP w wr' cs :=
  ⟨h.res.below hb h.res.lt, h.out.below hb h.out.lt, h.low.trans (hb.mono h.low.size)⟩
theorem DP.set {w wr : World} {cs : Array Value} (h : DP w wr cs) (i : Nat) (v : Value) : DP w (wr.setCell ⟨w.heap.size + 1, i, none⟩ v) (cs.setIfInBounds i v) :=
  ⟨h.res.set_other ⟨w.heap.size + 1, i, none⟩ v (by dsimp only; omega), h.out.set i v, h.low.setCell (p := ⟨w.heap.size + 1, i, none⟩) (by dsimp only; omega) v⟩
theorem DP.mvs {w wr wr' : World} {cs : Array Value} {S : Nat → Prop} (h : DP w wr cs) (hm : Mvs S wr wr') (hs : ∀ k, k ≤ w.heap.size + 1 → ¬ S k) : DP w wr' cs :=
  ⟨hm.blk h.res (hs _ (by omega)), hm.blk h.out (hs _ (Nat.le_refl _)), h.low.trans (hm.below (fun k hk => hs k (by omega)) h.low.size)⟩
theorem RowOf.set_low {α : Type} {f : α → List Value} {sz B : Nat} {w : World} {v : Value} {xs : List α} (h : RowOf f sz B w v xs) (a : Addr) (x : Value) (ha : a.block < B) : RowOf f sz B (w.setCell a x) v xs :=
  h.keep (S := fun k => k = a.block) ((Mvs.refl _ _).setCell a x (fun _ => rfl)) (fun k hk e => by omega)
theorem seStrInfoD : (Tryz.prog.info? 9).map (fun i => (i.zero, i.size, i.bytes)) = some (some (.string ⟨#[]⟩), 1, 16) := by kernel_rfl
theorem seSrcStrD {w : World} {C : Array Value} (x : List UInt8) {c : Nat} (hC : C = #[.string ⟨x.toArray⟩]) : Src Tryz.prog 1 24 (.slice (some ⟨w.heap.size, 0, none⟩) 1 c) 1 [.string ⟨x.toArray⟩] (w.alloc (.cells C 9)) := by
  subst hC
  refine Src.ofSlice _ Tryz.underlying24 ⟨w.heap.size, 0, none⟩ 1 c [.string ⟨x.toArray⟩] (by simp) (fun j u hu => ?_) (by intro u hu; simp at hu; subst hu; rfl)
  have hj := (List.getElem?_eq_some_iff.1 hu).1
  obtain rfl : j = 0 := by simpa using hj
  rw [Go.WideShapes.add_plain, Nat.zero_add, (Blk.new w _ _).cell]
  simp at hu
  rw [← hu]
  rfl
theorem ssF_lenD (x : List UInt8) : (ssF x).length = 1 := rfl
theorem rdN_le : ∀ (s : List UInt8) (n : Nat), (rdN n s).2.length ≤ s.length
  | [], n => Nat.le_refl _
  | c :: r, n => by
    rw [rdN]
    split
    · have := rdN_le r (stD n c)
      simp only [List.length_cons]
      omega
    · exact Nat.le_refl _
theorem dotS_le (s : List UInt8) : (dotS s).length ≤ s.length := by
  cases s with
  | nil => exact Nat.le_refl _
  | cons c r =>
    rw [dotS]
    split
    · simp
    · exact Nat.le_refl _
theorem rdP_le : ∀ (f : Nat) (s : List UInt8), (rdP f s).1.length ≤ s.length
  | 0, s => by simp [rdP]
  | f + 1, [] => by simp [rdP]
  | f + 1, c :: r => by
    rw [rdP]
    by_cases h : dgB c = true
    · rw [if_pos h]
      simp only [List.length_cons]
      have h1 : (rdN 0 (c :: r)).2.length ≤ r.length := by
        rw [rdN, if_pos ⟨h, by omega⟩]
        exact rdN_le _ _
      have h2 := dotS_le (rdN 0 (c :: r)).2
      have h3 := rdP_le f (dotS (rdN 0 (c :: r)).2)
      omega
    · rw [if_neg h]
      simp
theorem rdS_bd : ∀ (s cur : List UInt8), (rdS cur s).length ≤ s.length ∧ ∀ x ∈ rdS cur s, x.length ≤ cur.length + s.length
  | [], cur => by simp [rdS]
  | c :: r, cur => by
    rw [rdS]
    split
    · obtain ⟨h1, h2⟩ := rdS_bd r []
      refine ⟨by simp only [List.length_cons]; omega, fun x hx => ?_⟩
      rw [List.mem_cons] at hx
      rcases hx with rfl | hx
      · omega
      · have := h2 x hx
        simp only [List.length_cons, List.length_nil] at this ⊢
        omega
    · obtain ⟨h1, h2⟩ := rdS_bd r (cur ++ [c])
      refine ⟨by simp only [List.length_cons]; omega, fun x hx => ?_⟩
      have := h2 x hx
      simp only [List.length_append, List.length_cons, List.length_nil] at this ⊢
      omega
def DocOut (w : World) (r : Option Spc) (e : Ending) (w' : World) : Prop := match r with
  | some p => ∃ pv nv, e = .returned (.tuple #[spV pv nv p, .bool true]) ∧ SpA w' pv nv p ∧ Below w.heap.size w w'
  | none => e = .returned (.tuple #[zSp, .bool false]) ∧ Below w.heap.size w w'
theorem ReadOf.keepM {α : Type} {f : α → List Value} {sz : Nat} {w w' : World} {v : Value} {xs : List α} {S : Nat → Prop} (h : ReadOf f sz w v xs) (hm : Mvs S w w') (hs : xs ≠ [] → ∀ A n c, v = .slice (some A) n c → ¬ S A.block) : ReadOf f sz w' v xs := by
  obtain ⟨A, c, rfl, h⟩ := h
  refine ⟨A, c, rfl, fun i hi => ?_⟩
  obtain ⟨g, o, rfl, hg, hc⟩ := h i hi
  have hn := hs (fun e => by rw [e] at hi; simp at hi) _ _ _ rfl
  exact ⟨g, o, rfl, Nat.lt_of_lt_of_le hg hm.size, fun j hj => (hm.cell (a := ⟨g, o + i * sz + j, none⟩) hg hn).trans (hc j hj)⟩
theorem tw_len (l : List UInt8) (p : UInt8 → Bool) : l.take (l.takeWhile p).length = l.takeWhile p ∧ l.drop (l.takeWhile p).length = l.dropWhile p ∧ (l.takeWhile p).length ≤ l.length := by
  have h : l.takeWhile p ++ l.dropWhile p = l := List.takeWhile_append_dropWhile
  have h1 : (l.takeWhile p ++ l.dropWhile p).take (l.takeWhile p).length = l.takeWhile p := List.take_left
  have h2 : (l.takeWhile p ++ l.dropWhile p).drop (l.takeWhile p).length = l.dropWhile p := List.drop_left
  have h3 := congrArg List.length h
  rw [List.length_append] at h3
  rw [h] at h1 h2
  exact ⟨h1, h2, by omega⟩
theorem sl2 (s : List UInt8) (b e : Nat) (h1 : b ≤ e) (h2 : e ≤ s.length) (w : World) : (Instr.slice 9 (.string ⟨s.toArray⟩) (some (.int .i64 (b : Int))) (some (.int .i64 (e : Int))) none).run Tryz.prog w = .ok (.string ⟨((s.drop b).take (e - b)).toArray⟩) w := by
  have := run_slice_string (P := Tryz.prog) w 9 ⟨s.toArray⟩ .i64 .i64 (b : Int) (e : Int) Tryz.underlying9 (by omega) (by omega) (by rw [size_lit]; omega)
  rw [this]
  rw [show ((b : Int)).toNat = b from by omega, show ((e : Int)).toNat = e from by omega, ext_mid s b e]
def seqR : Code → Code
  | .seq _ r => r
  | c => c
set_option maxRecDepth 20000 in
set_option maxHeartbeats 8000000 in
theorem rparse_tail (t word WH : List UInt8) (PATH : List Int) (i K wl : Nat) (A : Option Addr) (cA : Nat) (w wc : World) (ht : t.length ≤ 2000) (hPl : PATH.length ≤ 2000) (hiK : i ≤ K) (hKl : K ≤ t.length) (hwK : K - i = wl) (HW1 : Hid ((t.drop i).take wl = word)) (HWU : Hid (word.map upB = WH)) (HWL : Hid (WH.length = K - i)) (HLOP : Hid (Lo (w.heap.size + 2) (.slice A PATH.length cA))) (NAMES : List (List UInt8)) (nv : Value) (HNV : Hid (ReadOf ssF 1 wc nv NAMES)) (HNLO : Hid (Lo (w.heap.size + 2) nv)) (HD3 : Hid (DP w wc #[.slice A PATH.length cA, .string ⟨WH.toArray⟩, nv])) (HRP3 : Hid (ReadOf siF 1 wc (.slice A PATH.length cA) PATH)) (hnb : NAMES.length ≤ 2000 ∧ ∀ x ∈ NAMES, x.length ≤ 2000) (HDO : Hid (docO t = if rgtB ⟨PATH, WH, NAMES⟩ = true ∧ secT ⟨PATH, WH, NAMES⟩ = t.take i ++ (WH ++ t.drop K) then some ⟨PATH, WH, NAMES⟩ else none)) (u1 u6 u8 u9 u10 u11 u12 u13 u14 u15 u16 u17 u18 u19 u20 u21 u22 u23 u24 u25 u26 u27 u28 u29 u30 u31 u32 u33 u34 u35 u36 u37 u38 u39 u40 u41 u42 u43 u44 u45 u46 u47 u48 u49 u50 u51 u52 u53 u54 u55 u56 u57 u58 u59 u60 u61 u62 u63 u64 u65 u66 u67 u68 u69 u70 u71 u72 u73 u74 u75 u76 u77 u78 u79 u80 u81 u82 u83 u84 u85 u86 u87 u88 u89 u90 u91 u92 u93 u94 u95 u96 u97 u98 u99 u100 u101 u102 u103 u104 u105 u106 u107 u108 u109 u110 u111 u112 u113 u114 u115 u116 u117 u118 u119 u120 u121 u122 u123 u124 u125 u126 u127 u128 u129 u130 u131 u132 u133 u134 u135 u136 u137 u138 u139 u140 u141 u142 u143 u144 u145 u146 u147 u148 u149 u150 u151 u152 u153 u154 u155 u156 u157 u158 u159 u160 u161 u162 u163 u164 u165 u166 u167 u168 u169 u170 u171 u172 u173 u174 u175 u176 u177 u178 u179 : Value) :
    (seqR (seqR (seqR (seqR (seqR (seqR (seqR (seqR (Tryz.f7.body.getD .skip))))))))).wp Tryz.prog (bodyPost Tryz.prog Tryz.f7 (DocOut w (docO t))) { tmps := #[.string ⟨t.toArray⟩, u1, .pointer (some ⟨w.heap.size, 0, none⟩), .bool false, .pointer (some ⟨w.heap.size + 1, 0, none⟩), .int .i64 (i : Nat), u6, .int .i64 (K : Nat), u8, u9, u10, u11, u12, u13, u14, u15, u16, u17, u18, u19, u20, u21, u22, u23, u24, u25, u26, u27, u28, u29, u30, u31, u32, u33, u34, u35, u36, u37, u38, u39, u40, u41, u42, u43, u44, u45, u46, u47, u48, u49, u50, u51, u52, u53, u54, u55, u56, u57, u58, u59, u60, u61, u62, u63, u64, u65, u66, u67, u68, u69, u70, u71, u72, u73, u74, u75, u76, u77, u78, u79, u80, u81, u82, u83, u84, u85, u86, u87, u88, u89, u90, u91, u92, u93, u94, u95, u96, u97, u98, u99, u100, u101, u102, u103, u104, u105, u106, u107, u108, u109, u110, u111, u112, u113, u114, u115, u116, u117, u118, u119, u120, u121, u122, u123, u124, u125, u126, u127, u128, u129, u130, u131, u132, u133, u134, u135, u136, u137, u138, u139, u140, u141, u142, u143, u144, u145, u146, u147, u148, u149, u150, u151, u152, u153, u154, u155, u156, u157, u158, u159, u160, u161, u162, u163, u164, u165, u166, u167, u168, u169, u170, u171, u172, u173, u174, u175, u176, u177, u178, u179], defers := [] } wc := by
  have hsz := size_lit t
  obtain ⟨A2, c2, rfl⟩ := HNV.out.form
  have HSA : Hid (SpA wc (.slice A PATH.length cA) (.slice A2 NAMES.length c2) ⟨PATH, WH, NAMES⟩) := ⟨HRP3.out, HNV.out⟩
  have HRG := hide (fun W (hW : Below wc.heap.size wc W) => rright_any ⟨PATH, WH, NAMES⟩ _ _ W (HSA.out.below hW) (by simp only; omega) (by simp only; omega) (fun x hx => by have := hnb.2 x hx; omega))
  have HTX := hide (fun W (hW : Below wc.heap.size wc W) (hr : rgtB ⟨PATH, WH, NAMES⟩ = true) => rtext12_any ⟨PATH, WH, NAMES⟩ _ _ W (HSA.out.below hW) hr (fun x hx => by have := hnb.2 x hx; omega))
  unfold spV at HRG HTX
  simp only at HRG HTX
  have hcO := HD3.out.out.cell
  have hlO := HD3.out.out.lt
  dsimp only [seqR, Tryz.f7, Option.getD_some]
  go_wp2_with fail
  refine (HRG.out _ (Below.refl _ _)).mono ?_
  rintro e w5 ⟨rfl, hb5⟩
  have HK5 := hide (HD3.out.res.below hb5 HD3.out.res.lt)
  have HO5 := hide (HD3.out.out.below hb5 HD3.out.out.lt)
  have hb5' := hide (HD3.out.low.trans (hb5.mono HD3.out.low.size))
  have hbw5 : Hid (Below wc.heap.size wc w5) := hb5
  have hc5 := HO5.out.cell
  have hl5 := HO5.out.lt
  clear hb5 hcO HRG
  cases hrg : rgtB ⟨PATH, WH, NAMES⟩ with
  | false =>
    have HNO : Hid (docO t = none) := by show _ = _; rw [HDO.out, hrg, if_neg (by simp)]
    have hkr := HK5
    have hbl := hb5'
    have hr5 := HK5.out.cell
    have hfr5 := HK5.out.frozen
    have hlr5 := HK5.out.lt
    clear hrg HDO
    go_wp2
    have h4 := (((hkr.out.set 0 (.slice none 0 0)).set 1 (.string ⟨#[]⟩)).set 2 (.slice none 0 0)).cell
    exact bodyPost_ret (v := .tuple #[.agg #[.slice none 0 0, .string ⟨#[]⟩, .slice none 0 0], .bool false]) (by simp [results, Tryz.results7, go_sem, h4]) rfl (by rw [HNO.out]; exact ⟨rfl, ((hbl.out.setCell (p := ⟨w.heap.size, 0, none⟩) (Nat.le_refl _) _).setCell (p := ⟨w.heap.size, 1, none⟩) (Nat.le_refl _) _).setCell (p := ⟨w.heap.size, 2, none⟩) (Nat.le_refl _) _⟩)
  | true =>
    rw [hrg] at HDO
    have HT1 := hide (HTX.out _ hbw5.out hrg)
    obtain ⟨TT, hTT⟩ : ∃ x, secT ⟨PATH, WH, NAMES⟩ = x := ⟨_, rfl⟩
    rw [hTT] at HT1 HDO
    clear hTT HTX hrg
    have htz := size_lit TT
    go_wp2_with fail
    refine HT1.out.mono ?_
    rintro e w6 ⟨rfl, hb6⟩
    have HK6 := hide (HK5.out.below hb6 HK5.out.lt)
    have HO6 := hide (HO5.out.below hb6 HO5.out.lt)
    have hb6' := hide (hb5'.out.trans (hb6.mono hb5'.out.size))
    have HSA6 := hide ((HSA.out.below hbw5.out).below hb6)
    clear hb6 hc5 HT1
    have hck := chk4 (T := TT) (t := t) (i := i) (k := K) (b := WH) hiK hKl HWL.out
    have HLG2 := hide (fun W => rlarge_any word W (by have := HW1.out; have h2 := congrArg List.length this; rw [List.length_take] at h2; omega))
    have hwu : word.map upB = WH := HWU.out
    rw [hwu] at HLG2
    have hs14 := sl2 t i K hiK hKl
    rw [show K - i = wl by omega, HW1.out] at hs14
    clear hwu
    by_cases h1 : TT.length = t.length
    · have k1 : ((TT.length : Int) == t.length) = true := by rw [beq_iff_eq]; omega
      have k1' : (TT.length : Int) = t.length := by omega
      have e1 : (⟨TT.toArray⟩ : ByteArray).extract 0 i = ⟨(TT.take i).toArray⟩ := ext_take _ _
      have e2 : (⟨t.toArray⟩ : ByteArray).extract 0 i = ⟨(t.take i).toArray⟩ := ext_take _ _
      have e3 := sl2 TT i K hiK (by omega)
      have e4 : (⟨TT.toArray⟩ : ByteArray).extract K TT.length = ⟨(TT.drop K).toArray⟩ := ext_drop _ _
      have e5 : (⟨t.toArray⟩ : ByteArray).extract K t.length = ⟨(t.drop K).toArray⟩ := ext_drop _ _
      have hTi : i ≤ TT.length := by omega
      have hTK : K ≤ TT.length := by omega
      rw [h1] at e4 htz hTi hTK hck
      have HCK := hide hck
      clear hck k1 k1' h1
      obtain ⟨Y1, hY1⟩ : ∃ x, TT.take i = x := ⟨_, rfl⟩
      obtain ⟨X1, hX1⟩ : ∃ x, t.take i = x := ⟨_, rfl⟩
      obtain ⟨Y2, hY2⟩ : ∃ x, (TT.drop i).take (K - i) = x := ⟨_, rfl⟩
      obtain ⟨Y3, hY3⟩ : ∃ x, TT.drop K = x := ⟨_, rfl⟩
      obtain ⟨X3, hX3⟩ : ∃ x, t.drop K = x := ⟨_, rfl⟩
      rw [hY1] at e1 HCK
      rw [hX1] at e2 HCK HDO
      rw [hY2] at e3 HCK
      rw [hY3] at e4 HCK
      rw [hX3] at e5 HCK HDO
      clear hY1 hX1 hY2 hY3 hX3
      by_cases h2 : Y1 = X1
      · subst h2
        by_cases h3 : Y2 = WH
        · subst h3
          by_cases h4 : Y3 = X3
          · subst h4
            have HYS : Hid (docO t = some ⟨PATH, Y2, NAMES⟩) := by
              show _ = _
              rw [HDO.out, if_pos ⟨by trivial, HCK.out.1 ⟨rfl, rfl, rfl, rfl⟩⟩]
            clear HDO HCK
            have hn := ext_some w6
            go_wp2
            refine wp_region_ext (by kernel_rfl) (by kernel_rfl) ?_
            repeat (go_big_quiet_step ((go_at_call 24; exact ext_call (HLG2.out _))))
            refine wpQuiet_nil ?_
            rintro w7 ⟨⟨_, hb7⟩, rfl⟩
            have hkr := hide (HK6.out.below hb7 HK6.out.lt)
            have hko := hide (HO6.out.below hb7 HO6.out.lt)
            have hbl := hide (hb6'.out.trans (hb7.mono hb6'.out.size))
            have hc7 := hko.out.cell
            have hr7 := hkr.out.cell
            have hfr7 := hkr.out.frozen
            have hl7 := hkr.out.lt
            have hm7 := hko.out.lt
            go_wp2
            have h4 := (((hkr.out.set 0 (.slice A PATH.length cA)).set 1 (.string ⟨Y2.toArray⟩)).set 2 (.slice A2 NAMES.length c2)).cell
            have hSA7 := HSA6.out.below hb7
            have hloP := fun (hx : PATH ≠ []) A' n c (e : Value.slice A PATH.length cA = .slice (some A') n c) => (by have := HLOP.out A' n c e; omega : A'.block ≠ w.heap.size)
            have hloN := fun (hx : NAMES ≠ []) A' n c (e : Value.slice A2 NAMES.length c2 = .slice (some A') n c) => (by have := HNLO.out A' n c e; omega : A'.block ≠ w.heap.size)
            exact bodyPost_ret (v := .tuple #[.agg #[.slice A PATH.length cA, .string ⟨Y2.toArray⟩, .slice A2 NAMES.length c2], .bool true]) (by simp [results, Tryz.results7, go_sem, h4]) rfl (by rw [HYS.out]; exact ⟨_, _, rfl, ⟨((hSA7.path.set_other ⟨w.heap.size, 0, none⟩ _ hloP).set_other ⟨w.heap.size, 1, none⟩ _ hloP).set_other ⟨w.heap.size, 2, none⟩ _ hloP, ((hSA7.names.set_other ⟨w.heap.size, 0, none⟩ _ hloN).set_other ⟨w.heap.size, 1, none⟩ _ hloN).set_other ⟨w.heap.size, 2, none⟩ _ hloN⟩, ((hbl.out.setCell (p := ⟨w.heap.size, 0, none⟩) (Nat.le_refl _) _).setCell (p := ⟨w.heap.size, 1, none⟩) (Nat.le_refl _) _).setCell (p := ⟨w.heap.size, 2, none⟩) (Nat.le_refl _) _⟩)
          · have HNO : Hid (docO t = none) := by
              show _ = _
              rw [HDO.out, if_neg]
              exact fun e => h4 (HCK.out.2 e.2).2.2.2
            have l4 := beq_eq_false_iff_ne.2 h4
            clear HDO HCK h4
            have hn := ext_some w6
            go_wp2
            refine wp_region_ext (by kernel_rfl) (by kernel_rfl) ?_
            repeat (go_big_quiet_step ((go_at_call 24; exact ext_call (HLG2.out _))))
            refine wpQuiet_nil ?_
            rintro w7 ⟨⟨_, hb7⟩, rfl⟩
            have hkr := hide (HK6.out.below hb7 HK6.out.lt)
            have hko := hide (HO6.out.below hb7 HO6.out.lt)
            have hbl := hide (hb6'.out.trans (hb7.mono hb6'.out.size))
            have hc7 := hko.out.cell
            have hr7 := hkr.out.cell
            have hfr7 := hkr.out.frozen
            have hl7 := hkr.out.lt
            have hm7 := hko.out.lt
            go_wp2
            have h4 := (((hkr.out.set 0 (.slice none 0 0)).set 1 (.string ⟨#[]⟩)).set 2 (.slice none 0 0)).cell
            exact bodyPost_ret (v := .tuple #[.agg #[.slice none 0 0, .string ⟨#[]⟩, .slice none 0 0], .bool false]) (by simp [results, Tryz.results7, go_sem, h4]) rfl (by rw [HNO.out]; exact ⟨rfl, ((hbl.out.setCell (p := ⟨w.heap.size, 0, none⟩) (Nat.le_refl _) _).setCell (p := ⟨w.heap.size, 1, none⟩) (Nat.le_refl _) _).setCell (p := ⟨w.heap.size, 2, none⟩) (Nat.le_refl _) _⟩)
        · have HNO : Hid (docO t = none) := by
            show _ = _
            rw [HDO.out, if_neg]
            exact fun e => h3 (HCK.out.2 e.2).2.2.1
          have l3 := beq_eq_false_iff_ne.2 h3
          clear HDO HCK h3
          have hn := ext_some w6
          go_wp2
          refine wp_region_ext (by kernel_rfl) (by kernel_rfl) ?_
          repeat (go_big_quiet_step ((go_at_call 24; exact ext_call (HLG2.out _))))
          refine wpQuiet_nil ?_
          rintro w7 ⟨⟨_, hb7⟩, rfl⟩
          have hkr := hide (HK6.out.below hb7 HK6.out.lt)
          have hko := hide (HO6.out.below hb7 HO6.out.lt)
          have hbl := hide (hb6'.out.trans (hb7.mono hb6'.out.size))
          have hc7 := hko.out.cell
          have hr7 := hkr.out.cell
          have hfr7 := hkr.out.frozen
          have hl7 := hkr.out.lt
          have hm7 := hko.out.lt
          go_wp2
          have h4 := (((hkr.out.set 0 (.slice none 0 0)).set 1 (.string ⟨#[]⟩)).set 2 (.slice none 0 0)).cell
          exact bodyPost_ret (v := .tuple #[.agg #[.slice none 0 0, .string ⟨#[]⟩, .slice none 0 0], .bool false]) (by simp [results, Tryz.results7, go_sem, h4]) rfl (by rw [HNO.out]; exact ⟨rfl, ((hbl.out.setCell (p := ⟨w.heap.size, 0, none⟩) (Nat.le_refl _) _).setCell (p := ⟨w.heap.size, 1, none⟩) (Nat.le_refl _) _).setCell (p := ⟨w.heap.size, 2, none⟩) (Nat.le_refl _) _⟩)
      · have HNO : Hid (docO t = none) := by
          show _ = _
          rw [HDO.out, if_neg]
          exact fun e => h2 (HCK.out.2 e.2).2.1
        have l2 := beq_eq_false_iff_ne.2 h2
        clear HDO HCK h2
        have hn := ext_some w6
        go_wp2
        refine wp_region_ext (by kernel_rfl) (by kernel_rfl) ?_
        repeat (go_big_quiet_step ((go_at_call 24; exact ext_call (HLG2.out _))))
        refine wpQuiet_nil ?_
        rintro w7 ⟨⟨_, hb7⟩, rfl⟩
        have hkr := hide (HK6.out.below hb7 HK6.out.lt)
        have hko := hide (HO6.out.below hb7 HO6.out.lt)
        have hbl := hide (hb6'.out.trans (hb7.mono hb6'.out.size))
        have hc7 := hko.out.cell
        have hr7 := hkr.out.cell
        have hfr7 := hkr.out.frozen
        have hl7 := hkr.out.lt
        have hm7 := hko.out.lt
        go_wp2
        have h4 := (((hkr.out.set 0 (.slice none 0 0)).set 1 (.string ⟨#[]⟩)).set 2 (.slice none 0 0)).cell
        exact bodyPost_ret (v := .tuple #[.agg #[.slice none 0 0, .string ⟨#[]⟩, .slice none 0 0], .bool false]) (by simp [results, Tryz.results7, go_sem, h4]) rfl (by rw [HNO.out]; exact ⟨rfl, ((hbl.out.setCell (p := ⟨w.heap.size, 0, none⟩) (Nat.le_refl _) _).setCell (p := ⟨w.heap.size, 1, none⟩) (Nat.le_refl _) _).setCell (p := ⟨w.heap.size, 2, none⟩) (Nat.le_refl _) _⟩)
    · have k1 : ((TT.length : Int) == t.length) = false := by rw [beq_eq_false_iff_ne]; omega
      have k1' : ¬ (TT.length : Int) = t.length := by omega
      have HNO : Hid (docO t = none) := by
        show _ = _
        rw [HDO.out, if_neg]
        exact fun e => h1 (hck.2 e.2).1
      have k2 : (TT.length == t.length) = false := beq_eq_false_iff_ne.2 h1
      have k3 : ((TT.length : Int) != t.length) = true := by rw [bne_iff_ne]; omega
      clear HDO hck
      have hn := ext_some w6
      go_wp2
      refine wp_region_ext (by kernel_rfl) (by kernel_rfl) ?_
      repeat (go_big_quiet_step ((go_at_call 24; exact ext_call (HLG2.out _))))
      refine wpQuiet_nil ?_
      rintro w7 ⟨⟨_, hb7⟩, rfl⟩
      have hkr := hide (HK6.out.below hb7 HK6.out.lt)
      have hko := hide (HO6.out.below hb7 HO6.out.lt)
      have hbl := hide (hb6'.out.trans (hb7.mono hb6'.out.size))
      have hc7 := hko.out.cell
      have hr7 := hkr.out.cell
      have hfr7 := hkr.out.frozen
      have hl7 := hkr.out.lt
      have hm7 := hko.out.lt
      go_wp2
      have h4 := (((hkr.out.set 0 (.slice none 0 0)).set 1 (.string ⟨#[]⟩)).set 2 (.slice none 0 0)).cell
      exact bodyPost_ret (v := .tuple #[.agg #[.slice none 0 0, .string ⟨#[]⟩, .slice none 0 0], .bool false]) (by simp [results, Tryz.results7, go_sem, h4]) rfl (by rw [HNO.out]; exact ⟨rfl, ((hbl.out.setCell (p := ⟨w.heap.size, 0, none⟩) (Nat.le_refl _) _).setCell (p := ⟨w.heap.size, 1, none⟩) (Nat.le_refl _) _).setCell (p := ⟨w.heap.size, 2, none⟩) (Nat.le_refl _) _⟩)
end Go.Proofs.YtegplihhbdmnbaaGreatDoor
