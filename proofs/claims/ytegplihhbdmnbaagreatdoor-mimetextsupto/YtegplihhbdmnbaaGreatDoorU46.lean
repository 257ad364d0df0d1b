/- parse of package mime. -/
import Derived.Test.YtegplihhbdmnbaaGreatDoorU25
import Derived.Test.YtegplihhbdmnbaaGreatDoorU27
namespace Go.Proofs.YtegplihhbdmnbaaGreatDoor
open Go.RowKit Go.Shelf
theorem ptInfo : (Tryz.prog.info? 40).map (fun i => (i.zero, i.size, i.bytes)) = some (some (.agg #[.string ⟨#[]⟩, .string ⟨#[]⟩, .slice none 0 0, .string ⟨#[]⟩, .string ⟨#[]⟩, .string ⟨#[]⟩, .int .i64 0, .int .i64 0, .int .i64 0, .int .i64 0, .slice none 0 0]), 11, 160) := by kernel_rfl
theorem src_pt {w : World} (h : PH) (A A' : Option Addr) (n c n' c' : Nat) {k : Nat} : Src Tryz.prog 11 38 (.slice (some ⟨w.heap.size, 0, none⟩) 1 k) 1 (phA h (.slice A n c) (.slice A' n' c')).toList (w.alloc (.cells (phA h (.slice A n c) (.slice A' n' c')) 40)) := by
  refine Src.ofSlice _ Tryz.underlying38 ⟨w.heap.size, 0, none⟩ 1 k _ (by simp [phA]) (fun j u hu => ?_) (by simp [Value.oneCell', phA])
  rw [Go.WideShapes.add_plain, Nat.zero_add, World.cell?_alloc_mark]
  rw [← hu, ← Array.getElem?_toList]
/-- What parse answers. -/
def PsOut (d : Nat) (m : List UInt8) (a b : Nat) (w : World) (e : Ending) (w' : World) : Prop := Below w.heap.size w w' ∧ ∃ v, e = .returned v ∧ PA (d + 1) (fun g => w.heap.size ≤ g) w' v (parseP d m a b)
theorem parse_leaf {d : Nat} {m : List UInt8} {a b : Nat} (h : (baseP m a b).type ≠ tMulti) : parseP d m a b = .mk (baseP m a b) [] := by
  cases d with
  | zero => rw [parseP, if_neg h]
  | succ d => rw [parseP, if_neg h]
theorem paramsF_bd : ∀ (n : Nat) (r : List UInt8) (ps : List Pm), paramsF n r = some ps → ps.length ≤ r.length ∧ ∀ x ∈ ps, x.name.length ≤ r.length ∧ x.value.length ≤ r.length
  | 0, _, _, h => by cases h
  | n + 1, r, ps, h => by
    rw [paramsF] at h
    split at h
    · cases h
      simp
    · obtain ⟨x, h1, h2⟩ := Option.bind_eq_some_iff.1 h
      obtain ⟨y, h3, h4⟩ := Option.map_eq_some_iff.1 h2
      cases h4
      have hp := paramO_len (p := x.1) (r' := x.2) h1
      have ih := paramsF_bd n x.2 y h3
      refine ⟨by simp; omega, fun z hz => ?_⟩
      rcases List.mem_cons.1 hz with rfl | hz
      · omega
      · have := ih.2 z hz
        omega
theorem type_bd {s t u : List UInt8} {ps : List Pm} (h : typeO s = some (t, u, ps)) : ps.length ≤ s.length ∧ ∀ x ∈ ps, x.value.length ≤ s.length := by
  unfold typeO at h
  obtain ⟨x, h1, h⟩ := Option.bind_eq_some_iff.1 h
  obtain ⟨r2, h2, h⟩ := Option.bind_eq_some_iff.1 h
  obtain ⟨y, h3, h⟩ := Option.bind_eq_some_iff.1 h
  obtain ⟨qs, h4, h5⟩ := Option.map_eq_some_iff.1 h
  cases h5
  have a1 := (tokO_len (t := x.1) (r' := x.2) h1).1
  have a2 := markO_len h2
  have a3 := (tokO_len (t := y.1) (r' := y.2) h3).1
  have a0 := skb_len s
  have a4 := paramsF_bd _ _ _ h4
  exact ⟨by omega, fun z hz => by have := (a4.2 z hz).2; omega⟩
/-- The kids' places, as the boundary has it. -/
theorem places_bd {m : List UInt8} {a b : Nat} {bd : List UInt8} (h : bdV (baseP m a b).params = (bd, true)) : placesOf m a b = (kidsP m bd b (splitS (seg m (bodyN m a b) b)) (bodyN m a b) none).take 100 := by
  unfold placesOf
  unfold bdV at h
  cases hb : bdOf (baseP m a b).params with
  | none =>
    rw [hb] at h
    cases h
  | some x =>
    rw [hb] at h
    simp only [Prod.mk.injEq] at h
    obtain ⟨rfl, h2⟩ := h
    dsimp only
    rw [if_pos h2]
theorem places_no {m : List UInt8} {a b : Nat} (h : (bdV (baseP m a b).params).2 = false) : placesOf m a b = [] := by
  unfold placesOf
  unfold bdV at h
  cases hb : bdOf (baseP m a b).params with
  | none => rfl
  | some x =>
    rw [hb] at h
    dsimp only at h ⊢
    rw [if_neg (by rw [h]; simp)]
theorem params_bd {m : List UInt8} {a b : Nat} (hm : m.length ≤ 1000000) (hb : b ≤ m.length) : (baseP m a b).params.length ≤ 1000000 ∧ ∀ x ∈ (baseP m a b).params, x.value.length ≤ 1000000 := by
  have hs := seg_len m a b hb
  show (typV (firstV nCT (fdsOf (seg m a b)))).2.2.length ≤ _ ∧ ∀ x ∈ (typV (firstV nCT (fdsOf (seg m a b)))).2.2, _
  have hf : (firstV nCT (fdsOf (seg m a b))).length ≤ 1000000 := firstV_len (fun x hx => by have := (fdsOf_bd _ x hx).2; omega)
  generalize firstV nCT (fdsOf (seg m a b)) = c at *
  cases ht : typeO c with
  | none =>
    rw [typV_none ht]
    simp
  | some x =>
    rw [typV_some ht]
    obtain ⟨t, u, ps⟩ := x
    have := type_bd ht
    exact ⟨by dsimp only; omega, fun y hy => by have := this.2 y hy; omega⟩
/-- A multipart's part, kids and all. -/
def multiP (H0 : PH) (m : List UInt8) (pl : List (Nat × Nat)) : Nat → Part
  | 0 => .mk (octP H0) []
  | d + 1 => withK H0 (pl.map fun k => parseP d m k.1 k.2)
theorem parse_multi {m : List UInt8} {a b : Nat} {H0 : PH} (d : Nat) (hH : baseP m a b = H0) (ht : H0.type = tMulti) : parseP d m a b = multiP H0 m (placesOf m a b) d := by
  cases d with
  | zero =>
    rw [parseP, hH, if_pos ht]
    rfl
  | succ d =>
    rw [parseP, hH, if_pos ht]
    rfl
theorem multi_none (H0 : PH) (m : List UInt8) : ∀ d, multiP H0 m [] d = .mk (octP H0) []
  | 0 => rfl
  | _ + 1 => rfl
theorem Mvs11 (w : World) (R : Nat) (v0 v1 v2 v3 v4 v5 v6 v7 v8 v9 v10 : Value) : Mvs (fun k => k = R) w (((((((((((w.setCell ⟨R, 0, none⟩ v0).setCell ⟨R, 1, none⟩ v1).setCell ⟨R, 2, none⟩ v2).setCell ⟨R, 3, none⟩ v3).setCell ⟨R, 4, none⟩ v4).setCell ⟨R, 5, none⟩ v5).setCell ⟨R, 6, none⟩ v6).setCell ⟨R, 7, none⟩ v7).setCell ⟨R, 8, none⟩ v8).setCell ⟨R, 9, none⟩ v9).setCell ⟨R, 10, none⟩ v10) := by
  iterate 11 (refine Mvs.setCell ?_ _ _ (fun _ => rfl))
  exact Mvs.refl _ _
theorem psYes {d : Nat} {m : List UInt8} {a b : Nat} {w wc w' : World} {v : Value} (hb : Below w.heap.size w wc) {R : Nat} (hR : w.heap.size ≤ R) (hR2 : R < w.heap.size + 2) (hm : Mvs (fun k => k = R) wc w') (hp : PA (d + 1) (fun g => w.heap.size + 2 ≤ g) wc v (parseP d m a b)) : PsOut d m a b w (.returned v) w' := by
  refine ⟨below_mvs hb hm (fun k hk => by omega) (Nat.le_refl _), v, rfl, ?_⟩
  exact (hp.keep hm (fun g hg => by omega)).mono (fun g _ hg => by omega)
set_option linter.unusedSimpArgs false in
set_option linter.unusedVariables false in
set_option maxRecDepth 20000 in
set_option maxHeartbeats 4000000 in
theorem parse_step (m : List UInt8) (ea ef : Addr) (hm : m.length ≤ 1000000) (d t a b : Nat) (w : World) (hdt : d + t = 32) (hE : EF w ea) (hF : EFm w ef) (hab : a ≤ b) (hbm : b ≤ m.length)
    (IH : ∀ d', d = d' + 1 → ∀ (a b : Nat) (w : World), EF w ea → EFm w ef → a ≤ b → b ≤ m.length → Calls Tryz.prog 58 #[.string ⟨m.toArray⟩, .agg #[.int .i64 (a : Nat), .int .i64 (b : Nat)], .int .i64 ((t : Int) + 1)] w (PsOut d' m a b w)) :
    Calls Tryz.prog 58 #[.string ⟨m.toArray⟩, .agg #[.int .i64 (a : Nat), .int .i64 (b : Nat)], .int .i64 (t : Nat)] w (PsOut d m a b w) := by
  have HIH := hide IH
  clear IH
  obtain ⟨i0, hi, hz0, hz1, hz2⟩ := info_three ptInfo
  have HWK := hide (wk_any m a b ((w.alloc (.cells #[.int .i64 (a : Nat), .int .i64 (b : Nat)] 98)).alloc (.cells #[.string ⟨#[]⟩, .string ⟨#[]⟩, .slice none 0 0, .string ⟨#[]⟩, .string ⟨#[]⟩, .string ⟨#[]⟩, .int .i64 0, .int .i64 0, .int .i64 0, .int .i64 0, .slice none 0 0] 40)) ea ef (hE.below (((Below.refl _ _).alloc (Nat.le_refl _) _).alloc (by simp) _)) (hF.below (((Below.refl _ _).alloc (Nat.le_refl _) _).alloc (by simp) _)) hab hbm hm)
  have HEr := hide hE
  have HEf := hide hF
  have HZ : Hid (Blk ((w.alloc (.cells #[.int .i64 (a : Nat), .int .i64 (b : Nat)] 98)).alloc (.cells #[.string ⟨#[]⟩, .string ⟨#[]⟩, .slice none 0 0, .string ⟨#[]⟩, .string ⟨#[]⟩, .string ⟨#[]⟩, .int .i64 0, .int .i64 0, .int .i64 0, .int .i64 0, .slice none 0 0] 40)) (w.heap.size + 1) #[.string ⟨#[]⟩, .string ⟨#[]⟩, .slice none 0 0, .string ⟨#[]⟩, .string ⟨#[]⟩, .string ⟨#[]⟩, .int .i64 0, .int .i64 0, .int .i64 0, .int .i64 0, .slice none 0 0] 40) := Blk.new1 w _ _ _
  have hN := bodyN_le m a b hab hbm
  have hPb := params_bd (a := a) hm hbm
  have HBP : Hid (baseP m a b = baseP m a b) := rfl
  have hend : (baseP m a b).end' = (b : Int) := rfl
  have hbod : (baseP m a b).body = ((bodyN m a b : Nat) : Int) := rfl
  have hat : (baseP m a b).at' = (a : Int) := rfl
  clear hE hF
  go_enter Tryz.func58, Tryz.ntmps58
  go_wp2_with fail
  refine HWK.out.mono ?_
  rintro e w1 ⟨hb1, vp, rfl, hrow⟩
  obtain ⟨Ap, cq, rfl⟩ := hrow.form
  obtain ⟨np, hnp⟩ : ∃ np, (baseP m a b).params.length = np := ⟨_, rfl⟩
  rw [hnp] at hrow ⊢
  have HRes1 := hide (HZ.out.below hb1 HZ.out.lt)
  have HB1 : Hid (Below w.heap.size w w1) := (((Below.refl _ _).alloc (Nat.le_refl _) _).alloc (by simp) _).trans (hb1.mono (by simp; omega))
  have hs1 : w.heap.size + 2 ≤ w1.heap.size := by have := hb1.size; simp at this; omega
  have HPr := hide (hrow.readS pm_len)
  have hsz2 : (((w.alloc (.cells #[.int .i64 (a : Nat), .int .i64 (b : Nat)] 98)).alloc (.cells #[.string ⟨#[]⟩, .string ⟨#[]⟩, .slice none 0 0, .string ⟨#[]⟩, .string ⟨#[]⟩, .string ⟨#[]⟩, .int .i64 0, .int .i64 0, .int .i64 0, .int .i64 0, .slice none 0 0] 40))).heap.size = w.heap.size + 2 := by simp
  rw [hsz2] at HPr
  unfold phA
  rw [hend, hbod, hat]
  obtain ⟨H0, hH0⟩ : ∃ H0, baseP m a b = H0 := ⟨_, rfl⟩
  have HH0 := hide hH0
  rw [hH0] at HPr hPb ⊢
  obtain ⟨y, hy⟩ : ∃ y, bodyN m a b = y := ⟨_, rfl⟩
  have HY := hide hy
  rw [hy] at hN ⊢
  have HPA : Hid (∀ vk, phA H0 (.slice Ap np cq) vk = #[.string ⟨H0.type.toArray⟩, .string ⟨H0.sub.toArray⟩, .slice Ap np cq, .string ⟨H0.id.toArray⟩, .string ⟨H0.desc.toArray⟩, .string ⟨H0.enc.toArray⟩, .int .i64 (a : Nat), .int .i64 (y : Nat), .int .i64 (b : Nat), .int .i64 H0.lines, vk]) := fun vk => by
    rw [← hH0, ← hy]
    rfl
  have HPO : Hid (∀ vk, phA (octP H0) (.slice none 0 0) vk = #[.string ⟨tApp.toArray⟩, .string ⟨tOct.toArray⟩, .slice none 0 0, .string ⟨H0.id.toArray⟩, .string ⟨H0.desc.toArray⟩, .string ⟨H0.enc.toArray⟩, .int .i64 (a : Nat), .int .i64 (y : Nat), .int .i64 (b : Nat), .int .i64 H0.lines, vk]) := fun vk => by
    rw [← hH0, ← hy]
    rfl
  obtain ⟨PS, hPS⟩ : ∃ PS, H0.params = PS := ⟨_, rfl⟩
  have HPS := hide hPS
  rw [hPS] at hPb
  have HPr2 := hide HPr.out
  rw [hPS] at HPr2
  obtain ⟨TT, hTT⟩ : ∃ TT, H0.type = TT := ⟨_, rfl⟩
  have HTT := hide hTT
  obtain ⟨UU, hUU⟩ : ∃ UU, H0.sub = UU := ⟨_, rfl⟩
  obtain ⟨VI, hVI⟩ : ∃ VI, H0.id = VI := ⟨_, rfl⟩
  obtain ⟨VD, hVD⟩ : ∃ VD, H0.desc = VD := ⟨_, rfl⟩
  obtain ⟨VE, hVE⟩ : ∃ VE, H0.enc = VE := ⟨_, rfl⟩
  obtain ⟨lns, hln⟩ : ∃ lns, H0.lines = lns := ⟨_, rfl⟩
  rw [hTT, hUU, hVI, hVD, hVE, hln] at HPA ⊢
  rw [hVI, hVD, hVE, hln] at HPO
  clear hb1 hrow hnp hsz2 hend hbod hat hH0 hy hPS hTT hUU hVI hVD hVE hln HWK HZ HBP
  obtain ⟨W2, hW2⟩ : ∃ W2, w1.alloc (.cells #[.string ⟨TT.toArray⟩, .string ⟨UU.toArray⟩, .slice Ap np cq, .string ⟨VI.toArray⟩, .string ⟨VD.toArray⟩, .string ⟨VE.toArray⟩, .int .i64 (a : Nat), .int .i64 (y : Nat), .int .i64 (b : Nat), .int .i64 lns, .slice none 0 0] 40) = W2 := ⟨_, rfl⟩
  have HP2 : Hid (Blk W2 w1.heap.size #[.string ⟨TT.toArray⟩, .string ⟨UU.toArray⟩, .slice Ap np cq, .string ⟨VI.toArray⟩, .string ⟨VD.toArray⟩, .string ⟨VE.toArray⟩, .int .i64 (a : Nat), .int .i64 (y : Nat), .int .i64 (b : Nat), .int .i64 lns, .slice none 0 0] 40) := by
    rw [← hW2]
    exact Blk.new w1 _ _
  have HRes2 : Hid (Blk W2 (w.heap.size + 1) #[.string ⟨#[]⟩, .string ⟨#[]⟩, .slice none 0 0, .string ⟨#[]⟩, .string ⟨#[]⟩, .string ⟨#[]⟩, .int .i64 0, .int .i64 0, .int .i64 0, .int .i64 0, .slice none 0 0] 40) := by
    rw [← hW2]
    exact HRes1.out.alloc _
  have HB2 : Hid (Below w.heap.size w W2) := by
    rw [← hW2]
    exact HB1.out.alloc HB1.out.size _
  have HB12 : Hid (Below w1.heap.size w1 W2) := by
    rw [← hW2]
    exact (Below.refl _ _).alloc (Nat.le_refl _) _
  have hs2 : W2.heap.size = w1.heap.size + 1 := by rw [← hW2]; simp
  have HS2 := hide hs2
  have HW2 := hide hW2
  clear hs2 HRes1 HB1 hW2
  by_cases hmu : ¬ TT = tMulti
  · have hmu' : (TT == tMulti) = false := beq_eq_false_iff_ne.2 hmu
    unfold tMulti at hmu'
    have HV : Hid (parseP d m a b = .mk H0 []) := by
      show _ = _
      rw [parse_leaf (by rw [HH0.out, HTT.out]; exact hmu), HH0.out]
    have HRes := HRes2
    have hcP := HP2.out.cell
    have hX := HRes.out
    rw [← HW2.out] at hX hcP
    have hcR := hX.cell
    have hfR := hX.frozen
    have hlR := hX.lt
    clear hmu hX
    go_wp2
    rw [HW2.out]
    have h9 := (((((((((((HRes.out.set 0 (.string ⟨TT.toArray⟩)).set 1 (.string ⟨UU.toArray⟩)).set 2 (.slice Ap np cq)).set 3 (.string ⟨VI.toArray⟩)).set 4 (.string ⟨VD.toArray⟩)).set 5 (.string ⟨VE.toArray⟩)).set 6 (.int .i64 (a : Nat))).set 7 (.int .i64 (y : Nat))).set 8 (.int .i64 (b : Nat))).set 9 (.int .i64 lns)).set 10 (.slice none 0 0)).cell
    refine bodyPost_ret (v := .agg #[.string ⟨TT.toArray⟩, .string ⟨UU.toArray⟩, .slice Ap np cq, .string ⟨VI.toArray⟩, .string ⟨VD.toArray⟩, .string ⟨VE.toArray⟩, .int .i64 (a : Nat), .int .i64 (y : Nat), .int .i64 (b : Nat), .int .i64 lns, .slice none 0 0]) (by simp [results, Tryz.results58, go_sem, h9]) rfl ?_
    refine psYes (w := w) (wc := W2) HB2.out (R := w.heap.size + 1) (Nat.le_succ _) (Nat.lt_succ_self _) (Mvs11 _ _ _ _ _ _ _ _ _ _ _ _ _) ?_
    rw [HV.out, ← HPA.out]
    exact PA.leaf (HPr.out.keep (T := fun _ => False) (Mvs.of_below HB12.out) (fun _ _ c => c)) _
  have hmu2 : TT = [109, 117, 108, 116, 105, 112, 97, 114, 116] := Classical.not_not.1 hmu
  clear hmu
  subst hmu2
  have HBD := hide (boundary_any (.slice Ap np cq) PS W2 (HPr2.out.keep (T := fun _ => False) (Mvs.of_below HB12.out) (fun _ _ c => c)).reads hPb.1 hPb.2)
  have HVn : Hid ((bdV PS).2 = false → placesOf m a b = []) := fun h => places_no (by rw [HH0.out, HPS.out]; exact h)
  have HVy : Hid (∀ bd, bdV PS = (bd, true) → bd.length ≤ 70 ∧ placesOf m a b = (kidsP m bd b (splitS (seg m y b)) y none).take 100) := fun bd h => by
    refine ⟨?_, ?_⟩
    · unfold bdV at h
      cases hb : bdOf PS with
      | none =>
        rw [hb] at h
        cases h
      | some x =>
        rw [hb] at h
        simp only [Prod.mk.injEq] at h
        obtain ⟨rfl, h2⟩ := h
        unfold bdOk at h2
        simp at h2
        exact h2.2
    · rw [← HY.out]
      exact places_bd (by rw [HH0.out, HPS.out]; exact h)
  have HPP := hide (parse_multi d (show baseP m a b = H0 from HH0.out) (show H0.type = tMulti from HTT.out))
  obtain ⟨bd, ok, hbv⟩ : ∃ bd ok, bdV PS = (bd, ok) := ⟨(bdV PS).1, (bdV PS).2, rfl⟩
  rw [hbv] at HBD HVn
  dsimp only at HBD HVn
  have hVy := HVy.out bd
  rw [hbv] at hVy
  have HVz := hide hVy
  clear hVy HVy hbv
  have hMARK := 0
  clear hMARK
  go_wp2_with fail
  rw [HW2.out]
  refine HBD.out.mono ?_
  rintro e w3 ⟨rfl, hb3⟩
  have HP3 := hide (HP2.out.below hb3 HP2.out.lt)
  have HRes3 := hide (HRes2.out.below hb3 HRes2.out.lt)
  have HB3 := hide (HB2.out.trans (hb3.mono HB2.out.size))
  have HB13 := hide (HB12.out.trans (hb3.mono HB12.out.size))
  have hs3 : w1.heap.size + 1 ≤ w3.heap.size := by have := hb3.size; have := HS2.out; omega
  clear hb3 HBD HP2 HRes2
  cases ok with
  | false =>
    have HV : Hid (parseP d m a b = .mk (octP H0) []) := by
      have h1 := HPP.out
      rw [HVn.out rfl, multi_none] at h1
      exact h1
    have HPc := HP3
    have HResc := HRes3
    have HBc := HB3
    have hcP := HPc.out.cell
    have hfP := HPc.out.frozen
    have hlP := HPc.out.lt
    have HRes := hide (((HResc.out.set_other ⟨w1.heap.size, 0, none⟩ (.string ⟨[97, 112, 112, 108, 105, 99, 97, 116, 105, 111, 110].toArray⟩) (by dsimp only; omega)).set_other ⟨w1.heap.size, 1, none⟩ (.string ⟨[111, 99, 116, 101, 116, 45, 115, 116, 114, 101, 97, 109].toArray⟩) (by dsimp only; omega)).set_other ⟨w1.heap.size, 2, none⟩ (.slice none 0 0) (by dsimp only; omega))
    have HPd := hide (((HPc.out.set 0 (.string ⟨[97, 112, 112, 108, 105, 99, 97, 116, 105, 111, 110].toArray⟩)).set 1 (.string ⟨[111, 99, 116, 101, 116, 45, 115, 116, 114, 101, 97, 109].toArray⟩)).set 2 (.slice none 0 0))
    have hcR := HRes.out.cell
    have hfR := HRes.out.frozen
    have hlR := HRes.out.lt
    have hcQ := HPd.out.cell
    have HBd := hide (((HBc.out.setCell (p := ⟨w1.heap.size, 0, none⟩) (by dsimp only; omega) (.string ⟨[97, 112, 112, 108, 105, 99, 97, 116, 105, 111, 110].toArray⟩)).setCell (p := ⟨w1.heap.size, 1, none⟩) (by dsimp only; omega) (.string ⟨[111, 99, 116, 101, 116, 45, 115, 116, 114, 101, 97, 109].toArray⟩)).setCell (p := ⟨w1.heap.size, 2, none⟩) (by dsimp only; omega) (.slice none 0 0))
    go_wp2
    have h9 := (((((((((((HRes.out.set 0 (.string ⟨[97, 112, 112, 108, 105, 99, 97, 116, 105, 111, 110].toArray⟩)).set 1 (.string ⟨[111, 99, 116, 101, 116, 45, 115, 116, 114, 101, 97, 109].toArray⟩)).set 2 (.slice none 0 0)).set 3 (.string ⟨VI.toArray⟩)).set 4 (.string ⟨VD.toArray⟩)).set 5 (.string ⟨VE.toArray⟩)).set 6 (.int .i64 (a : Nat))).set 7 (.int .i64 (y : Nat))).set 8 (.int .i64 (b : Nat))).set 9 (.int .i64 lns)).set 10 (.slice none 0 0)).cell
    refine bodyPost_ret (v := .agg #[.string ⟨[97, 112, 112, 108, 105, 99, 97, 116, 105, 111, 110].toArray⟩, .string ⟨[111, 99, 116, 101, 116, 45, 115, 116, 114, 101, 97, 109].toArray⟩, .slice none 0 0, .string ⟨VI.toArray⟩, .string ⟨VD.toArray⟩, .string ⟨VE.toArray⟩, .int .i64 (a : Nat), .int .i64 (y : Nat), .int .i64 (b : Nat), .int .i64 lns, .slice none 0 0]) (by simp [results, Tryz.results58, go_sem, h9]) rfl ?_
    refine psYes (w := w) (wc := (((w3.setCell ⟨w1.heap.size, 0, none⟩ (.string ⟨[97, 112, 112, 108, 105, 99, 97, 116, 105, 111, 110].toArray⟩)).setCell ⟨w1.heap.size, 1, none⟩ (.string ⟨[111, 99, 116, 101, 116, 45, 115, 116, 114, 101, 97, 109].toArray⟩)).setCell ⟨w1.heap.size, 2, none⟩ (.slice none 0 0))) HBd.out (R := w.heap.size + 1) (Nat.le_succ _) (Nat.lt_succ_self _) (Mvs11 _ _ _ _ _ _ _ _ _ _ _ _ _) ?_
    rw [HV.out]
    have h8 := PA.leaf0 (S := fun g => w.heap.size + 2 ≤ g) (w := (((w3.setCell ⟨w1.heap.size, 0, none⟩ (.string ⟨[97, 112, 112, 108, 105, 99, 97, 116, 105, 111, 110].toArray⟩)).setCell ⟨w1.heap.size, 1, none⟩ (.string ⟨[111, 99, 116, 101, 116, 45, 115, 116, 114, 101, 97, 109].toArray⟩)).setCell ⟨w1.heap.size, 2, none⟩ (.slice none 0 0))) (h := octP H0) (ReadS.nil _ _ _ _) d (none) (0)
    rw [HPO.out] at h8
    exact h8
  | true =>
    cases d with
    | zero =>
      have ht32 : ¬ ((t : Int) < 32) := by omega
      have HV : Hid (parseP 0 m a b = .mk (octP H0) []) := HPP.out.trans rfl
      have HPc := HP3
      have HResc := HRes3
      have HBc := HB3
      have hcP := HPc.out.cell
      have hfP := HPc.out.frozen
      have hlP := HPc.out.lt
      have HRes := hide (((HResc.out.set_other ⟨w1.heap.size, 0, none⟩ (.string ⟨[97, 112, 112, 108, 105, 99, 97, 116, 105, 111, 110].toArray⟩) (by dsimp only; omega)).set_other ⟨w1.heap.size, 1, none⟩ (.string ⟨[111, 99, 116, 101, 116, 45, 115, 116, 114, 101, 97, 109].toArray⟩) (by dsimp only; omega)).set_other ⟨w1.heap.size, 2, none⟩ (.slice none 0 0) (by dsimp only; omega))
      have HPd := hide (((HPc.out.set 0 (.string ⟨[97, 112, 112, 108, 105, 99, 97, 116, 105, 111, 110].toArray⟩)).set 1 (.string ⟨[111, 99, 116, 101, 116, 45, 115, 116, 114, 101, 97, 109].toArray⟩)).set 2 (.slice none 0 0))
      have hcR := HRes.out.cell
      have hfR := HRes.out.frozen
      have hlR := HRes.out.lt
      have hcQ := HPd.out.cell
      have HBd := hide (((HBc.out.setCell (p := ⟨w1.heap.size, 0, none⟩) (by dsimp only; omega) (.string ⟨[97, 112, 112, 108, 105, 99, 97, 116, 105, 111, 110].toArray⟩)).setCell (p := ⟨w1.heap.size, 1, none⟩) (by dsimp only; omega) (.string ⟨[111, 99, 116, 101, 116, 45, 115, 116, 114, 101, 97, 109].toArray⟩)).setCell (p := ⟨w1.heap.size, 2, none⟩) (by dsimp only; omega) (.slice none 0 0))
      go_wp2
      have h9 := (((((((((((HRes.out.set 0 (.string ⟨[97, 112, 112, 108, 105, 99, 97, 116, 105, 111, 110].toArray⟩)).set 1 (.string ⟨[111, 99, 116, 101, 116, 45, 115, 116, 114, 101, 97, 109].toArray⟩)).set 2 (.slice none 0 0)).set 3 (.string ⟨VI.toArray⟩)).set 4 (.string ⟨VD.toArray⟩)).set 5 (.string ⟨VE.toArray⟩)).set 6 (.int .i64 (a : Nat))).set 7 (.int .i64 (y : Nat))).set 8 (.int .i64 (b : Nat))).set 9 (.int .i64 lns)).set 10 (.slice none 0 0)).cell
      refine bodyPost_ret (v := .agg #[.string ⟨[97, 112, 112, 108, 105, 99, 97, 116, 105, 111, 110].toArray⟩, .string ⟨[111, 99, 116, 101, 116, 45, 115, 116, 114, 101, 97, 109].toArray⟩, .slice none 0 0, .string ⟨VI.toArray⟩, .string ⟨VD.toArray⟩, .string ⟨VE.toArray⟩, .int .i64 (a : Nat), .int .i64 (y : Nat), .int .i64 (b : Nat), .int .i64 lns, .slice none 0 0]) (by simp [results, Tryz.results58, go_sem, h9]) rfl ?_
      refine psYes (w := w) (wc := (((w3.setCell ⟨w1.heap.size, 0, none⟩ (.string ⟨[97, 112, 112, 108, 105, 99, 97, 116, 105, 111, 110].toArray⟩)).setCell ⟨w1.heap.size, 1, none⟩ (.string ⟨[111, 99, 116, 101, 116, 45, 115, 116, 114, 101, 97, 109].toArray⟩)).setCell ⟨w1.heap.size, 2, none⟩ (.slice none 0 0))) HBd.out (R := w.heap.size + 1) (Nat.le_succ _) (Nat.lt_succ_self _) (Mvs11 _ _ _ _ _ _ _ _ _ _ _ _ _) ?_
      rw [HV.out]
      have h8 := PA.leaf0 (S := fun g => w.heap.size + 2 ≤ g) (w := (((w3.setCell ⟨w1.heap.size, 0, none⟩ (.string ⟨[97, 112, 112, 108, 105, 99, 97, 116, 105, 111, 110].toArray⟩)).setCell ⟨w1.heap.size, 1, none⟩ (.string ⟨[111, 99, 116, 101, 116, 45, 115, 116, 114, 101, 97, 109].toArray⟩)).setCell ⟨w1.heap.size, 2, none⟩ (.slice none 0 0))) (h := octP H0) (ReadS.nil _ _ _ _) 0 (none) (0)
      rw [HPO.out] at h8
      exact h8
    | succ d' =>
      have ht32 : (t : Int) < 32 := by omega
      obtain ⟨hbl, hpl⟩ := HVz.out rfl
      have hKr := places_row m a b hab hbm
      rw [HY.out] at hKr
      have HKA := hide (hKr.1.all)
      have hKl := hKr.2
      have HKd := hide (kids_any m bd y b w3 hN.2 hbm hm (by omega))
      rw [← hpl] at HKd
      have HPk : Hid (parseP (d' + 1) m a b = withK H0 ((placesOf m a b).map fun k => parseP d' m k.1 k.2)) := HPP.out.trans rfl
      obtain ⟨KP, hKP⟩ : ∃ KP, placesOf m a b = KP := ⟨_, rfl⟩
      rw [hKP] at HKd HKA hKl HPk
      have hc3 := HP3.out.cell
      clear hpl hKr hKP HPP HVn HVz
      go_wp2_with fail
      refine HKd.out.mono ?_
      rintro e w4 ⟨hb4, v4, rfl, hrow4⟩
      obtain ⟨A4, c4, rfl⟩ := hrow4.form
      have HP4 := hide (HP3.out.below hb4 HP3.out.lt)
      have HRes4 := hide (HRes3.out.below hb4 HRes3.out.lt)
      have HB4 := hide (HB3.out.trans (hb4.mono HB3.out.size))
      have HB14 := hide (HB13.out.trans (hb4.mono HB13.out.size))
      have HRow4 := hide hrow4
      have hs4 := hb4.size
      obtain ⟨NK, hNK⟩ : ∃ NK, KP.length = NK := ⟨_, rfl⟩
      have HNK := hide hNK
      rw [hNK] at hKl ⊢
      have hlP4 := HP4.out.lt
      clear hb4 hrow4 hc3 HP3 HRes3 HB3 HB13 HKd hNK
      go_wp2
      go_loopw [39] (fun v39 wr => ∃ (k : Nat) (A' : Option Addr) (c' : Nat), k ≤ NK ∧ v39 = .int .i64 k ∧ Hid (Blk wr w1.heap.size #[.string ⟨[109, 117, 108, 116, 105, 112, 97, 114, 116].toArray⟩, .string ⟨UU.toArray⟩, .slice Ap np cq, .string ⟨VI.toArray⟩, .string ⟨VD.toArray⟩, .string ⟨VE.toArray⟩, .int .i64 (a : Nat), .int .i64 (y : Nat), .int .i64 (b : Nat), .int .i64 lns, .slice A' k c'] 40) ∧ Hid (KRow (d' + 1) w4.heap.size wr (.slice A' k c') ((KP.take k).map fun x => parseP d' m x.1 x.2)) ∧ Hid (Mvs (fun q => q = w1.heap.size) w4 wr)) (fun v39 _ => NK - (intOf v39).toNat)
      case atStart => exact ⟨0, none, 0, Nat.zero_le _, rfl, HP4, KRow.nil _ _ _, Mvs.refl _ _⟩
      case round =>
        obtain ⟨k, A', c', hk, rfl, HPw, HKw, HMw⟩ := hrel
        have hsw := HMw.out.size
        have HBw := hide (HB4.out.trans (HMw.out.below (B := w.heap.size) (fun q hq => by omega) (by omega)))
        have HB1w := hide (HB14.out.trans (HMw.out.below (B := w1.heap.size) (fun q hq => by omega) (by omega)))
        by_cases hlt : k < NK
        · have hDUM := 0
          clear hDUM
          obtain ⟨g, o, cap, hv4, _, _, hBg, hgl, hq⟩ := HRow4.out.read st_len k (by rw [HNK.out]; exact hlt)
          have hkK : k < KP.length := by rw [HNK.out]; exact hlt
          have hx := HKA.out _ (List.getElem_mem hkK)
          have HTk : Hid ((KP.take (k + 1)).map (fun x => parseP d' m x.1 x.2) = (KP.take k).map (fun x => parseP d' m x.1 x.2) ++ [parseP d' m KP[k].1 KP[k].2]) := by
            show _ = _
            rw [List.take_succ_eq_append_getElem hkK, List.map_append]
            rfl
          have q0 := (HMw.out.cell (a := ⟨g, o + k * 2, none⟩) hgl (by dsimp only; omega)).trans (hq 0 (by omega))
          have q1 := (HMw.out.cell (a := ⟨g, o + k * 2 + 1, none⟩) hgl (by dsimp only; omega)).trans (hq 1 (by omega))
          obtain ⟨pr, hpr⟩ : ∃ pr, KP[k] = pr := ⟨_, rfl⟩
          rw [hpr] at hx HTk q0 q1
          obtain ⟨ka, kb⟩ := pr
          simp only [stC, List.getElem?_cons_zero, List.getElem?_cons_succ] at q0 q1
          dsimp only at hx HTk
          obtain ⟨rfl, rfl⟩ : A4 = some ⟨g, o, none⟩ ∧ c4 = cap := by
            simp at hv4
            exact ⟨hv4.1, hv4.2⟩
          have hlt' : (k : Int) < NK := by omega
          have HIHk := hide (HIH.out d' rfl ka kb)
          have hlk : ((KP.take k).map (fun x => parseP d' m x.1 x.2)).length = k := by
            rw [List.length_map, List.length_take, HNK.out]
            omega
          obtain ⟨ks, hks⟩ : ∃ ks, (KP.take k).map (fun x => parseP d' m x.1 x.2) = ks := ⟨_, rfl⟩
          rw [hks] at hlk HTk HKw
          have HLK := hide hlk
          obtain ⟨q, hqq⟩ : ∃ q, parseP d' m ka kb = q := ⟨_, rfl⟩
          have HQQ := hide hqq
          rw [hqq] at HTk
          obtain ⟨vss, r1, r2, G, hrw, hg, h5⟩ := HKw.out
          rw [hlk] at hrw
          have HRw := hide hrw
          have HG : Hid (∀ x, G = some x → w4.heap.size ≤ x ∧ x < wr.heap.size) := fun x e => ⟨hg x e, hrw.lt x e⟩
          have HR1 := hide r1
          have HR2 := hide r2
          have H5 := hide h5
          have hGP : ∀ x, x < w4.heap.size → ¬ some x = G := fun x hx e => by have := (HG.out x e.symm).1; omega
          have hlP := HPw.out.lt
          have hPa := (HPw.out.alloc (.cells #[.int .i64 (ka : Nat), .int .i64 (kb : Nat)] 98))
          have hSa := Blk.new wr #[.int .i64 (ka : Nat), .int .i64 (kb : Nat)] 98
          have HPa := hide hPa
          have HSa := hide hSa
          have hBa : Below wr.heap.size wr (wr.alloc (.cells #[.int .i64 (ka : Nat), .int .i64 (kb : Nat)] 98)) := (Below.refl _ _).alloc (Nat.le_refl _) _
          have HBa := hide hBa
          have HBwa := hide (HBw.out.trans (hBa.mono HBw.out.size))
          have htw : IntKind.i64.wrap ((t : Int) + 1) = (t : Int) + 1 := wrap_nat (by omega) (by omega)
          have hza : (wr.alloc (.cells #[.int .i64 (ka : Nat), .int .i64 (kb : Nat)] 98)).heap.size = wr.heap.size + 1 := by simp
          clear hq hv4 hpr hks hqq hlk r1 r2 hrw hg h5 hPa hSa hBa
          go_wp2_with fail
          clear q0 q1
          obtain ⟨Wa, hWa⟩ : ∃ Wa, wr.alloc (.cells #[.int .i64 (ka : Nat), .int .i64 (kb : Nat)] 98) = Wa := ⟨_, rfl⟩
          rw [hWa] at HPa HSa HBa HBwa hza ⊢
          clear hWa
          have HZA := hide hza
          clear hza
          refine regionL 10 (fun W => W.cell? ⟨w1.heap.size, 10, none⟩ = some (.slice A' k c') ∧ W.cell? ⟨wr.heap.size, 0, none⟩ = some (.int .i64 (ka : Nat)) ∧ W.cell? ⟨wr.heap.size, 1, none⟩ = some (.int .i64 (kb : Nat))) (by kernel_rfl) ?_
          have HTH : Hid (∀ W (S : Nat → Prop), Mvs S Wa W → ¬ S w1.heap.size → ¬ S wr.heap.size → W.cell? ⟨w1.heap.size, 10, none⟩ = some (.slice A' k c') ∧ W.cell? ⟨wr.heap.size, 0, none⟩ = some (.int .i64 (ka : Nat)) ∧ W.cell? ⟨wr.heap.size, 1, none⟩ = some (.int .i64 (kb : Nat))) := fun W S hm h1 h2 => ⟨(hm.blk HPa.out h1).cell 10, (hm.blk HSa.out h2).cell 0, (hm.blk HSa.out h2).cell 1⟩
          have HT0 := HTH.out Wa.drew (fun _ => False) (Mvs.refl _ _).drew (fun c => c) (fun c => c)
          refine takeW (i := 0) (v := (.pointer (some ⟨w1.heap.size, 10, none⟩))) rfl (by kernel_rfl) (by kernel_rfl) (by kernel_rfl) rfl (fun _ _ _ h => h) (fun _ => HT0) (Or.inl ⟨by rfl, fun W _ => by go_simp⟩) ?_
          simp only [Act.put, List.getElem_toArray, List.getElem_cons_succ, List.getElem_cons_zero, List.setIfInBounds_toArray, List.set_cons_zero, List.set_cons_succ]
          refine takeL (i := 1) (v := (.slice A' k c')) rfl (by kernel_rfl) (by kernel_rfl) (by kernel_rfl) (by kernel_rfl) (by kernel_rfl) (fun _ _ _ h => h) HT0 (Or.inl ⟨by rfl, fun W hW => by obtain ⟨t0, t1, t2⟩ := hW; go_simp⟩) ?_
          simp only [Act.put, List.getElem_toArray, List.getElem_cons_succ, List.getElem_cons_zero, List.setIfInBounds_toArray, List.set_cons_zero, List.set_cons_succ]
          refine takeW (i := 2) (v := (.string ⟨m.toArray⟩)) rfl (by kernel_rfl) (by kernel_rfl) (by kernel_rfl) rfl (fun _ _ _ h => h) (fun _ => HT0) (Or.inl ⟨by rfl, fun W _ => by go_simp⟩) ?_
          simp only [Act.put, List.getElem_toArray, List.getElem_cons_succ, List.getElem_cons_zero, List.setIfInBounds_toArray, List.set_cons_zero, List.set_cons_succ]
          refine takeL (i := 3) (v := (.agg #[.int .i64 (ka : Nat), .int .i64 (kb : Nat)])) rfl (by kernel_rfl) (by kernel_rfl) (by kernel_rfl) (by kernel_rfl) (by kernel_rfl) (fun _ _ _ h => h) HT0 (Or.inl ⟨by rfl, fun W hW => by obtain ⟨t0, t1, t2⟩ := hW; go_simp⟩) ?_
          simp only [Act.put, List.getElem_toArray, List.getElem_cons_succ, List.getElem_cons_zero, List.setIfInBounds_toArray, List.set_cons_zero, List.set_cons_succ]
          refine takeW (i := 4) (v := (.int .i64 (t : Nat))) rfl (by kernel_rfl) (by kernel_rfl) (by kernel_rfl) rfl (fun _ _ _ h => h) (fun _ => HT0) (Or.inl ⟨by rfl, fun W _ => by go_simp⟩) ?_
          simp only [Act.put, List.getElem_toArray, List.getElem_cons_succ, List.getElem_cons_zero, List.setIfInBounds_toArray, List.set_cons_zero, List.set_cons_succ]
          refine takeW (i := 5) (v := (.int .i64 ((t : Int) + 1))) rfl (by kernel_rfl) (by kernel_rfl) (by kernel_rfl) rfl (fun _ _ _ h => h) (fun _ => HT0) (Or.inl ⟨by rfl, fun W _ => by go_simp⟩) ?_
          simp only [Act.put, List.getElem_toArray, List.getElem_cons_succ, List.getElem_cons_zero, List.setIfInBounds_toArray, List.set_cons_zero, List.set_cons_succ]
          refine readyL (rs := [6]) (by kernel_rfl) (by simp) ?_
          refine AllL.cons rfl (fun K hK => ?_) AllL.nil
          try simp only [List.getElem_toArray, List.getElem_cons_succ, List.getElem_cons_zero]
          go_simp
          refine (HIHk.out Wa.drew (HEr.out.below HBwa.out.drew) (HEf.out.below HBwa.out.drew) (by omega) (by omega)).mono ?_
          rintro e w6 ⟨hb6, v6, rfl, hpa6⟩
          rw [HQQ.out] at hpa6
          have hb6' : Below Wa.heap.size Wa w6 := ⟨hb6.os, hb6.tape, hb6.output, hb6.size, hb6.block⟩
          have hpa6' : PA (d' + 1) (fun x => Wa.heap.size ≤ x) w6 v6 q := hpa6
          obtain ⟨A1, c1, A2, c2, rfl⟩ := hpa6'.form
          have HPA6 := hide hpa6'
          have HM6 := hide (Mvs.of_below (S := fun _ => False) hb6')
          have hs6 := hb6'.size
          clear hb6 hb6' hpa6 hpa6' HIHk
          refine hK.out _ _ (fun _ => HTH.out _ _ HM6.out (fun c => c) (fun c => c)) (fun HTn => ?_)
          clear hK K HT0
          have HT0 := HTn (by kernel_rfl)
          clear HTn
          obtain ⟨n1, hn1⟩ : ∃ n1, q.h.params.length = n1 := ⟨_, rfl⟩
          obtain ⟨n2, hn2⟩ : ∃ n2, q.kids.length = n2 := ⟨_, rfl⟩
          rw [hn1, hn2] at HPA6 ⊢
          obtain ⟨QH, hQH⟩ : ∃ QH, q.h = QH := ⟨_, rfl⟩
          rw [hQH] at HPA6 ⊢
          clear hn1 hn2 hQH
          unfold phA
          try simp only [Act.put, List.getElem_toArray, List.getElem_cons_succ, List.getElem_cons_zero, List.setIfInBounds_toArray, List.set_cons_zero, List.set_cons_succ]
          refine readyL (rs := [7]) (by kernel_rfl) (by simp) ?_
          refine AllL.cons rfl (fun K hK => ?_) AllL.nil
          try simp only [List.getElem_toArray, List.getElem_cons_succ, List.getElem_cons_zero]
          go_simp
          refine hK.out _ _ (fun _ => HTH.out _ _ (HM6.out.alloc _) (fun c => c) (fun c => c)) (fun HTn => ?_)
          clear hK K HT0
          have HT0 := HTn (by kernel_rfl)
          clear HTn
          try simp only [Act.put, List.getElem_toArray, List.getElem_cons_succ, List.getElem_cons_zero, List.setIfInBounds_toArray, List.set_cons_zero, List.set_cons_succ]
          refine readyL (rs := [8]) (by kernel_rfl) (by simp) ?_
          refine AllL.cons rfl (fun K hK => ?_) AllL.nil
          refine step_append_rw (by rfl) (.tmp 44) (.tmp 50) 38 38 (by rfl) 40 i0 (.agg #[.string ⟨#[]⟩, .string ⟨#[]⟩, .slice none 0 0, .string ⟨#[]⟩, .string ⟨#[]⟩, .string ⟨#[]⟩, .int .i64 0, .int .i64 0, .int .i64 0, .int .i64 0, .slice none 0 0]) 11 160 Tryz.underlying38 hi hz0 hz1 hz2 (by rfl) (by simp [Act.eval, Act.put]) (HRw.out.keep (S := fun _ => False) (((Mvs.of_below HBa.out).trans HM6.out).alloc _) (fun _ _ c => c)) (.slice (some ⟨w6.heap.size, 0, none⟩) 1 1) 1 (phA QH (.slice A1 n1 c1) (.slice A2 n2 c2)).toList (by simp [Act.eval, Act.put]) (src_pt QH A1 A2 n1 c1 n2 c2) (by simp only [maxLen]; omega) (by omega) ?_
          intro v8 w8 G8 hr8 hm8 hg8
          obtain ⟨A8, c8, rfl⟩ := hr8.form
          have hN6 : (w6.alloc (.cells (phA QH (.slice A1 n1 c1) (.slice A2 n2 c2)) 40)).heap.size = w6.heap.size + 1 := by simp
          have hzz := HZA.out
          have hkr : KRow (d' + 1) w4.heap.size w8 (.slice A8 (k + 1) c8) (ks ++ [q]) := by
            refine KRow.grow (w := Wa) (w1 := w6.alloc (.cells (phA QH (.slice A1 n1 c1) (.slice A2 n2 c2)) 40)) (vs := phA QH (.slice A1 n1 c1) (.slice A2 n2 c2)) (vss := vss) (G := G) HR1.out HR2.out rfl (fun x e => ⟨(HG.out x e).1, by have := (HG.out x e).2; omega⟩) (fun i hi hj => ?_) ?_ (by omega) hm8 ?_ hg8 (Nat.le_refl _) (by omega)
            · exact ((H5.out i hi hj).keep (T := fun _ => False) (((Mvs.of_below HBa.out).trans HM6.out).alloc _) (fun _ _ c => c))
            · exact HPA6.out.keep (T := fun _ => False) ((Mvs.refl _ _).alloc _) (fun _ _ c => c)
            · rw [HLK.out]
              exact hr8
          have hmA : Mvs (fun x => some x = G) Wa w8 := ((HM6.out.alloc _).mono (fun _ _ h => h.elim)).trans' hm8 (fun _ _ h => h)
          have hP8 := hmA.blk HPa.out (hGP _ (by omega))
          have hGS : ¬ some wr.heap.size = G := fun e => by have := (HG.out _ e.symm).2; omega
          have hT8 := HTH.out w8 _ hmA (hGP _ (by omega)) hGS
          have HP8 := hide (hP8.set 10 (.slice A8 (k + 1) c8))
          have d8 := hP8.cell 10
          have e8 := hP8.frozen 10
          have hl8 := hP8.lt
          have HM8 : Hid (Mvs (fun x => x = w1.heap.size) w4 (w8.setCell ⟨w1.heap.size, 10, none⟩ (.slice A8 (k + 1) c8))) := (((HMw.out.trans (Mvs.of_below HBa.out)).trans' hmA (fun x hx e => by have := (HG.out x e.symm).1; omega))).setCell _ _ (fun _ => rfl)
          have HK8 := hide (hkr.keep (T := fun x => x = w1.heap.size) ((Mvs.refl _ _).setCell ⟨w1.heap.size, 10, none⟩ (.slice A8 (k + 1) c8) (fun _ => rfl)) (fun x hx => by omega))
          clear hr8 hm8 hg8 hkr hmA hP8 hzz hN6
          refine hK.out _ _ (fun _ => hT8) (fun _ => ?_)
          clear hK K HT0
          have HT8 := hide hT8
          clear hT8
          try simp only [Act.put, List.getElem_toArray, List.getElem_cons_succ, List.getElem_cons_zero, List.setIfInBounds_toArray, List.set_cons_zero, List.set_cons_succ]
          refine readyL (rs := [9]) (by kernel_rfl) (by simp) ?_
          refine AllL.cons rfl (fun K hK => ?_) AllL.nil
          try simp only [List.getElem_toArray, List.getElem_cons_succ, List.getElem_cons_zero]
          go_simp
          refine hK.out _ _ (fun _ => HT8.out) (fun _ => ?_)
          clear hK K
          try simp only [Act.put, List.getElem_toArray, List.getElem_cons_succ, List.getElem_cons_zero, List.setIfInBounds_toArray, List.set_cons_zero, List.set_cons_succ]
          refine readyL (rs := [10]) (by kernel_rfl) (by simp) ?_
          refine AllL.cons rfl (fun K hK => ?_) AllL.nil
          try simp only [List.getElem_toArray, List.getElem_cons_succ, List.getElem_cons_zero]
          go_simp
          refine hK.out _ _ (vac (by kernel_rfl)) (fun _ => ?_)
          clear hK K
          try simp only [Act.put, List.getElem_toArray, List.getElem_cons_succ, List.getElem_cons_zero, List.setIfInBounds_toArray, List.set_cons_zero, List.set_cons_succ]
          refine doneL (by kernel_rfl) ?_ _
          go_wp2
          go_roundw
          case rel => exact ⟨k + 1, A8, c8, by omega, by go_num, HP8, by rw [HTk.out]; exact HK8, HM8⟩
          case measure => simp [intOf]; omega
        · obtain rfl : k = NK := by omega
          have HKf := HKw
          rw [List.take_of_length_le (by rw [HNK.out]; exact Nat.le_refl _)] at HKf
          have HResw := hide (HMw.out.blk HRes4.out (by omega))
          by_cases h0 : k = 0
          · subst h0
            have hKnil : KP = [] := List.length_eq_zero_iff.1 HNK.out
            have HV : Hid (parseP (d' + 1) m a b = .mk (octP H0) []) := by
              show _ = _
              rw [HPk.out, hKnil]
              rfl
            have HPc := HPw
            have HResc := HResw
            have HBc := HBw
            clear hKnil HKf HKw
            have hcP := HPc.out.cell
            have hfP := HPc.out.frozen
            have hlP := HPc.out.lt
            have HRes := hide (((HResc.out.set_other ⟨w1.heap.size, 0, none⟩ (.string ⟨[97, 112, 112, 108, 105, 99, 97, 116, 105, 111, 110].toArray⟩) (by dsimp only; omega)).set_other ⟨w1.heap.size, 1, none⟩ (.string ⟨[111, 99, 116, 101, 116, 45, 115, 116, 114, 101, 97, 109].toArray⟩) (by dsimp only; omega)).set_other ⟨w1.heap.size, 2, none⟩ (.slice none 0 0) (by dsimp only; omega))
            have HPd := hide (((HPc.out.set 0 (.string ⟨[97, 112, 112, 108, 105, 99, 97, 116, 105, 111, 110].toArray⟩)).set 1 (.string ⟨[111, 99, 116, 101, 116, 45, 115, 116, 114, 101, 97, 109].toArray⟩)).set 2 (.slice none 0 0))
            have hcR := HRes.out.cell
            have hfR := HRes.out.frozen
            have hlR := HRes.out.lt
            have hcQ := HPd.out.cell
            have HBd := hide (((HBc.out.setCell (p := ⟨w1.heap.size, 0, none⟩) (by dsimp only; omega) (.string ⟨[97, 112, 112, 108, 105, 99, 97, 116, 105, 111, 110].toArray⟩)).setCell (p := ⟨w1.heap.size, 1, none⟩) (by dsimp only; omega) (.string ⟨[111, 99, 116, 101, 116, 45, 115, 116, 114, 101, 97, 109].toArray⟩)).setCell (p := ⟨w1.heap.size, 2, none⟩) (by dsimp only; omega) (.slice none 0 0))
            go_wp2
            have h9 := (((((((((((HRes.out.set 0 (.string ⟨[97, 112, 112, 108, 105, 99, 97, 116, 105, 111, 110].toArray⟩)).set 1 (.string ⟨[111, 99, 116, 101, 116, 45, 115, 116, 114, 101, 97, 109].toArray⟩)).set 2 (.slice none 0 0)).set 3 (.string ⟨VI.toArray⟩)).set 4 (.string ⟨VD.toArray⟩)).set 5 (.string ⟨VE.toArray⟩)).set 6 (.int .i64 (a : Nat))).set 7 (.int .i64 (y : Nat))).set 8 (.int .i64 (b : Nat))).set 9 (.int .i64 lns)).set 10 (.slice A' 0 c')).cell
            refine bodyPost_ret (v := .agg #[.string ⟨[97, 112, 112, 108, 105, 99, 97, 116, 105, 111, 110].toArray⟩, .string ⟨[111, 99, 116, 101, 116, 45, 115, 116, 114, 101, 97, 109].toArray⟩, .slice none 0 0, .string ⟨VI.toArray⟩, .string ⟨VD.toArray⟩, .string ⟨VE.toArray⟩, .int .i64 (a : Nat), .int .i64 (y : Nat), .int .i64 (b : Nat), .int .i64 lns, .slice A' 0 c']) (by simp [results, Tryz.results58, go_sem, h9]) rfl ?_
            refine psYes (w := w) (wc := (((wr.setCell ⟨w1.heap.size, 0, none⟩ (.string ⟨[97, 112, 112, 108, 105, 99, 97, 116, 105, 111, 110].toArray⟩)).setCell ⟨w1.heap.size, 1, none⟩ (.string ⟨[111, 99, 116, 101, 116, 45, 115, 116, 114, 101, 97, 109].toArray⟩)).setCell ⟨w1.heap.size, 2, none⟩ (.slice none 0 0))) HBd.out (R := w.heap.size + 1) (Nat.le_succ _) (Nat.lt_succ_self _) (Mvs11 _ _ _ _ _ _ _ _ _ _ _ _ _) ?_
            rw [HV.out]
            have h8 := PA.leaf0 (S := fun g => w.heap.size + 2 ≤ g) (w := (((wr.setCell ⟨w1.heap.size, 0, none⟩ (.string ⟨[97, 112, 112, 108, 105, 99, 97, 116, 105, 111, 110].toArray⟩)).setCell ⟨w1.heap.size, 1, none⟩ (.string ⟨[111, 99, 116, 101, 116, 45, 115, 116, 114, 101, 97, 109].toArray⟩)).setCell ⟨w1.heap.size, 2, none⟩ (.slice none 0 0))) (h := octP H0) (ReadS.nil _ _ _ _) (d' + 1) (A') (c')
            rw [HPO.out] at h8
            exact h8
          · have h0' : ¬ ((k : Int) = 0) := by omega
            have HV : Hid (parseP (d' + 1) m a b = .mk H0 (KP.map fun x => parseP d' m x.1 x.2)) := by
              show _ = _
              rw [HPk.out]
              unfold withK
              rw [if_neg]
              have := HNK.out
              simp
              intro e
              rw [e] at this
              simp at this
              omega
            have HRes := HResw
            have hcR := HRes.out.cell
            have hfR := HRes.out.frozen
            have hlR := HRes.out.lt
            have hcP := HPw.out.cell
            have hlP := HPw.out.lt
            go_wp2
            have h9 := (((((((((((HRes.out.set 0 (.string ⟨[109, 117, 108, 116, 105, 112, 97, 114, 116].toArray⟩)).set 1 (.string ⟨UU.toArray⟩)).set 2 (.slice Ap np cq)).set 3 (.string ⟨VI.toArray⟩)).set 4 (.string ⟨VD.toArray⟩)).set 5 (.string ⟨VE.toArray⟩)).set 6 (.int .i64 (a : Nat))).set 7 (.int .i64 (y : Nat))).set 8 (.int .i64 (b : Nat))).set 9 (.int .i64 lns)).set 10 (.slice A' k c')).cell
            refine bodyPost_ret (v := .agg #[.string ⟨[109, 117, 108, 116, 105, 112, 97, 114, 116].toArray⟩, .string ⟨UU.toArray⟩, .slice Ap np cq, .string ⟨VI.toArray⟩, .string ⟨VD.toArray⟩, .string ⟨VE.toArray⟩, .int .i64 (a : Nat), .int .i64 (y : Nat), .int .i64 (b : Nat), .int .i64 lns, .slice A' k c']) (by simp [results, Tryz.results58, go_sem, h9]) rfl ?_
            refine psYes (w := w) (wc := wr) HBw.out (R := w.heap.size + 1) (Nat.le_succ _) (Nat.lt_succ_self _) (Mvs11 _ _ _ _ _ _ _ _ _ _ _ _ _) ?_
            rw [HV.out, ← HPA.out]
            exact (HKf.out.lower (by omega)).part ((HPr.out.keep (T := fun _ => False) (Mvs.of_below HB1w.out) (fun _ _ c => c)))
theorem parse_any (m : List UInt8) (ea ef : Addr) (hm : m.length ≤ 1000000) : ∀ (d t a b : Nat) (w : World), d + t = 32 → EF w ea → EFm w ef → a ≤ b → b ≤ m.length →
    Calls Tryz.prog 58 #[.string ⟨m.toArray⟩, .agg #[.int .i64 (a : Nat), .int .i64 (b : Nat)], .int .i64 (t : Nat)] w (PsOut d m a b w) := by
  intro d
  induction d with
  | zero => exact fun t a b w h1 h2 h3 h4 h5 => parse_step m ea ef hm 0 t a b w h1 h2 h3 h4 h5 (fun d' h => by omega)
  | succ d ih => exact fun t a b w h1 h2 h3 h4 h5 => parse_step m ea ef hm (d + 1) t a b w h1 h2 h3 h4 h5 (fun d' h a b w h6 h7 h8 h9 => by
      obtain rfl : d = d' := by omega
      exact ih (t + 1) a b w (by omega) h6 h7 h8 h9)
end Go.Proofs.YtegplihhbdmnbaaGreatDoor
