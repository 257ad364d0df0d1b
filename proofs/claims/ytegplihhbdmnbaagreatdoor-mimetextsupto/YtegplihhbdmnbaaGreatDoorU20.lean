/- Type of package mime, whatever the text. -/
import Derived.Test.YtegplihhbdmnbaaGreatDoorU19
namespace Go.Proofs.YtegplihhbdmnbaaGreatDoor
open Go.RowKit Go.Shelf
/-- What Type answers. -/
def TyOut (s : List UInt8) (ef : Addr) (w : World) (e : Ending) (w' : World) : Prop := Below w.heap.size w w' ∧ match typeO s with
  | some (t, u, ps) => ∃ v, e = .returned (.tuple #[.string ⟨t.toArray⟩, .string ⟨u.toArray⟩, v, .nilIface]) ∧ RowOf Pm.cs 2 w.heap.size w' v ps
  | none => e = .returned (.tuple #[.string ⟨#[]⟩, .string ⟨#[]⟩, .slice none 0 0, .iface 183 (.pointer (some ef))])
theorem tyNo {s : List UInt8} {ef : Addr} {w w' : World} (h : typeO s = none) (hb : Below w.heap.size w w') : TyOut s ef w (.returned (.tuple #[.string ⟨#[]⟩, .string ⟨#[]⟩, .slice none 0 0, .iface 183 (.pointer (some ef))])) w' := by
  unfold TyOut
  rw [h]
  exact ⟨hb, rfl⟩
theorem tyYes {s t u : List UInt8} {ps : List Pm} {v : Value} {ef : Addr} {w w' : World} (h : typeO s = some (t, u, ps)) (hb : Below w.heap.size w w') (hr : RowOf Pm.cs 2 w.heap.size w' v ps) : TyOut s ef w (.returned (.tuple #[.string ⟨t.toArray⟩, .string ⟨u.toArray⟩, v, .nilIface])) w' := by
  unfold TyOut
  rw [h]
  exact ⟨hb, v, rfl, hr⟩
theorem leaves_results {P : Program} {fn : Func} {R : Ending → World → Prop} {tmps tmps' : Array Value} (h : results fn tmps = results fn tmps') : ∀ (ds : List Deferred) (u : FrameMode) (w : World), Leaves P fn tmps R ds u w → Leaves P fn tmps' R ds u w
  | [], .returning, w, ⟨v, h1, h2⟩ => ⟨v, h ▸ h1, h2⟩
  | [], .panicking _, _, hh => hh
  | [], .run, _, hh => hh
  | d :: ds, u, w, ⟨h1, fv, cap, f, args, h2, h3, h4⟩ => ⟨h1, fv, cap, f, args, h2, h3, h4.mono (fun e u' w' hh => by
      cases e with
      | returned v => exact leaves_results h ds _ _ hh
      | panicked c => exact leaves_results h ds _ _ hh
      | outgrown => exact hh)⟩
theorem getD_put (t : Array Value) (i j : Nat) (v : Value) (h : i ≠ j) : (t.setIfInBounds i v).getD j undef = t.getD j undef := by
  rw [Array.getD_eq_getD_getElem?, Array.getD_eq_getD_getElem?, Array.getElem?_setIfInBounds_ne h]
theorem typePut {R : Ending → World → Prop} (ch : List PanicEntry) (a : Act) (w : World) (i : Nat) (hi : 6 ≤ i) (v : Value) (h : bodyPostD Tryz.prog Tryz.f30 R (.panic ch) (a.put (some i) v) w) : bodyPostD Tryz.prog Tryz.f30 R (.panic ch) a w := by
  have h' : Leaves Tryz.prog Tryz.f30 (a.tmps.setIfInBounds i v) R a.defers (.panicking ch) w := h
  show Leaves _ _ a.tmps R a.defers (.panicking ch) w
  refine leaves_results ?_ _ _ _ h'
  unfold results
  rw [Tryz.results30]
  simp only [List.mapM_toArray, List.mapM_cons, List.mapM_nil, getD_put _ _ _ _ (show i ≠ 2 by omega), getD_put _ _ _ _ (show i ≠ 3 by omega), getD_put _ _ _ _ (show i ≠ 4 by omega), getD_put _ _ _ _ (show i ≠ 5 by omega)]
theorem vacM {p : Prop} {b : Bool} (h : b = true) : b = false → p := fun e => by rw [h] at e; cases e
theorem split_goalM {p q : Prop} (h : p → q) (hp : p) : q := h hp
set_option linter.unusedSimpArgs false in
set_option linter.unusedVariables false in
set_option maxRecDepth 20000 in
set_option maxHeartbeats 4000000 in
theorem type_any (s : List UInt8) (w : World) (ef : Addr) (hF : EFm w ef) (hl : s.length ≤ 1000000) : Calls Tryz.prog 30 #[.string ⟨s.toArray⟩] w (TyOut s ef w) := by
  have hmf : ∀ (fn : Fn) (first cap : Array Value) (w : World), (Instr.makeFunc fn first cap).run Tryz.prog w = .ok (.func fn first cap) w := fun _ _ _ _ => rfl
  have HF := hide hF
  clear hF
  obtain ⟨i0, hi, hz0, hz1, hz2⟩ := info_three pmInfo
  have HTY : Hid (typeO s = (tokO (skb s)).bind fun t => (markO 47 t.2).bind fun r2 => (tokO r2).bind fun u => (paramsO u.2).map fun ps => (t.1.map lowB, u.1.map lowB, ps)) := rfl
  have hls := skb_len s
  obtain ⟨W5, hW5⟩ : ∃ W5, (((((w.alloc (.cells #[.string ⟨#[]⟩] 9)).alloc (.cells #[.string ⟨#[]⟩] 9)).alloc (.cells #[.slice none 0 0] 37)).alloc (.cells #[.nilIface] 28)).alloc (.cells #[.string ⟨s.toArray⟩] 93)) = W5 := ⟨_, rfl⟩
  have HT0 : Hid (TC w W5 (.string ⟨#[]⟩) (.string ⟨#[]⟩) (.slice none 0 0)) := by
    rw [← hW5]
    refine ⟨((((Blk.new w _ _).alloc _).alloc _).alloc _).alloc _, (((Blk.new1 w _ _ _).alloc _).alloc _).alloc _, ((Blk.new2 w _ _ _ _).alloc _).alloc _, ?_, ?_⟩
    · have := Blk.new (((w.alloc (.cells #[.string ⟨#[]⟩] 9)).alloc (.cells #[.string ⟨#[]⟩] 9)).alloc (.cells #[.slice none 0 0] 37)) #[.nilIface] 28
      simp only [World.size_alloc] at this
      exact this.alloc _
    · exact (((((Below.refl _ _).alloc (Nat.le_refl _) _).alloc (by simp) _).alloc (by simp; omega) _).alloc (by simp; omega) _).alloc (by simp; omega) _
  have HR0 : Hid (RDm W5 (w.heap.size + 1 + 1 + 1 + 1) s) := by
    rw [← hW5]
    have := Blk.new ((((w.alloc (.cells #[.string ⟨#[]⟩] 9)).alloc (.cells #[.string ⟨#[]⟩] 9)).alloc (.cells #[.slice none 0 0] 37)).alloc (.cells #[.nilIface] 28)) #[.string ⟨s.toArray⟩] 93
    simp only [World.size_alloc] at this
    exact this
  go_enter_defers Tryz.func30, Tryz.ntmps30
  go_wp2_with fail
  clear hW5
  refine (skip_any _ s W5 HR0.out).mono ?_
  rintro e w1 ⟨rfl, hm1, hr1⟩
  have HT1 := hide (HT0.out.mv hm1)
  obtain ⟨r0, hr0⟩ : ∃ r0, skb s = r0 := ⟨_, rfl⟩
  rw [hr0] at hr1 HTY hls
  have HN := hide (name_any _ r0 w1 hr1 (by omega))
  clear hm1 hr1 HT0 HR0 hr0
  go_wp2_with fail
  refine HN.out.mono ?_
  intro e w2 ho2
  cases h2 : tokO r0 with
  | none =>
    rw [h2] at ho2 HTY
    obtain ⟨hm2, rfl⟩ := OutM.none ho2
    have HNo : Hid (typeO s = none) := HTY.out
    show Leaves _ _ _ _ _ _ _
    refine leaves_cons (f := 53) (args := #[.pointer (some ⟨w.heap.size, 0, none⟩), .pointer (some ⟨w.heap.size + 1, 0, none⟩), .pointer (some ⟨w.heap.size + 1 + 1, 0, none⟩), .pointer (some ⟨w.heap.size + 1 + 1 + 1, 0, none⟩)]) (by simp) (by simp [go_sem]) ?_
    refine (typeCatch (HT1.out.mv hm2) ef HF.out).mono ?_
    rintro e u' w'' ⟨rfl, rfl, c0, c1, c2, c3, hbF⟩
    replace hbF := hide hbF
    simp [Leaves, settle, results, Tryz.results30, go_sem, c0, c1, c2, c3]
    exact tyNo HNo.out hbF.out
  | some x =>
    obtain ⟨t, r1⟩ := x
    rw [h2] at ho2 HTY
    have HTY1 : Hid (typeO s = (markO 47 r1).bind fun r2 => (tokO r2).bind fun u => (paramsO u.2).map fun ps => (t.map lowB, u.1.map lowB, ps)) := HTY.out
    obtain ⟨hm2, rfl, hr2⟩ := OutM.some ho2
    have l2 := (tokO_len h2).1
    dsimp only
    obtain ⟨T, hT⟩ : ∃ T, t.map lowB = T := ⟨_, rfl⟩
    rw [hT] at HTY1 ⊢
    have k2 := HT1.out.mv hm2
    have hc2 := k2.b0.cell 0
    have hf2 := k2.b0.frozen 0
    have HT2 := hide (k2.set0 (.string ⟨T.toArray⟩))
    have HM3 := hide (mark_any _ 47 r1 (w2.setCell ⟨w.heap.size, 0, none⟩ (.string ⟨T.toArray⟩)) (Blk.set_other hr2 _ _ (by dsimp only; omega)))
    clear ho2 hm2 hr2 h2 HN HT1 HTY k2 hT
    go_wp2_with fail
    refine HM3.out.mono ?_
    intro e w3 ho3
    clear hc2 hf2
    cases h3 : markO 47 r1 with
    | none =>
      rw [h3] at ho3 HTY1
      obtain ⟨hm3, rfl⟩ := OutM.none ho3
      have HNo : Hid (typeO s = none) := HTY1.out
      show Leaves _ _ _ _ _ _ _
      refine leaves_cons (f := 53) (args := #[.pointer (some ⟨w.heap.size, 0, none⟩), .pointer (some ⟨w.heap.size + 1, 0, none⟩), .pointer (some ⟨w.heap.size + 1 + 1, 0, none⟩), .pointer (some ⟨w.heap.size + 1 + 1 + 1, 0, none⟩)]) (by simp) (by simp [go_sem]) ?_
      refine (typeCatch (HT2.out.mv hm3) ef HF.out).mono ?_
      rintro e u' w'' ⟨rfl, rfl, c0, c1, c2, c3, hbF⟩
      replace hbF := hide hbF
      simp [Leaves, settle, results, Tryz.results30, go_sem, c0, c1, c2, c3]
      exact tyNo HNo.out hbF.out
    | some r2 =>
      rw [h3] at ho3 HTY1
      have HTY2 : Hid (typeO s = (tokO r2).bind fun u => (paramsO u.2).map fun ps => (T, u.1.map lowB, ps)) := HTY1.out
      obtain ⟨hm3, rfl, hr3⟩ := OutM.some ho3
      have l3 := markO_len h3
      have HT3 := hide (HT2.out.mv hm3)
      have HN4 := hide (name_any _ r2 w3 hr3 (by omega))
      clear ho3 hm3 hr3 h3 HM3 HT2 HTY1
      go_wp2_with fail
      refine HN4.out.mono ?_
      intro e w4 ho4
      cases h4 : tokO r2 with
      | none =>
        rw [h4] at ho4 HTY2
        obtain ⟨hm4, rfl⟩ := OutM.none ho4
        have HNo : Hid (typeO s = none) := HTY2.out
        show Leaves _ _ _ _ _ _ _
        refine leaves_cons (f := 53) (args := #[.pointer (some ⟨w.heap.size, 0, none⟩), .pointer (some ⟨w.heap.size + 1, 0, none⟩), .pointer (some ⟨w.heap.size + 1 + 1, 0, none⟩), .pointer (some ⟨w.heap.size + 1 + 1 + 1, 0, none⟩)]) (by simp) (by simp [go_sem]) ?_
        refine (typeCatch (HT3.out.mv hm4) ef HF.out).mono ?_
        rintro e u' w'' ⟨rfl, rfl, c0, c1, c2, c3, hbF⟩
        replace hbF := hide hbF
        simp [Leaves, settle, results, Tryz.results30, go_sem, c0, c1, c2, c3]
        exact tyNo HNo.out hbF.out
      | some x =>
        obtain ⟨u, r3⟩ := x
        rw [h4] at ho4 HTY2
        have HTY3 : Hid (typeO s = (paramsO r3).map fun ps => (T, u.map lowB, ps)) := HTY2.out
        obtain ⟨hm4, rfl, hr4⟩ := OutM.some ho4
        have l4 := (tokO_len h4).1
        dsimp only
        obtain ⟨U, hU⟩ : ∃ U, u.map lowB = U := ⟨_, rfl⟩
        rw [hU] at HTY3 ⊢
        have k4 := HT3.out.mv hm4
        have hc4 := k4.b1.cell 0
        have hf4 := k4.b1.frozen 0
        have HT4 := hide (k4.set1 (.string ⟨U.toArray⟩))
        have HR4 : Hid (RDm (w4.setCell ⟨w.heap.size + 1, 0, none⟩ (.string ⟨U.toArray⟩)) (w.heap.size + 1 + 1 + 1 + 1) r3) := Blk.set_other hr4 _ _ (by dsimp only; omega)
        clear ho4 hm4 hr4 h4 HN4 HT3 HTY2 k4 hU
        have hsz4 := HR4.out.lt
        go_wp2
        clear hc4 hf4
        generalize (w4.setCell ⟨w.heap.size + 1, 0, none⟩ (.string ⟨U.toArray⟩)) = w5 at *
        have hl3 : r3.length ≤ 1000000 := by omega
        clear l2 l3 l4 hls hl
        obtain ⟨PS, hPS⟩ : ∃ PS, paramsO r3 = PS := ⟨_, rfl⟩
        have HPS := hide hPS
        rw [hPS] at HTY3
        clear hPS
        go_loopg [] r3.length (fun gk wr => ∃ (r : List UInt8) (v : Value) (ps : List Pm), r.length ≤ gk ∧ ps.length + r.length ≤ r3.length ∧ Hid (TC w wr (.string ⟨T.toArray⟩) (.string ⟨U.toArray⟩) v) ∧ Hid (RDm wr (w.heap.size + 1 + 1 + 1 + 1) r) ∧ Hid (RowOf Pm.cs 2 (w.heap.size + 5) wr v ps) ∧ Hid ((paramsO r).map (ps ++ ·) = PS))
        case atStart => exact ⟨r3, .slice none 0 0, [], Nat.le_refl _, by simp, HT4, HR4, RowOf.nil _ _ _ _, by rw [HPS.out]; cases PS <;> simp [Hid]⟩
        case round =>
          clear HT4 HR4 HPS hsz4
          obtain ⟨r, v, ps, hrg, hpr, HT, HR, HRow, HE⟩ := hrel
          have hcr := Blk.cell HR.out
          have hszr := Blk.lt HR.out
          by_cases hr : r = []
          · subst hr
            have HV : Hid (typeO s = some (T, U, ps)) := by
              show _ = _
              rw [HTY3.out, ← HE.out]
              simp [paramsO_nil]
            obtain ⟨A, c, rfl⟩ := HRow.out.form
            have c0 := HT.out.b0.cell 0
            have f0 := HT.out.b0.frozen 0
            have c1 := HT.out.b1.cell 0
            have f1 := HT.out.b1.frozen 0
            have c2 := HT.out.b2.cell 0
            have f2 := HT.out.b2.frozen 0
            have c3 := HT.out.b3.cell 0
            have f3 := HT.out.b3.frozen 0
            go_wp2
            apply split_goalM
            · intro key
              go_region
              all_goals exact key
            go_wp2
            refine leaves_cons (f := 53) (args := #[.pointer (some ⟨w.heap.size, 0, none⟩), .pointer (some ⟨w.heap.size + 1, 0, none⟩), .pointer (some ⟨w.heap.size + 1 + 1, 0, none⟩), .pointer (some ⟨w.heap.size + 1 + 1 + 1, 0, none⟩)]) (by simp) (by simp [go_sem]) ?_
            refine (typeIdle _ _ _ _ _).mono ?_
            rintro e u' w'' ⟨rfl, rfl, rfl⟩
            have k1 := (HT.out.set0 (.string ⟨T.toArray⟩)).set1 (.string ⟨U.toArray⟩)
            have k2 := k1.set2 (.slice A ps.length c)
            have k3 := k2.low.setCell (p := ⟨w.heap.size + 1 + 1 + 1, 0, none⟩) (by dsimp only; omega) .nilIface
            have hRw : RowOf Pm.cs 2 (w.heap.size + 5) ((((wr.setCell ⟨w.heap.size, 0, none⟩ (.string ⟨T.toArray⟩)).setCell ⟨w.heap.size + 1, 0, none⟩ (.string ⟨U.toArray⟩)).setCell ⟨w.heap.size + 1 + 1, 0, none⟩ (.slice A ps.length c)).setCell ⟨w.heap.size + 1 + 1 + 1, 0, none⟩ .nilIface).drew (.slice A ps.length c) ps := HRow.out.keep (S := fun k => k < w.heap.size + 5) ((((((Mvs.refl _ _).setCell _ _ (fun _ => by dsimp only; omega)).setCell _ _ (fun _ => by dsimp only; omega)).setCell _ _ (fun _ => by dsimp only; omega)).setCell _ _ (fun _ => by dsimp only; omega)).drew) (fun k hk => by omega)
            have HFin := hide (tyYes (ef := ef) HV.out k3.drew (hRw.mono (by omega)))
            clear k1 k2 k3 hRw
            simp [Leaves, settle, results, Tryz.results30, go_sem, c0, c1, c2, c3]
            exact HFin.out
          · have hE : r.isEmpty = false := by simpa using hr
            have HPc := hide (fun w1 h => param_any (w.heap.size + 1 + 1 + 1 + 1) r w1 h (by omega))
            obtain ⟨G, hrw, hg⟩ := HRow.out
            obtain ⟨A, c, rfl⟩ := hrw.form
            have HRw := hide hrw
            have HG := hide hg
            clear hrw hg HRow
            have c2 := HT.out.b2.cell 0
            cases hp : paramO r with
            | none =>
              rw [hp] at HPc
              have HNo : Hid (typeO s = none) := by
                show _ = _
                rw [HTY3.out, ← HE.out, paramsO_cons hr, hp]
                rfl
              go_wp2_with fail
              refine regionL 5 (fun W => W.cell? ⟨w.heap.size + 1 + 1, 0, none⟩ = some (.slice A ps.length c)) (by kernel_rfl) ?_
              have HT0 : wr.drew.cell? ⟨w.heap.size + 1 + 1, 0, none⟩ = some (.slice A ps.length c) := c2
              refine takeL (i := 0) (v := (.slice A ps.length c)) rfl (by kernel_rfl) (by kernel_rfl) (by kernel_rfl) (by kernel_rfl) (by kernel_rfl) (fun ch a w h => typePut ch a w _ (by decide) _ h) HT0 (Or.inl ⟨by rfl, fun W hW => by go_simp⟩) ?_
              simp only [Act.put, List.getElem_toArray, List.getElem_cons_succ, List.getElem_cons_zero, List.setIfInBounds_toArray, List.set_cons_zero, List.set_cons_succ]
              refine takeW (i := 1) (v := (.pointer (some ⟨w.heap.size + 1 + 1 + 1 + 1, 0, none⟩))) rfl (by kernel_rfl) (by kernel_rfl) (by kernel_rfl) rfl (fun ch a w h => typePut ch a w _ (by decide) _ h) (fun _ => HT0) (Or.inl ⟨by rfl, fun W _ => by go_simp⟩) ?_
              simp only [Act.put, List.getElem_toArray, List.getElem_cons_succ, List.getElem_cons_zero, List.setIfInBounds_toArray, List.set_cons_zero, List.set_cons_succ]
              refine readyL (rs := [2]) (by kernel_rfl) (by simp) ?_
              refine AllL.cons rfl (fun K hK => ?_) AllL.nil
              try simp only [List.getElem_toArray, List.getElem_cons_succ, List.getElem_cons_zero]
              go_simp
              refine (HPc.out _ (show RDm wr.drew _ _ from HR.out)).mono ?_
              intro e w6 ho6
              obtain ⟨hm6, rfl⟩ := OutM.none ho6
              have k6 := HT.out.mv (show Mvs _ wr w6 from hm6.of_drew)
              show Leaves _ _ _ _ _ _ _
              refine leaves_cons (f := 53) (args := #[.pointer (some ⟨w.heap.size, 0, none⟩), .pointer (some ⟨w.heap.size + 1, 0, none⟩), .pointer (some ⟨w.heap.size + 1 + 1, 0, none⟩), .pointer (some ⟨w.heap.size + 1 + 1 + 1, 0, none⟩)]) (by simp) (by simp [go_sem]) ?_
              refine (typeCatch k6 ef HF.out).mono ?_
              rintro e u' w'' ⟨rfl, rfl, c0, c1, c2, c3, hbF⟩
              replace hbF := hide hbF
              simp [Leaves, settle, results, Tryz.results30, go_sem, c0, c1, c2, c3]
              exact tyNo HNo.out hbF.out
            | some x =>
              obtain ⟨p, r'⟩ := x
              have hlp := (paramO_len hp).1
              rw [hp] at HPc
              have HE2 : Hid ((paramsO r').map ((ps ++ [p]) ++ ·) = PS) := by
                have := HE.out
                rw [paramsO_cons hr, hp] at this
                rw [← this]
                show _ = ((paramsO r').map (p :: ·)).map (ps ++ ·)
                cases paramsO r' <;> simp
              go_wp2_with fail
              refine regionL 5 (fun W => W.cell? ⟨w.heap.size + 1 + 1, 0, none⟩ = some (.slice A ps.length c)) (by kernel_rfl) ?_
              have HT0 : wr.drew.cell? ⟨w.heap.size + 1 + 1, 0, none⟩ = some (.slice A ps.length c) := c2
              refine takeL (i := 0) (v := (.slice A ps.length c)) rfl (by kernel_rfl) (by kernel_rfl) (by kernel_rfl) (by kernel_rfl) (by kernel_rfl) (fun ch a w h => typePut ch a w _ (by decide) _ h) HT0 (Or.inl ⟨by rfl, fun W hW => by go_simp⟩) ?_
              simp only [Act.put, List.getElem_toArray, List.getElem_cons_succ, List.getElem_cons_zero, List.setIfInBounds_toArray, List.set_cons_zero, List.set_cons_succ]
              refine takeW (i := 1) (v := (.pointer (some ⟨w.heap.size + 1 + 1 + 1 + 1, 0, none⟩))) rfl (by kernel_rfl) (by kernel_rfl) (by kernel_rfl) rfl (fun ch a w h => typePut ch a w _ (by decide) _ h) (fun _ => HT0) (Or.inl ⟨by rfl, fun W _ => by go_simp⟩) ?_
              simp only [Act.put, List.getElem_toArray, List.getElem_cons_succ, List.getElem_cons_zero, List.setIfInBounds_toArray, List.set_cons_zero, List.set_cons_succ]
              refine readyL (rs := [2]) (by kernel_rfl) (by simp) ?_
              refine AllL.cons rfl (fun K hK => ?_) AllL.nil
              try simp only [List.getElem_toArray, List.getElem_cons_succ, List.getElem_cons_zero]
              go_simp
              refine (HPc.out _ (show RDm wr.drew _ _ from HR.out)).mono ?_
              intro e w6 ho6
              obtain ⟨hm6, rfl, hr6⟩ := OutM.some ho6
              have hm6' : Mvs (fun k => k = w.heap.size + 1 + 1 + 1 + 1) wr w6 := hm6.of_drew
              have HT6 := hide (HT.out.mv hm6')
              have hG4 : ∀ g, G = some g → ¬ (g = w.heap.size + 1 + 1 + 1 + 1) := fun g e => by have := HG.out g e; omega
              have HR6 := hide (HRw.out.keep hm6' hG4)
              have HD6 := hide hr6
              have hs6 := hm6'.size
              have c6 := HT6.out.b2.cell 0
              have f6 := HT6.out.b2.frozen 0
              clear ho6 hm6 hm6' hr6 hG4
              refine hK.out _ _ (fun _ => c6) (fun HTn => ?_)
              clear hK K HT0
              have HT0 := HTn (by kernel_rfl)
              clear HTn
              try simp only [Act.put, List.getElem_toArray, List.getElem_cons_succ, List.getElem_cons_zero, List.setIfInBounds_toArray, List.set_cons_zero, List.set_cons_succ]
              refine readyL (rs := [3]) (by kernel_rfl) (by simp) ?_
              refine AllL.cons rfl (fun K hK => ?_) AllL.nil
              try simp only [List.getElem_toArray, List.getElem_cons_succ, List.getElem_cons_zero]
              unfold pmV
              go_simp
              have HT6a := hide (HT6.out.mv ((Mvs.refl _ _).alloc (.cells #[.string ⟨p.name.toArray⟩, .string ⟨p.value.toArray⟩] 65)))
              have c7 := HT6a.out.b2.cell 0
              refine hK.out _ _ (fun _ => c7) (fun HTn => ?_)
              clear hK K HT0
              have HT0 := HTn (by kernel_rfl)
              clear HTn
              try simp only [Act.put, List.getElem_toArray, List.getElem_cons_succ, List.getElem_cons_zero, List.setIfInBounds_toArray, List.set_cons_zero, List.set_cons_succ]
              refine readyL (rs := [4]) (by kernel_rfl) (by simp) ?_
              refine AllL.cons rfl (fun K hK => ?_) AllL.nil
              refine step_append_rw (by rfl) (.tmp 24) (.tmp 27) 37 37 (by rfl) 65 i0 (.agg #[.string ⟨#[]⟩, .string ⟨#[]⟩]) 2 32 Tryz.underlying37 hi hz0 hz1 hz2 (by rfl) (by simp [Act.eval, Act.put]) (HR6.out.keep (S := fun _ => False) ((Mvs.refl _ _).alloc _) (fun _ _ c => c)) (.slice (some ⟨w6.heap.size, 0, none⟩) 1 1) 1 p.cs (by simp [Act.eval, Act.put]) (src_pm p) (by simp only [maxLen]; omega) (by omega) ?_
              intro v8 w8 G8 hr8 hm8 hg8
              obtain ⟨A8, c8, rfl⟩ := hr8.form
              have hsz8 : w.heap.size + 5 ≤ w6.heap.size := by have := Blk.lt HD6.out; omega
              have hGn : ∀ k, k < w.heap.size + 5 → ¬ some k = G := fun k hk e => by have := HG.out k e.symm; omega
              have k8 : TC w w8 (.string ⟨T.toArray⟩) (.string ⟨U.toArray⟩) (.slice A ps.length c) := ⟨hm8.blk HT6a.out.b0 (hGn _ (by omega)), hm8.blk HT6a.out.b1 (hGn _ (by omega)), hm8.blk HT6a.out.b2 (hGn _ (by omega)), hm8.blk HT6a.out.b3 (hGn _ (by omega)), HT6a.out.low.trans (hm8.below (fun k hk => hGn k (by omega)) HT6a.out.low.size)⟩
              have hd8 : RDm w8 (w.heap.size + 1 + 1 + 1 + 1) r' := hm8.blk (Blk.alloc HD6.out _) (hGn _ (by omega))
              have hrow8 : RowOf Pm.cs 2 (w.heap.size + 5) w8 (.slice A8 (ps.length + 1) c8) (ps ++ [p]) := RowOf.grow (wr := w6.alloc (.cells #[.string ⟨p.name.toArray⟩, .string ⟨p.value.toArray⟩] 65)) HG.out hr8 hg8 (by rw [World.size_alloc]; omega)
              have HT8 := hide (k8.set2 (.slice A8 (ps.length + 1) c8))
              have HD8 : Hid (RDm (w8.setCell ⟨w.heap.size + 1 + 1, 0, none⟩ (.slice A8 (ps.length + 1) c8)) (w.heap.size + 1 + 1 + 1 + 1) r') := Blk.set_other hd8 _ _ (by dsimp only; omega)
              have HRow8 : Hid (RowOf Pm.cs 2 (w.heap.size + 5) (w8.setCell ⟨w.heap.size + 1 + 1, 0, none⟩ (.slice A8 (ps.length + 1) c8)) (.slice A8 (ps.length + 1) c8) (ps ++ [p])) := hrow8.keep (S := fun k => k < w.heap.size + 5) ((Mvs.refl _ _).setCell _ _ (fun _ => by dsimp only; omega)) (fun k hk => by omega)
              have d8 := k8.b2.cell 0
              have e8 := k8.b2.frozen 0
              clear hr8 hm8 hg8 hGn hd8 hrow8
              refine hK.out _ _ (fun _ => d8) (fun HTn => ?_)
              clear hK K HT0 HTn
              try simp only [Act.put, List.getElem_toArray, List.getElem_cons_succ, List.getElem_cons_zero, List.setIfInBounds_toArray, List.set_cons_zero, List.set_cons_succ]
              refine readyL (rs := [5]) (by kernel_rfl) (by simp) ?_
              refine AllL.cons rfl (fun K hK => ?_) AllL.nil
              try simp only [List.getElem_toArray, List.getElem_cons_succ, List.getElem_cons_zero]
              go_simp
              refine hK.out _ _ (vacM (by kernel_rfl)) (fun _ => ?_)
              clear hK K
              refine doneL (by kernel_rfl) ?_ _
              go_wp2
              go_roundg r'.length
              case rel => exact ⟨r', _, ps ++ [p], Nat.le_refl _, by simp; omega, HT8, HD8, HRow8, HE2⟩
              case measure => omega
end Go.Proofs.YtegplihhbdmnbaaGreatDoor
