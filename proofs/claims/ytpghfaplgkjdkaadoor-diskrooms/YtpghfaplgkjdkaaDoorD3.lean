/- A disk: Create. -/
import Derived.Test.YtpghfaplgkjdkaaDoorD2
import Derived.LaidEql
namespace Go.Proofs.YtpghfaplgkjdkaaDoor
open Go.RowKit Go.Maps
theorem entries_put {D : DataW Unit} {k : Lit} {f : Nat} (h : IsMap D) (he : ∀ p ∈ entriesOf D, ∃ b, p.2 = pd b) : ∀ p ∈ entriesOf (D.put k (pd f)), ∃ b, p.2 = pd b := by
  obtain ⟨es, rfl⟩ := h
  rw [DataW.put_eq]
  intro p hp
  have hp' : p ∈ ChangeMaps.putKey k (pd f) es := hp
  unfold ChangeMaps.putKey at hp'
  rcases ChangeMaps.mem_insert_iff.1 hp' with rfl | hp'
  · exact ⟨f, rfl⟩
  · exact he p (List.mem_filter.1 hp').1
theorem there_put {D : DataW Unit} {k : Lit} {f : Nat} {P : Nat → Prop} (h : IsMap D) (hk : WideAt.IsKeyLit k) (hv : ∀ kl b, D.atKey kl .nil = pd b → P b) (hf : P f) : ∀ kl b, (D.put k (pd f)).atKey kl .nil = pd b → P b := by
  intro kl b hb
  by_cases e : kl = k
  · subst e
    rw [atKey_put_same h hk] at hb
    rw [← pd_inj hb]
    exact hf
  · rw [atKey_put_other e] at hb
    exact hv kl b hb
set_option maxHeartbeats 1000000 in
theorem createClo (w : World) (bn n : Nat) (D : DataW Unit) (name : List UInt8) (f cf cn : Nat) (hn : n ≤ 1000000) (hl : name.length ≤ 1000000) (hN : w.ownsMap Tryd.prog 9 ptrElem bn n D) (hcf : Blk w cf #[pv f] 51) (hcn : Blk w cn #[.string ⟨name.toArray⟩] 9) :
    Calls Tryd.prog 20 #[.map (some bn), pv cf, pv cn] w fun e w' => e = .returned (.tuple #[]) ∧ w'.ownsMap Tryd.prog 9 ptrElem bn (n + 1) (D.put (.string name) (pd f)) ∧ Mvs (fun k => k = bn) w w' := by
  have h1 := hcf.cell
  have h2 := hcn.cell
  have HN := hide hN
  have HK := hide (keyStr name (by omega))
  clear hcf hcn hN
  unfold pv at *
  go_enter Tryd.func20, Tryd.ntmps20
  go_wp2_with (at_mapUpdate; refine wpList_mapUpdate_own _ rfl _ _ _ 44 rfl 9 51 strKeyed Tryd.underlying44 ptrElem bn n D rfl HN.out (by simp only [maxLen]; omega) _ _ (.string name) rfl rfl HK.out (pd f) [] rfl ?_)
  intro w1 hown1 hg1
  have HO := hide hown1
  have HG := hide hg1
  clear hown1 hg1
  go_wp2
  go_end0
  exact ⟨rfl, HO.out, (Mvs.of_grown HG.out).mono fun _ _ e => Option.some.inj e⟩
theorem funInfo : (Tryd.prog.info? 58).map (fun i => (i.zero, i.size, i.bytes)) = some (some .nilFunc, 1, 8) := by kernel_rfl
/-- A literal of one value. -/
theorem src_one {w : World} {ts te : TypeId} (ht : Tryd.prog.underlying ts = some (.slice te)) (u : Value) (hu : u.oneCell' = true) {c : Nat} : Src Tryd.prog 1 ts (.slice (some ⟨w.heap.size, 0, none⟩) 1 c) 1 [u] (w.alloc (.cells #[u] te)) := by
  refine Src.ofSlice _ ht ⟨w.heap.size, 0, none⟩ 1 c [u] rfl (fun j x hx => ?_) (fun x hx => by rw [List.mem_singleton.1 hx]; exact hu)
  rw [Go.WideShapes.add_plain, Nat.zero_add, (Blk.new w _ _).cell, ← hx]
  rw [← List.getElem?_toArray]
def fnV (cf cn : Nat) : Value := .func (.func 20) #[] #[pv cf, pv cn]
set_option maxRecDepth 8000 in
set_option maxHeartbeats 2000000 in
theorem changeNames_create (w0 w : World) (d : Nat) (ρ : Nat → Option Role) (s : St) (name : List UInt8) (f cf cn : Nat) (h : DK w0 w d ρ s) (ha : s.armed < 0) (hs0 : 0 ≤ s.steps) (hs1 : s.steps ≤ 1000000) (ho0 : 0 ≤ s.opened) (ho1 : s.opened ≤ 1000000) (hN : s.N ≤ 100000) (hns : s.ns ≤ 1000000)
    (hl : name.length ≤ 1000000) (hcf : Blk w cf #[pv f] 51) (hcn : Blk w cn #[.string ⟨name.toArray⟩] 9) (hrf : ρ cf = none) (hrn : ρ cn = none) (hφ : (s.φ f).isSome = true) :
    Calls Tryd.prog 19 #[pv d, fnV cf cn] w fun e w' => e = .returned .nilIface ∧ ∃ ρ', DK w0 w' d ρ' { s with D := s.D.put (.string name) (pd f), N := s.N + 1, ns := s.ns + 1, opened := s.opened + 1, steps := s.steps + 1 } ∧ Turn w w' ρ ρ' ∧ Keeps ρ ρ' := by
  obtain ⟨bn, bs, bc, vs, vl, Gs, Gl, cs, h⟩ := h
  obtain ⟨i0, hi, hz0, hz1, hz2⟩ := info_parts funInfo
  have hne := h.ne
  have HD := hide h
  have hnf : cf ≠ d := fun e => by rw [e, h.rd] at hrf; cases hrf
  have hnn : cn ≠ d := fun e => by rw [e, h.rd] at hrn; cases hrn
  clear h
  unfold fnV pv
  go_enter Tryd.func19, Tryd.ntmps19
  go_wp2_with fail
  refine (takeStep_free _ d _ _ _ _ _ _ _ _ _ _ _ HD.out.blk ha hs0 (by omega)).mono ?_
  rintro e w1 ⟨rfl, hw1⟩
  have hm1 : Mvs (fun k => k = d) w w1 := by rw [hw1]; exact (Mvs.refl _ _).setCell _ _ (fun _ => rfl)
  have H1 := hide (HD.out.ints hm1 s.created s.opened (s.steps + 1) s.armed s.off s.quota (by rw [hw1]; exact HD.out.blk.set 7 _))
  have HM1 := hide hm1
  have hcf1 := hide (hm1.blk hcf hnf)
  have hcn1 := hide (hm1.blk hcn hnn)
  clear hw1 hm1 hcf hcn
  obtain ⟨As, cc, rfl⟩ := H1.out.row.form
  have hk1 : Blk w1 d #[.map (some bn), .map (some bs), .slice As s.ns cc, .map (some bc), vl, .int .i64 s.created, .int .i64 s.opened, .int .i64 (s.steps + 1), .int .i64 s.armed, .bool s.off, .int .i64 s.quota] 49 := H1.out.blk
  have hc1 := hk1.cell
  go_wp2_with fail
  refine (createClo w1 bn s.N s.D name f cf cn (by omega) hl H1.out.names hcf1.out hcn1.out).mono ?_
  rintro e w2 ⟨rfl, hN2, hm2⟩
  have H2 := hide (H1.out.nam hm2 _ hN2 (there_put H1.out.names.isMap trivial HD.out.vD hφ) (entries_put H1.out.names.isMap HD.out.eD))
  have HM2 := hide hm2
  have hk2 := hide (hm2.blk hk1 (fun e => hne.1 e.symm))
  clear hc1 hN2 hm2 hcf1 hcn1 hk1
  have hc2 := hk2.out.cell
  have hrow : Hid (Rw w2 1 (.slice As s.ns cc) s.ns cs Gs) := H2.out.row
  go_wp2_with (at_builtin; refine wpList_append_rw rfl _ _ 46 46 rfl 58 i0 .nilFunc 1 8 Tryd.underlying46 hi hz0 hz1 hz2 rfl rfl (hrow.out.keep (S := fun _ => False) ((Mvs.refl _ _).alloc _) (fun _ _ c => c)) _ 1 [fnV cf cn] rfl (src_one Tryd.underlying46 (fnV cf cn) rfl) (by simp only [maxLen]; omega) (by omega) ?_)
  intro v3 w3 G3 hr3 hm3 hg3
  obtain ⟨A3, c3, rfl⟩ := hr3.form
  have hm23 : Mvs (fun k => some k = Gs) w2 w3 := (((Mvs.refl (fun k => some k = Gs) w2).alloc _).trans hm3)
  have hG3 : G3 = Gs ∨ ∃ g, G3 = some g ∧ w2.heap.size ≤ g := hg3.imp id fun e => ⟨_, e, by simp⟩
  have hk3 := hide (hm23.blk hk2.out (fun e => by have := HD.out.rsteps d e.symm; rw [HD.out.rd] at this; cases this))
  have hc3 := hk3.out.cell
  have hf3 := hk3.out.frozen
  have HR3 := hide hr3
  have HM3 := hide hm23
  have HG3 := hide hG3
  have hlt3 := hide hr3.lt
  clear hr3 hm3 hg3 hm23 hG3 hk2 hc2 hrow hi hz0 hz1 hz2
  go_wp2
  go_ret
  have hkk := (hk3.out.set 2 (.slice A3 (s.ns + 1) c3)).set 6 (.int .i64 (s.opened + 1))
  have hmm : Mvs (fun k => k = d) w3 ((w3.setCell ⟨d, 2, none⟩ (.slice A3 (s.ns + 1) c3)).setCell ⟨d, 6, none⟩ (.int .i64 (s.opened + 1))) := ((Mvs.refl (fun k => k = d) w3).setCell ⟨d, 2, none⟩ _ (fun _ => rfl)).setCell ⟨d, 6, none⟩ _ (fun _ => rfl)
  have hmA : Mvs (fun k => some k = Gs ∨ k = d) w2 ((w3.setCell ⟨d, 2, none⟩ (.slice A3 (s.ns + 1) c3)).setCell ⟨d, 6, none⟩ (.int .i64 (s.opened + 1))) := (HM3.out.mono fun _ _ e => .inl e).trans (hmm.mono fun _ _ e => .inr e)
  have hGd : ∀ g, G3 = some g → ¬ g = d := fun g hg e => by
    subst e
    rcases HG3.out with e | ⟨g', e, hle⟩
    · have := HD.out.rsteps g (e ▸ hg)
      rw [HD.out.rd] at this
      cases this
    · rw [e] at hg
      cases hg
      have := H2.out.lt H2.out.rd
      omega
  obtain ⟨hD, hkeep⟩ := H2.out.grow hmA (HR3.out.keep hmm hGd) HG3.out (s.opened + 1) hkk
  refine ⟨rfl, _, ⟨_, _, _, _, _, _, _, _, hD⟩, ⟨?_, fun k r hr hlt => ?_⟩, hkeep⟩
  · refine (((HM1.out.mono (S' := fun k => ∃ r, ρ k = some r) fun i _ e => by subst e; exact ⟨_, HD.out.rd⟩).trans (HM2.out.mono fun i _ e => by subst e; exact ⟨_, HD.out.rn⟩)).trans (hmA.mono fun i _ e => ?_))
    rcases e with e | rfl
    · exact ⟨_, HD.out.rsteps i e.symm⟩
    · exact ⟨_, HD.out.rd⟩
  · unfold putRole at hr
    split at hr
    · rename_i e
      rcases HG3.out with e1 | ⟨g, e1, hle⟩
      · exact ⟨_, HD.out.rsteps k (e1 ▸ e.symm)⟩
      · rw [e1] at e
        cases e
        have := HM1.out.size
        have := HM2.out.size
        omega
    · exact ⟨r, hr⟩
/-- Two of the errors held against one another. -/
theorem err_same (a : Addr) (w : World) : (binOp .neq 27 (.iface 118 (.pointer (some a))) (.iface 118 (.pointer (some a)))).run Tryd.prog w = .ok (.bool false) w := by
  obtain ⟨i, hi, hcmp⟩ := Option.map_eq_some_iff.1 isComp
  obtain ⟨j, hj, hjs⟩ := Option.map_eq_some_iff.1 isSize
  simp only [binOp]
  simp [Op.equal, Op.maxDepth, run_equalIn_iface_ptr_same w 9998 a Tryd.underlying27 Tryd.underlying118 hi hcmp hj]
theorem err_other {w : World} {a : Nat → Addr} (hE : Errs w a) {i j : Nat} (hi : i < 13) (hj : j < 13) (hne : i ≠ j) : (binOp .neq 27 (errV a i) (errV a j)).run Tryd.prog w = .ok (.bool true) w := by
  obtain ⟨x, hx, hcmp⟩ := Option.map_eq_some_iff.1 isComp
  obtain ⟨y, hy, hys⟩ := Option.map_eq_some_iff.1 isSize
  obtain ⟨c1, t1, b1⟩ := hE.blk i hi
  obtain ⟨c2, t2, b2⟩ := hE.blk j hj
  unfold errV
  simp only [binOp]
  simp [Op.equal, Op.maxDepth, run_equalIn_iface_ptr_other w 9998 Tryd.underlying27 Tryd.underlying118 hx hcmp hy (by rw [hys]; decide) (hE.ne i j hi hj hne) b1 b2]
section
variable (w0 w : World) (d : Nat) (ρ : Nat → Option Role) (s : St)
theorem DK.drewN {w0 w : World} {d : Nat} {ρ : Nat → Option Role} {s : St} (h : DK w0 w d ρ s) (m : Nat) : DK w0 (w.drewN m) d ρ s := h.then (below_drewN w m)
set_option maxRecDepth 8000 in
set_option maxHeartbeats 2000000 in
theorem create_wrong (a : Nat → Addr) (hE : Errs w0 a) (h : DK w0 w d ρ s) (hoff : s.off = false) (name : List UInt8) (hn : name.length ≤ 1000000) (hr : rightB name = false) :
    Calls Tryd.prog 7 #[pv d, .string ⟨name.toArray⟩] w fun e w' => e = .returned (errV a 3) ∧ Below w.heap.size w w' := by
  have hb1 : Below w.heap.size w (w.alloc (.cells #[.string ⟨name.toArray⟩] 9)) := (Below.refl _ _).alloc (Nat.le_refl _) _
  have HF := hide (find_wrong w0 _ d ρ s a hE (h.then hb1) hoff name (by omega) hr)
  have hE1 := hE.below (h.then hb1).below
  have HC := hide hb1
  have ho := hide (fun m => err_other (w := World.drewN (w.alloc (.cells #[.string ⟨name.toArray⟩] 9)) m) (hE1.below (below_drewN _ m)) (i := 3) (j := 4) (by decide) (by decide) (by decide))
  have hg : Hid (∀ m, (World.drewN (w.alloc (.cells #[.string ⟨name.toArray⟩] 9)) m).cell? ⟨1, 0, none⟩ = some (errV a 4)) := fun m => hE1.cell 4 (by decide)
  clear h hE hE1 hb1
  unfold pv errV at *
  go_enter Tryd.func7, Tryd.ntmps7
  go_wp2_with fail
  refine HF.out.mono ?_
  rintro e w1 ⟨rfl, m, rfl⟩
  have ho1 := ho.out m
  have hg1 := hg.out m
  have hb2 := hide (HC.out.trans ((below_drewN _ m).mono HC.out.size))
  clear HF ho hg HC
  generalize World.drewN _ m = W at *
  go_wp2
  go_ret
  exact ⟨rfl, hb2.out⟩
end
end Go.Proofs.YtpghfaplgkjdkaaDoor
