/- A disk: Read; the chapter's own case. -/
/- A disk: a crash where nothing is open and no numbers are given; Size. -/
/- redo's run: steps one behind the other, up to the first one that fails. -/
import Derived.Test.YthhnlkbjpahjeaaGreatDoorU11
import Derived.Lib.SlBytesConst
import Derived.Shelf.GgClosure.Gives
section
namespace Go.Proofs.YthhnlkbjpahjeaaGreatDoor
open Go.RowKit Go.Maps
set_option maxRecDepth 20000 in
set_option maxHeartbeats 2000000 in
theorem read_ok (w0 w : World) (d : Nat) (ρ : Nat → Option Role) (s : St) (h : DK w0 w d ρ s) (hoff : s.off = false) (name : List UInt8) (hr : rightB name = true) (b : Nat) (fa : FA) (hat : s.D.atKey (.string name) .nil = pd b) (hφ : s.φ b = some fa) (hl : fa.bytes.length ≤ 1000000) :
    Calls Tryz.prog 34 #[pv d, .string ⟨name.toArray⟩] w fun e w' => ∃ v, e = .returned (.tuple #[v, .nilIface]) ∧ BR w' v fa.bytes ∧ Below w.heap.size w w' := by
  have HF := hide (find_there w0 w d ρ s h hoff name hr b hat)
  obtain ⟨bn, bs, bc, vs, vl, Gs, Gl, cs, hD⟩ := h
  obtain ⟨vb, vo, Gb, Go, fs, hFs⟩ := hD.files b fa hφ
  have hc := hFs.blk.cell
  have HB := hide hFs.row.br
  have HC : Hid (Calls Tryz.prog 64 #[vb] w fun e w' => ∃ v, e = .returned v ∧ BR w' v fa.bytes ∧ Below w.heap.size w w') := by
    rcases hFs.row.2 with ⟨rfl, h0, _⟩ | ⟨g, o, cap, _, rfl, _⟩
    · have e0 : fa.bytes = [] := List.length_eq_zero_iff.1 h0
      exact (clone_nil w).mono fun e w' ⟨he, hw⟩ => ⟨_, he, by subst hw; exact HB.out, by subst hw; exact Below.refl _ _⟩
    · exact (clone_any fa.bytes _ _ _ w HB.out hl).mono fun e w' ⟨v, he, hT⟩ => ⟨v, he, hT.br, hT.1⟩
  clear hD hFs hat
  unfold pv at *
  go_enter Tryz.func34, Tryz.ntmps34
  go_wp2_with (go_at_call 63; refine HF.out.mono ?_; rintro e w' ⟨rfl, rfl⟩)
  refine HC.out.mono ?_
  rintro e w2 ⟨v, rfl, hbr, hb2⟩
  have H2 := hide (And.intro hbr hb2)
  clear hbr hb2 HC HF HB
  go_wp2
  go_ret2
  exact ⟨_, rfl, H2.out.1, H2.out.2⟩
theorem one_at {k kl : Lit} {f b : Nat} (h : (DataW.map [(k, pd f)]).atKey kl .nil = pd b) : b = f := by
  unfold DataW.atKey at h
  cases hs : k.sameKey kl with
  | true =>
    simp [hs] at h
    exact (pd_inj h).symm
  | false =>
    simp [hs, pd] at h
theorem one_entry {k : Lit} {f : Nat} : ∀ p ∈ entriesOf (DataW.map [(k, pd f)]), ∃ b, p.2 = pd b := by
  intro p hp
  have : p = (k, pd f) := List.mem_singleton.1 hp
  rw [this]
  exact ⟨f, rfl⟩
theorem put_first (k : Lit) (f : Nat) : (DataW.map [] : DataW Unit).put k (pd f) = .map [(k, pd f)] := rfl
theorem rightA : rightB [97] = true := by decide
theorem Turn.off {x y : World} {ρ ρ' : Nat → Option Role} (h : Turn x y ρ ρ') {k : Nat} (hk : k < x.heap.size) (hr : ρ k = none) : ρ' k = none := by
  cases hx : ρ' k with
  | none => rfl
  | some r =>
    obtain ⟨r', hr'⟩ := h.2 k r hx hk
    rw [hr] at hr'
    cases hr'
theorem DK.free {w0 w : World} {d : Nat} {ρ : Nat → Option Role} {s : St} (h : DK w0 w d ρ s) {k : Nat} (hk : w.heap.size ≤ k) : ρ k = none := by
  cases hx : ρ k with
  | none => rfl
  | some r =>
    have := (h.low k r hx).2
    omega
theorem br_litD {w : World} {C : Array Value} {fr : Nat × Nat} (bs : List UInt8) (hC : C = (bs.map bv).toArray) {c : Nat} (hc : bs.length ≤ c) (hm : c ≤ maxLen) : BR (w.alloc (.cells C 5 fr)) (.slice (some ⟨w.heap.size, 0, none⟩) bs.length c) bs := by
  subst hC
  refine ⟨_, c, by rw [List.length_map], by rw [List.length_map]; exact hc, hm, (fun h => by cases h), fun _ => ⟨w.heap.size, 0, rfl, by simp, fun j u hu => ?_⟩⟩
  rw [Nat.zero_add, World.cell?_alloc_mark, List.getElem?_toArray, hu]
end Go.Proofs.YthhnlkbjpahjeaaGreatDoor

end
section
namespace Go.Proofs.YthhnlkbjpahjeaaGreatDoor
open Go.RowKit Go.Maps
set_option maxRecDepth 20000 in
set_option maxHeartbeats 4000000 in
theorem crash_none (w0 w : World) (d : Nat) (ρ : Nat → Option Role) (s : St) (h : DK w0 w d ρ s) (hns : s.ns = 0) (hls : s.ls = []) (hch : s.ch = .map []) (ho0 : 0 ≤ s.opened) (ho1 : s.opened ≤ 1000000)
    (hv : ∀ kl b, s.Ds.atKey kl .nil = pd b → (s.φ b).isSome = true) (he : ∀ p ∈ entriesOf s.Ds, ∃ b, p.2 = pd b) (b : Nat) (fa : FA) (hφ : s.φ b = some fa) :
    Calls Tryz.prog 14 #[pv d, .slice none 0 0] w fun e w' => e = .returned (.tuple #[]) ∧ ∃ ρ', DK w0 w' d ρ' (s.crashed b fa) ∧ Turn w w' ρ ρ' := by
  obtain ⟨bn, bs, bc, vs, vl, Gs, Gl, cs, h⟩ := h
  have HD := hide h
  have hrow := h.row
  rw [hns] at hrow
  obtain ⟨As, cc, rfl⟩ := hrow.form
  have hlost : Hid (Rw w 1 vl 0 [] Gl) := by
    have := h.lost
    rw [hls] at this
    exact this
  have hchg : Hid (w.ownsMap Tryz.prog 3 ptrElem bc s.N (.map [])) := by
    have := h.chg
    rw [hch] at this
    exact this
  have hk0 := h.blk
  have hdlt := h.lt h.rd
  have hne := h.ne
  have hDF : Hid (Calls Tryz.prog 30 #[.slice none 0 0] w fun e w' => e = .returned (drawV w.heap.size) ∧ w' = w.alloc (.cells #[.slice none 0 0] 26)) := by
    show Calls _ _ _ _ _
    unfold drawV pv
    go_enter Tryz.func30, Tryz.ntmps30
    go_wp2
    go_ret
    exact ⟨rfl, rfl⟩
  clear h hrow
  unfold pv
  go_enter Tryz.func14, Tryz.ntmps14
  go_wp2_with (go_at_call 30; refine hDF.out.mono ?_)
  rintro e w1 ⟨rfl, hw1⟩
  have hb1 : Below w.heap.size w w1 := by rw [hw1]; exact (Below.refl _ _).alloc (Nat.le_refl _) _
  have kck1 : Blk w1 w.heap.size #[.slice none 0 0] 26 := by rw [hw1]; exact Blk.new _ _ _
  have hs1 : w1.heap.size = w.heap.size + 1 := by rw [hw1]; simp
  have kd1 := hk0.below hb1 hdlt
  have hc1 := kd1.cell
  unfold drawV
  have HB1 := hide hb1
  replace hk0 := hide hk0
  replace hch := hide hch
  replace hls := hide hls
  replace hns := hide hns
  replace hφ := hide hφ
  clear hw1 hDF
  go_wp2_with fail
  refine (draw_nil w1 w.heap.size none 0 _ kck1).mono ?_
  rintro e w2 ⟨rfl, hw2⟩
  subst hw2
  have hm02 : Mvs (fun k => k = d) w w2 := Mvs.of_below HB1.out
  have hsure2 := HD.out.sure.mvs hm02 hne.2.1
  have HM2 := hide hm02
  have hs2' := hide hs1
  clear kck1 hc1 hm02 hb1 hs1
  go_wp2_with fail
  refine (restoreNames_none w2 d bs s.N s.Ds _ _ _ _ _ _ _ _ As cc s.opened kd1 hsure2 hne.2.1 ho0 (by omega)).mono ?_
  rintro e w3 ⟨rfl, hm3, kd3, hsure3, hlt3⟩
  have hm03 := HM2.out.trans hm3
  have hchg3 := hchg.out.mvs hm03 hne.2.2.1
  have hlost3 := hlost.out.keep hm03 (fun g hg e => by have := HD.out.rlost g hg; rw [e, HD.out.rd] at this; cases this)
  have HM3 := hide hm03
  have hsu3 := hide hsure3
  have hl3 := hide hlt3
  clear hm3 hsure2 hsure3 hlt3 hm03
  go_wp2_with fail
  refine (unsure_none w3 d bc s.N _ _ _ vl _ _ _ _ _ _ Gl kd3 hchg3 hlost3).mono ?_
  rintro e w4 ⟨A4, c4, rfl, hb4⟩
  have kd4 := kd3.below hb4 kd3.lt
  have hc4 := kd4.cell
  have hf4 := kd4.frozen
  have hd4 := kd4.lt
  have HK4 := hide kd4
  have hsu4 := hide (hsu3.out.mvs (S := fun _ => False) (Mvs.of_below hb4) (fun c => c))
  have HM4 := hide (HM3.out.then hb4)
  have hs4 := hide hb4.size
  have hmm := @run_makeMap Tryz.prog
  clear hb4 kd3 hchg3 hlost3 kd4 kd1
  go_wp2_with fail
  refine wp_loop_rounds 1 ?_
  rw [rounds_succ]
  go_wp2_with fail
  go_end0
  have hbs : w4.heap.size = (((((w4.setCell ⟨d, 3, none⟩ (.map (some w4.heap.size))).setCell ⟨d, 4, none⟩ (.slice none 0 0)).setCell ⟨d, 6, none⟩ (.int .i64 0)).setCell ⟨d, 9, none⟩ (.bool false)).setCell ⟨d, 8, none⟩ (.int .i64 (-1))).heap.size := by simp [World.setCell]
  have hm6 : Mvs (fun k => k = d) w4 ((((((w4.setCell ⟨d, 3, none⟩ (.map (some w4.heap.size))).setCell ⟨d, 4, none⟩ (.slice none 0 0)).setCell ⟨d, 6, none⟩ (.int .i64 0)).setCell ⟨d, 9, none⟩ (.bool false)).setCell ⟨d, 8, none⟩ (.int .i64 (-1))).alloc (.map #[] 0)) :=
    ((((((Mvs.refl (fun k => k = d) w4).setCell ⟨d, 3, none⟩ _ (fun _ => rfl)).setCell ⟨d, 4, none⟩ _ (fun _ => rfl)).setCell ⟨d, 6, none⟩ _ (fun _ => rfl)).setCell ⟨d, 9, none⟩ _ (fun _ => rfl)).setCell ⟨d, 8, none⟩ _ (fun _ => rfl)).alloc _
  have kd6 := (((((HK4.out.set 3 (.map (some w4.heap.size))).set 4 (.slice none 0 0)).set 6 (.int .i64 0)).set 9 (.bool false)).set 8 (.int .i64 (-1))).alloc (.map #[] 0)
  have hc6 := World.ownsMap_made (((((w4.setCell ⟨d, 3, none⟩ (.map (some w4.heap.size))).setCell ⟨d, 4, none⟩ (.slice none 0 0)).setCell ⟨d, 6, none⟩ (.int .i64 0)).setCell ⟨d, 9, none⟩ (.bool false)).setCell ⟨d, 8, none⟩ (.int .i64 (-1))) Tryz.prog 3 ptrElem
  rw [← hbs] at hc6
  have hs6 : ((((((w4.setCell ⟨d, 3, none⟩ (.map (some w4.heap.size))).setCell ⟨d, 4, none⟩ (.slice none 0 0)).setCell ⟨d, 6, none⟩ (.int .i64 0)).setCell ⟨d, 9, none⟩ (.bool false)).setCell ⟨d, 8, none⟩ (.int .i64 (-1))).alloc (.map #[] 0)).heap.size = w4.heap.size + 1 := by rw [World.size_alloc, ← hbs]
  generalize (((((w4.setCell ⟨d, 3, none⟩ _).setCell ⟨d, 4, none⟩ _).setCell ⟨d, 6, none⟩ _).setCell ⟨d, 9, none⟩ _).setCell ⟨d, 8, none⟩ _).alloc _ = w6 at *
  have z1 := hl3.out
  have z2 := hs2'.out
  have z3 := hs4.out
  have hmd := HM4.out.trans hm6
  have hF6 := (HD.out.files b fa hφ.out).keep (ρ' := ρ) hmd (fun k r hr hof e => by rw [e, HD.out.rd] at hr; cases Option.some.inj hr; exact hof) (fun k r hr _ => hr)
  have hmA : Mvs (fun k => k = d ∨ k = b) w w6 := hmd.mono fun _ _ e => .inl e
  have hdlt' := HD.out.lt HD.out.rd
  have hsu6 := hsu4.out.mvs hm6 (fun e => by omega)
  obtain ⟨hDK, hT⟩ := HD.out.crashed hmA hφ.out hF6 (nb := w2.heap.size) (nc := w4.heap.size) (by omega) (by omega) (by omega) (by omega) (by omega) hsu6 (hc6.mono (Nat.zero_le _)) hv he kd6
  exact ⟨rfl, _, ⟨_, _, _, _, _, _, _, _, hDK⟩, hT⟩
section
variable (w0 w : World) (d : Nat) (ρ : Nat → Option Role) (s : St)
set_option maxRecDepth 20000 in
set_option maxHeartbeats 2000000 in
theorem size_there (h : DK w0 w d ρ s) (hoff : s.off = false) (name : List UInt8) (hr : rightB name = true) (b : Nat) (fa : FA) (hat : s.D.atKey (.string name) .nil = pd b) (hφ : s.φ b = some fa) :
    Calls Tryz.prog 108 #[pv d, .string ⟨name.toArray⟩] w fun e w' => e = .returned (.tuple #[.int .i64 fa.bytes.length, .nilIface]) ∧ w' = w := by
  have HF := hide (find_there w0 w d ρ s h hoff name hr b hat)
  obtain ⟨bn, bs, bc, vs, vl, Gs, Gl, cs, hD⟩ := h
  obtain ⟨vb, vo, Gb, Go, fs, hFs⟩ := hD.files b fa hφ
  obtain ⟨Ab, cb, rfl⟩ := hFs.row.form
  have hc := hFs.blk.cell
  clear hD hFs hat
  unfold pv at *
  go_enter Tryz.func108, Tryz.ntmps108
  go_wp2_with (go_at_call 63; refine HF.out.mono ?_; rintro e w' ⟨rfl, rfl⟩)
  go_ret2
  exact ⟨rfl, rfl⟩
set_option maxRecDepth 20000 in
set_option maxHeartbeats 2000000 in
theorem size_none (a : Nat → Addr) (hE : Errs w0 a) (h : DK w0 w d ρ s) (hoff : s.off = false) (name : List UInt8) (hr : rightB name = true) (hf : s.D.atKey (.string name) .nil = .nil) :
    Calls Tryz.prog 108 #[pv d, .string ⟨name.toArray⟩] w fun e w' => e = .returned (.tuple #[.int .i64 0, errV a 4]) ∧ ∃ m, w' = w.drewN m := by
  have HF := hide (find_none w0 w d ρ s a hE h hoff name hr hf)
  clear h hf hE
  unfold pv errV at *
  go_enter Tryz.func108, Tryz.ntmps108
  go_wp2_with (go_at_call 63; refine HF.out.mono ?_; rintro e w' ⟨rfl, m, rfl⟩)
  go_ret2
  exact ⟨rfl, _, rfl⟩
end
end Go.Proofs.YthhnlkbjpahjeaaGreatDoor

end
section
namespace Go.Proofs.YthhnlkbjpahjeaaGreatDoor
open Go.RowKit Go.Maps
/-- The steps fs, done in order from w on, end so: each of them leaves block g as it is. -/
def RunsG (a : Nat → Addr) (g : Nat) : List Value → World → (Value → World → Prop) → Prop
  | [], w, Q => Q .nilIface w
  | f :: r, w, Q => ∃ F fi ca, f = .func (.func F) fi ca ∧ (∀ args w, (callFunc F args).run Tryz.prog w = .ok (.enter F args) w) ∧
      Calls Tryz.prog F (fi ++ ca) w fun e w' => (e = .returned .nilIface ∧ w'.heap[g]? = w.heap[g]? ∧ RunsG a g r w' Q) ∨ ∃ i, e = .returned (errV a i) ∧ Q (errV a i) w'
theorem RunsG.form {a : Nat → Addr} {g : Nat} {f : Value} {r : List Value} {w : World} {Q : Value → World → Prop} (h : RunsG a g (f :: r) w Q) : ∃ F fi ca, f = .func (.func F) fi ca := by
  obtain ⟨F, fi, ca, h, _⟩ := h
  exact ⟨F, fi, ca, h⟩
set_option maxRecDepth 8000 in
set_option maxHeartbeats 2000000 in
theorem run_any (a : Nat → Addr) (fs : List Value) (g : Nat) (w : World) (Q : Value → World → Prop) (hk : Blk w g fs.toArray 61) (hl : fs.length ≤ 1000) (hQ : RunsG a g fs w Q) :
    Calls Tryz.prog 19 #[.slice (some ⟨g, 0, none⟩) fs.length fs.length] w fun e w' => ∃ v, e = .returned v ∧ Q v w' := by
  have HK := hide hk
  have HQ := hide hQ
  clear hk hQ
  go_enter Tryz.func19, Tryz.ntmps19
  go_wp2
  go_loopw [8] (fun u wr => ∃ k : Nat, k ≤ fs.length ∧ u = .int .i64 k ∧ Hid (Blk wr g fs.toArray 61) ∧ Hid (RunsG a g (fs.drop k) wr Q)) (fun u _ => fs.length - (intOf u).toNat)
  case atStart => exact ⟨0, Nat.zero_le _, rfl, HK, HQ⟩
  case round =>
    obtain ⟨k, hkl, rfl, hB, hR⟩ := hrel
    by_cases hlt : k < fs.length
    · have hd : fs.drop k = fs[k] :: fs.drop (k + 1) := List.drop_eq_getElem_cons hlt
      have hR' := hR.out
      rw [hd] at hR'
      obtain ⟨F, fi, ca, hf, heg, hC⟩ := hR'
      have hltz : (k : Int) < (fs.length : Int) := by omega
      have hcell : wr.cell? ⟨g, k, none⟩ = some (.func (.func F) fi ca) := by
        rw [hB.out.cell, List.getElem?_toArray, List.getElem?_eq_getElem hlt, hf]
      have HC := hide hC
      clear hR hd hf hC HQ HK
      go_wp2_with fail
      refine HC.out.mono ?_
      rintro e w' (⟨rfl, hh, hR⟩ | ⟨i, rfl, hq⟩)
      · replace hh := hide hh
        replace hR := hide hR
        clear HC
        go_wp2
        go_round
        case rel => exact ⟨k + 1, by omega, by go_num, hh.out.trans hB.out, hR⟩
        case measure => simp [intOf]; omega
      · replace hq := hide hq
        clear HC
        unfold errV at *
        go_wp2
        go_ret
        exact ⟨_, rfl, hq.out⟩
    · have hltz : ¬ (k : Int) < (fs.length : Int) := by omega
      have hd : fs.drop k = [] := List.drop_eq_nil_of_le (by omega)
      have hR' := hR.out
      rw [hd] at hR'
      have HR := hide hR'
      clear hR hR' hd
      go_wp2
      go_ret
      exact ⟨_, rfl, HR.out⟩
end Go.Proofs.YthhnlkbjpahjeaaGreatDoor

end
