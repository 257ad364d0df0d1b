/- A disk: a crash, where no file has open steps, and any steps of names are open. -/
/- A disk: Append and Truncate, where the power goes at the step. -/
/- RedoWhole, the plain half: a disk that loses what is not sure, and a change that is done on it step by step. Nothing of a program. -/
import Derived.Test.YthhnlkbjpahjeaaGreatDoorU23
import Derived.WalkKit
section
namespace Go.Proofs.YthhnlkbjpahjeaaGreatDoor
open Go.RowKit Go.Maps
set_option maxRecDepth 20000 in
set_option maxHeartbeats 4000000 in
theorem crash_calm (w0 w : World) (d : Nat) (ρ : Nat → Option Role) (s : St) (h : DK w0 w d ρ s) (hls : s.ls = []) (b : Nat) (fa : FA) (hch : s.ch = .map []) (hφ : s.φ b = some fa)
    (hN : s.N ≤ 100000) (hns : s.ns ≤ 100000) (hln : ∀ x ∈ s.nl, x.name.length ≤ 1000000) (ho : (s.ns : Int) ≤ s.opened) (ho1 : s.opened ≤ 1000000)
    (hv : ∀ k kl b, (apN s.Ds (s.nl.take k)).atKey kl .nil = pd b → (s.φ b).isSome = true) (he : ∀ k, ∀ p ∈ entriesOf (apN s.Ds (s.nl.take k)), ∃ b, p.2 = pd b) (A : Option Addr) (n c : Nat) (hkp : Keep w ρ A n c) :
    Calls Tryz.prog 14 #[pv d, .slice A n c] w fun e w' => e = .returned (.tuple #[]) ∧ ∃ k ρ', k ≤ s.ns ∧ DK w0 w' d ρ' (s.crashedX b fa (apN s.Ds (s.nl.take k)) (s.N + k)) ∧ Turn w w' ρ ρ' := by
  obtain ⟨bn, bs, bc, vs, vl, Gs, Gl, cs, h⟩ := h
  have HD := hide h
  have hrow := h.row
  have hnl := h.nsr
  have hlost : Hid (Rw w 1 vl 0 [] Gl) := by
    have := h.lost
    rw [hls] at this
    exact this
  have hchg : Hid (w.ownsMap Tryz.prog 3 ptrElem bc s.N (.map [])) := by
    have := h.chg
    rw [hch] at this
    exact this
  have hk0 := h.blk
  have hck0 : ρ w.heap.size = none := h.off (Nat.le_refl _)
  have hdlt := h.lt h.rd
  have hbslt := h.lt h.rs
  have hne := h.ne
  have hDF : Hid (Calls Tryz.prog 30 #[.slice A n c] w fun e w' => e = .returned (drawV w.heap.size) ∧ w' = w.alloc (.cells #[.slice A n c] 26)) := by
    show Calls _ _ _ _ _
    unfold drawV pv
    go_enter Tryz.func30, Tryz.ntmps30
    go_wp2
    go_ret
    exact ⟨rfl, rfl⟩
  have hdrw := hide hkp.drw
  obtain ⟨As, cc, rfl⟩ := hrow.form
  replace hrow := hide hrow
  replace hnl := hide hnl
  have hva := hide (And.intro hv he)
  replace hln := hide hln
  clear h hkp hv he
  unfold pv
  go_enter Tryz.func14, Tryz.ntmps14
  go_wp2_with (go_at_call 30; refine hDF.out.mono ?_)
  rintro e w1 ⟨rfl, hw1⟩
  have hb1 : Below w.heap.size w w1 := by rw [hw1]; exact (Below.refl _ _).alloc (Nat.le_refl _) _
  have hs1 : w1.heap.size = w.heap.size + 1 := by rw [hw1]; simp
  have hd1 : Hid (Drw (w.heap.size + 1) w1 ρ w.heap.size) := by rw [hw1]; exact hdrw.out
  have kd1 := hk0.below hb1 hdlt
  have hc1 := kd1.cell
  unfold drawV
  have HB1 := hide hb1
  have hdc : d ≠ w.heap.size := by omega
  replace hk0 := hide hk0
  replace hch := hide hch
  replace hls := hide hls
  replace hφ := hide hφ
  have HDr := hide (draw_any w1 ρ (w.heap.size + 1) w.heap.size s.ns hd1.out (by omega))
  unfold pv at HDr
  clear hw1 hDF hdrw hd1
  go_wp2_with fail
  refine HDr.out.mono ?_
  rintro e w2 ⟨k, hkn, rfl, hm2, hd2⟩
  have hm02 : Mvs (fun j => False) w w2 := (Mvs.of_below HB1.out).trans' hm2 (fun i hi e => by omega)
  have kd2 := hm2.blk kd1 hdc
  have hs2 := hm2.size
  have HR := hide (restoreNames_any w2 ρ d bs s.N s.Ds _ _ _ _ _ _ _ _ s.ns _ Gs cs s.nl s.opened kd2 (HD.out.sure.mvs hm02 (fun c => c)) HD.out.rd HD.out.rs (hrow.out.keep hm02 (fun _ _ c => c)) HD.out.rsteps (NsR.keep hm02 (fun _ _ c => c) (fun _ h => h) _ _ hnl.out) hN hns hln.out ho (by omega) k hkn)
  have HM2 := hide hm02
  have HD2 := hide hd2
  have hs2' := hide (show w.heap.size + 1 ≤ w2.heap.size by omega)
  unfold pv at HR
  clear hm2 hd2 hm02 kd2 hs2 kd1 hc1 HDr hs1
  go_wp2_with fail
  refine HR.out.mono ?_
  rintro e w3 ⟨rfl, hm3, nb, hnb, hnlt, kd3, hs3, hn3⟩
  have hm03 : Mvs (fun j => j = d ∨ j = bs) w w3 := (HM2.out.mono fun _ _ c => c.elim).trans hm3
  have hchg3 := hchg.out.mvs hm03 (fun e => by rcases e with e | e; exact hne.2.2.1 e; exact hne.2.2.2.2.2 e.symm)
  have hlost3 := hlost.out.keep hm03 (fun g hg e => by
    have r1 := HD.out.rlost g hg
    rcases e with e | e
    · rw [e, HD.out.rd] at r1; cases r1
    · rw [e, HD.out.rs] at r1; cases r1)
  have hd3 := hide (HD2.out.keep hm3 (fun j e => by
    rcases e with e | e
    · exact ⟨by omega, fun _ => ⟨_, e ▸ HD.out.rd⟩⟩
    · exact ⟨by omega, fun _ => ⟨_, e ▸ HD.out.rs⟩⟩))
  have HM3 := hide hm03
  have hsu3 := hide (And.intro hs3 hn3)
  have hnb3 := hide (And.intro hnb hnlt)
  have hs3' := hide hm3.size
  clear hm3 hm03 hs3 hn3 hnb hnlt HR
  go_wp2_with fail
  refine (unsure_none w3 d bc s.N _ _ _ vl _ _ _ _ _ _ Gl kd3 hchg3 hlost3).mono ?_
  rintro e w5 ⟨A4, c4, rfl, hb4⟩
  have hs4 := hb4.size
  have kd5 := kd3.below hb4 kd3.lt
  have hsu4 := hide (And.intro (hsu3.out.1.mvs (S := fun _ => False) (Mvs.of_below hb4) (fun c => c)) (hsu3.out.2.mvs (S := fun _ => False) (Mvs.of_below hb4) (fun c => c)))
  have HM4 := hide (HM3.out.then hb4)
  have hsz4 := hide (show nb < w5.heap.size ∧ w.heap.size + 1 ≤ nb by have := hnb3.out; have := hs2'.out; have := hs3'.out; omega)
  have hc5 := kd5.cell
  have hf5 := kd5.frozen
  have hd5 := kd5.lt
  have HK5 := hide kd5
  have hmm := @run_makeMap Tryz.prog
  clear hb4 hs4 kd3 kd5 hchg3 hlost3 hd3
  go_wp2_with fail
  refine wp_loop_rounds 1 ?_
  rw [rounds_succ]
  go_wp2_with fail
  go_end0
  have hbs : w5.heap.size = (((((w5.setCell ⟨d, 3, none⟩ (.map (some w5.heap.size))).setCell ⟨d, 4, none⟩ (.slice none 0 0)).setCell ⟨d, 6, none⟩ (.int .i64 0)).setCell ⟨d, 9, none⟩ (.bool false)).setCell ⟨d, 8, none⟩ (.int .i64 (-1))).heap.size := by simp [World.setCell]
  have hm6 : Mvs (fun k => k = d) w5 ((((((w5.setCell ⟨d, 3, none⟩ (.map (some w5.heap.size))).setCell ⟨d, 4, none⟩ (.slice none 0 0)).setCell ⟨d, 6, none⟩ (.int .i64 0)).setCell ⟨d, 9, none⟩ (.bool false)).setCell ⟨d, 8, none⟩ (.int .i64 (-1))).alloc (.map #[] 0)) :=
    ((((((Mvs.refl (fun k => k = d) w5).setCell ⟨d, 3, none⟩ _ (fun _ => rfl)).setCell ⟨d, 4, none⟩ _ (fun _ => rfl)).setCell ⟨d, 6, none⟩ _ (fun _ => rfl)).setCell ⟨d, 9, none⟩ _ (fun _ => rfl)).setCell ⟨d, 8, none⟩ _ (fun _ => rfl)).alloc _
  have kd6 := (((((HK5.out.set 3 (.map (some w5.heap.size))).set 4 (.slice none 0 0)).set 6 (.int .i64 0)).set 9 (.bool false)).set 8 (.int .i64 (-1))).alloc (.map #[] 0)
  have hc6 := World.ownsMap_made (((((w5.setCell ⟨d, 3, none⟩ (.map (some w5.heap.size))).setCell ⟨d, 4, none⟩ (.slice none 0 0)).setCell ⟨d, 6, none⟩ (.int .i64 0)).setCell ⟨d, 9, none⟩ (.bool false)).setCell ⟨d, 8, none⟩ (.int .i64 (-1))) Tryz.prog 3 ptrElem
  rw [← hbs] at hc6
  have hs6 : ((((((w5.setCell ⟨d, 3, none⟩ (.map (some w5.heap.size))).setCell ⟨d, 4, none⟩ (.slice none 0 0)).setCell ⟨d, 6, none⟩ (.int .i64 0)).setCell ⟨d, 9, none⟩ (.bool false)).setCell ⟨d, 8, none⟩ (.int .i64 (-1))).alloc (.map #[] 0)).heap.size = w5.heap.size + 1 := by rw [World.size_alloc, ← hbs]
  generalize (((((w5.setCell ⟨d, 3, none⟩ _).setCell ⟨d, 4, none⟩ _).setCell ⟨d, 6, none⟩ _).setCell ⟨d, 9, none⟩ _).setCell ⟨d, 8, none⟩ _).alloc _ = w6 at *
  obtain ⟨z1, z2⟩ := hsz4.out
  have hmA : Mvs (fun j => j = d ∨ j = bs) w w6 := HM4.out.trans (hm6.mono fun _ _ e => .inl e)
  have hkX : ∀ j r, ρ j = some r → j ≠ bs → crashX ρ bs nb w5.heap.size b none j = some r := fun j r hr hj => HD.out.crashX_keep (Gb := none) (fun _ h => by cases h) (.inl rfl) (by omega) (by omega) hr hj
  have hF6 := (HD.out.files b fa hφ.out).keep (ρ' := crashX ρ bs nb w5.heap.size b none) hmA (fun j r hr hof e => by
    rcases e with e | e
    · rw [e, HD.out.rd] at hr; cases Option.some.inj hr; exact hof
    · rw [e, HD.out.rs] at hr; cases Option.some.inj hr; exact hof) (fun j r hr hof => hkX j r hr (fun e => by rw [e, HD.out.rs] at hr; cases Option.some.inj hr; exact hof))
  obtain ⟨hDK, hT⟩ := HD.out.crashedX (N := s.N + k) (D := apN s.Ds (s.nl.take k)) (Gb := none) (G := none) (hmA.mono fun _ _ e => e.elim .inl fun e => .inr (.inl e)) hφ.out (fun _ h => by cases h) (.inl rfl) (fun _ h => by cases h) hF6 (by omega) (by omega) (by omega) (by omega) (by omega) (hsu4.out.2.mvs hm6 hne.2.1) (hsu4.out.1.mvs hm6 (fun e => by omega)) (hc6.mono (Nat.zero_le _)) (hva.out.1 k) (hva.out.2 k) kd6
  exact ⟨rfl, k, _, hkn, ⟨_, _, _, _, _, _, _, _, hDK⟩, hT⟩
end Go.Proofs.YthhnlkbjpahjeaaGreatDoor

end
section
namespace Go.Proofs.YthhnlkbjpahjeaaGreatDoor
open Go.RowKit Go.Maps
set_option maxRecDepth 20000 in
set_option maxHeartbeats 4000000 in
theorem append_gone (w0 w : World) (d : Nat) (ρ : Nat → Option Role) (s : St) (a : Nat → Addr) (hE : Errs w0 a) (h : DK w0 w d ρ s) (hoff : s.off = false) (ha : s.armed = 0) (hq0 : 0 ≤ s.quota) (hq1 : s.quota ≤ 1073741824) (hu : usedOf s ≤ 1000000000) (name : List UInt8) (hr : rightB name = true) (b : Nat) (hat : s.D.atKey (.string name) .nil = pd b) (x : Value) (news : List UInt8) (hx : BR w x news) (hroom : (news.length : Int) ≤ s.quota - usedOf s) :
    Calls Tryz.prog 49 #[pv d, .string ⟨name.toArray⟩, x] w fun e w' => e = .returned (errV a 7) ∧ DK w0 w' d ρ s.gone ∧ Turn w w' ρ ρ := by
  obtain ⟨A, c, rfl, hlc, hcm, _⟩ := hx.form
  have hb1 : Below w.heap.size w (w.alloc (.cells #[.slice A news.length c] 46)) := (Below.refl _ _).alloc (Nat.le_refl _) _
  have hb2 : Below w.heap.size w ((w.alloc (.cells #[.slice A news.length c] 46)).alloc (.cells #[pv b] 72)) := hb1.alloc hb1.size _
  have HF := hide (find_there w0 _ d ρ s (h.then hb1) hoff name hr b hat)
  have HR := hide (hasRoom_any w0 _ d ρ s (h.then hb2) hu hq0 hq1 news.length)
  rw [decide_eq_true hroom] at HR
  have hk3 := hide (Blk.new1 w (.cells #[.slice A news.length c] 46) #[pv b] 72)
  have HB := hide hb2
  have HH := hide h
  have HE := hide hE
  clear h hx hb1 hb2 hroom hlc hcm hE
  unfold pv at HF HR ⊢
  go_enter Tryz.func49, Tryz.ntmps49
  go_wp2_with (go_at_call 63; refine HF.out.mono ?_; rintro e w' ⟨rfl, rfl⟩)
  refine HR.out.mono ?_
  rintro e w3 ⟨rfl, hb3⟩
  have hb3' : Below w.heap.size w w3 := HB.out.trans (hb3.mono HB.out.size)
  have hD3 := HH.out.then hb3'
  have q3 := hk3.out.below hb3 hk3.out.lt
  have hc3 := q3.cell
  have HC := hide (fun v x => changeFile_gone w0 w3 d ρ s a HE.out hD3 ha v x)
  have HG := hide hD3.gone_set
  have HB3 := hide hb3'
  unfold pv at HC hc3
  unfold errV at HC
  clear hb3 hb3' hD3 q3 HR HF
  go_wp2_with fail
  refine (HC.out _ _).mono ?_
  rintro e w4 ⟨rfl, hw4⟩
  have hG4 := HG.out
  rw [← hw4] at hG4
  have HG4 := hide hG4
  clear hG4 hw4 HG HC
  go_wp2
  go_ret
  exact ⟨rfl, HG4.out.1, Turn.trans ⟨Mvs.of_below HB3.out, fun k r hr _ => ⟨r, hr⟩⟩ HG4.out.2⟩
set_option maxRecDepth 20000 in
set_option maxHeartbeats 4000000 in
theorem truncate_gone (w0 w : World) (d : Nat) (ρ : Nat → Option Role) (s : St) (a : Nat → Addr) (hE : Errs w0 a) (h : DK w0 w d ρ s) (hoff : s.off = false) (ha : s.armed = 0) (name : List UInt8) (hr : rightB name = true) (b : Nat) (fa : FA) (hat : s.D.atKey (.string name) .nil = pd b) (hφ : s.φ b = some fa) (n : Nat) (hn : n ≤ fa.bytes.length) :
    Calls Tryz.prog 52 #[pv d, .string ⟨name.toArray⟩, .int .i64 n] w fun e w' => e = .returned (errV a 7) ∧ DK w0 w' d ρ s.gone ∧ Turn w w' ρ ρ := by
  have hb1 : Below w.heap.size w (w.alloc (.cells #[.int .i64 n] 3)) := (Below.refl _ _).alloc (Nat.le_refl _) _
  have hb2 : Below w.heap.size w ((w.alloc (.cells #[.int .i64 n] 3)).alloc (.cells #[pv b] 72)) := hb1.alloc hb1.size _
  have HF := hide (find_there w0 _ d ρ s (h.then hb1) hoff name hr b hat)
  have HB := hide hb2
  have HH := hide (h.then hb2)
  have HS : Hid (Calls Tryz.prog 90 #[pv b, .int .i64 n] ((w.alloc (.cells #[.int .i64 n] 3)).alloc (.cells #[pv b] 72)) fun e w' => e = .returned (.bool true) ∧ w' = (w.alloc (.cells #[.int .i64 n] 3)).alloc (.cells #[pv b] 72)) := by
    obtain ⟨bn, bs, bc, vs, vl, Gs, Gl, cs, hD⟩ := HH.out
    obtain ⟨vb, vo, Gb, Go, fs, hF⟩ := hD.files b fa hφ
    exact has_any _ ρ b fa vb vo Gb Go fs hF n hn
  have HC := hide (fun v x => changeFile_gone w0 _ d ρ s a hE HH.out ha v x)
  have HG := hide HH.out.gone_set
  clear h hb1 hb2 hE
  unfold pv errV at *
  go_enter Tryz.func52, Tryz.ntmps52
  go_wp2_with (first | (go_at_call 63; refine HF.out.mono ?_; rintro e w' ⟨rfl, rfl⟩) | (go_at_call 90; refine HS.out.mono ?_; rintro e w' ⟨rfl, rfl⟩))
  refine (HC.out _ _).mono ?_
  rintro e w4 ⟨rfl, hw4⟩
  have hG4 := HG.out
  rw [← hw4] at hG4
  have HG4 := hide hG4
  clear hG4 hw4 HG HC HF HS
  go_wp2
  go_ret
  exact ⟨rfl, HG4.out.1, Turn.trans ⟨Mvs.of_below HB.out, fun k r hr _ => ⟨r, hr⟩⟩ HG4.out.2⟩
end Go.Proofs.YthhnlkbjpahjeaaGreatDoor

end
section
namespace Go.Proofs.YthhnlkbjpahjeaaGreatDoor
abbrev Nm := List UInt8
/-- A step of names: a file is made, a name is taken away. -/
inductive NS
  | mk (n : Nm) (b : Nat)
  | rm (n : Nm)
def NS.nm : NS → Nm
  | .mk n _ => n
  | .rm n => n
def NS.ap (f : Nm → Option Nat) : NS → Nm → Option Nat
  | .mk n b => fun m => if m = n then some b else f m
  | .rm n => fun m => if m = n then none else f m
def apAll (f : Nm → Option Nat) : List NS → Nm → Option Nat
  | [] => f
  | x :: r => apAll (x.ap f) r
theorem apAll_snoc (x : NS) : ∀ (l : List NS) (f : Nm → Option Nat), apAll f (l ++ [x]) = x.ap (apAll f l)
  | [], _ => rfl
  | y :: l, f => apAll_snoc x l (y.ap f)
theorem ap_other {x : NS} {f : Nm → Option Nat} {n : Nm} (h : x.nm ≠ n) : x.ap f n = f n := by
  cases x with
  | mk m b => exact if_neg (fun e => h e.symm)
  | rm m => exact if_neg (fun e => h e.symm)
theorem apAll_other : ∀ {l : List NS} {f : Nm → Option Nat} {n : Nm}, (∀ x ∈ l, x.nm ≠ n) → apAll f l n = f n
  | [], _, _, _ => rfl
  | x :: l, f, n, h => by
    show apAll (x.ap f) l n = f n
    rw [apAll_other (fun y hy => h y (by simp [hy])), ap_other (h x (by simp))]
/-- Each block that a name can mean is that name's own. -/
theorem apAll_own {own : Nat → Nm} : ∀ {l : List NS} {f : Nm → Option Nat}, (∀ n b, f n = some b → own b = n) → (∀ n b, NS.mk n b ∈ l → own b = n) → ∀ n b, apAll f l n = some b → own b = n
  | [], _, hf, _, n, b, h => hf n b h
  | x :: l, f, hf, hl, n, b, h => by
    refine apAll_own (l := l) (f := x.ap f) ?_ (fun m c hm => hl m c (by simp [hm])) n b h
    intro m c hc
    cases x with
    | mk m' b' =>
      change (if m = m' then some b' else f m) = some c at hc
      by_cases e : m = m'
      · rw [if_pos e] at hc
        cases hc
        rw [e]
        exact hl m' _ (by simp)
      · rw [if_neg e] at hc
        exact hf m c hc
    | rm m' =>
      change (if m = m' then none else f m) = some c at hc
      by_cases e : m = m'
      · rw [if_pos e] at hc; cases hc
      · rw [if_neg e] at hc
        exact hf m c hc
/-- The file that has open steps: what surely stays of it, what stood there ahead of a cut, what was put behind it. -/
structure OF where
  b : Nat
  pre : List UInt8
  alt : Option (List UInt8)
  add : List UInt8
/-- What may stand there behind a loss of power. -/
def OF.may (o : OF) (c : List UInt8) : Prop := o.alt = some c ∨ ∃ j, c = o.pre ++ o.add.take j
structure PD where
  nm : Nm → Option Nat
  sn : Nm → Option Nat
  ns : List NS
  by_ : Nat → List UInt8
  op : Option OF
def upd (f : Nat → List UInt8) (b : Nat) (c : List UInt8) : Nat → List UInt8 := fun k => if k = b then c else f k
theorem upd_at (f : Nat → List UInt8) (b : Nat) (c : List UInt8) : upd f b c b = c := if_pos rfl
theorem upd_other {f : Nat → List UInt8} {b k : Nat} {c : List UInt8} (h : k ≠ b) : upd f b c k = f k := if_neg h
/-- A loss of power: the first k steps of names stay; of the open file c. -/
def PD.crash (s : PD) (k : Nat) (c : List UInt8) : PD where
  nm := apAll s.sn (s.ns.take k)
  sn := apAll s.sn (s.ns.take k)
  ns := []
  by_ := match s.op with
    | none => s.by_
    | some o => upd s.by_ o.b c
  op := none
def PD.create (s : PD) (n : Nm) (b : Nat) : PD := { s with nm := (NS.mk n b).ap s.nm, ns := s.ns ++ [.mk n b], by_ := upd s.by_ b [] }
def PD.remove (s : PD) (n : Nm) : PD := { s with nm := (NS.rm n).ap s.nm, ns := s.ns ++ [.rm n] }
def PD.cut (s : PD) (b k : Nat) : PD := { s with by_ := upd s.by_ b ((s.by_ b).take k), op := some ⟨b, (s.by_ b).take k, some (s.by_ b), []⟩ }
def PD.fill (s : PD) (b : Nat) (x : List UInt8) : PD := { s with by_ := upd s.by_ b (s.by_ b ++ x), op := some ⟨b, s.by_ b, (s.op.bind OF.alt), x⟩ }
def PD.sync (s : PD) : PD := { s with op := none }
def PD.syncDir (s : PD) : PD := { s with sn := s.nm, ns := [] }
/-- What a name means now. -/
def PD.view (s : PD) (n : Nm) : Option (List UInt8) := (s.nm n).map s.by_
/-- An operation of a change. -/
structure Ch where
  kind : Nat
  name : Nm
  at_ : Nat
  bytes : List UInt8
def namesOf (ops : List Ch) : List Nm := ops.map Ch.name
/-- What stands there behind an operation, where v stood. -/
def Ch.out (c : Ch) (v : Option (List UInt8)) : Option (List UInt8) := if c.kind = 3 then none else if c.kind = 1 then some (v.getD [] ++ c.bytes) else some c.bytes
def afterV (V : Nm → Option (List UInt8)) (ops : List Ch) (n : Nm) : Option (List UInt8) := match ops.find? (fun c => c.name == n) with
  | none => V n
  | some c => c.out (V n)
theorem after_none {V : Nm → Option (List UInt8)} {ops : List Ch} {n : Nm} (h : n ∉ namesOf ops) : afterV V ops n = V n := by
  unfold afterV
  rw [List.find?_eq_none.2]
  intro c hc e
  exact h (List.mem_map.2 ⟨c, hc, by simpa using e⟩)
theorem after_some {V : Nm → Option (List UInt8)} : ∀ {ops : List Ch} {c : Ch}, (namesOf ops).Nodup → c ∈ ops → afterV V ops c.name = c.out (V c.name)
  | [], _, _, h => by cases h
  | d :: ops, c, hn, h => by
    unfold afterV
    rw [List.find?_cons]
    rcases List.mem_cons.1 h with rfl | h
    · simp
    · have hd : d.name ≠ c.name := fun e => by
        have := (List.nodup_cons.1 hn).1
        exact this (by rw [e]; exact List.mem_map.2 ⟨c, h, rfl⟩)
      have e : (d.name == c.name) = false := by simpa using hd
      rw [e]
      exact after_some (V := V) (List.nodup_cons.1 hn).2 h
/-- A change fits the files: each operation is one of three, and one that appends begins at the end. -/
structure Fits (V : Nm → Option (List UInt8)) (ops : List Ch) (redo : Nm) : Prop where
  nodup : (namesOf ops).Nodup
  kinds : ∀ c ∈ ops, c.kind = 1 ∨ c.kind = 2 ∨ c.kind = 3
  at_ : ∀ c ∈ ops, c.kind = 1 → c.at_ = ((V c.name).getD []).length
  log : redo ∉ namesOf ops
/-- A change's record is sure, and of the change itself anything may have been done. -/
structure Part (V : Nm → Option (List UInt8)) (ops : List Ch) (redo : Nm) (rec : List UInt8) (s : PD) : Prop where
  own : ∃ own : Nat → Nm, (∀ n b, s.nm n = some b → own b = n) ∧ (∀ n b, s.sn n = some b → own b = n) ∧ ∀ n b, NS.mk n b ∈ s.ns → own b = n
  eff : s.nm = apAll s.sn s.ns
  steps : ∀ x ∈ s.ns, x.nm ∈ namesOf ops
  log : ∃ r, s.sn redo = some r ∧ s.by_ r = rec ∧ ∀ o, s.op = some o → o.b ≠ r
  rest : ∀ n, n ∉ namesOf ops → n ≠ redo → (s.sn n).map s.by_ = V n ∧ ∀ o b, s.op = some o → s.sn n = some b → o.b ≠ b
  app : ∀ c ∈ ops, c.kind = 1 → ∀ v, V c.name = some v → ∃ b, s.sn c.name = some b ∧ (∀ x ∈ s.ns, x.nm ≠ c.name) ∧ v <+: s.by_ b ∧ ∀ o, s.op = some o → o.b = b → v <+: o.pre ∧ ∀ a, o.alt = some a → v <+: a
section
variable {V : Nm → Option (List UInt8)} {ops : List Ch} {redo : Nm} {rec : List UInt8} {s : PD}
theorem Part.nm_other (h : Part V ops redo rec s) {n : Nm} (hn : n ∉ namesOf ops) : s.nm n = s.sn n := by
  rw [h.eff]
  exact apAll_other fun x hx e => hn (e ▸ h.steps x hx)
theorem Part.nm_app (h : Part V ops redo rec s) {c : Ch} (hc : c ∈ ops) (hk : c.kind = 1) {v : List UInt8} (hv : V c.name = some v) : ∃ b, s.nm c.name = some b ∧ s.sn c.name = some b ∧ v <+: s.by_ b := by
  obtain ⟨b, h1, h2, h3, _⟩ := h.app c hc hk v hv
  refine ⟨b, ?_, h1, h3⟩
  rw [h.eff, apAll_other h2]
  exact h1
/-- Behind a loss of power it is so still. -/
theorem Part.crash (h : Part V ops redo rec s) (hlog : redo ∉ namesOf ops) (k : Nat) (c : List UInt8) (hc : ∀ o, s.op = some o → o.may c) : Part V ops redo rec (s.crash k c) := by
  obtain ⟨own, o1, o2, o3⟩ := h.own
  have hst : ∀ x ∈ s.ns.take k, x.nm ∈ namesOf ops := fun x hx => h.steps x (List.mem_of_mem_take hx)
  have hby : ∀ b, (∀ o, s.op = some o → o.b ≠ b) → (s.crash k c).by_ b = s.by_ b := fun b hb => by
    unfold PD.crash
    dsimp only
    cases ho : s.op with
    | none => rfl
    | some o => exact upd_other (fun e => hb o ho e.symm)
  have hsn : ∀ n, n ∉ namesOf ops → (s.crash k c).sn n = s.sn n := fun n hn => apAll_other fun x hx e => hn (e ▸ hst x hx)
  have hns : (s.crash k c).ns = [] := rfl
  have hop : (s.crash k c).op = none := rfl
  refine ⟨⟨own, ?_, ?_, ?_⟩, rfl, ?_, ?_, ?_, ?_⟩
  · exact apAll_own o2 fun n b hm => o3 n b (List.mem_of_mem_take hm)
  · exact apAll_own o2 fun n b hm => o3 n b (List.mem_of_mem_take hm)
  · rw [hns]; intro n b hm; cases hm
  · rw [hns]; intro x hx; cases hx
  · obtain ⟨r, r1, r2, r3⟩ := h.log
    refine ⟨r, ?_, ?_, ?_⟩
    · rw [hsn redo hlog]; exact r1
    · rw [hby r r3]; exact r2
    · rw [hop]; intro o ho; cases ho
  · intro n hn hne
    obtain ⟨q1, q2⟩ := h.rest n hn hne
    refine ⟨?_, by rw [hop]; intro o b ho; cases ho⟩
    rw [hsn n hn, ← q1]
    cases hb : s.sn n with
    | none => rfl
    | some b =>
      show some _ = some _
      rw [hby b (fun o ho => q2 o b ho hb)]
  · intro d hd hk v hv
    obtain ⟨b, b1, b2, b3, b4⟩ := h.app d hd hk v hv
    refine ⟨b, ?_, (by rw [hns]; intro x hx; cases hx), ?_, (by rw [hop]; intro o ho; cases ho)⟩
    · show apAll s.sn (s.ns.take k) d.name = some b
      rw [apAll_other fun x hx => b2 x (List.mem_of_mem_take hx)]
      exact b1
    · by_cases hob : ∃ o, s.op = some o ∧ o.b = b
      · obtain ⟨o, ho, rfl⟩ := hob
        obtain ⟨c1, c2⟩ := b4 o ho rfl
        have e : (s.crash k c).by_ o.b = c := by
          unfold PD.crash
          rw [ho]
          exact upd_at _ _ _
        rw [e]
        rcases hc o ho with ha | ⟨j, rfl⟩
        · exact c2 c ha
        · exact c1.trans (List.prefix_append _ _)
      · rw [hby b (fun o ho e => hob ⟨o, ho, e⟩)]
        exact b3
end
end Go.Proofs.YthhnlkbjpahjeaaGreatDoor

end
