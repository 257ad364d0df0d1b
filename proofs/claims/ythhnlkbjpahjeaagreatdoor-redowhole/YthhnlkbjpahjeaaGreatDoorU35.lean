/- Commit over the plain disk: refused, done, or cut. -/
/- Commit over the plain disk. -/
/- A change that the log has is done again, or its rest is struck, and the log emptied: done or cut. -/
import Derived.Test.YthhnlkbjpahjeaaGreatDoorU34
import Derived.Test.YthhnlkbjpahjeaaGreatDoorU32
import Derived.Test.YthhnlkbjpahjeaaGreatDoorU33
section
namespace Go.Proofs.YthhnlkbjpahjeaaGreatDoor
open Go.RowKit Go.Maps Go.Sort
def chOf (x : OpA) : Ch := ⟨x.kind.toNat, x.name, x.at_.toNat, x.bytes⟩
theorem good_allN : ∀ {pre xs : List OpA}, goodFrom pre xs = true → (∀ x ∈ xs, opForm x = true ∧ ∀ y ∈ pre, y.name ≠ x.name) ∧ (xs.map OpA.name).Nodup
  | _, [], _ => ⟨(fun x hx => by cases hx), by simp⟩
  | pre, x :: r, h => by
    unfold goodFrom at h
    simp only [Bool.and_eq_true] at h
    obtain ⟨⟨h1, h2⟩, h3⟩ := h
    obtain ⟨g1, g2⟩ := good_allN h3
    have hx : ∀ y ∈ pre, y.name ≠ x.name := fun y hy e => by
      have : (pre.any fun y => y.name == x.name) = true := List.any_eq_true.2 ⟨y, hy, by simpa using e⟩
      rw [this] at h2
      cases h2
    refine ⟨fun y hy => ?_, ?_⟩
    · rcases List.mem_cons.1 hy with rfl | hy
      · exact ⟨h1, hx⟩
      · obtain ⟨k1, k2⟩ := g1 y hy
        exact ⟨k1, fun z hz => k2 z (by simp [hz])⟩
    · rw [List.map_cons, List.nodup_cons]
      refine ⟨fun hm => ?_, g2⟩
      obtain ⟨y, hy, e⟩ := List.mem_map.1 hm
      exact (g1 y hy).2 x (by simp) e.symm
theorem isL_of {xs : List OpA} (h : ∀ x ∈ xs, opForm x = true) : IsL xs (xs.map chOf) := by
  induction xs with
  | nil => exact .nil
  | cons x r ih =>
    have hx := opForm_parts (h x (by simp))
    exact .cons ⟨by show x.kind = ((x.kind.toNat : Nat) : Int); omega, rfl, by show x.at_ = ((x.at_.toNat : Nat) : Int); omega, rfl⟩ (ih fun y hy => h y (by simp [hy]))
/-- Where a change may stand when the power goes. -/
def B1 (V : Nm → Option (List UInt8)) (rec : List UInt8) (p : PD) : Prop := ∃ x, Calm V redoN x p ∧ ((p.op = none ∧ ∃ m, m < rec.length ∧ x = rec.take m) ∨ ∃ o, p.op = some o ∧ ∀ c, o.may c → ∃ m, c = rec.take m)
def B3 (V : Nm → Option (List UInt8)) (ops : List Ch) (rec : List UInt8) (p : PD) : Prop := ∃ x, Calm (afterV V ops) redoN x p ∧ ((p.op = none ∧ x = []) ∨ ∃ o, p.op = some o ∧ ∀ c, o.may c → c = rec ∨ c = [])
def Bcl (V : Nm → Option (List UInt8)) (ops : List Ch) (rec : List UInt8) (p : PD) : Prop := B1 V rec p ∨ Part V ops redoN rec p ∨ B3 V ops rec p
/-- Where it may stand behind it. -/
def Kcl (V : Nm → Option (List UInt8)) (ops : List Ch) (rec : List UInt8) (p : PD) : Prop := p.op = none ∧ ((∃ m, m < rec.length ∧ Calm V redoN (rec.take m) p) ∨ Part V ops redoN rec p ∨ Calm (afterV V ops) redoN [] p)
theorem Kcl.bcl {V : Nm → Option (List UInt8)} {ops : List Ch} {rec : List UInt8} {p : PD} (h : Kcl V ops rec p) : Bcl V ops rec p := by
  obtain ⟨ho, ⟨m, hm, hc⟩ | hp | hc⟩ := h
  · exact .inl ⟨_, hc, .inl ⟨ho, m, hm, rfl⟩⟩
  · exact .inr (.inl hp)
  · exact .inr (.inr ⟨_, hc, .inl ⟨ho, rfl⟩⟩)
theorem Bcl.crash {V : Nm → Option (List UInt8)} {ops : List Ch} {rec : List UInt8} {p : PD} (hf : Fits V ops redoN) (h : Bcl V ops rec p) (k : Nat) {c : List UInt8} (hc : ∀ o, p.op = some o → o.may c) : Kcl V ops rec (p.crash k c) := by
  refine ⟨rfl, ?_⟩
  rcases h with ⟨x, hC, hx⟩ | hP | ⟨x, hC, hx⟩
  · obtain ⟨x', hC', hx'⟩ := hC.crash k c
    rcases hx with ⟨ho, m, hm, rfl⟩ | ⟨o, ho, hall⟩
    · rcases hx' with ⟨_, rfl⟩ | ⟨o, ho', _⟩
      · exact .inl ⟨m, hm, hC'⟩
      · rw [ho] at ho'; cases ho'
    · rcases hx' with ⟨ho', _⟩ | ⟨o', _, rfl⟩
      · rw [ho] at ho'; cases ho'
      · obtain ⟨m, rfl⟩ := hall _ (hc o ho)
        by_cases hm : m < rec.length
        · exact .inl ⟨m, hm, hC'⟩
        · rw [List.take_of_length_le (by omega)] at hC'
          rw [List.take_of_length_le (by omega)]
          exact .inr (.inl (hC'.begun rfl hf.log))
  · exact .inr (.inl (hP.crash hf.log k c hc))
  · obtain ⟨x', hC', hx'⟩ := hC.crash k c
    rcases hx with ⟨ho, rfl⟩ | ⟨o, ho, hall⟩
    · rcases hx' with ⟨_, rfl⟩ | ⟨o, ho', _⟩
      · exact .inr (.inr hC')
      · rw [ho] at ho'; cases ho'
    · rcases hx' with ⟨ho', _⟩ | ⟨o', _, rfl⟩
      · rw [ho] at ho'; cases ho'
      · rcases hall _ (hc o ho) with rfl | rfl
        · exact .inr (.inl (hC'.done rfl hf))
        · exact .inr (.inr hC')
/-- The log has been put, or cut. -/
theorem calm_put {W : Nm → Option (List UInt8)} {x : List UInt8} {p : PD} (h : Calm W redoN x p) (ho : p.op = none) {r : Nat} (hr : p.sn redoN = some r) (rec : List UInt8) : Calm W redoN (x ++ rec) (p.fill r rec) ∧ (p.fill r rec).op = some ⟨r, x, none, rec⟩ := by
  obtain ⟨r', h1, h2, _⟩ := h.log
  rw [hr] at h1
  cases h1
  constructor
  · have := h.put hr (p.by_ r ++ rec) (o := ⟨r, p.by_ r, p.op.bind OF.alt, rec⟩) rfl
    rw [h2] at this
    unfold PD.fill
    rw [h2]
    exact this
  · unfold PD.fill
    rw [h2, ho]
    rfl
theorem calm_cut {W : Nm → Option (List UInt8)} {x : List UInt8} {p : PD} (h : Calm W redoN x p) {r : Nat} (hr : p.sn redoN = some r) : Calm W redoN [] (p.cut r 0) ∧ (p.cut r 0).op = some ⟨r, [], some x, []⟩ := by
  obtain ⟨r', h1, h2, _⟩ := h.log
  rw [hr] at h1
  cases h1
  constructor
  · exact h.put hr ((p.by_ r).take 0) (o := ⟨r, (p.by_ r).take 0, some (p.by_ r), []⟩) rfl
  · unfold PD.cut
    rw [h2]
    rfl
section
variable {a : Nat → Addr} {w0 w : World} {l d : Nat} {dead : Bool} {ρ : Nat → Option Role} {s : St} {p : PD} {Al : List Nm} {B : Nm → Nat} {k j K J : Nat} {q : Int} {cb : Bool}
variable {V : Nm → Option (List UInt8)} {ops : List Ch} {rec : List UInt8}
theorem Calm.nmr {W : Nm → Option (List UInt8)} {x : List UInt8} {p : PD} (h : Calm W redoN x p) : ∃ r, p.sn redoN = some r ∧ p.nm redoN = some r ∧ p.by_ r = x := by
  obtain ⟨r, h1, h2, _⟩ := h.log
  exact ⟨r, h1, by rw [h.eff]; exact h1, h2⟩
/-- The log's Sync, in whatever class. -/
theorem syncLog_lo (hE : Errs w0 a) (hl : Lim Al B) (h : LO w0 w l d dead ρ s p Al B k j) (hoff : s.off = false) (ha : cb = false → s.armed < 0) (hq : s.quota = q) (hk : k ≤ 10000) {W : Nm → Option (List UInt8)} {x : List UInt8} (hC : Calm W redoN x p) {Pd Pc : PD → Prop} (h1 : Pd p.sync) (h2 : Pc p) :
    Calls Tryz.prog 25 #[pv l] w (Ans (R a w0 w l d dead ρ Al B cb Pd Pc (k + 1) j q)) := by
  refine syncLog_via w l d dead _ h.lg.lb ?_
  obtain ⟨r, hr, hn, _⟩ := hC.nmr
  obtain ⟨r', hr', _, ho⟩ := hC.log
  rw [hr] at hr'
  cases hr'
  refine (sync_step hE hl h.ok hoff (by omega) hn ho).mono ?_
  intro e w' ho
  exact R.of_out h (Below.refl _ _) ho ha hq (by omega) (by omega) (by omega) (by omega) (fun p' e => by rw [e]; exact h1) h2
theorem emptyLog_lo (hE : Errs w0 a) (hl : Lim Al B) (h : LO w0 w l d dead ρ s p Al B k j) (hoff : s.off = false) (ha : cb = false → s.armed < 0) (hq : s.quota = q) (hk : k ≤ 10000) {W : Nm → Option (List UInt8)} {x : List UInt8} (hC : Calm W redoN x p) (hop : p.op = none) {Pd Pc : PD → Prop} (h1 : ∀ p', Calm W redoN [] p' → (∃ r, p'.op = some ⟨r, [], some x, []⟩) → Pd p') (h2 : Pc p) :
    Calls Tryz.prog 27 #[pv l] w (Ans (R a w0 w l d dead ρ Al B cb Pd Pc (k + 1) j q)) := by
  refine emptyLog_via w l d dead _ h.lg.lb ?_
  obtain ⟨r, hr, hn, _⟩ := hC.nmr
  refine (cut_step hE hl h.ok hoff (by omega) hn hop (m := 0) (Nat.zero_le _)).mono ?_
  intro e w' ho
  refine R.of_out h (Below.refl _ _) ho ha hq (by omega) (by omega) (by omega) (by omega) ?_ h2
  rintro p' rfl
  exact h1 _ (calm_cut hC hr).1 ⟨r, (calm_cut hC hr).2⟩
theorem write_lo (hE : Errs w0 a) (hl : Lim Al B) (h : LO w0 w l d dead ρ s p Al B k j) (hoff : s.off = false) (ha : cb = false → s.armed < 0) (hq : s.quota = q) (hq7 : 700000 ≤ q) (hk : k ≤ 10000) {W : Nm → Option (List UInt8)} (hC : Calm W redoN [] p) (hop : p.op = none) (hne : rec ≠ []) (hlen : rec.length ≤ B redoN) {vr : Value} (vo : Value) (hv : BR w vr rec) (hvf : Frees ρ vr rec) :
    Calls Tryz.prog 24 #[.agg #[pv l, vo, vr]] w (Ans (R a w0 w l d dead ρ Al B cb (fun p' => Calm W redoN rec p' ∧ ∃ r, p'.op = some ⟨r, [], none, rec⟩) (fun p' => p' = p) (k + 1) j q)) := by
  refine write_via w l d dead _ h.lg.lb vo vr ?_
  intro w1 hb
  obtain ⟨r, hr, hn, hby⟩ := hC.nmr
  refine (append_step hE hl (h.then hb).ok hoff (by omega) hn (.inl hop) hne (hv.below hb) (fun A n c e => hvf hne A n c e) (by rw [hby]; simpa using hlen) (by rw [hq]; exact hq7)).mono ?_
  intro e w' ho
  refine R.of_out h hb ho ha hq (by omega) (by omega) (by omega) (by omega) ?_ rfl
  rintro p' rfl
  have := calm_put hC hop hr rec
  exact ⟨this.1, r, this.2⟩
theorem R.start {ws w1 w' : World} {ρs ρ1 : Nat → Option Role} {Pd Pc : PD → Prop} {v : Value} (h : R a w0 w1 l d dead ρ1 Al B cb Pd Pc K J q v w') (hT : Turn ws w1 ρs ρ1) : R a w0 ws l d dead ρs Al B cb Pd Pc K J q v w' := by
  rcases h with ⟨rfl, ρ', s', p', g1, g2, g3, g4⟩ | ⟨rfl, ρ', s', p', g1, g2, g3, g4⟩
  · exact .inl ⟨rfl, ρ', s', p', g1, g2, hT.trans g3, g4⟩
  · exact .inr ⟨rfl, ρ', s', p', g1, g2, hT.trans g3, g4⟩
/-- The log is emptied and made sure. -/
theorem end_lo (hE : Errs w0 a) (hl : Lim Al B) (h : LO w0 w l d dead ρ s p Al B k j) (hoff : s.off = false) (ha : cb = false → s.armed < 0) (hq : s.quota = q) (hk : k + 2 ≤ K) (hK : K ≤ 9000) (hj : j ≤ J) {W : Nm → Option (List UInt8)} {x : List UInt8} (hC : Calm W redoN x p) (hop : p.op = none) {Pc : PD → Prop} (h1 : ∀ p', Calm W redoN [] p' → (∃ r, p'.op = some ⟨r, [], some x, []⟩) → Pc p') (h2 : Pc p) {g : Nat} (hg : g < w.heap.size) (rg : ρ g = none) {Q : Value → World → Prop} (hQ : ∀ v w', R a w0 w l d dead ρ Al B cb (fun p' => Calm W redoN [] p' ∧ p'.op = none) Pc K J q v w' → Q v w') :
    RunsG a g (endFs l) w Q := by
  refine runs_cons (by intros; kernel_rfl) hg rg (emptyLog_lo (Pd := fun p' => Calm W redoN [] p' ∧ ∃ r, p'.op = some ⟨r, [], some x, []⟩) hE hl h hoff ha hq (by omega) hC hop (fun p' c1 c2 => ⟨c1, c2⟩) h2) ?_ ?_
  · rintro w2 ρ2 s2 p2 ⟨C2, o2⟩ L2 T2 f2 a2 q2 g2 gl2
    refine runs_cons (by intros; kernel_rfl) gl2 g2 (syncLog_lo (Pd := fun p' => Calm W redoN [] p' ∧ p'.op = none) (Pc := Pc) hE hl L2 f2 a2 q2 (by omega) C2 ⟨C2.sync, rfl⟩ (h1 p2 C2 o2)) ?_ ?_
    · intro w3 ρ3 s3 p3 C3 L3 T3 f3 a3 q3 _ _
      exact hQ _ _ (.inl ⟨rfl, ρ3, s3, p3, C3, L3.mono (by omega) (by omega), T2.trans T3, f3, q3, a3⟩)
    · intro w3 ρ3 s3 p3 C3 L3 T3 f3 a3 q3
      exact hQ _ _ (.inr ⟨rfl, ρ3, s3, p3, C3, L3.mono (by omega) (by omega), T2.trans T3, f3, q3, a3⟩)
  · intro w2 ρ2 s2 p2 C2 L2 T2 f2 a2 q2
    exact hQ _ _ (.inr ⟨rfl, ρ2, s2, p2, C2, L2.mono (by omega) (by omega), T2, f2, q2, a2⟩)
end
end Go.Proofs.YthhnlkbjpahjeaaGreatDoor

end
section
namespace Go.Proofs.YthhnlkbjpahjeaaGreatDoor
open Go.RowKit Go.Maps Go.Sort
/-- What a Commit leaves of all other blocks. -/
def TurnL (l : Nat) (w w' : World) (ρ ρ' : Nat → Option Role) : Prop := Mvs (fun k => (∃ r, ρ k = some r) ∨ k = l) w w' ∧ ∀ k, k < w.heap.size → ρ k = none → ρ' k = none
theorem TurnL.of {l : Nat} {w w' : World} {ρ ρ' : Nat → Option Role} (h : Turn w w' ρ ρ') : TurnL l w w' ρ ρ' := ⟨h.1.mono (fun _ _ e => Or.inl e), fun _ hk hr => h.off hk hr⟩
theorem TurnL.dead {l : Nat} {w w' : World} {ρ ρ' : Nat → Option Role} (h : TurnL l w w' ρ ρ') (v : Value) : TurnL l w (w'.setCell ⟨l, 1, none⟩ v) ρ ρ' := ⟨h.1.setCell ⟨l, 1, none⟩ v (fun _ => Or.inr rfl), h.2⟩
/-- What a Commit leaves. -/
def ComOut (a : Nat → Addr) (w0 ws : World) (l d : Nat) (ρs : Nat → Option Role) (p : PD) (Al : List Nm) (B : Nm → Nat) (cb : Bool) (V : Nm → Option (List UInt8)) (ops : List Ch) (rec : List UInt8) (k j K J : Nat) (q : Int) (v : Value) (w' : World) : Prop :=
  (v = .nilIface ∧ Fits V ops redoN ∧ ∃ ρ' s' p', (Calm (afterV V ops) redoN [] p' ∧ p'.op = none) ∧ LO w0 w' l d false ρ' s' p' Al B K J ∧ s'.off = false ∧ s'.quota = q ∧ (cb = false → s'.armed < 0) ∧ TurnL l ws w' ρs ρ') ∨
    (v = errV a 7 ∧ Fits V ops redoN ∧ ∃ ρ' s' p', Bcl V ops rec p' ∧ LO w0 w' l d true ρ' s' p' Al B K J ∧ s'.off = true ∧ s'.quota = q ∧ cb = true ∧ TurnL l ws w' ρs ρ') ∨
    (∃ i, i < 13 ∧ i ≠ 7 ∧ v = errV a i ∧ ∃ s', LO w0 w' l d false ρs s' p Al B k j ∧ s'.off = false ∧ s'.quota = q ∧ (cb = false → s'.armed < 0) ∧ TurnL l ws w' ρs ρs)
section
variable {a : Nat → Addr} {w0 w : World} {l d : Nat} {ρ : Nat → Option Role} {s : St} {p : PD} {Al : List Nm} {B : Nm → Nat} {k j K J : Nat} {q : Int} {cb : Bool}
variable {V : Nm → Option (List UInt8)}
theorem LO.deadTo {dead : Bool} (h : LO w0 w l d dead ρ s p Al B k j) (b : Bool) : LO w0 (w.setCell ⟨l, 1, none⟩ (.bool b)) l d b ρ s p Al B k j :=
  ⟨h.lg.deadTo b, (h.lg.deadTo b).dk, h.ok.rel, h.ok.bd, h.ok.ow⟩
/-- A file's size, by its plain words. -/
theorem size_calm {x : List UInt8} (h : OK w0 w d ρ s p Al B k j) (hC : Calm V redoN x p) {n : Nm} (hn : n ≠ redoN) : szOf s n = ((V n).getD []).length := by
  have hv := hC.view hn
  cases hb : p.nm n with
  | none =>
    rw [view_none hb] at hv
    rw [szOf_none (h.none hb), ← hv]
    rfl
  | some b =>
    obtain ⟨hat, fa, hφ, hby⟩ := h.at hb
    rw [view_of hb] at hv
    rw [szOf_some hat hφ, ← hv, hby]
    rfl
theorem fits_of {x : List UInt8} (h : OK w0 w d ρ s p Al B k j) (hC : Calm V redoN x p) {xs : List OpA} (hf : formB xs = true) (hm : xs.any (misB s) = false) : Fits V (xs.map chOf) redoN := by
  obtain ⟨_, _, hg, _⟩ := form_parts hf
  obtain ⟨h1, h2⟩ := good_allN hg
  have hne : ∀ y ∈ xs, y.name ≠ redoN := fun y hy e => by
    have := (h1 y hy).1
    unfold opForm at this
    simp only [Bool.and_eq_true] at this
    rw [e] at this
    exact absurd this.2.1 (by decide)
  refine ⟨?_, ?_, ?_, ?_⟩
  · unfold namesOf
    rw [List.map_map]
    exact h2
  · intro c hc
    obtain ⟨y, hy, rfl⟩ := List.mem_map.1 hc
    have := opForm_parts (h1 y hy).1
    show y.kind.toNat = 1 ∨ y.kind.toNat = 2 ∨ y.kind.toNat = 3
    omega
  · intro c hc hk
    obtain ⟨y, hy, rfl⟩ := List.mem_map.1 hc
    have hp := opForm_parts (h1 y hy).1
    have hk' : y.kind = 1 := by
      change y.kind.toNat = 1 at hk
      omega
    have hmy : misB s y = false := by
      cases e : misB s y with
      | false => rfl
      | true =>
        have : xs.any (misB s) = true := List.any_eq_true.2 ⟨y, hy, e⟩
        rw [this] at hm
        cases hm
    unfold misB at hmy
    rw [hk'] at hmy
    have he : y.at_ = (szOf s y.name : Int) := by simpa using hmy
    show y.at_.toNat = ((V y.name).getD []).length
    rw [← size_calm h hC (hne y hy)]
    omega
  · intro hc
    obtain ⟨c, hc, e⟩ := List.mem_map.1 hc
    obtain ⟨y, hy, rfl⟩ := List.mem_map.1 hc
    exact hne y hy e
theorem szOf_le (h : OK w0 w d ρ s p Al B k j) (n : Nm) : szOf s n ≤ 1000000000 := by
  rcases h.dk.dich n with hn | ⟨b, fa, hb, hφ⟩
  · rw [szOf_none hn]; omega
  · rw [szOf_some hb hφ]
    have := (h.bd.fn b fa hφ).2.2
    omega
set_option maxHeartbeats 1000000 in
theorem commit_lo (hE : Errs w0 a) (hl : Lim Al B) (h : LO w0 w l d false ρ s p Al B k j) (hoff : s.off = false) (ha : cb = false → s.armed < 0) (hq : s.quota = q) (hq7 : 700000 ≤ q) (hC : Calm V redoN [] p) (hop : p.op = none) {xs : List OpA} {vo : Value} (hO : OPf w ρ vo xs) (hsz : sizeOps xs ≤ 1000000)
    (hal : formB xs = true → ∀ x ∈ xs, x.name ∈ Al) (hlen : formB xs = true → ∀ x ∈ xs, ((V x.name).getD []).length + x.bytes.length ≤ B x.name) (hrec : formB xs = true → (recB (opsB xs)).length ≤ B redoN) (hk : k + 4 * 16 + 10 ≤ K) (hK : K ≤ 9000) (hj : j + 16 ≤ J) (hJ : J ≤ 800) :
    Calls Tryz.prog 8 #[pv l, vo] w (Ans (ComOut a w0 w l d ρ p Al B cb V (xs.map chOf) (recB (opsB xs)) k j K J q)) := by
  cases hf : formB xs with
  | false =>
    refine (commit_form w l d a xs vo (hE.below h.lg.dk.below) h.lg.lb hO.op hsz hf).mono ?_
    rintro e w' ⟨rfl, hb⟩
    exact ⟨_, rfl, .inr (.inr ⟨1, by decide, by decide, rfl, s, h.then hb, hoff, hq, ha, .of (.of_below hb)⟩)⟩
  | true =>
    have hal := hal hf
    have hlen := hlen hf
    have hrec := hrec hf
    obtain ⟨f1, f16, fg, fs⟩ := form_parts hf
    have hBr := hl.b redoN
    have hrne : recB (opsB xs) ≠ [] := fun e => by
      have := congrArg List.length e
      rw [recB_length] at this
      simp at this
    refine commit_via w l d a _ xs vo h.lg.lb hO.op hf ?_
    intro g w1 vr hb1 hvr hvrf hg hg1 _
    have L1 := h.then hb1
    have O1 := hO.then hb1
    have rg : ρ g = none := h.lg.dk.free hg
    have rv : Frees ρ vr (recB (opsB xs)) := fun _ A n c e => h.lg.dk.free (hvrf A n c e)
    have hu := (h.ok.used hl).1
    have hE1 : ∀ {w' : World} {ρ' : Nat → Option Role} {s' : St}, LG w0 w' l d false ρ' s' → Errs w' a := fun hL => hE.below hL.dk.below
    unfold commitFs
    refine RunsG.step _ _ (by intros; kernel_rfl) ?_
    have h1 := h.ok.bd.N
    refine (refuse_any w0 w1 l d false ρ s a hE L1.lg hoff (by omega) (by omega) h.ok.bd.q0 h.ok.bd.q1 xs vo vr O1.op hf (szOf_le L1.ok) _ hvr (by omega)).mono ?_
    rintro e w2 ⟨hb2, ns, hp, rfl⟩
    have L2 := L1.then hb2
    have T2 : Turn w w2 ρ ρ := (Turn.of_below hb1).trans (Turn.of_below hb2)
    have hres : refV a s xs (recB (opsB xs)).length (mostF ns xs ns.length ns.length) = .nilIface ∧ xs.any (misB s) = false ∨ ∃ i, i < 13 ∧ i ≠ 7 ∧ refV a s xs (recB (opsB xs)).length (mostF ns xs ns.length ns.length) = errV a i := by
      unfold refV
      by_cases c1 : xs.any (misB s) = true
      · exact .inr ⟨0, by decide, by decide, if_pos c1⟩
      · rw [if_neg c1]
        by_cases c2 : 64 < mostF ns xs ns.length ns.length
        · exact .inr ⟨10, by decide, by decide, if_pos c2⟩
        · rw [if_neg c2]
          by_cases c3 : s.quota - usedOf s < (recB (opsB xs)).length + roomI s xs
          · exact .inr ⟨6, by decide, by decide, if_pos c3⟩
          · exact .inl ⟨if_neg c3, by simpa using c1⟩
    rcases hres with ⟨hres, hmis⟩ | ⟨i, hi, hi7, hres⟩
    · rw [hres]
      have hfit := fits_of h.ok hC hf hmis
      have hV : Env V (xs.map chOf) Al B := by
        refine ⟨hl, hfit, ?_, ?_⟩
        · intro c hc
          obtain ⟨y, hy, rfl⟩ := List.mem_map.1 hc
          exact hal y hy
        · intro c hc
          obtain ⟨y, hy, rfl⟩ := List.mem_map.1 hc
          exact hlen y hy
      have hIs := isL_of (fun x hx => ((good_allN fg).1 x hx).1)
      have hlx : (xs.map chOf).length ≤ 16 := by simpa using f16
      have hg2 : g < w2.heap.size := Nat.lt_of_lt_of_le hg1 hb2.size
      refine .inl ⟨rfl, hb2.block g hg1, ?_⟩
      have cut : ∀ {w' : World} {ρ' : Nat → Option Role} {s' : St} {p' : PD} {k' j' : Nat}, Turn w w' ρ ρ' → Bcl V (xs.map chOf) (recB (opsB xs)) p' → LO w0 w' l d false ρ' s' p' Al B k' j' → k' ≤ K → j' ≤ J → s'.off = true → cb = true → s'.quota = q → ComQ l d a (ComOut a w0 w l d ρ p Al B cb V (xs.map chOf) (recB (opsB xs)) k j K J q) (errV a 7) w' := fun hT hB hL hk' hj' hf' hc' hq' =>
        ⟨hE1 hL.lg, hL.lg.lb, .inr (.inl ⟨rfl, .inr (.inl ⟨rfl, hfit, _, _, _, hB, (hL.mono hk' hj').deadTo true, hf', hq', hc', (TurnL.of hT).dead _⟩)⟩)⟩
      refine runs_cons (by intros; kernel_rfl) hg2 rg (write_lo hE hl L2 hoff ha hq hq7 (by omega) hC hop hrne hrec vo (hvr.below hb2) rv) ?_ ?_
      · rintro w3 ρ3 s3 p3 ⟨C3, r3, o3⟩ L3 T3 g3 a3 q3 rg3 gl3
        have O3 := ((O1.then hb2).turn T3)
        have hB3 : B1 V (recB (opsB xs)) p3 := ⟨_, C3, .inr ⟨_, o3, fun c hc => by
          rcases hc with hc | ⟨m, hc⟩
          · cases hc
          · exact ⟨m, by simpa using hc⟩⟩⟩
        refine runs_cons (by intros; kernel_rfl) gl3 rg3 (syncLog_lo (Pd := fun p' => Calm V redoN (recB (opsB xs)) p' ∧ p'.op = none) (Pc := B1 V (recB (opsB xs))) hE hl L3 g3 a3 q3 (by omega) C3 ⟨C3.sync, rfl⟩ hB3) ?_ ?_
        · rintro w4 ρ4 s4 p4 ⟨C4, o4⟩ L4 T4 g4 a4 q4 rg4 gl4
          have O4 := O3.turn T4
          have P4 := C4.begun (ops := xs.map chOf) o4 hfit.log
          refine runs_cons (K := K - 2) (J := J) (by intros; kernel_rfl) gl4 rg4 (cdo_lo hE hV hq7 (by omega) hJ hIs L4 g4 a4 q4 (by omega) (by omega) P4 o4 vr O4) ?_ ?_
          · rintro w5 ρ5 s5 p5 ⟨C5, o5⟩ L5 T5 g5 a5 q5 rg5 gl5
            refine end_lo (K := K) (J := J) (Pc := Bcl V (xs.map chOf) (recB (opsB xs))) hE hl L5 g5 a5 q5 (by omega) hK (Nat.le_refl _) C5 o5 ?_ (.inr (.inl (C5.done o5 hfit))) gl5 rg5 ?_
            · rintro p6 C6 ⟨r6, o6⟩
              exact .inr (.inr ⟨_, C6, .inr ⟨_, o6, fun c hc => by
                rcases hc with hc | ⟨m, hc⟩
                · exact .inl (Option.some.inj hc).symm
                · exact .inr (by simpa using hc)⟩⟩)
            · rintro v w6 (⟨rfl, ρ6, s6, p6, C6, L6, T6, g6, q6, a6⟩ | ⟨rfl, ρ6, s6, p6, C6, L6, T6, g6, q6, a6⟩)
              · exact ⟨hE1 L6.lg, L6.lg.lb, .inl ⟨rfl, .inl ⟨rfl, hfit, ρ6, s6, p6, C6, L6.deadTo false, g6, q6, a6, (TurnL.of ((((T2.trans T3).trans T4).trans T5).trans T6)).dead _⟩⟩⟩
              · exact cut ((((T2.trans T3).trans T4).trans T5).trans T6) C6 L6 (Nat.le_refl _) (Nat.le_refl _) g6 a6 q6
          · intro w5 ρ5 s5 p5 P5 L5 T5 g5 a5 q5
            exact cut (((T2.trans T3).trans T4).trans T5) (.inr (.inl P5)) L5 (by omega) (Nat.le_refl _) g5 a5 q5
        · intro w4 ρ4 s4 p4 B4 L4 T4 g4 a4 q4
          exact cut ((T2.trans T3).trans T4) (.inl B4) L4 (by omega) (by omega) g4 a4 q4
      · rintro w3 ρ3 s3 p3 rfl L3 T3 g3 a3 q3
        exact cut (T2.trans T3) (.inl ⟨_, hC, .inl ⟨hop, 0, List.length_pos_iff.2 hrne, rfl⟩⟩) L3 (by omega) (by omega) g3 a3 q3
    · rw [hres]
      exact .inr ⟨i, rfl, hE1 L2.lg, L2.lg.lb, .inr (.inr ⟨i, hi, hi7, rfl, .inr (.inr ⟨i, hi, hi7, rfl, s, L2.deadTo false, hoff, hq, ha, (TurnL.of T2).dead _⟩)⟩)⟩
end
end Go.Proofs.YthhnlkbjpahjeaaGreatDoor

end
section
namespace Go.Proofs.YthhnlkbjpahjeaaGreatDoor
open Go.RowKit Go.Maps Go.Sort
set_option maxRecDepth 8000 in
set_option maxHeartbeats 2000000 in
theorem ofirst_no (bs : List UInt8) (v : Value) (w : World) (h : BR w v bs) (_ : bs.length ≤ 900000) (hn : wholeN bs = none) :
    Calls Tryz.prog 65 #[v] w fun e w' => e = .returned (.tuple #[.slice none 0 0, .bool false]) ∧ Below w.heap.size w w' := by
  have HT := hide (take_no bs v w h hn)
  obtain ⟨A, c, rfl, _⟩ := BR.form h
  clear h hn
  go_enter Tryz.func65, Tryz.ntmps65
  go_wp2_with fail
  refine HT.out.mono ?_
  rintro e w1 ⟨rfl, hb1⟩
  replace hb1 := hide hb1
  go_wp2
  go_ret2
  exact ⟨rfl, hb1.out⟩
section
variable (w0 w : World) (l d : Nat) (dead : Bool) (ρ : Nat → Option Role) (s : St) (a : Nat → Addr) (P1 P2 P3 : World → Prop)
set_option maxRecDepth 8000 in
set_option maxHeartbeats 8000000 in
theorem finish_yes (hE : Errs w0 a) (h : LG w0 w l d dead ρ s) (hq0 : 0 ≤ s.quota) (hq1 : s.quota ≤ 1073741824) (bs : List UInt8) (v : Value) (hv : BR w v bs) (hvf : Frees ρ v bs) (hb : bs.length ≤ 900000) (hbn : bs ≠ []) (n : Nat) (hn : wholeN bs = some n) (ys : List OpA) (hy : opsOf ((bs.drop 8).take n) = some ys) (h0 : (bs.drop 8).take n ≠ []) (hl : ((bs.drop 8).take n).length ≤ 400000)
    (hdo : ∀ w2 vo xs, LG w0 w2 l d dead ρ { s with quota := 1073741824 } → Turn w w2 ρ ρ → OPf w2 ρ vo xs → xs.map OpA.erase = ys → Calls Tryz.prog 26 #[.agg #[pv l, vo, .slice none 0 0]] w2 (Ans fun v w3 => (v = .nilIface ∧ P1 w3) ∨ (v = errV a 7 ∧ P2 w3)))
    (hrun : ∀ g w3 w4, P1 w3 → Below w3.heap.size w3 w4 → w3.heap.size ≤ g → g < w4.heap.size → RunsG a g (endFs l) w4 fun v w5 => (v = .nilIface ∧ P3 w5) ∨ (v = errV a 7 ∧ P2 w5))
    (hblk : ∀ w5, P2 w5 ∨ P3 w5 → ∃ v0 v1 v2 v3 v4 v5 v6 v7 v8 v9 v10, Blk w5 d #[v0, v1, v2, v3, v4, v5, v6, v7, v8, v9, v10] 56) :
    Calls Tryz.prog 35 #[pv l, v] w (Ans fun v w' => ∃ w5, w' = w5.setCell ⟨d, 10, none⟩ (.int .i64 s.quota) ∧ ((v = .nilIface ∧ P3 w5) ∨ (v = errV a 7 ∧ P2 w5))) := by
  obtain ⟨A, c, rfl, _⟩ := BR.form hv
  have hbl : (((bs.length : Nat) : Int) == 0) = false := by
    have := List.length_pos_iff.2 hbn
    simp
    omega
  have hlen : bs.length ≤ 9223372036854775807 := by omega
  have HL := hide h
  have hcl := h.lb.cell
  have HQ := hide (fun m : Nat => quota_any w0 (w.drewN m) d ρ s (h.dk.drewN m))
  have HV := hide (And.intro hv hvf)
  have HV2 : ∀ {x y : World} {ρ' : Nat → Option Role}, (BR x (.slice A bs.length c) bs ∧ Frees ρ (.slice A bs.length c) bs) → Turn x y ρ ρ' → (BR y (.slice A bs.length c) bs ∧ Frees ρ' (.slice A bs.length c) bs) := fun h ht => h.2.turn h.1 ht
  clear h hv hvf
  unfold pv at *
  go_enter_defers Tryz.func35, Tryz.ntmps35
  go_wp2_with fail
  refine wp_region_noPanic ?_
  go_region_with (go_at_call 47; refine (HQ.out 1).mono ?_; rintro e w' ⟨rfl, rfl⟩)
  all_goals (
    refine NoPanic.normal ?_
    have L1 := hide (HL.out.then (below_drewN w 1))
    have TA := hide (Turn.of_below (ρ := ρ) (below_drewN w 1))
    have V1 := hide (And.intro (HV.out.1.below (below_drewN w 1)) HV.out.2)
    generalize w.drewN 1 = w1 at *
    clear HL HV HQ hcl
    have hcl := L1.out.lb.cell
    go_wp2_with fail
    refine (setQuota_dk L1.out.dk 1073741824 (by decide) (by decide)).mono ?_
    rintro e w2 ⟨rfl, hd2, ht2⟩
    have L2 := hide (L1.out.turn hd2 ht2)
    replace TA := hide (TA.out.trans ht2)
    have V2 := hide (HV2 V1.out ht2)
    clear hd2 ht2 hcl L1 V1
    go_wp2_with fail
    refine (ofirst_yes bs _ w2 V2.out.1 hb n hn a (hE.below L2.out.dk.below) ys hy h0 hl).mono ?_
    rintro e w3 ⟨hb3, vo, xs, rfl, hP, hx⟩
    have L3 := hide (L2.out.then hb3)
    replace TA := hide (TA.out.trans (Turn.of_below hb3))
    have O3 : Hid (OPf w3 ρ vo xs) := ⟨hP.1, fun _ A n c e => L2.out.dk.free (hP.2.1 A n c e), fun x hx _ A n c e => L2.out.dk.free (hP.2.2 x hx A n c e)⟩
    have HD := hide (hdo w3 vo xs L3.out TA.out O3.out hx)
    obtain ⟨Ao, co, rfl, _⟩ := O3.out.op.form
    clear hb3 hP hx L2 V2 L3 O3
    go_wp2_with fail
    refine HD.out.mono ?_
    rintro e w4 ⟨_, rfl, (⟨rfl, hP1⟩ | ⟨rfl, hP2⟩)⟩
    · have hbg : Below w4.heap.size w4 (w4.alloc (.cells (endFs l).toArray 61)) := (Below.refl _ _).alloc (Nat.le_refl _) _
      have HRun := hide (run_any a (endFs l) w4.heap.size _ _ (Blk.new w4 (endFs l).toArray 61) (by simp [endFs]) (hrun w4.heap.size w4 _ hP1 hbg (Nat.le_refl _) (by simp)))
      unfold endFs pv at HRun
      clear hbg HD
      go_wp2_with fail
      refine HRun.out.mono ?_
      rintro e w5 ⟨_, rfl, hv5⟩
      clear HRun
      obtain ⟨v0, v1, v2, v3, v4, v5, v6, v7, v8, v9, v10, hD5⟩ := hblk w5 (hv5.elim (fun h => .inr h.2) (fun h => .inl h.2))
      rcases hv5 with ⟨rfl, h5⟩ | ⟨rfl, h5⟩
      · replace h5 := hide h5
        replace hD5 := hide hD5
        go_wp2
        refine leaves_cons (f := 18) (args := #[.pointer (some ⟨d, 0, none⟩), .int .i64 s.quota]) (by simp) (by simp [go_sem]) ?_
        refine (setQuota_d w5 d _ _ _ _ _ _ _ _ _ _ _ s.quota hD5.out hq0 hq1 .returning).mono ?_
        rintro e u' w6 ⟨rfl, rfl, rfl⟩
        exact ⟨_, results_tmp rfl _ _ _, _, rfl, w5, rfl, .inl ⟨rfl, h5.out⟩⟩
      · replace h5 := hide h5
        replace hD5 := hide hD5
        unfold errV at *
        go_wp2
        refine leaves_cons (f := 18) (args := #[.pointer (some ⟨d, 0, none⟩), .int .i64 s.quota]) (by simp) (by simp [go_sem]) ?_
        refine (setQuota_d w5 d _ _ _ _ _ _ _ _ _ _ _ s.quota hD5.out hq0 hq1 .returning).mono ?_
        rintro e u' w6 ⟨rfl, rfl, rfl⟩
        exact ⟨_, results_tmp rfl _ _ _, _, rfl, w5, rfl, .inr ⟨rfl, h5.out⟩⟩
    · obtain ⟨v0, v1, v2, v3, v4, v5, v6, v7, v8, v9, v10, hD5⟩ := hblk w4 (.inl hP2)
      have h5 := hide hP2
      replace hD5 := hide hD5
      clear HD hP2
      unfold errV at *
      go_wp2
      refine leaves_cons (f := 18) (args := #[.pointer (some ⟨d, 0, none⟩), .int .i64 s.quota]) (by simp) (by simp [go_sem]) ?_
      refine (setQuota_d w4 d _ _ _ _ _ _ _ _ _ _ _ s.quota hD5.out hq0 hq1 .returning).mono ?_
      rintro e u' w6 ⟨rfl, rfl, rfl⟩
      exact ⟨_, results_tmp rfl _ _ _, _, rfl, w4, rfl, .inr ⟨rfl, h5.out⟩⟩)
set_option maxRecDepth 8000 in
set_option maxHeartbeats 8000000 in
theorem finish_no (h : LG w0 w l d dead ρ s) (hq0 : 0 ≤ s.quota) (hq1 : s.quota ≤ 1073741824) (bs : List UInt8) (v : Value) (hv : BR w v bs) (hvf : Frees ρ v bs) (hb : bs.length ≤ 900000) (hbn : bs ≠ []) (hn : wholeN bs = none)
    (hP : ∀ w2, LG w0 w2 l d dead ρ { s with quota := 1073741824 } → Turn w w2 ρ ρ → P1 w2)
    (hrun : ∀ g w3 w4, P1 w3 → Below w3.heap.size w3 w4 → w3.heap.size ≤ g → g < w4.heap.size → RunsG a g (endFs l) w4 fun v w5 => (v = .nilIface ∧ P3 w5) ∨ (v = errV a 7 ∧ P2 w5))
    (hblk : ∀ w5, P2 w5 ∨ P3 w5 → ∃ v0 v1 v2 v3 v4 v5 v6 v7 v8 v9 v10, Blk w5 d #[v0, v1, v2, v3, v4, v5, v6, v7, v8, v9, v10] 56) :
    Calls Tryz.prog 35 #[pv l, v] w (Ans fun v w' => ∃ w5, w' = w5.setCell ⟨d, 10, none⟩ (.int .i64 s.quota) ∧ ((v = .nilIface ∧ P3 w5) ∨ (v = errV a 7 ∧ P2 w5))) := by
  obtain ⟨A, c, rfl, _⟩ := BR.form hv
  have hbl : (((bs.length : Nat) : Int) == 0) = false := by
    have := List.length_pos_iff.2 hbn
    simp
    omega
  have hlen : bs.length ≤ 9223372036854775807 := by omega
  have HL := hide h
  have hcl := h.lb.cell
  have HQ := hide (fun m : Nat => quota_any w0 (w.drewN m) d ρ s (h.dk.drewN m))
  have HV := hide (And.intro hv hvf)
  have HV2 : ∀ {x y : World} {ρ' : Nat → Option Role}, (BR x (.slice A bs.length c) bs ∧ Frees ρ (.slice A bs.length c) bs) → Turn x y ρ ρ' → (BR y (.slice A bs.length c) bs ∧ Frees ρ' (.slice A bs.length c) bs) := fun h ht => h.2.turn h.1 ht
  clear h hv hvf
  unfold pv at *
  go_enter_defers Tryz.func35, Tryz.ntmps35
  go_wp2_with fail
  refine wp_region_noPanic ?_
  go_region_with (go_at_call 47; refine (HQ.out 1).mono ?_; rintro e w' ⟨rfl, rfl⟩)
  all_goals (
    refine NoPanic.normal ?_
    have L1 := hide (HL.out.then (below_drewN w 1))
    have TA := hide (Turn.of_below (ρ := ρ) (below_drewN w 1))
    have V1 := hide (And.intro (HV.out.1.below (below_drewN w 1)) HV.out.2)
    generalize w.drewN 1 = w1 at *
    clear HL HV HQ hcl
    have hcl := L1.out.lb.cell
    go_wp2_with fail
    refine (setQuota_dk L1.out.dk 1073741824 (by decide) (by decide)).mono ?_
    rintro e w2 ⟨rfl, hd2, ht2⟩
    have L2 := hide (L1.out.turn hd2 ht2)
    replace TA := hide (TA.out.trans ht2)
    have V2 := hide (HV2 V1.out ht2)
    clear hd2 ht2 hcl L1 V1
    go_wp2_with fail
    refine (ofirst_no bs _ w2 V2.out.1 hb hn).mono ?_
    rintro e w4 ⟨rfl, hb3⟩
    have L3 := hide (L2.out.then hb3)
    replace TA := hide (TA.out.trans (Turn.of_below hb3))
    have hP1 := hP w4 L3.out TA.out
    clear hb3 L2 V2 L3
    have hbg : Below w4.heap.size w4 (w4.alloc (.cells (endFs l).toArray 61)) := (Below.refl _ _).alloc (Nat.le_refl _) _
    have HRun := hide (run_any a (endFs l) w4.heap.size _ _ (Blk.new w4 (endFs l).toArray 61) (by simp [endFs]) (hrun w4.heap.size w4 _ hP1 hbg (Nat.le_refl _) (by simp)))
    unfold endFs pv at HRun
    clear hbg
    go_wp2_with fail
    refine HRun.out.mono ?_
    rintro e w5 ⟨_, rfl, hv5⟩
    clear HRun
    obtain ⟨v0, v1, v2, v3, v4, v5, v6, v7, v8, v9, v10, hD5⟩ := hblk w5 (hv5.elim (fun h => .inr h.2) (fun h => .inl h.2))
    rcases hv5 with ⟨rfl, h5⟩ | ⟨rfl, h5⟩
    · replace h5 := hide h5
      replace hD5 := hide hD5
      go_wp2
      refine leaves_cons (f := 18) (args := #[.pointer (some ⟨d, 0, none⟩), .int .i64 s.quota]) (by simp) (by simp [go_sem]) ?_
      refine (setQuota_d w5 d _ _ _ _ _ _ _ _ _ _ _ s.quota hD5.out hq0 hq1 .returning).mono ?_
      rintro e u' w6 ⟨rfl, rfl, rfl⟩
      exact ⟨_, results_tmp rfl _ _ _, _, rfl, w5, rfl, .inl ⟨rfl, h5.out⟩⟩
    · replace h5 := hide h5
      replace hD5 := hide hD5
      unfold errV at *
      go_wp2
      refine leaves_cons (f := 18) (args := #[.pointer (some ⟨d, 0, none⟩), .int .i64 s.quota]) (by simp) (by simp [go_sem]) ?_
      refine (setQuota_d w5 d _ _ _ _ _ _ _ _ _ _ _ s.quota hD5.out hq0 hq1 .returning).mono ?_
      rintro e u' w6 ⟨rfl, rfl, rfl⟩
      exact ⟨_, results_tmp rfl _ _ _, _, rfl, w5, rfl, .inr ⟨rfl, h5.out⟩⟩)
end
end Go.Proofs.YthhnlkbjpahjeaaGreatDoor

end
