/- An operation of a change, done or cut, whatever was done of it before. -/
/- A change's operations, one behind the other, done or cut. -/
/- How many files there are at most while a change is done; how much room it needs. -/
import Derived.Test.YthhnlkbjpahjeaaGreatDoorU27
import Derived.Test.YthhnlkbjpahjeaaGreatDoorU29
section
namespace Go.Proofs.YthhnlkbjpahjeaaGreatDoor
open Go.RowKit Go.Maps Go.Sort
/-- A log over a disk of which all is known. -/
structure LO (w0 w : World) (l d : Nat) (dead : Bool) (ρ : Nat → Option Role) (s : St) (p : PD) (Al : List Nm) (B : Nm → Nat) (k j : Nat) : Prop where
  lg : LG w0 w l d dead ρ s
  ok : OK w0 w d ρ s p Al B k j
theorem Turn.of_below {w w' : World} {ρ : Nat → Option Role} (h : Below w.heap.size w w') : Turn w w' ρ ρ := ⟨Mvs.of_below h, fun _ r hr _ => ⟨r, hr⟩⟩
/-- What a call leaves, from ws on: done, or cut by the power. -/
def R (a : Nat → Addr) (w0 ws : World) (l d : Nat) (dead : Bool) (ρs : Nat → Option Role) (Al : List Nm) (B : Nm → Nat) (cb : Bool) (Pd Pc : PD → Prop) (K J : Nat) (q : Int) (v : Value) (w' : World) : Prop :=
  (v = .nilIface ∧ ∃ ρ' s' p', Pd p' ∧ LO w0 w' l d dead ρ' s' p' Al B K J ∧ Turn ws w' ρs ρ' ∧ s'.off = false ∧ s'.quota = q ∧ (cb = false → s'.armed < 0)) ∨
    (v = errV a 7 ∧ ∃ ρ' s' p', Pc p' ∧ LO w0 w' l d dead ρ' s' p' Al B K J ∧ Turn ws w' ρs ρ' ∧ s'.off = true ∧ s'.quota = q ∧ cb = true)
section
variable {a : Nat → Addr} {w0 w w1 w' ws : World} {l d : Nat} {dead : Bool} {ρ ρs : Nat → Option Role} {s : St} {p : PD} {Al : List Nm} {B : Nm → Nat} {k j k' j' K J : Nat} {q : Int} {cb : Bool} {Pd Pc Pd0 : PD → Prop} {e : Ending}
theorem LO.then (h : LO w0 w l d dead ρ s p Al B k j) (hb : Below w.heap.size w w') : LO w0 w' l d dead ρ s p Al B k j := ⟨h.lg.then hb, h.ok.then hb⟩
theorem LO.mono (h : LO w0 w l d dead ρ s p Al B k j) (hk : k ≤ K) (hj : j ≤ J) : LO w0 w l d dead ρ s p Al B K J := ⟨h.lg, h.ok.mono hk hj⟩
theorem R.mono {v : Value} {Pd' Pc' : PD → Prop} {K' J' : Nat} (h : R a w0 ws l d dead ρs Al B cb Pd Pc K J q v w') (h1 : ∀ p, Pd p → Pd' p) (h2 : ∀ p, Pc p → Pc' p) (hK : K ≤ K') (hJ : J ≤ J') : R a w0 ws l d dead ρs Al B cb Pd' Pc' K' J' q v w' := by
  rcases h with ⟨rfl, ρ', s', p', g1, g2, g3, g4, g5⟩ | ⟨rfl, ρ', s', p', g1, g2, g3, g4, g5⟩
  · exact .inl ⟨rfl, ρ', s', p', h1 _ g1, g2.mono hK hJ, g3, g4, g5⟩
  · exact .inr ⟨rfl, ρ', s', p', h2 _ g1, g2.mono hK hJ, g3, g4, g5⟩
theorem R.of_out (h : LO w0 w l d dead ρ s p Al B k j) (hb : Below w.heap.size w w1) (ho : Out a w0 w1 d ρ s p Al B k j Pd0 k' j' e w') (ha : cb = false → s.armed < 0) (hq : s.quota = q) (hk : k ≤ K) (hj : j ≤ J) (hk' : k' ≤ K) (hj' : j' ≤ J) (hd : ∀ p', Pd0 p' → Pd p') (hc : Pc p) : Ans (R a w0 w l d dead ρ Al B cb Pd Pc K J q) e w' := by
  have hL := h.then hb
  rcases ho with ⟨rfl, ρ', s', p', g1, g2, g3, g4, g5, g6⟩ | ⟨rfl, s', g2, g4, g5, g6, g3⟩
  · exact ⟨_, rfl, .inl ⟨rfl, ρ', s', p', hd _ g1, ⟨hL.lg.turn g2.dk g3, g2.mono hk' hj'⟩, (Turn.of_below hb).trans g3, g4, g5.trans hq, fun e => by rw [g6, dec_neg (ha e)]; exact ha e⟩⟩
  · exact ⟨_, rfl, .inr ⟨rfl, ρ, s', p, hc, ⟨hL.lg.turn g2.dk g3, g2.mono hk hj⟩, (Turn.of_below hb).trans g3, g4, g5.trans hq, by cases cb with | false => have := ha rfl; omega | true => rfl⟩⟩
/-- Nothing was to be done. -/
theorem R.same (h : LO w0 w l d dead ρ s p Al B k j) (hb : Below w.heap.size w w1) (hoff : s.off = false) (ha : cb = false → s.armed < 0) (hq : s.quota = q) (hk : k ≤ K) (hj : j ≤ J) (hd : Pd p) : R a w0 w l d dead ρ Al B cb Pd Pc K J q .nilIface w1 :=
  .inl ⟨rfl, ρ, s, p, hd, (h.then hb).mono hk hj, Turn.of_below hb, hoff, hq, ha⟩
theorem runs_cons {g F : Nat} {fi ca : Array Value} {rest : List Value} {Q : Value → World → Prop} (heg : ∀ args w, (callFunc F args).run Tryz.prog w = .ok (.enter F args) w) (hg : g < w.heap.size) (rg : ρ g = none) (hC : Calls Tryz.prog F (fi ++ ca) w (Ans (R a w0 w l d dead ρ Al B cb Pd Pc K J q)))
    (hn : ∀ w' ρ' s' p', Pd p' → LO w0 w' l d dead ρ' s' p' Al B K J → Turn w w' ρ ρ' → s'.off = false → (cb = false → s'.armed < 0) → s'.quota = q → ρ' g = none → g < w'.heap.size → RunsG a g rest w' Q)
    (hc : ∀ w' ρ' s' p', Pc p' → LO w0 w' l d dead ρ' s' p' Al B K J → Turn w w' ρ ρ' → s'.off = true → cb = true → s'.quota = q → Q (errV a 7) w') : RunsG a g (.func (.func F) fi ca :: rest) w Q := by
  refine ⟨F, fi, ca, rfl, heg, hC.mono ?_⟩
  rintro e w' ⟨v, rfl, hR⟩
  rcases hR with ⟨rfl, ρ', s', p', g1, g2, g3, g4, g5, g6⟩ | ⟨rfl, ρ', s', p', g1, g2, g3, g4, g5, g6⟩
  · exact .inl ⟨rfl, g3.1.block g hg (fun ⟨r, e⟩ => by rw [rg] at e; cases e), hn w' ρ' s' p' g1 g2 g3 g4 g6 g5 (g3.off hg rg) (Nat.lt_of_lt_of_le hg g3.1.size)⟩
  · exact .inr ⟨7, rfl, hc w' ρ' s' p' g1 g2 g3 g4 g6 g5⟩
end
/-- An operation in memory and in plain words. -/
structure Is (x : OpA) (c : Ch) : Prop where
  kind : x.kind = (c.kind : Int)
  name : x.name = c.name
  at_ : x.at_ = (c.at_ : Int)
  bytes : x.bytes = c.bytes
/-- What the files may hold while a change is done. -/
structure Env (V : Nm → Option (List UInt8)) (ops : List Ch) (Al : List Nm) (B : Nm → Nat) : Prop where
  lim : Lim Al B
  fits : Fits V ops redoN
  al : ∀ c ∈ ops, c.name ∈ Al
  len : ∀ c ∈ ops, ((V c.name).getD []).length + c.bytes.length ≤ B c.name
section
variable {a : Nat → Addr} {w0 w : World} {l d : Nat} {dead : Bool} {ρ : Nat → Option Role} {s : St} {p : PD} {Al : List Nm} {B : Nm → Nat} {k j : Nat} {q : Int} {cb : Bool}
variable {V : Nm → Option (List UInt8)} {ops : List Ch} {rec : List UInt8} {x : OpA} {c : Ch}
/-- Others stay as they are. -/
def Oth (p : PD) (n : Nm) (p' : PD) : Prop := ∀ m, m ≠ n → p'.view m = p.view m
theorem isThere_lo (hE : Errs w0 a) (h : LO w0 w l d dead ρ s p Al B k j) (hoff : s.off = false) (hr : rightB x.name = true) : ∀ w1, Below w.heap.size w w1 → Calls Tryz.prog 111 #[opAgg l x] w1 fun e w' => e = .returned (.bool (p.nm x.name).isSome) ∧ Below w1.heap.size w1 w' := by
  intro w1 hb
  have hL := h.then hb
  cases hn : p.nm x.name with
  | none => exact isThere_none w0 w1 l d dead ρ s a x hE hL.lg hoff hr (hL.ok.none hn)
  | some b =>
    obtain ⟨hat, fa, hφ, _⟩ := hL.ok.at hn
    exact isThere_yes w0 w1 l d dead ρ s a x hE hL.lg hoff hr b fa hat hφ
theorem ocreate_lo (hE : Errs w0 a) (hV : Env V ops Al B) (h : LO w0 w l d dead ρ s p Al B k j) (hoff : s.off = false) (ha : cb = false → s.armed < 0) (hq : s.quota = q) (hk : k ≤ 10000) (hj : j ≤ 900) (hI : Is x c) (hc : c ∈ ops) (hP : Part V ops redoN rec p) (hop : p.op = none) :
    Calls Tryz.prog 84 #[opAgg l x] w (Ans (R a w0 w l d dead ρ Al B cb (fun p' => Part V ops redoN rec p' ∧ p'.op = none ∧ Oth p c.name p' ∧ ∃ b, p'.nm c.name = some b ∧ (p.nm c.name = none → p'.by_ b = [])) (Part V ops redoN rec) (k + 1) (j + 1) q)) := by
  have hr : rightB x.name = true := by rw [hI.name]; exact hV.lim.nm _ (hV.al c hc)
  have hT := isThere_lo (x := x) hE h hoff hr
  rw [hI.name] at hT
  cases hn : p.nm c.name with
  | none =>
    rw [hn] at hT
    refine ocreate_create w l d dead _ x h.lg.lb hT ?_
    intro w1 hb
    rw [hI.name]
    refine (create_step hE hV.lim (h.then hb).ok hoff (by omega) (by omega) (hV.al c hc) hn hop).mono ?_
    intro e w' ho
    refine R.of_out h hb ho ha hq (by omega) (by omega) (by omega) (by omega) ?_ hP
    rintro p' ⟨f, hf, rfl⟩
    exact ⟨hP.create hc hn hf, hop, fun m hm => create_view hf hm, f, create_at, fun _ => create_bytes⟩
  | some b =>
    rw [hn] at hT
    refine ocreate_there w l _ x hT ?_
    intro w1 hb
    exact R.same h hb hoff ha hq (by omega) (by omega) ⟨hP, hop, fun _ _ => rfl, b, hn, fun e => by cases e⟩
/-- The file is as it was ahead of the change, open or not. -/
def AtV (V : Nm → Option (List UInt8)) (c : Ch) (p : PD) (b : Nat) : Prop := p.nm c.name = some b ∧ p.by_ b = (V c.name).getD [] ∧ (p.op = none ∨ ∃ o, p.op = some o ∧ o.b = b ∧ o.add = [] ∧ ∃ gone, o.alt = some (o.pre ++ gone))
theorem ocut_lo (hE : Errs w0 a) (hV : Env V ops Al B) (h : LO w0 w l d dead ρ s p Al B k j) (hoff : s.off = false) (ha : cb = false → s.armed < 0) (hq : s.quota = q) (hk : k ≤ 10000) (hI : Is x c) (hc : c ∈ ops) (h1 : c.kind = 1) (hP : Part V ops redoN rec p) (hop : p.op = none) {b : Nat} (hb : p.nm c.name = some b) :
    Calls Tryz.prog 85 #[opAgg l x] w (Ans (R a w0 w l d dead ρ Al B cb (fun p' => Part V ops redoN rec p' ∧ Oth p c.name p' ∧ AtV V c p' b) (Part V ops redoN rec) (k + 1) j q)) := by
  have hr : rightB x.name = true := by rw [hI.name]; exact hV.lim.nm _ (hV.al c hc)
  obtain ⟨hat, fa, hφ, hby⟩ := h.ok.at hb
  have hat' : s.D.atKey (.string x.name) .nil = pd b := by rw [hI.name]; exact hat
  by_cases hle : (p.by_ b).length ≤ c.at_
  · refine ocut_short w0 w l d dead ρ s x _ h.lg hoff hr b fa hat' hφ (by rw [hI.at_, ← hby]; omega) ?_
    intro w1 hb1
    exact R.same h hb1 hoff ha hq (by omega) (by omega) ⟨hP, fun _ _ => rfl, hb, hP.head_short hV.fits hc h1 hb hle, .inl hop⟩
  · refine ocut_cut w0 w l d dead ρ s x _ h.lg hoff hr b fa hat' hφ (by rw [hI.at_, ← hby]; omega) ?_
    intro w1 hb1
    rw [hI.name, hI.at_]
    refine (cut_step hE hV.lim (h.then hb1).ok hoff (by omega) hb hop (m := c.at_) (by omega)).mono ?_
    intro e w' ho
    refine R.of_out h hb1 ho ha hq (by omega) (by omega) (by omega) (by omega) ?_ hP
    rintro p' rfl
    refine ⟨hP.cut hV.fits hc hb (fun _ => rfl), fun m hm => hP.file_view hb hm, hb, ?_, .inr ⟨_, rfl, rfl, rfl, (p.by_ b).drop c.at_, ?_⟩⟩
    · show upd p.by_ b ((p.by_ b).take c.at_) b = _
      rw [upd_at]
      exact hP.head hV.fits hc h1 hb
    · show some (p.by_ b) = some ((p.by_ b).take c.at_ ++ (p.by_ b).drop c.at_)
      rw [List.take_append_drop]
/-- The bytes are there, open or not. -/
def Filled (c : Ch) (pre : List UInt8) (p : PD) (b : Nat) : Prop := p.nm c.name = some b ∧ p.by_ b = pre ++ c.bytes ∧ ∀ o, p.op = some o → o.b = b
theorem ofill_lo (hE : Errs w0 a) (hV : Env V ops Al B) (h : LO w0 w l d dead ρ s p Al B k j) (hoff : s.off = false) (ha : cb = false → s.armed < 0) (hq : s.quota = q) (hq7 : 700000 ≤ q) (hk : k ≤ 10000) (hI : Is x c) (hc : c ∈ ops) (hP : Part V ops redoN rec p) {b : Nat} (hb : p.nm c.name = some b) {pre : List UInt8} (hpre : p.by_ b = pre) (hop : p.op = none ∨ ∃ o, p.op = some o ∧ o.b = b ∧ o.add = [] ∧ ∃ gone, o.alt = some (o.pre ++ gone)) (hlen : pre.length + c.bytes.length ≤ B c.name) (hv : BR w x.val c.bytes) (hvf : Frees ρ x.val c.bytes) :
    Calls Tryz.prog 86 #[opAgg l x] w (Ans (R a w0 w l d dead ρ Al B cb (fun p' => Part V ops redoN rec p' ∧ Oth p c.name p' ∧ Filled c pre p' b) (Part V ops redoN rec) (k + 1) j q)) := by
  have hoo : ∀ o, p.op = some o → o.b = b := by
    intro o e
    rcases hop with hop | ⟨o', hop, hob, _⟩
    · rw [hop] at e; cases e
    · rw [hop] at e; cases e; exact hob
  have hBn := hV.lim.b c.name
  obtain ⟨A, cc, hvv, _⟩ := hv.form
  by_cases h0 : c.bytes = []
  · refine ofill_none w l _ x A cc (by rw [hvv, h0]; rfl) ?_
    intro w1 hb1
    exact R.same h hb1 hoff ha hq (by omega) (by omega) ⟨hP, fun _ _ => rfl, hb, by rw [h0, List.append_nil]; exact hpre, hoo⟩
  · refine ofill_via w l d dead _ x h.lg.lb A c.bytes.length cc (List.length_pos_iff.2 h0) (by omega) hvv ?_
    intro w1 hb1
    rw [hI.name]
    refine (append_step hE hV.lim (h.then hb1).ok hoff (by omega) hb hop h0 (hv.below hb1) (fun A n c e => hvf h0 A n c e) (by rw [hpre]; exact hlen) (by rw [hq]; exact hq7)).mono ?_
    intro e w' ho
    refine R.of_out h hb1 ho ha hq (by omega) (by omega) (by omega) (by omega) ?_ hP
    rintro p' rfl
    refine ⟨hP.fill hV.fits hc hb hoo c.bytes, fun m hm => hP.file_view hb hm, hb, ?_, fun o e => by cases e; rfl⟩
    show upd p.by_ b (p.by_ b ++ c.bytes) b = _
    rw [upd_at, hpre]
theorem osync_lo (hE : Errs w0 a) (hV : Env V ops Al B) (h : LO w0 w l d dead ρ s p Al B k j) (hoff : s.off = false) (ha : cb = false → s.armed < 0) (hq : s.quota = q) (hk : k ≤ 10000) (hI : Is x c) (hP : Part V ops redoN rec p) {b : Nat} {pre : List UInt8} (hF : Filled c pre p b) :
    Calls Tryz.prog 87 #[opAgg l x] w (Ans (R a w0 w l d dead ρ Al B cb (fun p' => Part V ops redoN rec p' ∧ Oth p c.name p' ∧ p'.op = none ∧ p'.view c.name = some (pre ++ c.bytes)) (Part V ops redoN rec) (k + 1) j q)) := by
  refine osync_via w l d dead _ x h.lg.lb ?_
  intro w1 hb1
  rw [hI.name]
  refine (sync_step hE hV.lim (h.then hb1).ok hoff (by omega) hF.1 hF.2.2).mono ?_
  intro e w' ho
  refine R.of_out h hb1 ho ha hq (by omega) (by omega) (by omega) (by omega) ?_ hP
  rintro p' rfl
  exact ⟨hP.sync, fun _ _ => rfl, rfl, by rw [← hF.2.1]; exact view_of hF.1⟩
theorem oclear_lo (hE : Errs w0 a) (hV : Env V ops Al B) (h : LO w0 w l d dead ρ s p Al B k j) (hoff : s.off = false) (ha : cb = false → s.armed < 0) (hq : s.quota = q) (hk : k ≤ 10000) (hj : j ≤ 900) (hI : Is x c) (hc : c ∈ ops) (h2 : c.kind = 2) (hP : Part V ops redoN rec p) (hop : p.op = none) :
    Calls Tryz.prog 88 #[opAgg l x] w (Ans (R a w0 w l d dead ρ Al B cb (fun p' => Part V ops redoN rec p' ∧ Oth p c.name p' ∧ ∃ b, p'.nm c.name = some b ∧ p'.by_ b = [] ∧ (p'.op = none ∨ ∃ o, p'.op = some o ∧ o.b = b ∧ o.add = [] ∧ ∃ gone, o.alt = some (o.pre ++ gone))) (Part V ops redoN rec) (k + 1) (j + 1) q)) := by
  have hr : rightB x.name = true := by rw [hI.name]; exact hV.lim.nm _ (hV.al c hc)
  have hT := isThere_lo (x := x) hE h hoff hr
  rw [hI.name] at hT
  cases hn : p.nm c.name with
  | none =>
    rw [hn] at hT
    refine oclear_create w l d dead _ x h.lg.lb hT ?_
    intro w1 hb
    rw [hI.name]
    refine (create_step hE hV.lim (h.then hb).ok hoff (by omega) (by omega) (hV.al c hc) hn hop).mono ?_
    intro e w' ho
    refine R.of_out h hb ho ha hq (by omega) (by omega) (by omega) (by omega) ?_ hP
    rintro p' ⟨f, hf, rfl⟩
    exact ⟨hP.create hc hn hf, fun m hm => create_view hf hm, f, create_at, create_bytes, .inl hop⟩
  | some b =>
    rw [hn] at hT
    refine oclear_cut w l d dead _ x h.lg.lb hT ?_
    intro w1 hb
    rw [hI.name]
    refine (cut_step hE hV.lim (h.then hb).ok hoff (by omega) hn hop (m := 0) (Nat.zero_le _)).mono ?_
    intro e w' ho
    refine R.of_out h hb ho ha hq (by omega) (by omega) (by omega) (by omega) ?_ hP
    rintro p' rfl
    refine ⟨hP.cut hV.fits hc hn (fun e => by omega), fun m hm => hP.file_view hn hm, b, hn, ?_, .inr ⟨_, rfl, rfl, rfl, p.by_ b, by simp⟩⟩
    show upd p.by_ b ((p.by_ b).take 0) b = _
    rw [upd_at]
    rfl
/-- An operation, done or cut. -/
def Dn (V : Nm → Option (List UInt8)) (ops : List Ch) (rec : List UInt8) (p : PD) (c : Ch) (p' : PD) : Prop := Part V ops redoN rec p' ∧ p'.op = none ∧ Oth p c.name p' ∧ p'.view c.name = c.out (V c.name)
theorem odo_lo (hE : Errs w0 a) (hV : Env V ops Al B) (h : LO w0 w l d dead ρ s p Al B k j) (hoff : s.off = false) (ha : cb = false → s.armed < 0) (hq : s.quota = q) (hq7 : 700000 ≤ q) (hk : k ≤ 9000) (hj : j ≤ 800) (hI : Is x c) (hc : c ∈ ops) (hP : Part V ops redoN rec p) (hop : p.op = none) (hv : BR w x.val c.bytes) (hvf : Frees ρ x.val c.bytes) :
    Calls Tryz.prog 51 #[opAgg l x] w (Ans (R a w0 w l d dead ρ Al B cb (Dn V ops rec p c) (Part V ops redoN rec) (k + 4) (j + 1) q)) := by
  have hkinds := hV.fits.kinds c hc
  have hlen := hV.len c hc
  by_cases h1 : c.kind = 1
  · refine odo_append w l _ x a (by rw [hI.kind, h1]; rfl) ?_
    intro g w1 hb1 hg hg1
    have rg : ρ g = none := h.lg.dk.free hg
    have T1 : Turn w w1 ρ ρ := Turn.of_below hb1
    refine runs_cons (by intros; kernel_rfl) hg1 rg (ocreate_lo hE hV (h.then hb1) hoff ha hq (by omega) (by omega) hI hc hP hop) ?_ ?_
    · rintro w2 ρ2 s2 p2 ⟨P2, o2, t2, b, n2, z2⟩ L2 T2 f2 a2 q2 g2 gl2
      have TT2 := T1.trans T2
      have V2 := hvf.turn hv TT2
      refine runs_cons (by intros; kernel_rfl) gl2 g2 (ocut_lo hE hV L2 f2 a2 q2 (by omega) hI hc h1 P2 o2 n2) ?_ ?_
      · rintro w3 ρ3 s3 p3 ⟨P3, t3, A3⟩ L3 T3 f3 a3 q3 g3 gl3
        have V3 := V2.2.turn V2.1 T3
        refine runs_cons (by intros; kernel_rfl) gl3 g3 (ofill_lo hE hV L3 f3 a3 q3 hq7 (by omega) hI hc P3 A3.1 A3.2.1 A3.2.2 hlen V3.1 V3.2) ?_ ?_
        · rintro w4 ρ4 s4 p4 ⟨P4, t4, F4⟩ L4 T4 f4 a4 q4 g4 gl4
          refine runs_cons (by intros; kernel_rfl) gl4 g4 (osync_lo hE hV L4 f4 a4 q4 (by omega) hI P4 F4) ?_ ?_
          · rintro w5 ρ5 s5 p5 ⟨P5, t5, o5, v5⟩ L5 T5 f5 a5 q5 g5 gl5
            refine .inl ⟨rfl, ρ5, s5, p5, ⟨P5, o5, fun m hm => ((t5 m hm).trans ((t4 m hm).trans ((t3 m hm).trans (t2 m hm)))), ?_⟩, L5.mono (by omega) (by omega), ((TT2.trans T3).trans T4).trans T5, f5, q5, a5⟩
            rw [v5]
            unfold Ch.out
            rw [if_neg (by omega), if_pos h1]
          · intro w5 ρ5 s5 p5 P5 L5 T5 f5 a5 q5
            exact .inr ⟨rfl, ρ5, s5, p5, P5, L5.mono (by omega) (by omega), ((TT2.trans T3).trans T4).trans T5, f5, q5, a5⟩
        · intro w4 ρ4 s4 p4 P4 L4 T4 f4 a4 q4
          exact .inr ⟨rfl, ρ4, s4, p4, P4, L4.mono (by omega) (by omega), (TT2.trans T3).trans T4, f4, q4, a4⟩
      · intro w3 ρ3 s3 p3 P3 L3 T3 f3 a3 q3
        exact .inr ⟨rfl, ρ3, s3, p3, P3, L3.mono (by omega) (by omega), TT2.trans T3, f3, q3, a3⟩
    · intro w2 ρ2 s2 p2 P2 L2 T2 f2 a2 q2
      exact .inr ⟨rfl, ρ2, s2, p2, P2, L2.mono (by omega) (by omega), T1.trans T2, f2, q2, a2⟩
  · by_cases h2 : c.kind = 2
    · refine odo_replace w l _ x a (by rw [hI.kind, h2]; rfl) ?_
      intro g w1 hb1 hg hg1
      have rg : ρ g = none := h.lg.dk.free hg
      have T1 : Turn w w1 ρ ρ := Turn.of_below hb1
      refine runs_cons (by intros; kernel_rfl) hg1 rg (oclear_lo hE hV (h.then hb1) hoff ha hq (by omega) (by omega) hI hc h2 hP hop) ?_ ?_
      · rintro w2 ρ2 s2 p2 ⟨P2, t2, b, n2, z2, o2⟩ L2 T2 f2 a2 q2 g2 gl2
        have TT2 := T1.trans T2
        have V2 := hvf.turn hv TT2
        refine runs_cons (by intros; kernel_rfl) gl2 g2 (ofill_lo hE hV L2 f2 a2 q2 hq7 (by omega) hI hc P2 n2 z2 o2 (by simp; omega) V2.1 V2.2) ?_ ?_
        · rintro w4 ρ4 s4 p4 ⟨P4, t4, F4⟩ L4 T4 f4 a4 q4 g4 gl4
          refine runs_cons (by intros; kernel_rfl) gl4 g4 (osync_lo hE hV L4 f4 a4 q4 (by omega) hI P4 F4) ?_ ?_
          · rintro w5 ρ5 s5 p5 ⟨P5, t5, o5, v5⟩ L5 T5 f5 a5 q5 g5 gl5
            refine .inl ⟨rfl, ρ5, s5, p5, ⟨P5, o5, fun m hm => ((t5 m hm).trans ((t4 m hm).trans (t2 m hm))), ?_⟩, L5.mono (by omega) (by omega), (TT2.trans T4).trans T5, f5, q5, a5⟩
            rw [v5]
            unfold Ch.out
            rw [if_neg (by omega), if_neg h1]
            rfl
          · intro w5 ρ5 s5 p5 P5 L5 T5 f5 a5 q5
            exact .inr ⟨rfl, ρ5, s5, p5, P5, L5.mono (by omega) (by omega), (TT2.trans T4).trans T5, f5, q5, a5⟩
        · intro w4 ρ4 s4 p4 P4 L4 T4 f4 a4 q4
          exact .inr ⟨rfl, ρ4, s4, p4, P4, L4.mono (by omega) (by omega), TT2.trans T4, f4, q4, a4⟩
      · intro w2 ρ2 s2 p2 P2 L2 T2 f2 a2 q2
        exact .inr ⟨rfl, ρ2, s2, p2, P2, L2.mono (by omega) (by omega), T1.trans T2, f2, q2, a2⟩
    · have h3 : c.kind = 3 := by omega
      refine odo_remove w l _ x (by rw [hI.kind, h3]; rfl) ?_
      intro w1 hb1
      have L1 := h.then hb1
      have T1 : Turn w w1 ρ ρ := Turn.of_below hb1
      have hr : rightB x.name = true := by rw [hI.name]; exact hV.lim.nm _ (hV.al c hc)
      have hT := isThere_lo (x := x) hE L1 hoff hr
      rw [hI.name] at hT
      have hout : c.out (V c.name) = none := by unfold Ch.out; rw [if_pos h3]
      have key : ∀ {v : Value} {w' : World}, R a w0 w1 l d dead ρ Al B cb (Dn V ops rec p c) (Part V ops redoN rec) (k + 4) (j + 1) q v w' → R a w0 w l d dead ρ Al B cb (Dn V ops rec p c) (Part V ops redoN rec) (k + 4) (j + 1) q v w' := by
        rintro v w' (⟨rfl, ρ', s', p', g1, g2, g3, g4⟩ | ⟨rfl, ρ', s', p', g1, g2, g3, g4⟩)
        · exact .inl ⟨rfl, ρ', s', p', g1, g2, T1.trans g3, g4⟩
        · exact .inr ⟨rfl, ρ', s', p', g1, g2, T1.trans g3, g4⟩
      have key2 : ∀ {e : Ending} {w' : World}, Ans (R a w0 w1 l d dead ρ Al B cb (Dn V ops rec p c) (Part V ops redoN rec) (k + 4) (j + 1) q) e w' → Ans (R a w0 w l d dead ρ Al B cb (Dn V ops rec p c) (Part V ops redoN rec) (k + 4) (j + 1) q) e w' := fun ⟨v, he, hR⟩ => ⟨v, he, key hR⟩
      cases hn : p.nm c.name with
      | none =>
        rw [hn] at hT
        refine (oremove_none w1 l (R a w0 w1 l d dead ρ Al B cb (Dn V ops rec p c) (Part V ops redoN rec) (k + 4) (j + 1) q) x hT ?_).mono fun e w' h => key2 h
        intro w2 hb2
        exact R.same L1 hb2 hoff ha hq (by omega) (by omega) ⟨hP, hop, fun _ _ => rfl, by rw [hout]; exact view_none hn⟩
      | some b =>
        rw [hn] at hT
        refine (oremove_yes w1 l d dead (R a w0 w1 l d dead ρ Al B cb (Dn V ops rec p c) (Part V ops redoN rec) (k + 4) (j + 1) q) x L1.lg.lb hT ?_).mono fun e w' h => key2 h
        intro w2 hb2
        rw [hI.name]
        refine (remove_step hE hV.lim (L1.then hb2).ok hoff (by omega) (by omega) hn).mono ?_
        intro e w' ho
        refine R.of_out L1 hb2 ho ha hq (by omega) (by omega) (by omega) (by omega) ?_ hP
        rintro p' rfl
        exact ⟨hP.remove hV.fits hc h3, hop, fun m hm => remove_view hm, by rw [hout]; exact remove_at⟩
end
end Go.Proofs.YthhnlkbjpahjeaaGreatDoor

end
section
namespace Go.Proofs.YthhnlkbjpahjeaaGreatDoor
open Go.RowKit Go.Maps Go.Sort
/-- Operations in memory and in plain words. -/
inductive IsL : List OpA → List Ch → Prop
  | nil : IsL [] []
  | cons {x : OpA} {c : Ch} {xs : List OpA} {cs : List Ch} (h : Is x c) (t : IsL xs cs) : IsL (x :: xs) (c :: cs)
theorem IsL.len {xs : List OpA} {cs : List Ch} (h : IsL xs cs) : xs.length = cs.length := by
  induction h with
  | nil => rfl
  | cons _ _ ih => simp [ih]
section
variable {a : Nat → Addr} {w0 ws : World} {l d : Nat} {dead : Bool} {ρs : Nat → Option Role} {Al : List Nm} {B : Nm → Nat} {q : Int} {cb : Bool} {K J : Nat}
variable {V : Nm → Option (List UInt8)} {ops : List Ch} {rec : List UInt8}
theorem dog_lo (hE : Errs w0 a) (hV : Env V ops Al B) (hq7 : 700000 ≤ q) (hK : K ≤ 9000) (hJ : J ≤ 800) : ∀ {xs : List OpA} {cs : List Ch}, IsL xs cs → ∀ (dn : List Ch), ops = dn ++ cs → ∀ (w : World) (ρ : Nat → Option Role) (s : St) (p : PD) (k j : Nat), LO w0 w l d dead ρ s p Al B k j → s.off = false → (cb = false → s.armed < 0) → s.quota = q → k + 4 * cs.length + 1 ≤ K → j + cs.length ≤ J → Part V ops redoN rec p → p.op = none → (∀ c ∈ dn, p.view c.name = c.out (V c.name)) → (∀ x ∈ xs, BR w x.val x.bytes ∧ Frees ρ x.val x.bytes) → Turn ws w ρs ρ →
    DoG a l d xs w ρ (R a w0 ws l d dead ρs Al B cb (fun p' => Calm (afterV V ops) redoN rec p' ∧ p'.op = none) (Part V ops redoN rec) K J q)
  | [], _, .nil, dn, hdn, w, ρ, s, p, k, j, h, hoff, ha, hq, hk, hj, hP, hop, hd, _, hT => by
    intro w1 hb
    simp only [List.append_nil] at hdn
    refine (syncDir_step hE hV.lim (h.then hb).ok hoff (by simp at hk; omega) hop).mono ?_
    intro e w' ho
    obtain ⟨v, he, hR⟩ := R.of_out (Pd := fun p' => Calm (afterV V ops) redoN rec p' ∧ p'.op = none) (Pc := Part V ops redoN rec) (K := K) (J := J) h hb ho ha hq (by simp at hk; omega) (by simp at hj; omega) (by simp at hk; omega) (by omega) (by
      rintro p' rfl
      exact ⟨hP.all hV.fits hop (fun c hc => hd c (by rw [← hdn]; exact hc)), hop⟩) hP
    refine ⟨v, he, ?_⟩
    rcases hR with ⟨rfl, ρ', s', p', g1, g2, g3, g4⟩ | ⟨rfl, ρ', s', p', g1, g2, g3, g4⟩
    · exact .inl ⟨rfl, ρ', s', p', g1, g2, hT.trans g3, g4⟩
    · exact .inr ⟨rfl, ρ', s', p', g1, g2, hT.trans g3, g4⟩
  | x :: xs, _, .cons (c := c) (cs := cs) hI ht, dn, hdn, w, ρ, s, p, k, j, h, hoff, ha, hq, hk, hj, hP, hop, hd, hv, hT => by
    intro w1 hb
    simp only [List.length_cons] at hk hj
    have hc : c ∈ ops := by rw [hdn]; simp
    obtain ⟨v1, v2⟩ := hv x (by simp)
    have L1 := h.then hb
    refine (odo_lo hE hV L1 hoff ha hq hq7 (by omega) (by omega) hI hc hP hop (by rw [← hI.bytes]; exact v1.below hb) (by rw [← hI.bytes]; exact v2)).mono ?_
    rintro e w' ⟨v, rfl, hR⟩
    rcases hR with ⟨rfl, ρ', s', p', ⟨P', o', t', u'⟩, g2, g3, g4, g5, g6⟩ | ⟨rfl, ρ', s', p', g1, g2, g3, g4, g5, g6⟩
    · refine .inl ⟨rfl, ρ', g3, dog_lo hE hV hq7 hK hJ ht (dn ++ [c]) (by rw [hdn]; simp) w' ρ' s' p' (k + 4) (j + 1) g2 g4 g6 g5 (by omega) (by omega) P' o' ?_ ?_ ((hT.trans (Turn.of_below hb)).trans g3)⟩
      · intro c' hc'
        rcases List.mem_append.1 hc' with hc' | hc'
        · rw [t' c'.name ?_]
          · exact hd c' hc'
          · intro e
            have hnd := hV.fits.nodup
            rw [hdn] at hnd
            unfold namesOf at hnd
            rw [List.map_append, List.nodup_append] at hnd
            exact hnd.2.2 c'.name (List.mem_map.2 ⟨c', hc', rfl⟩) c.name (List.mem_map.2 ⟨c, by simp, rfl⟩) e
        · rw [List.mem_singleton.1 hc']
          exact u'
      · intro y hy
        obtain ⟨y1, y2⟩ := hv y (by simp [hy])
        exact y2.turn (y1.below hb) g3
    · exact .inr ⟨7, rfl, .inr ⟨rfl, ρ', s', p', g1, g2.mono (by omega) (by omega), (hT.trans (Turn.of_below hb)).trans g3, g4, g5, g6⟩⟩
/-- A change, done or cut, whatever was done of it before. -/
theorem cdo_lo (hE : Errs w0 a) (hV : Env V ops Al B) (hq7 : 700000 ≤ q) (hK : K ≤ 9000) (hJ : J ≤ 800) {xs : List OpA} (hI : IsL xs ops) {w : World} {ρ : Nat → Option Role} {s : St} {p : PD} {k j : Nat} (h : LO w0 w l d dead ρ s p Al B k j) (hoff : s.off = false) (ha : cb = false → s.armed < 0) (hq : s.quota = q) (hk : k + 4 * ops.length + 1 ≤ K) (hj : j + ops.length ≤ J) (hP : Part V ops redoN rec p) (hop : p.op = none) {vo : Value} (vr : Value) (hO : OPf w ρ vo xs) :
    Calls Tryz.prog 26 #[.agg #[pv l, vo, vr]] w (Ans (R a w0 w l d dead ρ Al B cb (fun p' => Calm (afterV V ops) redoN rec p' ∧ p'.op = none) (Part V ops redoN rec) K J q)) := by
  obtain ⟨Ao, co, rfl, _⟩ := hO.op.form
  refine do_any a w l d dead _ ρ xs _ vr h.lg.lb (fun k r hr => (h.lg.dk.low k r hr).2) h.lg.rl hO ?_
  intro w1 hb
  have hO1 := hO.then hb
  refine dog_lo hE hV hq7 hK hJ hI [] rfl w1 ρ s p k j (h.then hb) hoff ha hq hk hj hP hop (fun c hc => by cases hc) ?_ (Turn.of_below hb)
  intro x hx
  obtain ⟨i, hi, rfl⟩ := List.getElem_of_mem hx
  obtain ⟨g, o, _, _, _, _, _, _, _, q4⟩ := hO1.op.at hi
  exact ⟨q4, hO1.vals _ (List.getElem_mem hi)⟩
end
end Go.Proofs.YthhnlkbjpahjeaaGreatDoor

end
section
namespace Go.Proofs.YthhnlkbjpahjeaaGreatDoor
open Go.RowKit Go.Maps Go.Sort
def stepF (ns : List (List UInt8)) (x : OpA) (f : Int) : Int := if (x.kind == 3) = true then (if ns.contains x.name = true then f - 1 else f) else if ns.contains x.name = true then f else f + 1
def mostF (ns : List (List UInt8)) : List OpA → Int → Int → Int
  | [], _, m => m
  | x :: r, f, m => mostF ns r (stepF ns x f) (max m (stepF ns x f))
theorem mostF_at (ns : List (List UInt8)) (ops : List OpA) (k : Nat) (h : k < ops.length) (f m : Int) : mostF ns (ops.drop k) f m = mostF ns (ops.drop (k + 1)) (stepF ns ops[k] f) (max m (stepF ns ops[k] f)) := by
  rw [List.drop_eq_getElem_cons h]
  rfl
section
variable (w0 w : World) (l d : Nat) (dead : Bool) (ρ : Nat → Option Role) (s : St) (a : Nat → Addr)
set_option maxRecDepth 8000 in
set_option maxHeartbeats 4000000 in
theorem mostFiles_any (h : LG w0 w l d dead ρ s) (hoff : s.off = false) (hN : s.N ≤ 100000) (ops : List OpA) (vo vr : Value) (hO : OPs w vo ops) (h16 : ops.length ≤ 16) :
    Calls Tryz.prog 45 #[.agg #[pv l, vo, vr]] w fun e w' => Below w.heap.size w w' ∧ ∃ ns : List (List UInt8), ns.Perm (strKeys s.D) ∧ e = .returned (.int .i64 (mostF ns ops ns.length ns.length)) := by
  obtain ⟨W, hW⟩ : ∃ W, Hid (W = w.alloc (.cells #[pv l, vo, vr] 65)) := ⟨_, rfl⟩
  have hb : Below w.heap.size w W := by rw [hW.out]; exact (Below.refl _ _).alloc (Nat.le_refl _) _
  have hL := h.then hb
  have hcl := h.lb.cell
  have hll := h.lb.lt
  have kW : Blk W w.heap.size #[pv l, vo, vr] 65 := by rw [hW.out]; exact Blk.new _ _ _
  have HLs := hide (list_any w0 W d ρ s hL.dk hoff (by omega))
  have hsz : Hid (Maps.size s.D ≤ 100000) := by
    obtain ⟨_, _, _, _, _, _, _, _, h⟩ := h.dk
    have := h.names.size_le
    show _ ≤ _
    omega
  have hkeys : Hid ((strKeys s.D).length = Maps.size s.D) := by
    obtain ⟨_, _, _, _, _, _, _, _, h⟩ := h.dk
    have hm := h.names.isMap
    show _ = _
    cases hD : s.D with
    | map es => simp [strKeys, Maps.size]
    | _ => exact absurd hm (by rw [hD]; simp [IsMap])
  have HB := hide hb
  have KW := hide kW
  have HO := hide hO
  obtain ⟨A, c, rfl, hl, hm⟩ := hO.form
  have hmx : c ≤ 9223372036854775807 := by simp only [maxLen] at hm; omega
  clear hL h hb kW hO hm
  unfold pv at *
  go_enter Tryz.func45, Tryz.ntmps45
  go_wp2_with fail
  rw [← hW.out]
  refine HLs.out.mono ?_
  rintro e w1 ⟨v, ss, rfl, hp, ht, hb1, _⟩
  obtain ⟨ns, hns⟩ : ∃ ns, Hid (ns = ss.mergeSort (fun x y => decide (x ≤ y))) := ⟨_, rfl⟩
  rw [← hns.out] at ht
  have hperm : Hid (ns.Perm (strKeys s.D)) := by
    show List.Perm _ _
    rw [hns.out]
    exact (List.mergeSort_perm _ _).trans hp
  have hnl : ns.length ≤ 100000 := by
    have h1 := hperm.out.length_eq
    have h2 := hkeys.out
    have h3 := hsz.out
    omega
  obtain ⟨An, cn, hvn, _⟩ : ∃ A c, v = .slice A ns.length c ∧ True := by
    obtain ⟨A, c, hv, _⟩ := ht
    rw [List.length_map] at hv
    exact ⟨A, c, hv, trivial⟩
  subst hvn
  have HT := hide ht
  have HB1 := hide hb1
  have K1 := (KW.out.below hb1 KW.out.lt).cell
  clear hp ht hb1 HLs hns
  go_wp2_with fail
  go_loopw [5, 6, 8, 9, 25] (fun fv mv _ _ u wr => ∃ (k : Nat) (f m : Int), k ≤ ops.length ∧ u = .int .i64 k ∧ fv = .int .i64 f ∧ mv = .int .i64 m ∧ Hid (-(k : Int) ≤ f ∧ f ≤ ns.length + k ∧ -(k : Int) ≤ m ∧ m ≤ ns.length + k) ∧ Hid (Below w1.heap.size w1 wr) ∧ Hid (mostF ns ops ns.length ns.length = mostF ns (ops.drop k) f m)) (fun _ _ _ _ u _ => ops.length - (intOf u).toNat)
  case atStart => exact ⟨0, ns.length, ns.length, Nat.zero_le _, rfl, rfl, rfl, ⟨by simp, by simp, by simp, by simp⟩, Below.refl _ _, rfl⟩
  case round =>
    obtain ⟨k, f, m, hkl, rfl, rfl, rfl, hbd, hBr, hA⟩ := hrel
    by_cases hlt : k < ops.length
    · have hltz : (k : Int) < (ops.length : Int) := by omega
      have hbA := HB.out.trans ((HB1.out.trans (hBr.out.mono HB1.out.size)).mono HB.out.size)
      obtain ⟨g, o, rfl, hg, _, q0, q1, q2, q3, q4⟩ := (HO.out.below hbA).at hlt
      obtain ⟨Ab, cb, hvb, _⟩ := q4.form
      have HD := mostF_at ns ops k hlt f m
      have hbW : Below wr.heap.size wr (wr.alloc (.cells ops[k].cells 48)) := (Below.refl _ _).alloc (Nat.le_refl _) _
      have HC := containsS_any ns _ (wr.alloc (.cells ops[k].cells 48)) ((HT.out.below hBr.out).below hbW) ops[k].name
      unfold OpA.cells at HC hbW
      unfold stepF at HD
      generalize hx : ops[k] = x at q0 q1 q2 q3 hvb HD HC hbW
      clear hx q4 hbA
      obtain ⟨kd, nm, att, vl, bs⟩ := x
      simp only at q0 q1 q2 q3 hvb HD HC hbW
      subst hvb
      replace hbW := hide hbW
      obtain ⟨b1, b2, b3, b4⟩ := hbd.out
      generalize hct : ns.contains nm = ct at HC HD
      replace HC := hide HC
      clear hct
      cases hk : (kd == 3) with
      | true =>
        have hk2 : (kd != 3) = false := by simpa using hk
        cases ct with
        | true =>
          rw [if_pos hk, if_pos rfl] at HD
          replace HD := hide HD
          go_wp2_with (go_at_call 78; refine HC.out.mono ?_; rintro e w2 ⟨rfl, rfl⟩)
          go_round
          case rel =>
            refine ⟨k + 1, f - 1, max m (f - 1), by omega, by go_num, rfl, ?_, ⟨by omega, by omega, by omega, by omega⟩, hBr.out.trans (hbW.out.mono hBr.out.size), hA.out.trans HD.out⟩
            congr 1 <;> omega
          case measure => simp [intOf]; omega
        | false =>
          rw [if_pos hk, if_neg (by simp)] at HD
          replace HD := hide HD
          go_wp2_with (go_at_call 78; refine HC.out.mono ?_; rintro e w2 ⟨rfl, rfl⟩)
          go_round
          case rel =>
            refine ⟨k + 1, f, max m f, by omega, by go_num, rfl, ?_, ⟨by omega, by omega, by omega, by omega⟩, hBr.out.trans (hbW.out.mono hBr.out.size), hA.out.trans HD.out⟩
            congr 1 <;> omega
          case measure => simp [intOf]; omega
      | false =>
        have hk2 : (kd != 3) = true := by simpa using hk
        cases ct with
        | true =>
          rw [if_neg (by rw [hk]; simp), if_pos rfl] at HD
          replace HD := hide HD
          go_wp2_with (go_at_call 78; refine HC.out.mono ?_; rintro e w2 ⟨rfl, rfl⟩)
          go_round
          case rel =>
            refine ⟨k + 1, f, max m f, by omega, by go_num, rfl, ?_, ⟨by omega, by omega, by omega, by omega⟩, hBr.out.trans (hbW.out.mono hBr.out.size), hA.out.trans HD.out⟩
            congr 1 <;> omega
          case measure => simp [intOf]; omega
        | false =>
          rw [if_neg (by rw [hk]; simp), if_neg (by simp)] at HD
          replace HD := hide HD
          go_wp2_with (go_at_call 78; refine HC.out.mono ?_; rintro e w2 ⟨rfl, rfl⟩)
          go_round
          case rel =>
            refine ⟨k + 1, f + 1, max m (f + 1), by omega, by go_num, rfl, ?_, ⟨by omega, by omega, by omega, by omega⟩, hBr.out.trans (hbW.out.mono hBr.out.size), hA.out.trans HD.out⟩
            congr 1 <;> omega
          case measure => simp [intOf]; omega
    · have hltz : ¬ (k : Int) < (ops.length : Int) := by omega
      have e : Hid (mostF ns ops ns.length ns.length = m) := by
        show _ = _
        rw [hA.out, List.drop_eq_nil_of_le (by omega)]
        rfl
      go_wp2
      go_ret
      exact ⟨HB.out.trans ((HB1.out.trans (hBr.out.mono HB1.out.size)).mono HB.out.size), ns, hperm.out, by rw [e.out]; rfl⟩
end
end Go.Proofs.YthhnlkbjpahjeaaGreatDoor

end
