/- A row of files that lies apart from the disk and the log: it stands through all that the disk does. -/
/- The law's own states: the second change answered or cut; a crash, an opening; what came in, seen from a later world. -/
/- The law's end: behind the second loop a last crash and a last opening. -/
import Derived.Test.YthhnlkbjpahjeaaGreatDoorU45
import Derived.Test.YthhnlkbjpahjeaaGreatDoorU43
section
namespace Go.Proofs.YthhnlkbjpahjeaaGreatDoor
open Go.RowKit Go.Maps Go.Sort
/-- In cell b lies a row of files that neither the disk nor the log lg has. -/
structure FileAt (w : World) (ρ : Nat → Option Role) (lg b : Nat) (un ub : Value) (l : List (Nm × Nm)) : Prop where
  blk : Blk w b #[un, ub] 37
  t1 : TR w un (l.map (·.1))
  t2 : TR w ub (l.map (·.2))
  free : ρ b = none ∧ b ≠ lg
  off : l ≠ [] → ∀ (A : Addr) n c, un = .slice (some A) n c ∨ ub = .slice (some A) n c → ρ A.block = none ∧ A.block ≠ lg
section
variable {w w' : World} {ρ ρ' : Nat → Option Role} {lg b : Nat} {un ub : Value} {l : List (Nm × Nm)}
theorem FileAt.turnL (h : FileAt w ρ lg b un ub l) (ht : TurnL lg w w' ρ ρ') : FileAt w' ρ' lg b un ub l := by
  have no : ∀ k, ρ k = none ∧ k ≠ lg → ¬ ((∃ r, ρ k = some r) ∨ k = lg) := by
    rintro k ⟨h1, h2⟩ (⟨r, e⟩ | e)
    · rw [h1] at e
      cases e
    · exact h2 e
  refine ⟨ht.1.blk h.blk (no b h.free), h.t1.keep2 ht.1 (fun h0 A n c e => no _ (h.off (by simpa using h0) A n c (.inl e))), h.t2.keep2 ht.1 (fun h0 A n c e => no _ (h.off (by simpa using h0) A n c (.inr e))), ⟨ht.2 b h.blk.lt h.free.1, h.free.2⟩, ?_⟩
  intro h0 A n c e
  have h3 := h.off h0 A n c e
  refine ⟨ht.2 _ ?_ h3.1, h3.2⟩
  rcases e with e | e
  · exact h.t1.lt (by simpa using h0) A n c e
  · exact h.t2.lt (by simpa using h0) A n c e
theorem FileAt.turn (h : FileAt w ρ lg b un ub l) (ht : Turn w w' ρ ρ') : FileAt w' ρ' lg b un ub l := h.turnL (.of ht)
theorem FileAt.then (h : FileAt w ρ lg b un ub l) (hb : Below w.heap.size w w') : FileAt w' ρ lg b un ub l := h.turn (.of_below hb)
end
end Go.Proofs.YthhnlkbjpahjeaaGreatDoor

end
section
namespace Go.Proofs.YthhnlkbjpahjeaaGreatDoor
open Go.RowKit Go.Maps Go.Sort
/-- Where the disk stands between two crashes: b says that the change was answered. -/
def Sure (V : Nm → Option (List UInt8)) (ops : List Ch) (rec : List UInt8) (b : Bool) (p : PD) : Prop := (b = true ∧ Calm (afterV V ops) redoN [] p ∧ p.op = none) ∨ (b = false ∧ Bcl V ops rec p)
def KSure (V : Nm → Option (List UInt8)) (ops : List Ch) (rec : List UInt8) (b : Bool) (p : PD) : Prop := (b = true ∧ Calm (afterV V ops) redoN [] p ∧ p.op = none) ∨ (b = false ∧ Kcl V ops rec p)
/-- What an opening shows. -/
def Shows (V : Nm → Option (List UInt8)) (ops : List Ch) (b : Bool) (p : PD) : Prop := p.op = none ∧ (Calm (afterV V ops) redoN [] p ∨ (b = false ∧ Calm V redoN [] p))
section
variable {V : Nm → Option (List UInt8)} {ops : List Ch} {rec : List UInt8} {b : Bool} {p : PD}
theorem Shows.sure (hr : rec ≠ []) (h : Shows V ops b p) : Sure V ops rec b p := by
  obtain ⟨ho, hC | ⟨hb, hC⟩⟩ := h
  · cases b with
    | true => exact .inl ⟨rfl, hC, ho⟩
    | false => exact .inr ⟨rfl, .inr (.inr ⟨_, hC, .inl ⟨ho, rfl⟩⟩)⟩
  · exact .inr ⟨hb, .inl ⟨_, hC, .inl ⟨ho, 0, List.length_pos_iff.2 hr, rfl⟩⟩⟩
theorem Sure.log (h : Sure V ops rec b p) : ∃ r, p.sn redoN = some r := by
  rcases h with ⟨_, hC, _⟩ | ⟨_, ⟨x, hC, _⟩ | hP | ⟨x, hC, _⟩⟩
  · exact ⟨_, hC.nmr.choose_spec.1⟩
  · exact ⟨_, hC.nmr.choose_spec.1⟩
  · exact ⟨_, hP.log.choose_spec.1⟩
  · exact ⟨_, hC.nmr.choose_spec.1⟩
theorem Sure.crash (hf : Fits V ops redoN) (h : Sure V ops rec b p) (k : Nat) {c : List UInt8} (hc : ∀ o, p.op = some o → o.may c) : KSure V ops rec b (p.crash k c) := by
  rcases h with ⟨hb, hC, ho⟩ | ⟨hb, hB⟩
  · obtain ⟨x, hC', ⟨_, rfl⟩ | ⟨o, ho', _⟩⟩ := hC.crash k c
    · exact .inl ⟨hb, hC', rfl⟩
    · rw [ho] at ho'
      cases ho'
  · exact .inr ⟨hb, hB.crash hf k hc⟩
end
section
variable {a : Nat → Addr} {w0 w : World} {l d : Nat} {ρ : Nat → Option Role} {s : St} {p : PD} {Al : List Nm} {B : Nm → Nat} {k j K J : Nat} {q : Int} {cb b : Bool}
variable {V : Nm → Option (List UInt8)} {ops : List Ch} {rec : List UInt8}
theorem crash_lo (hl : Lim Al B) (hf : Fits V ops redoN) (h : OK w0 w d ρ s p Al B k j) (hk : k ≤ 20000) (hj : j ≤ 1000) (hs : Sure V ops rec b p) {A : Option Addr} {n c : Nat} (hkp : Keep w ρ A n c) :
    Calls Tryz.prog 14 #[pv d, .slice A n c] w fun e w' => e = .returned (.tuple #[]) ∧ ∃ ρ' s' p', KSure V ops rec b p' ∧ OK w0 w' d ρ' s' p' Al B (k + j) 0 ∧ Turn w w' ρ ρ' ∧ s'.off = false ∧ s'.armed = -1 ∧ s'.quota = s.quota := by
  obtain ⟨r, hr⟩ := hs.log
  refine (crash_step hl h hk hj hr hkp).mono ?_
  rintro e w' ⟨rfl, m, x, ρ', s', hm, h1, h2, h3, h4, h5⟩
  exact ⟨rfl, ρ', s', _, hs.crash hf m hm, h1, h2, h3, h4, h5⟩
theorem opens_lo {xs : List OpA} (hE : Errs w0 a) (hV : Env V (xs.map chOf) Al B) (hf : formB xs = true) (h : OK w0 w d ρ s p Al B k j) (hoff : s.off = false) (ha : cb = false → s.armed < 0) (hk : k + 4 * 16 + 10 ≤ K) (hK : K ≤ 9000) (hj : j + 16 ≤ J) (hJ : J ≤ 800) (hs : KSure V (xs.map chOf) (recB (opsB xs)) b p) :
    Calls Tryz.prog 15 #[pv d] w (OpOut a w0 w ρ d Al B cb (Shows V (xs.map chOf) b) (fun p' => b = false ∧ Bcl V (xs.map chOf) (recB (opsB xs)) p') K J s.quota) := by
  rcases hs with ⟨hb, hC, ho⟩ | ⟨hb, hK'⟩
  · exact open_none h hoff (by omega) (by omega) hC ⟨ho, .inl hC⟩
  · refine (open_lo hE hV hf h hoff ha hk hK hj hJ hK').mono ?_
    rintro e w' (⟨l, rfl, ρ', s', p', ⟨h1, h2⟩, h3⟩ | ⟨rfl, ρ', s', p', h1, h2⟩)
    · refine .inl ⟨l, rfl, ρ', s', p', ⟨h1, ?_⟩, h3⟩
      rcases h2 with h2 | h2
      · exact .inr ⟨hb, h2⟩
      · exact .inl h2
    · exact .inr ⟨rfl, ρ', s', p', ⟨hb, h1⟩, h2⟩
/-- What the first Commit leaves. -/
def Com1 (a : Nat → Addr) (w0 ws : World) (l d : Nat) (ρs : Nat → Option Role) (p : PD) (Al : List Nm) (B : Nm → Nat) (V : Nm → Option (List UInt8)) (xs : List OpA) (k j K J : Nat) (q : Int) (v : Value) (w' : World) : Prop :=
  (v = .nilIface ∧ formB xs = true ∧ Fits V (xs.map chOf) redoN ∧ ∃ ρ' s' p', Calm (afterV V (xs.map chOf)) redoN [] p' ∧ p'.op = none ∧ LO w0 w' l d false ρ' s' p' Al B K J ∧ s'.off = false ∧ s'.quota = q ∧ s'.armed < 0 ∧ TurnL l ws w' ρs ρ') ∨
    (∃ i, i < 13 ∧ v = errV a i ∧ ∃ s', LO w0 w' l d false ρs s' p Al B k j ∧ s'.off = false ∧ s'.quota = q ∧ s'.armed < 0 ∧ TurnL l ws w' ρs ρs)
/-- What the second one leaves. -/
def Com2 (a : Nat → Addr) (w0 ws : World) (l d : Nat) (ρs : Nat → Option Role) (p : PD) (Al : List Nm) (B : Nm → Nat) (V : Nm → Option (List UInt8)) (xs : List OpA) (k j K J : Nat) (q : Int) (v : Value) (w' : World) : Prop :=
  (∃ b, ((b = true ∧ v = .nilIface) ∨ (b = false ∧ v = errV a 7)) ∧ formB xs = true ∧ Fits V (xs.map chOf) redoN ∧ ∃ ρ' s' p', Sure V (xs.map chOf) (recB (opsB xs)) b p' ∧ OK w0 w' d ρ' s' p' Al B K J ∧ s'.quota = q ∧ TurnL l ws w' ρs ρ') ∨
    (∃ i, i < 13 ∧ i ≠ 7 ∧ v = errV a i ∧ ∃ s', LO w0 w' l d false ρs s' p Al B k j ∧ s'.off = false ∧ s'.quota = q ∧ TurnL l ws w' ρs ρs)
theorem commit_refused (hE : Errs w0 a) (h : LO w0 w l d false ρ s p Al B k j) {xs : List OpA} {vo : Value} (hO : OPf w ρ vo xs) (hsz : sizeOps xs ≤ 1000000) (hf : formB xs = false) :
    Calls Tryz.prog 8 #[pv l, vo] w (Ans fun v w' => v = errV a 1 ∧ LO w0 w' l d false ρ s p Al B k j ∧ TurnL l w w' ρ ρ) := by
  refine (commit_form w l d a xs vo (hE.below h.lg.dk.below) h.lg.lb hO.op hsz hf).mono ?_
  rintro e w' ⟨rfl, hb⟩
  exact ⟨_, rfl, rfl, h.then hb, .of (.of_below hb)⟩
theorem commit1_lo (hE : Errs w0 a) (hl : Lim Al B) (h : LO w0 w l d false ρ s p Al B k j) (hoff : s.off = false) (ha : s.armed < 0) (hq : s.quota = q) (hq7 : 700000 ≤ q) (hC : Calm V redoN [] p) (hop : p.op = none) {xs : List OpA} {vo : Value} (hO : OPf w ρ vo xs) (hsz : sizeOps xs ≤ 1000000)
    (hal : formB xs = true → ∀ x ∈ xs, x.name ∈ Al) (hlen : formB xs = true → ∀ x ∈ xs, ((V x.name).getD []).length + x.bytes.length ≤ B x.name) (hrec : formB xs = true → (recB (opsB xs)).length ≤ B redoN) (hk : k + 4 * 16 + 10 ≤ K) (hK : K ≤ 9000) (hj : j + 16 ≤ J) (hJ : J ≤ 800) :
    Calls Tryz.prog 8 #[pv l, vo] w (Ans (Com1 a w0 w l d ρ p Al B V xs k j K J q)) := by
  cases hf : formB xs with
  | false =>
    refine (commit_refused hE h hO hsz hf).mono ?_
    rintro e w' ⟨_, rfl, rfl, h1, h2⟩
    exact ⟨_, rfl, .inr ⟨1, by decide, rfl, s, h1, hoff, hq, ha, h2⟩⟩
  | true =>
    refine (commit_lo (cb := false) hE hl h hoff (fun _ => ha) hq hq7 hC hop hO hsz hal hlen hrec hk hK hj hJ).mono ?_
    rintro e w' ⟨v, rfl, ⟨rfl, hfit, ρ', s', p', ⟨h1, h2⟩, h3, h4, h5, h6, h7⟩ | ⟨_, _, _, _, _, _, _, _, _, e, _⟩ | ⟨i, h1, _, rfl, s', h3, h4, h5, h6, h7⟩⟩
    · exact ⟨_, rfl, .inl ⟨rfl, hf, hfit, ρ', s', p', h1, h2, h3, h4, h5, h6 rfl, h7⟩⟩
    · cases e
    · exact ⟨_, rfl, .inr ⟨i, h1, rfl, s', h3, h4, h5, h6 rfl, h7⟩⟩
theorem commit2_lo (hE : Errs w0 a) (hl : Lim Al B) (h : LO w0 w l d false ρ s p Al B k j) (hoff : s.off = false) (hq : s.quota = q) (hq7 : 700000 ≤ q) (hC : Calm V redoN [] p) (hop : p.op = none) {xs : List OpA} {vo : Value} (hO : OPf w ρ vo xs) (hsz : sizeOps xs ≤ 1000000)
    (hal : formB xs = true → ∀ x ∈ xs, x.name ∈ Al) (hlen : formB xs = true → ∀ x ∈ xs, ((V x.name).getD []).length + x.bytes.length ≤ B x.name) (hrec : formB xs = true → (recB (opsB xs)).length ≤ B redoN) (hk : k + 4 * 16 + 10 ≤ K) (hK : K ≤ 9000) (hj : j + 16 ≤ J) (hJ : J ≤ 800) :
    Calls Tryz.prog 8 #[pv l, vo] w (Ans (Com2 a w0 w l d ρ p Al B V xs k j K J q)) := by
  cases hf : formB xs with
  | false =>
    refine (commit_refused hE h hO hsz hf).mono ?_
    rintro e w' ⟨_, rfl, rfl, h1, h2⟩
    exact ⟨_, rfl, .inr ⟨1, by decide, by decide, rfl, s, h1, hoff, hq, h2⟩⟩
  | true =>
    refine (commit_lo (cb := true) hE hl h hoff (fun e => by cases e) hq hq7 hC hop hO hsz hal hlen hrec hk hK hj hJ).mono ?_
    rintro e w' ⟨v, rfl, ⟨rfl, hfit, ρ', s', p', ⟨h1, h2⟩, h3, h4, h5, h6, h7⟩ | ⟨rfl, hfit, ρ', s', p', h1, h3, h4, h5, _, h7⟩ | ⟨i, h1, h2, rfl, s', h3, h4, h5, h6, h7⟩⟩
    · exact ⟨_, rfl, .inl ⟨true, .inl ⟨rfl, rfl⟩, hf, hfit, ρ', s', p', .inl ⟨rfl, h1, h2⟩, h3.ok, h5, h7⟩⟩
    · exact ⟨_, rfl, .inl ⟨false, .inr ⟨rfl, rfl⟩, hf, hfit, ρ', s', p', .inr ⟨rfl, h1⟩, h3.ok, h5, h7⟩⟩
    · exact ⟨_, rfl, .inr ⟨i, h1, h2, rfl, s', h3, h4, h5, h7⟩⟩
/-- What came in, as the disk sees it later. -/
theorem opf_in (hd : DK w0 w d ρ s) {v : Value} {xs : List OpA} (h : OPs w0 v xs) : OPf w ρ v xs := by
  have low : ∀ g, g < w0.heap.size → ρ g = none := fun g hg => by
    cases e : ρ g with
    | none => rfl
    | some r =>
      have := (hd.low g r e).1
      omega
  refine ⟨h.below hd.below, fun h0 A n c e => ?_, fun x hx => ?_⟩
  · obtain ⟨A', c', e', _, _, _, h4⟩ := h
    obtain ⟨g, o, e2, hg, _⟩ := h4 h0
    rw [e', e2] at e
    injection e with e1
    injection e1 with e1
    rw [← e1]
    exact low g hg
  · obtain ⟨i, hi, rfl⟩ := List.getElem_of_mem hx
    have h0 : xs ≠ [] := fun e => by rw [e] at hi; simp at hi
    obtain ⟨A', c', e', _, _, _, h4⟩ := h
    obtain ⟨g, o, e2, hg, h5⟩ := h4 h0
    obtain ⟨_, _, _, _, hb⟩ := h5 i hi
    intro hne A n c e
    obtain ⟨A2, c2, e3, _, _, _, h6⟩ := hb
    obtain ⟨g2, o2, e4, hg2, _⟩ := h6 (by simpa using hne)
    rw [e3, e4] at e
    injection e with e1
    injection e1 with e1
    rw [← e1]
    exact low g2 hg2
theorem keep_in (hd : DK w0 w d ρ s) {A : Option Addr} {n c : Nat} (h : Keep w0 (fun _ => none) A n c) : Keep w ρ A n c := by
  obtain ⟨h1, h2, h3⟩ := h
  refine ⟨h1, h2, fun hn => ?_⟩
  obtain ⟨g, o, e, hg, _, hx⟩ := h3 hn
  refine ⟨g, o, e, Nat.lt_of_lt_of_le hg hd.below.size, ?_, fun j hj => ?_⟩
  · cases e : ρ g with
    | none => rfl
    | some r =>
      have := (hd.low g r e).1
      omega
  · obtain ⟨x, h4, h5⟩ := hx j hj
    exact ⟨x, (hd.below.cell (p := ⟨g, o + j, none⟩) hg).trans h4, h5⟩
theorem keep_nil : Keep w ρ none 0 0 := ⟨Nat.le_refl _, by decide, fun h => absurd rfl h⟩
end
/-- A row of rows of numbers that came in. -/
def CutsR (w : World) (A : Option Addr) (n : Nat) : Prop := ∀ i, i < n → ∃ g o Ai ni ci, A = some ⟨g, o, none⟩ ∧ g < w.heap.size ∧ w.cell? ⟨g, o + i, none⟩ = some (.slice Ai ni ci) ∧ Keep w (fun _ => none) Ai ni ci
end Go.Proofs.YthhnlkbjpahjeaaGreatDoor

end
section
set_option linter.unusedSimpArgs false
set_option linter.unusedVariables false
namespace Go.Proofs.YthhnlkbjpahjeaaGreatDoor
open Go.RowKit Go.Maps Go.Sort
def seqW : Code → Code
  | .seq _ b => b
  | c => c
/-- What stands from the second Commit on. -/
structure Held (a : Nat → Addr) (w0 w : World) (d lg b1 b2 : Nat) (ρ : Nat → Option Role) (s : St) (p : PD) (Al : List Nm) (B : Nm → Nat) (k j : Nat) (V : Nm → Option (List UInt8)) (ys : List OpA) (b : Bool) (un1 ub1 un2 ub2 : Value) (l1 l2 : List (Nm × Nm)) : Prop where
  env : Env V (ys.map chOf) Al B
  form : formB ys = true
  redo : V redoN = none
  ok : OK w0 w d ρ s p Al B k j
  sure : Sure V (ys.map chOf) (recB (opsB ys)) b p
  rep1 : PRep V l1
  rep2 : PRep (afterV V (ys.map chOf)) l2
  f1 : FileAt w ρ lg b1 un1 ub1 l1
  f2 : FileAt w ρ lg b2 un2 ub2 l2
theorem after_redo {V : Nm → Option (List UInt8)} {ops : List Ch} (hf : Fits V ops redoN) (h : V redoN = none) : afterV V ops redoN = none := (after_none hf.log).trans h
theorem rec_ne (ys : List OpA) : recB (opsB ys) ≠ [] := fun e => by
  have := congrArg List.length e
  rw [recB_length] at this
  simp at this
theorem prep_len {W : Nm → Option (List UInt8)} {l : List (Nm × Nm)} (h : PRep W l) : (l.map (·.2)).length = (l.map (·.1)).length := by simp
theorem rep_len {W : Nm → Option (List UInt8)} {ns bs : List Nm} (h : Rep W ns bs) : bs.length = ns.length := by rw [h.by_]; simp
/-- Same of two rows of files, told by what they are. -/
theorem same_lo {W : World} {vn vb un ub : Value} {ns bs : List Nm} {l : List (Nm × Nm)} {X : Nm → Option (List UInt8)} (h1 : TR W vn ns) (h2 : TR W vb bs) (hr : Rep X ns bs) (hn : ns.length ≤ 60) (h3 : TR W un (l.map (·.1))) (h4 : TR W ub (l.map (·.2))) :
    Calls Tryz.prog 10 #[.agg #[vn, vb], .agg #[un, ub]] W fun e w' => e = .returned (.bool (decide (ns = l.map (·.1) ∧ bs = l.map (·.2)))) ∧ Below W.heap.size W w' :=
  rsame_any W vn vb un ub ns bs _ _ h1 h2 h3 h4 (rep_len hr) (by simp) (by omega)

set_option maxRecDepth 20000 in
set_option maxHeartbeats 8000000 in
theorem whole_end (a : Nat → Addr) (w0 w : World) (d lg b1 b2 : Nat) (ρ : Nat → Option Role) (s : St) (p : PD) (Al : List Nm) (B : Nm → Nat) (k j : Nat) (V : Nm → Option (List UInt8)) (ys : List OpA) (b : Bool) (un1 ub1 un2 ub2 : Value) (l1 l2 : List (Nm × Nm)) (v10 : Value) (u0 u1 u2 u3 u4 u5 u6 u7 u8 u11 u14 u15 u16 u17 u18 u19 u20 u21 u22 u23 u24 u25 u26 u27 u28 u29 u30 u31 u32 u33 u34 u35 u36 u37 u38 u39 u40 u41 u42 u43 u44 u45 u46 u47 u48 u49 u50 u51 u52 u53 u54 u55 u56 u57 u58 u59 u60 u61 u62 u63 u64 u65 u66 u67 u68 u69 u70 u71 u72 u73 u74 u75 u76 u77 u78 u79 u80 u81 u82 u83 u84 u85 u86 u87 u88 u89 u90 u91 u92 u93 u94 u95 u96 u97 u98 u99 u100 u101 u102 u103 u104 u105 u106 u107 u108 u109 u110 u111 u112 u113 u114 u115 u116 u117 u118 u119 u120 u121 u122 u123 u124 u125 u126 u127 u128 u129 u130 u131 u132 u133 u134 u135 u136 u137 u138 u139 u140 u141 u142 u143 u144 u145 u146 u147 u148 u149 u150 u151 u152 u153 u154 u155 u156 u157 u158 u159 u160 u161 u162 u163 u164 u165 u166 u167 u168 u169 u170 u171 u172 u173 u174 u175 u176 u177 u178 u179 u180 u181 u182 u183 u184 u185 u186 u187 u188 : Value)
    (hE : Errs w0 a) (h : Held a w0 w d lg b1 b2 ρ s p Al B k j V ys b un1 ub1 un2 ub2 l1 l2) (hk : k ≤ 5000) (hj : j ≤ 100) (hv : (b = true ∧ v10 = .nilIface) ∨ (b = false ∧ v10 = errV a 7)) :
    (seqW (seqW (seqW (seqW (seqW (seqW (seqW (seqW (seqW (seqW (seqW (seqW (seqW (seqW (seqW (seqW (Tryz.f3.body.getD .skip))))))))))))))))).wp Tryz.prog (bodyPost Tryz.prog Tryz.f3 (fun e w' => e = .returned (.bool true) ∧ Below w0.heap.size w0 w')) { tmps := #[u0, u1, u2, u3, u4, u5, u6, u7, u8, pv d, v10, u11, pv b1, pv b2, u14, u15, u16, u17, u18, u19, u20, u21, u22, u23, u24, u25, u26, u27, u28, u29, u30, u31, u32, u33, u34, u35, u36, u37, u38, u39, u40, u41, u42, u43, u44, u45, u46, u47, u48, u49, u50, u51, u52, u53, u54, u55, u56, u57, u58, u59, u60, u61, u62, u63, u64, u65, u66, u67, u68, u69, u70, u71, u72, u73, u74, u75, u76, u77, u78, u79, u80, u81, u82, u83, u84, u85, u86, u87, u88, u89, u90, u91, u92, u93, u94, u95, u96, u97, u98, u99, u100, u101, u102, u103, u104, u105, u106, u107, u108, u109, u110, u111, u112, u113, u114, u115, u116, u117, u118, u119, u120, u121, u122, u123, u124, u125, u126, u127, u128, u129, u130, u131, u132, u133, u134, u135, u136, u137, u138, u139, u140, u141, u142, u143, u144, u145, u146, u147, u148, u149, u150, u151, u152, u153, u154, u155, u156, u157, u158, u159, u160, u161, u162, u163, u164, u165, u166, u167, u168, u169, u170, u171, u172, u173, u174, u175, u176, u177, u178, u179, u180, u181, u182, u183, u184, u185, u186, u187, u188], defers := [] } w := by
  have HC := hide (crash_lo (b := b) h.env.lim h.env.fits h.ok (by omega) (by omega) h.sure (keep_nil (w := w) (ρ := ρ)))
  have HH := hide h
  have HV := hide hv
  have HEr := hide hE
  unfold pv at HC ⊢
  clear h hE
  dsimp only [seqW, Tryz.f3, Option.getD_some]
  go_wp2_with fail
  refine HC.out.mono ?_
  rintro e w1 ⟨rfl, ρ1, s1, p1, KS, O1, T1, g1, a1, q1⟩
  have HO := hide (opens_lo (cb := false) (K := k + j + 74) (J := 16) HEr.out HH.out.env HH.out.form O1 g1 (fun _ => by rw [a1]; decide) (by omega) (by omega) (by omega) (by omega) KS)
  have F11 := hide (HH.out.f1.turn T1)
  have F21 := hide (HH.out.f2.turn T1)
  unfold pv at HO
  clear HC KS O1 T1 g1 a1 q1
  go_wp2_with fail
  refine HO.out.mono ?_
  rintro e w2 (⟨m, rfl, ρ2, s2, p2, ⟨_, hS⟩, L2, g2, q2, T2⟩ | ⟨_, _, _, _, _, _, _, _, e, _⟩)
  rotate_left
  · cases e
  have F12 := hide (F11.out.turn T2)
  have F22 := hide (F21.out.turn T2)
  have HB2 := hide L2.lg.dk.below
  clear F11 F21 HO q2 T2
  rcases hS with hC | ⟨rfl, hC⟩
  · have HF := hide (files_lo HH.out.env.lim L2 g2 (by omega) hC (after_redo HH.out.env.fits HH.out.redo))
    unfold pv at HF ⊢
    clear L2 hC g2
    go_wp2_with fail
    refine HF.out.mono ?_
    rintro e w3 ⟨vn, vb, ns, bs, rfl, t1, t2, hR, hn, hb3⟩
    obtain ⟨An, cn, rfl, _, _⟩ := t1.form
    obtain ⟨Ab, cb, rfl, _, _⟩ := t2.form
    have F13 := F12.out.then hb3
    have F23 := F22.out.then hb3
    have HB3 := hide (HB2.out.trans (hb3.mono HB2.out.size))
    have HS2 := hide (fun W (hb : Below w3.heap.size w3 W) => same_lo (W := W) (t1.below hb) (t2.below hb) hR hn (F23.t1.below hb) (F23.t2.below hb))
    have k20 : w3.cell? ⟨b2, 0, none⟩ = some un2 := F23.blk.cell 0
    have k21 : w3.cell? ⟨b2, 1, none⟩ = some ub2 := F23.blk.cell 1
    have lt2 : b2 < w3.heap.size := F23.blk.lt
    have hS : decide (ns = l2.map (·.1) ∧ bs = l2.map (·.2)) = true := same_true hR HH.out.rep2
    rw [hS] at HS2
    obtain ⟨N1, hN1⟩ : ∃ N1, ns.length = N1 := ⟨_, rfl⟩
    obtain ⟨N2, hN2⟩ : ∃ N2, bs.length = N2 := ⟨_, rfl⟩
    rw [hN1, hN2] at HS2 ⊢
    clear HF F12 F22 HB2 hb3 t1 t2 hS F13 F23 hN1 hN2 hR hn
    go_wp2_with fail
    refine (HS2.out _ (((Below.refl _ _).alloc (Nat.le_refl _) _))).mono ?_
    rintro e w5 ⟨rfl, hb5⟩
    have HB5 := hide (HB3.out.trans ((((Below.refl w3.heap.size w3).alloc (Nat.le_refl _) _).trans (hb5.mono (by simp))).mono HB3.out.size))
    clear hb5 HB3 HS2 k20 k21
    go_wp2
    go_ret
    exact ⟨rfl, HB5.out⟩
  · obtain rfl : v10 = errV a 7 := by
      rcases HV.out with ⟨e, _⟩ | ⟨_, e⟩
      · cases e
      · exact e
    have HF := hide (files_lo HH.out.env.lim L2 g2 (by omega) hC HH.out.redo)
    unfold pv at HF ⊢
    unfold errV
    clear L2 hC g2 HV hv
    go_wp2_with fail
    refine HF.out.mono ?_
    rintro e w3 ⟨vn, vb, ns, bs, rfl, t1, t2, hR, hn, hb3⟩
    obtain ⟨An, cn, rfl, _, _⟩ := t1.form
    obtain ⟨Ab, cb, rfl, _, _⟩ := t2.form
    have F13 := F12.out.then hb3
    have F23 := F22.out.then hb3
    have HB3 := hide (HB2.out.trans (hb3.mono HB2.out.size))
    have HS1 := hide (fun W (hb : Below w3.heap.size w3 W) => same_lo (W := W) (t1.below hb) (t2.below hb) hR hn (F13.t1.below hb) (F13.t2.below hb))
    have HS2 := hide (fun W (hb : Below w3.heap.size w3 W) => same_lo (W := W) (t1.below hb) (t2.below hb) hR hn (F23.t1.below hb) (F23.t2.below hb))
    have k10 : w3.cell? ⟨b1, 0, none⟩ = some un1 := F13.blk.cell 0
    have k11 : w3.cell? ⟨b1, 1, none⟩ = some ub1 := F13.blk.cell 1
    have lt1 : b1 < w3.heap.size := F13.blk.lt
    have k20 : w3.cell? ⟨b2, 0, none⟩ = some un2 := F23.blk.cell 0
    have k21 : w3.cell? ⟨b2, 1, none⟩ = some ub2 := F23.blk.cell 1
    have lt2 : b2 < w3.heap.size := F23.blk.lt
    have hS : decide (ns = l1.map (·.1) ∧ bs = l1.map (·.2)) = true := same_true hR HH.out.rep1
    rw [hS] at HS1
    obtain ⟨t, ht⟩ : ∃ t, decide (ns = l2.map (·.1) ∧ bs = l2.map (·.2)) = t := ⟨_, rfl⟩
    rw [ht] at HS2
    obtain ⟨N1, hN1⟩ : ∃ N1, ns.length = N1 := ⟨_, rfl⟩
    obtain ⟨N2, hN2⟩ : ∃ N2, bs.length = N2 := ⟨_, rfl⟩
    rw [hN1, hN2] at HS1 HS2 ⊢
    clear HF F12 F22 HB2 hb3 t1 t2 hS ht F13 F23 hN1 hN2 hR hn
    go_wp2_with fail
    refine (HS2.out _ (((Below.refl _ _).alloc (Nat.le_refl _) _))).mono ?_
    rintro e w5 ⟨rfl, hb5⟩
    have hbw : Below w3.heap.size w3 w5 := ((Below.refl w3.heap.size w3).alloc (Nat.le_refl _) _).trans (hb5.mono (by simp))
    have HB5 := hide (HB3.out.trans (hbw.mono HB3.out.size))
    cases t with
    | true =>
      clear hb5 HB3 HS2 k20 k21
      go_wp2
      go_ret
      exact ⟨rfl, HB5.out⟩
    | false =>
      have c10 : w5.cell? ⟨b1, 0, none⟩ = some un1 := (hbw.cell (p := ⟨b1, 0, none⟩) lt1).trans k10
      have c11 : w5.cell? ⟨b1, 1, none⟩ = some ub1 := (hbw.cell (p := ⟨b1, 1, none⟩) lt1).trans k11
      have c30 : w5.cell? ⟨w3.heap.size, 0, none⟩ = some (.slice An N1 cn) := (hb5.cell (p := ⟨w3.heap.size, 0, none⟩) (by simp)).trans (by simp)
      have c31 : w5.cell? ⟨w3.heap.size, 1, none⟩ = some (.slice Ab N2 cb) := (hb5.cell (p := ⟨w3.heap.size, 1, none⟩) (by simp)).trans (by simp)
      have HC1 := hide (HS1.out w5 hbw)
      clear hb5 HB3 HS2 HS1 k20 k21 k10 k11 hbw
      go_wp2_with fail
      refine HC1.out.mono ?_
      rintro e w6 ⟨rfl, hb6⟩
      have HB6 := hide (HB5.out.trans (hb6.mono HB5.out.size))
      clear hb6 HB5 HC1
      go_wp2
      go_ret
      exact ⟨rfl, HB6.out⟩
end Go.Proofs.YthhnlkbjpahjeaaGreatDoor

end
