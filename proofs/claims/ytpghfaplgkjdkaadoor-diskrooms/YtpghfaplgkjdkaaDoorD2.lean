/- A disk: one part of it turns, the others stay. -/
import Derived.Test.YtpghfaplgkjdkaaDoorD1
namespace Go.Proofs.YtpghfaplgkjdkaaDoor
open Go.RowKit Go.Maps
/-- Roles with one block's put in. -/
def putRole (ρ : Nat → Option Role) (G : Option Nat) (r : Role) (k : Nat) : Option Role := if some k = G then some r else ρ k
theorem putRole_at (ρ : Nat → Option Role) (g : Nat) (r : Role) : putRole ρ (some g) r g = some r := if_pos rfl
section
variable {w0 w w' : World} {d : Nat} {ρ ρ' : Nat → Option Role} {s : St} {bn bs bc : Nat} {vs vl : Value} {Gs Gl : Option Nat} {cs : List Value}
theorem DKs.lt (h : DKs w0 w d ρ s bn bs bc vs vl Gs Gl cs) {k : Nat} {r : Role} (hr : ρ k = some r) : k < w.heap.size := (h.low k r hr).2
theorem DKs.off (h : DKs w0 w d ρ s bn bs bc vs vl Gs Gl cs) {k : Nat} (hk : w.heap.size ≤ k) : ρ k = none := by
  cases hr : ρ k with
  | none => rfl
  | some r => have := h.lt hr; omega
theorem keeps_put {G0 G : Option Nat} {r : Role} (h0 : ∀ g, G0 = some g → ρ g = some r) (hl : ∀ k r, ρ k = some r → k < w.heap.size) (hG : G = G0 ∨ ∃ g, G = some g ∧ w.heap.size ≤ g) : Keeps ρ (putRole ρ G r) := by
  intro k r0 hr
  unfold putRole
  split
  · rename_i e
    rcases hG with rfl | ⟨g, rfl, hg⟩
    · rw [← h0 k e.symm, hr]
    · cases e
      have := hl k r0 hr
      omega
  · exact hr
/-- More blocks have roles. -/
theorem DKs.ext (h : DKs w0 w d ρ s bn bs bc vs vl Gs Gl cs) (hk : Keeps ρ ρ') (hl : ∀ k r, ρ' k = some r → w0.heap.size ≤ k ∧ k < w.heap.size) : DKs w0 w d ρ' s bn bs bc vs vl Gs Gl cs where
  below := h.below
  low := hl
  blk := h.blk
  rd := hk _ _ h.rd
  rn := hk _ _ h.rn
  rs := hk _ _ h.rs
  rc := hk _ _ h.rc
  names := h.names
  sure := h.sure
  chg := h.chg
  row := h.row
  rsteps := fun g hg => hk _ _ (h.rsteps g hg)
  lost := h.lost
  rlost := fun g hg => hk _ _ (h.rlost g hg)
  files := fun b fa hb => (h.files b fa hb).keep (S := fun _ => False) (Mvs.refl _ _) (fun _ _ _ _ c => c) (fun k r hr _ => hk k r hr)
  vD := h.vD
  eD := h.eD
/-- The disk's own cells of numbers. -/
theorem DKs.ints (h : DKs w0 w d ρ s bn bs bc vs vl Gs Gl cs) (hm : Mvs (fun k => k = d) w w') (c o st ar : Int) (f : Bool) (q : Int)
    (hb : Blk w' d #[.map (some bn), .map (some bs), vs, .map (some bc), vl, .int .i64 c, .int .i64 o, .int .i64 st, .int .i64 ar, .bool f, .int .i64 q] 49) : DKs w0 w' d ρ { s with created := c, opened := o, steps := st, armed := ar, off := f, quota := q } bn bs bc vs vl Gs Gl cs := by
  have ne : ∀ k r, ρ k = some r → r ≠ .disk → ¬ k = d := fun k r hr h1 e => by subst e; rw [h.rd] at hr; exact h1 (Option.some.inj hr).symm
  exact {
    below := h.below.trans (hm.below (fun k hk c => by have := (h.low d _ h.rd).1; omega) h.below.size)
    low := fun k r hr => ⟨(h.low k r hr).1, Nat.lt_of_lt_of_le (h.low k r hr).2 hm.size⟩
    blk := hb
    rd := h.rd
    rn := h.rn
    rs := h.rs
    rc := h.rc
    names := h.names.mvs hm (ne _ _ h.rn (by simp))
    sure := h.sure.mvs hm (ne _ _ h.rs (by simp))
    chg := h.chg.mvs hm (ne _ _ h.rc (by simp))
    row := h.row.keep hm (fun g hg => ne _ _ (h.rsteps g hg) (by simp))
    rsteps := h.rsteps
    lost := h.lost.keep hm (fun g hg => ne _ _ (h.rlost g hg) (by simp))
    rlost := h.rlost
    files := fun b fa hb => (h.files b fa hb).keep hm (fun k r hr hk => ne _ _ hr (by intro e; subst e; exact hk)) (fun k r hr _ => hr)
    vD := h.vD
    eD := h.eD }
/-- The map of names. -/
theorem DKs.nam (h : DKs w0 w d ρ s bn bs bc vs vl Gs Gl cs) (hm : Mvs (fun k => k = bn) w w') (D' : DataW Unit) (hN : w'.ownsMap Tryd.prog 9 ptrElem bn (s.N + 1) D')
    (hv : ∀ kl b, D'.atKey kl .nil = pd b → (s.φ b).isSome = true) (he : ∀ p ∈ entriesOf D', ∃ b, p.2 = pd b) : DKs w0 w' d ρ { s with D := D', N := s.N + 1 } bn bs bc vs vl Gs Gl cs := by
  have ne : ∀ k r, ρ k = some r → r ≠ .names → ¬ k = bn := fun k r hr h1 e => by subst e; rw [h.rn] at hr; exact h1 (Option.some.inj hr).symm
  exact {
    below := h.below.trans (hm.below (fun k hk c => by have := (h.low bn _ h.rn).1; omega) h.below.size)
    low := fun k r hr => ⟨(h.low k r hr).1, Nat.lt_of_lt_of_le (h.low k r hr).2 hm.size⟩
    blk := hm.blk h.blk (ne _ _ h.rd (by simp))
    rd := h.rd
    rn := h.rn
    rs := h.rs
    rc := h.rc
    names := hN
    sure := (h.sure.mvs hm (ne _ _ h.rs (by simp))).mono (Nat.le_succ _)
    chg := (h.chg.mvs hm (ne _ _ h.rc (by simp))).mono (Nat.le_succ _)
    row := h.row.keep hm (fun g hg => ne _ _ (h.rsteps g hg) (by simp))
    rsteps := h.rsteps
    lost := h.lost.keep hm (fun g hg => ne _ _ (h.rlost g hg) (by simp))
    rlost := h.rlost
    files := fun b fa hb => (h.files b fa hb).keep hm (fun k r hr hk => ne _ _ hr (by intro e; subst e; exact hk)) (fun k r hr _ => hr)
    vD := hv
    eD := he }
/-- The map of files with open steps. -/
theorem DKs.chn (h : DKs w0 w d ρ s bn bs bc vs vl Gs Gl cs) (hm : Mvs (fun k => k = bc) w w') (D' : DataW Unit) (hN : w'.ownsMap Tryd.prog 3 ptrElem bc (s.N + 1) D') : DKs w0 w' d ρ { s with ch := D', N := s.N + 1 } bn bs bc vs vl Gs Gl cs := by
  have ne : ∀ k r, ρ k = some r → r ≠ .changed → ¬ k = bc := fun k r hr h1 e => by subst e; rw [h.rc] at hr; exact h1 (Option.some.inj hr).symm
  exact {
    below := h.below.trans (hm.below (fun k hk c => by have := (h.low bc _ h.rc).1; omega) h.below.size)
    low := fun k r hr => ⟨(h.low k r hr).1, Nat.lt_of_lt_of_le (h.low k r hr).2 hm.size⟩
    blk := hm.blk h.blk (ne _ _ h.rd (by simp))
    rd := h.rd
    rn := h.rn
    rs := h.rs
    rc := h.rc
    names := (h.names.mvs hm (ne _ _ h.rn (by simp))).mono (Nat.le_succ _)
    sure := (h.sure.mvs hm (ne _ _ h.rs (by simp))).mono (Nat.le_succ _)
    chg := hN
    row := h.row.keep hm (fun g hg => ne _ _ (h.rsteps g hg) (by simp))
    rsteps := h.rsteps
    lost := h.lost.keep hm (fun g hg => ne _ _ (h.rlost g hg) (by simp))
    rlost := h.rlost
    files := fun b fa hb => (h.files b fa hb).keep hm (fun k r hr hk => ne _ _ hr (by intro e; subst e; exact hk)) (fun k r hr _ => hr)
    vD := h.vD
    eD := h.eD }
/-- The row of the names' steps, and the disk's own cells. -/
theorem DKs.grow (h : DKs w0 w d ρ s bn bs bc vs vl Gs Gl cs) (hm : Mvs (fun k => some k = Gs ∨ k = d) w w') {n : Nat} {vs' : Value} {G' : Option Nat} {cs' : List Value} (hr : Rw w' 1 vs' n cs' G') (hG : G' = Gs ∨ ∃ g, G' = some g ∧ w.heap.size ≤ g) (o : Int)
    (hb : Blk w' d #[.map (some bn), .map (some bs), vs', .map (some bc), vl, .int .i64 s.created, .int .i64 o, .int .i64 s.steps, .int .i64 s.armed, .bool s.off, .int .i64 s.quota] 49) :
    DKs w0 w' d (putRole ρ G' .nsteps) { s with ns := n, opened := o } bn bs bc vs' vl G' Gl cs' ∧ Keeps ρ (putRole ρ G' .nsteps) := by
  have ne : ∀ k r, ρ k = some r → r ≠ .nsteps → r ≠ .disk → ¬ (some k = Gs ∨ k = d) := fun k r hr h1 h2 e => by
    rcases e with e | e
    · rw [h.rsteps k e.symm] at hr
      exact h1 (Option.some.inj hr).symm
    · subst e
      rw [h.rd] at hr
      exact h2 (Option.some.inj hr).symm
  have hk : Keeps ρ (putRole ρ G' .nsteps) := keeps_put (w := w) h.rsteps (fun k r hr => h.lt hr) hG
  have hw0 := h.below.size
  refine ⟨{
    below := h.below.trans (hm.below (fun k hk c => by
      rcases c with c | c
      · have := (h.low k _ (h.rsteps k c.symm)).1; omega
      · have := (h.low d _ h.rd).1; omega) h.below.size)
    low := fun k r hr1 => by
      unfold putRole at hr1
      split at hr1
      · rename_i e
        have hlt := hr.lt k e.symm
        rcases hG with rfl | ⟨g, rfl, hg⟩
        · exact ⟨(h.low k _ (h.rsteps k e.symm)).1, hlt⟩
        · cases e
          exact ⟨by omega, hlt⟩
      · exact ⟨(h.low k r hr1).1, Nat.lt_of_lt_of_le (h.low k r hr1).2 hm.size⟩
    blk := hb
    rd := hk _ _ h.rd
    rn := hk _ _ h.rn
    rs := hk _ _ h.rs
    rc := hk _ _ h.rc
    names := h.names.mvs hm (ne _ _ h.rn (by simp) (by simp))
    sure := h.sure.mvs hm (ne _ _ h.rs (by simp) (by simp))
    chg := h.chg.mvs hm (ne _ _ h.rc (by simp) (by simp))
    row := hr
    rsteps := fun g hg => by subst hg; exact putRole_at _ _ _
    lost := h.lost.keep hm (fun g hg => ne _ _ (h.rlost g hg) (by simp) (by simp))
    rlost := fun g hg => hk _ _ (h.rlost g hg)
    files := fun b fa hb => (h.files b fa hb).keep hm (fun k r hr hk => ne _ _ hr (by intro e; subst e; exact hk) (by intro e; subst e; exact hk)) (fun k r hr _ => hk k r hr)
    vD := h.vD
    eD := h.eD }, hk⟩
/-- A new file. -/
theorem DKs.addFile (h : DKs w0 w d ρ s bn bs bc vs vl Gs Gl cs) {f : Nat} (hf : ρ f = none) (h0 : w0.heap.size ≤ f) (num : Int) (hb : Blk w f #[.int .i64 num, .slice none 0 0, .slice none 0 0] 56) (hφ : s.φ f = none) :
    DKs w0 w d (putRole ρ (some f) .file) { s with φ := fun b => if b = f then some ⟨num, [], []⟩ else s.φ b } bn bs bc vs vl Gs Gl cs ∧ Keeps ρ (putRole ρ (some f) .file) := by
  have hk : Keeps ρ (putRole ρ (some f) .file) := fun k r hr => by
    unfold putRole
    split
    · rename_i e
      cases e
      rw [hf] at hr
      cases hr
    · exact hr
  have hlow : ∀ k r, putRole ρ (some f) .file k = some r → w0.heap.size ≤ k ∧ k < w.heap.size := fun k r hr => by
    unfold putRole at hr
    split at hr
    · rename_i e
      cases e
      exact ⟨h0, hb.lt⟩
    · exact h.low k r hr
  have h1 := h.ext hk hlow
  exact ⟨{
    below := h1.below
    low := h1.low
    blk := h1.blk
    rd := h1.rd
    rn := h1.rn
    rs := h1.rs
    rc := h1.rc
    names := h1.names
    sure := h1.sure
    chg := h1.chg
    row := h1.row
    rsteps := h1.rsteps
    lost := h1.lost
    rlost := h1.rlost
    files := fun b fa hb1 => by
      simp only at hb1
      split at hb1
      · rename_i e
        subst e
        cases hb1
        exact ⟨_, _, none, none, [], putRole_at _ _ _, hb, Rw.nil _ _, (fun _ h => by cases h), Rw.nil _ _, (fun _ h => by cases h), trivial⟩
      · exact h1.files b fa hb1
    vD := fun kl b hb1 => by
      have := h1.vD kl b hb1
      simp only
      split
      · rfl
      · exact this
    eD := h1.eD }, hk⟩
end
end Go.Proofs.YtpghfaplgkjdkaaDoor
