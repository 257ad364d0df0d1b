/- An actor in memory: a state of the call's own, each list in a block of its own. -/
/- Package post: slices.Clone of its lists. -/
/- Rows of one's own: one cell of one element is written over; which blocks are whose. -/
import Derived.Test.YtdbmaobjikjifaaGreatDoorRU03
import Derived.Test.YtdbmaobjikjifaaGreatDoorRU22
section
set_option linter.unusedVariables false
set_option linter.unusedSimpArgs false
namespace Go.Proofs.YtdbmaobjikjifaaGreatDoorR
open Go.RowKit
/-- A box, with the slice of its messages and the block where they lie. -/
structure BL where
  b : Bx
  v : Value
  G : Option Nat
/-- An item, with the slice of those whom it waits for, and their block. -/
structure QL where
  q : It
  v : Value
  G : Option Nat
def blC (x : BL) : List Value := [.int .i64 x.b.user, .string ⟨x.b.name.toArray⟩, .int .i64 x.b.valid, .int .i64 x.b.next, x.v]
def qlC (x : QL) : List Value := [.int .i64 x.q.id, .string ⟨x.q.frm.toArray⟩, x.v, .int .i64 x.q.born, .int .i64 x.q.tries, .int .i64 x.q.due, .string ⟨x.q.body.toArray⟩]
def msC (m : Msg) : List Value := [.int .i64 m.uid, .int .i64 m.flags, .int .i64 m.date, .string ⟨m.body.toArray⟩]
def sbC (x : Sb) : List Value := [.int .i64 x.user, .string ⟨x.name.toArray⟩]
def inC (x : Int) : List Value := [.int .i64 x]
theorem blC_len (x : BL) : (blC x).length = 5 := rfl
theorem qlC_len (x : QL) : (qlC x).length = 7 := rfl
theorem msC_len (x : Msg) : (msC x).length = 4 := rfl
theorem sbC_len (x : Sb) : (sbC x).length = 2 := rfl
theorem inC_len (x : Int) : (inC x).length = 1 := rfl
/-- An actor, as plain data, with where its lists lie. -/
structure PA where
  lb : List BL
  vb : Value
  gb : Option Nat
  ls : List Sb
  vs : Value
  gs : Option Nat
  lq : List QL
  vq : Value
  gq : Option Nat
  nv : Int
  ni : Int
  a : Ac
  uv : Value
  fv : Value
  us : List Int
  vu : Value
  gu : Option Nat
  n : Int
def PA.cells (p : PA) : Array Value := #[p.vb, p.vs, p.vq, .int .i64 p.nv, .int .i64 p.ni, .int .i64 p.a.kind, .int .i64 p.a.user, .int .i64 p.a.n, .int .i64 p.a.how, .int .i64 p.a.flags, .int .i64 p.a.date, .string ⟨p.a.name.toArray⟩, .string ⟨p.a.dst.toArray⟩, .string ⟨p.a.frm.toArray⟩, .string ⟨p.a.body.toArray⟩, p.uv, p.fv, p.vu, .int .i64 p.n]
def PA.st (p : PA) : Stt := ⟨p.lb.map BL.b, p.ls, p.lq.map QL.q, p.nv, p.ni⟩
/-- No two of these blocks are one. -/
def Sep (l : List (Option Nat)) : Prop := l.Pairwise fun a b => ∀ g, a = some g → b ≠ some g
def PA.blocks (p : PA) : List (Option Nat) := p.gb :: p.gs :: p.gq :: p.gu :: (p.lb.map BL.G ++ p.lq.map QL.G)
/-- The actor at block X of w; w0 is the world of before. -/
structure AS (w0 w : World) (X : Nat) (p : PA) : Prop where
  bel : Below w0.heap.size w0 w
  hX : w0.heap.size ≤ X
  blk : Blk w X p.cells 59
  rb : Rw w 5 p.vb p.lb.length (p.lb.flatMap blC) p.gb
  rs : Rw w 2 p.vs p.ls.length (p.ls.flatMap sbC) p.gs
  rq : Rw w 7 p.vq p.lq.length (p.lq.flatMap qlC) p.gq
  ru : Rw w 1 p.vu p.us.length (p.us.flatMap inC) p.gu
  rm : ∀ x ∈ p.lb, Rw w 4 x.v x.b.msgs.length (x.b.msgs.flatMap msC) x.G
  rf : ∀ x ∈ p.lq, Rw w 1 x.v x.q.fr.length (x.q.fr.flatMap inC) x.G
  own : ∀ g, some g ∈ p.blocks → w0.heap.size ≤ g ∧ g ≠ X
  sep : Sep p.blocks
  ua : RdE 1 IntAt w0 p.uv p.a.uids
  fa : RdE 1 IntAt w0 p.fv p.a.fr
section
variable {α : Type} {f : α → List Value} {sz : Nat} {w : World} {v : Value} {xs : List α} {G : Option Nat}
/-- What a row of one's own reads as, element by element. -/
theorem rw_at (hf : ∀ x, (f x).length = sz) (h : Rw w sz v xs.length (xs.flatMap f) G) : ∃ A cap, v = .slice A xs.length cap ∧ xs.length ≤ maxLen ∧ ∀ i (hi : i < xs.length), ∃ g o, A = some ⟨g, o, none⟩ ∧ G = some g ∧ g < w.heap.size ∧ xs.length ≤ cap ∧ ∀ j, j < sz → w.cell? ⟨g, o + i * sz + j, none⟩ = (f xs[i])[j]? ∧ w.frozen? ⟨g, o + i * sz + j, none⟩ = false := by
  obtain ⟨A, c, rfl⟩ := h.form
  refine ⟨A, c, rfl, h.max, fun i hi => ?_⟩
  rcases h.2 with ⟨_, h0, _⟩ | ⟨g, o, cap, e, hv, h1, h2, h3, h4, h5⟩
  · omega
  · cases hv
    refine ⟨g, o, rfl, e, h3, h1, fun j hj => ?_⟩
    have ha := flat_at hf xs i hi j hj
    have hj' : j < (f xs[i]).length := by rw [hf]; exact hj
    rw [List.getElem?_eq_getElem hj'] at ha
    refine ⟨by rw [Nat.add_assoc, h4 _ _ ha, List.getElem?_eq_getElem hj'], ?_⟩
    rw [Nat.add_assoc]
    refine (h5 _ ?_).2
    have : i * sz + sz ≤ c * sz := by
      have := Nat.mul_le_mul_right sz (show i + 1 ≤ c by omega)
      rwa [Nat.add_mul, Nat.one_mul] at this
    omega
end
section
variable {w0 w w' w1 : World} {X : Nat} {p : PA}
theorem msC_rd {v : Value} {ms : List Msg} {G : Option Nat} (h : Rw w 4 v ms.length (ms.flatMap msC) G) : RdE 4 MsgAt w v ms := by
  obtain ⟨A, c, rfl, _, hk⟩ := rw_at msC_len h
  refine ⟨A, c, rfl, fun i hi => ?_⟩
  obtain ⟨g, o, e, _, hg, _, hc⟩ := hk i hi
  exact ⟨g, o, e, hg, (hc 0 (by omega)).1, (hc 1 (by omega)).1, (hc 2 (by omega)).1, (hc 3 (by omega)).1⟩
theorem inC_rd {v : Value} {xs : List Int} {G : Option Nat} (h : Rw w 1 v xs.length (xs.flatMap inC) G) : RdE 1 IntAt w v xs := by
  obtain ⟨A, c, rfl, _, hk⟩ := rw_at inC_len h
  refine ⟨A, c, rfl, fun i hi => ?_⟩
  obtain ⟨g, o, e, _, hg, _, hc⟩ := hk i hi
  exact ⟨g, o, e, hg, (hc 0 (by omega)).1⟩
theorem sbC_rd {v : Value} {xs : List Sb} {G : Option Nat} (h : Rw w 2 v xs.length (xs.flatMap sbC) G) : RdE 2 SbAt w v xs := by
  obtain ⟨A, c, rfl, _, hk⟩ := rw_at sbC_len h
  refine ⟨A, c, rfl, fun i hi => ?_⟩
  obtain ⟨g, o, e, _, hg, _, hc⟩ := hk i hi
  exact ⟨g, o, e, hg, (hc 0 (by omega)).1, (hc 1 (by omega)).1⟩
theorem blC_rd {v : Value} {lb : List BL} {G : Option Nat} (h : Rw w 5 v lb.length (lb.flatMap blC) G) (hm : ∀ x ∈ lb, RdE 4 MsgAt w x.v x.b.msgs) : RdE 5 BxAt w v (lb.map BL.b) := by
  obtain ⟨A, c, rfl, _, hk⟩ := rw_at blC_len h
  refine ⟨A, c, by rw [List.length_map], fun i hi => ?_⟩
  rw [List.length_map] at hi
  obtain ⟨g, o, e, _, hg, _, hc⟩ := hk i hi
  rw [List.getElem_map]
  exact ⟨g, o, e, hg, (hc 0 (by omega)).1, (hc 1 (by omega)).1, (hc 2 (by omega)).1, (hc 3 (by omega)).1, _, (hc 4 (by omega)).1, hm _ (List.getElem_mem hi)⟩
theorem qlC_rd {v : Value} {lq : List QL} {G : Option Nat} (h : Rw w 7 v lq.length (lq.flatMap qlC) G) (hm : ∀ x ∈ lq, RdE 1 IntAt w x.v x.q.fr) : RdE 7 ItAt w v (lq.map QL.q) := by
  obtain ⟨A, c, rfl, _, hk⟩ := rw_at qlC_len h
  refine ⟨A, c, by rw [List.length_map], fun i hi => ?_⟩
  rw [List.length_map] at hi
  obtain ⟨g, o, e, _, hg, _, hc⟩ := hk i hi
  rw [List.getElem_map]
  exact ⟨g, o, e, hg, (hc 0 (by omega)).1, (hc 1 (by omega)).1, ⟨_, (hc 2 (by omega)).1, hm _ (List.getElem_mem hi)⟩, (hc 3 (by omega)).1, (hc 4 (by omega)).1, (hc 5 (by omega)).1, (hc 6 (by omega)).1⟩
theorem AS.str (h : AS w0 w X p) : StR w (.agg #[p.vb, p.vs, p.vq, .int .i64 p.nv, .int .i64 p.ni]) p.st :=
  ⟨_, _, _, rfl, blC_rd h.rb (fun x hx => msC_rd (h.rm x hx)), sbC_rd h.rs, qlC_rd h.rq (fun x hx => inC_rd (h.rf x hx))⟩
theorem AS.below (h : AS w0 w X p) (hb : Below w.heap.size w w') : AS w0 w' X p := by
  have hm : Mvs (fun _ => False) w w' := Mvs.of_below hb
  have hf : ∀ G : Option Nat, ∀ g, G = some g → ¬ False := fun _ _ _ c => c
  exact ⟨h.bel.trans (hb.mono h.bel.size), h.hX, h.blk.below hb h.blk.lt, h.rb.keep hm (hf _), h.rs.keep hm (hf _), h.rq.keep hm (hf _), h.ru.keep hm (hf _), fun x hx => (h.rm x hx).keep hm (hf _), fun x hx => (h.rf x hx).keep hm (hf _), h.own, h.sep, h.ua, h.fa⟩
/-- A cell of the actor's own is written: what is no list. -/
theorem AS.setX {p' : PA} (h : AS w0 w X p) (i : Nat) (u : Value) (hc : p'.cells = p.cells.setIfInBounds i u) (hp : ∃ nv ni a n, p' = { p with nv := nv, ni := ni, a := a, n := n } ∧ a.uids = p.a.uids ∧ a.fr = p.a.fr) : AS w0 (w.setCell ⟨X, i, none⟩ u) X p' := by
  obtain ⟨nv, ni, a, n, rfl, e1, e2⟩ := hp
  have hm : Mvs (fun k => k = X) w (w.setCell ⟨X, i, none⟩ u) := (Mvs.refl _ _).setCell _ _ (fun _ => rfl)
  have hf : ∀ G : Option Nat, G ∈ p.blocks → ∀ g, G = some g → ¬ g = X := fun G hG g e => by subst e; exact (h.own g hG).2
  have m0 : ∀ x ∈ p.lb, x.G ∈ p.blocks := fun x hx => by unfold PA.blocks; simp; right; right; right; right; left; exact ⟨x, hx, rfl⟩
  have m1 : ∀ x ∈ p.lq, x.G ∈ p.blocks := fun x hx => by unfold PA.blocks; simp; right; right; right; right; right; exact ⟨x, hx, rfl⟩
  refine ⟨h.bel.trans (hm.below (fun k hk e => by have := h.hX; omega) h.bel.size), h.hX, ?_, h.rb.keep hm (hf _ (by simp [PA.blocks])), h.rs.keep hm (hf _ (by simp [PA.blocks])), h.rq.keep hm (hf _ (by simp [PA.blocks])), h.ru.keep hm (hf _ (by simp [PA.blocks])), fun x hx => (h.rm x hx).keep hm (hf _ (m0 x hx)), fun x hx => (h.rf x hx).keep hm (hf _ (m1 x hx)), h.own, h.sep, by rw [e1]; exact h.ua, by rw [e2]; exact h.fa⟩
  rw [hc]
  exact h.blk.set i u
theorem sep_other {l r : List (Option Nat)} {a : Option Nat} (h : Sep (l ++ a :: r)) {b : Option Nat} (hb : b ∈ l ∨ b ∈ r) : ∀ g, b = some g → ¬ some g = a := by
  intro g e1 e2
  subst e1
  subst e2
  unfold Sep at h
  rw [List.pairwise_append] at h
  obtain ⟨h1, h2, h3⟩ := h
  rcases hb with hb | hb
  · exact h3 _ hb _ (by simp) g rfl rfl
  · exact (List.pairwise_cons.1 h2).1 _ hb g rfl rfl
/-- The row of boxes is another one, in its own block or in a new one; each of its boxes has the messages' list of one that was there, or none. -/
theorem AS.boxes {v' : Value} {lb' : List BL} {G' : Option Nat} (h : AS w0 w X p) (hm : Mvs (fun k => some k = p.gb) w w1) (hr : Rw w1 5 v' lb'.length (lb'.flatMap blC) G') (hG : G' = p.gb ∨ ∃ N, G' = some N ∧ w.heap.size ≤ N)
    (hel : ∀ x ∈ lb', (∃ y ∈ p.lb, x.v = y.v ∧ x.G = y.G ∧ x.b.msgs = y.b.msgs) ∨ (x.G = none ∧ x.v = .slice none 0 0 ∧ x.b.msgs = [])) (hs : Sep (lb'.map BL.G)) :
    AS w0 (w1.setCell ⟨X, 0, none⟩ v') X { p with lb := lb', vb := v', gb := G' } := by
  have hsep := h.sep
  have hlt : ∀ g, some g ∈ p.blocks → g < w.heap.size := by
    intro g hg
    unfold PA.blocks at hg
    simp only [List.mem_cons, List.mem_append, List.mem_map] at hg
    rcases hg with e | e | e | e | ⟨x, hx, e⟩ | ⟨x, hx, e⟩
    · exact h.rb.lt g e.symm
    · exact h.rs.lt g e.symm
    · exact h.rq.lt g e.symm
    · exact h.ru.lt g e.symm
    · exact (h.rm x hx).lt g e
    · exact (h.rf x hx).lt g e
  have hgX : ∀ g, G' = some g → w0.heap.size ≤ g ∧ g ≠ X := fun g e => by
    rcases hG with e' | ⟨N, e', hN⟩
    · exact h.own g (by rw [← e, e']; simp [PA.blocks])
    · rw [e] at e'
      cases e'
      exact ⟨Nat.le_trans h.bel.size hN, fun e => by have := h.blk.lt; omega⟩
  have hXb : ¬ some X = p.gb := fun e => (h.own X (by rw [e]; simp [PA.blocks])).2 rfl
  have hsub : ∀ g, some g ∈ lb'.map BL.G → some g ∈ p.lb.map BL.G := fun g hg => by
    obtain ⟨x, hx, e⟩ := List.mem_map.1 hg
    rcases hel x hx with ⟨y, hy, _, e2, _⟩ | ⟨e2, _⟩
    · exact List.mem_map.2 ⟨y, hy, by rw [← e2, e]⟩
    · rw [e2] at e; cases e
  have ho : ∀ b, b ∈ (p.gs :: p.gq :: p.gu :: (p.lb.map BL.G ++ p.lq.map QL.G)) → ∀ g, b = some g → ¬ some g = p.gb := fun b hb => sep_other (l := []) hsep (.inr hb)
  have hm2 : Mvs (fun k => some k = p.gb ∨ k = X) w (w1.setCell ⟨X, 0, none⟩ v') := (hm.mono fun _ _ h => Or.inl h).setCell _ _ (fun _ => Or.inr rfl)
  have hkeep : ∀ b, b ∈ (p.gs :: p.gq :: p.gu :: (p.lb.map BL.G ++ p.lq.map QL.G)) → ∀ g, b = some g → ¬ (some g = p.gb ∨ g = X) := fun b hb g e => by
    rintro (h1 | h1)
    · exact ho b hb g e h1
    · exact (h.own g (by rw [← e]; unfold PA.blocks; exact List.mem_cons_of_mem _ hb)).2 h1
  have hlb : ∀ y ∈ p.lb, y.G ∈ (p.gs :: p.gq :: p.gu :: (p.lb.map BL.G ++ p.lq.map QL.G)) := fun y hy => by simp; right; right; right; left; exact ⟨y, hy, rfl⟩
  have hlq : ∀ y ∈ p.lq, y.G ∈ (p.gs :: p.gq :: p.gu :: (p.lb.map BL.G ++ p.lq.map QL.G)) := fun y hy => by simp; right; right; right; right; exact ⟨y, hy, rfl⟩
  refine ⟨h.bel.trans (hm2.below (fun k hk => ?_) h.bel.size), h.hX, ?_, ?_, h.rs.keep hm2 (hkeep _ (by simp)), h.rq.keep hm2 (hkeep _ (by simp)), h.ru.keep hm2 (hkeep _ (by simp)), fun x hx => ?_, fun x hx => (h.rf x hx).keep hm2 (hkeep _ (hlq x hx)), fun g hg => ?_, ?_, h.ua, h.fa⟩
  · rintro (e | e)
    · have := (h.own k (by rw [e]; simp [PA.blocks])).1
      omega
    · have := h.hX
      omega
  · have := (hm.blk h.blk hXb).set 0 v'
    have e : p.cells.setIfInBounds 0 v' = ({ p with lb := lb', vb := v', gb := G' } : PA).cells := rfl
    rwa [e] at this
  · exact hr.keep ((Mvs.refl (fun k => k = X) _).setCell _ _ (fun _ => rfl)) (fun g e => (hgX g e).2)
  · rcases hel x hx with ⟨y, hy, e1, e2, e3⟩ | ⟨e1, e2, e3⟩
    · rw [e1, e2, e3]
      exact (h.rm y hy).keep hm2 (hkeep _ (hlb y hy))
    · rw [e1, e2, e3]
      exact Rw.nil _ _
  · unfold PA.blocks at hg
    simp only [List.mem_cons, List.mem_append] at hg
    rcases hg with e | e | e | e | e | e
    · exact hgX g e.symm
    · exact h.own g (by rw [e]; simp [PA.blocks])
    · exact h.own g (by rw [e]; simp [PA.blocks])
    · exact h.own g (by rw [e]; simp [PA.blocks])
    · exact h.own g (by unfold PA.blocks; simp only [List.mem_cons, List.mem_append]; exact .inr (.inr (.inr (.inr (.inl (hsub g e))))))
    · exact h.own g (by unfold PA.blocks; simp only [List.mem_cons, List.mem_append]; exact .inr (.inr (.inr (.inr (.inr e)))))
  · unfold Sep PA.blocks at hsep ⊢
    simp only [List.pairwise_cons, List.pairwise_append] at hsep ⊢
    obtain ⟨s1, s2, s3, s4, s5, s6, s7⟩ := hsep
    have sub2 : ∀ a' : Option Nat, a' ∈ lb'.map BL.G ++ p.lq.map QL.G → ∀ g, a' = some g → a' ∈ p.lb.map BL.G ++ p.lq.map QL.G := fun a' ha g e => by
      subst e
      rcases List.mem_append.1 ha with h1 | h1
      · exact List.mem_append.2 (.inl (hsub g h1))
      · exact List.mem_append.2 (.inr h1)
    refine ⟨fun a' ha g e e' => ?_, fun a' ha g e e' => ?_, fun a' ha g e e' => ?_, fun a' ha g e e' => ?_, hs, s6, fun a ha b hb g e e' => ?_⟩
    · subst e'
      have hin : some g ∈ p.gs :: p.gq :: p.gu :: (p.lb.map BL.G ++ p.lq.map QL.G) := by
        simp only [List.mem_cons] at ha ⊢
        rcases ha with ha | ha | ha | ha
        · exact .inl ha
        · exact .inr (.inl ha)
        · exact .inr (.inr (.inl ha))
        · exact .inr (.inr (.inr (sub2 _ ha g rfl)))
      rcases hG with e2 | ⟨N, e2, hN⟩
      · exact ho _ hin g rfl (by rw [← e, e2])
      · rw [e] at e2
        cases e2
        have := hlt g (by unfold PA.blocks; exact List.mem_cons_of_mem _ hin)
        omega
    · subst e'
      refine s2 (some g) ?_ g e rfl
      simp only [List.mem_cons] at ha ⊢
      rcases ha with ha | ha | ha
      · exact .inl ha
      · exact .inr (.inl ha)
      · exact .inr (.inr (sub2 _ ha g rfl))
    · subst e'
      refine s3 (some g) ?_ g e rfl
      simp only [List.mem_cons] at ha ⊢
      rcases ha with ha | ha
      · exact .inl ha
      · exact .inr (sub2 _ ha g rfl)
    · subst e'
      exact s4 (some g) (sub2 _ ha g rfl) g e rfl
    · subst e
      subst e'
      exact s7 (some g) (hsub g ha) (some g) hb g rfl rfl
end
end Go.Proofs.YtdbmaobjikjifaaGreatDoorR

end
section
set_option linter.unusedVariables false
set_option linter.unusedSimpArgs false
namespace Go.Proofs.YtdbmaobjikjifaaGreatDoorR
open Go.RowKit
theorem exists_list {β : Type} {n : Nat} {P : ∀ i, i < n → β → Prop} (h : ∀ i (hi : i < n), ∃ x, P i hi x) : ∃ l : List β, l.length = n ∧ ∀ i (hi : i < n) (hl : i < l.length), P i hi l[i] :=
  ⟨List.ofFn fun i : Fin n => Classical.choose (h i i.2), by simp, fun i hi hl => by rw [List.getElem_ofFn]; exact Classical.choose_spec (h i hi)⟩
theorem src_rows {P : Program} {α : Type} {f : α → List Value} {sz : Nat} {w : World} {t e : TypeId} {A : Option Addr} {a : Addr} {n c : Nat} {xs : List α} (hu : P.underlying t = some (.slice e)) (hf : ∀ x, (f x).length = sz) (hn : n = xs.length) (hA : A = some a)
    (hk : ∀ i (hi : i < xs.length), ∃ g o, A = some ⟨g, o, none⟩ ∧ ∀ j, j < sz → w.cell? ⟨g, o + i * sz + j, none⟩ = (f xs[i])[j]?) (h1 : ∀ x ∈ xs, ∀ u ∈ f x, u.oneCell' = true) : Src P sz t (.slice A n c) n (xs.flatMap f) w := by
  subst hA
  subst hn
  refine Src.ofSlice _ hu a xs.length c _ (by rw [flat_len hf]) (fun j u hj => ?_) (fun u hu => ?_)
  · have hl := (List.getElem?_eq_some_iff.1 hj).1
    rw [flat_len hf] at hl
    have hsz : 0 < sz := by
      rcases Nat.eq_zero_or_pos sz with h | h
      · subst h; simp at hl
      · exact h
    have hi : j / sz < xs.length := (Nat.div_lt_iff_lt_mul hsz).2 hl
    have hm : j % sz < sz := Nat.mod_lt _ hsz
    have e := Nat.div_add_mod j sz
    rw [Nat.mul_comm] at e
    obtain ⟨g, o, e2, hc⟩ := hk _ hi
    cases e2
    rw [Go.WideShapes.add_plain]
    have h2 := flat_at hf xs _ hi _ hm
    rw [e] at h2
    have h3 := hc _ hm
    rw [Nat.add_assoc, e] at h3
    rw [h3, ← h2]
    exact hj
  · obtain ⟨x, hx, hu⟩ := List.mem_flatMap.1 hu
    exact h1 x hx u hu
theorem msC_one (x : Msg) : ∀ u ∈ msC x, u.oneCell' = true := by
  intro u hu
  simp [msC] at hu
  rcases hu with rfl | rfl | rfl | rfl <;> rfl
theorem sbC_one (x : Sb) : ∀ u ∈ sbC x, u.oneCell' = true := by
  intro u hu
  simp [sbC] at hu
  rcases hu with rfl | rfl <;> rfl
theorem inC_one (x : Int) : ∀ u ∈ inC x, u.oneCell' = true := by
  intro u hu
  simp [inC] at hu
  subst hu
  rfl
theorem blC_one (x : BL) (h : ∃ A n c, x.v = .slice A n c) : ∀ u ∈ blC x, u.oneCell' = true := by
  intro u hu
  obtain ⟨A, n, c, e⟩ := h
  simp [blC] at hu
  rcases hu with rfl | rfl | rfl | rfl | rfl
  · rfl
  · rfl
  · rfl
  · rfl
  · rw [e]; rfl
theorem qlC_one (x : QL) (h : ∃ A n c, x.v = .slice A n c) : ∀ u ∈ qlC x, u.oneCell' = true := by
  intro u hu
  obtain ⟨A, n, c, e⟩ := h
  simp [qlC] at hu
  rcases hu with rfl | rfl | rfl | rfl | rfl | rfl | rfl
  · rfl
  · rfl
  · rw [e]; rfl
  · rfl
  · rfl
  · rfl
  · rfl

theorem infoBox : (Tryz.prog.info? 45).map (fun i => (i.zero, i.size, i.bytes)) = some (some (.agg #[.int .i64 0, .string ⟨#[]⟩, .int .i64 0, .int .i64 0, .slice none 0 0]), 5, 64) := by kernel_rfl
set_option maxRecDepth 20000 in
set_option maxHeartbeats 4000000 in
theorem pclBox_any {w : World} {A : Option Addr} {c : Nat} {xs : List BL} (hl : xs.length ≤ 1000000) (hk : ∀ i (hi : i < xs.length), ∃ g o, A = some ⟨g, o, none⟩ ∧ g < w.heap.size ∧ ∀ j, j < 5 → w.cell? ⟨g, o + i * 5 + j, none⟩ = (blC xs[i])[j]?) (h1 : ∀ x ∈ xs, ∀ u ∈ blC x, u.oneCell' = true) :
    Calls Tryz.prog 21 #[.slice A xs.length c] w fun e w' => ∃ v' G, e = .returned v' ∧ Below w.heap.size w w' ∧ Rw w' 5 v' xs.length (xs.flatMap blC) G ∧ ∀ g, G = some g → w.heap.size ≤ g := by
  obtain ⟨i0, hi, hz0, hz1, hz2⟩ := infoP infoBox
  have q : ∀ (w : World) (a : Option Addr) (n c n' c' : Nat), (binOp .eql 24 (.slice a n c) (.slice none n' c')).run Tryz.prog w = .ok (.bool a.isNone) w := fun w a n c n' c' => Lib.run_eql_slice_nil w _ _ a n c n' c' Tryz.underlying24
  cases A with
  | none =>
    have h0 : xs = [] := by
      cases xs with
      | nil => rfl
      | cons x r => obtain ⟨g, o, e, _⟩ := hk 0 (by simp); cases e
    subst h0
    clear hk h1
    simp only [List.length_nil]
    go_enter Tryz.func21, Tryz.ntmps21
    go_wp2
    go_ret
    exact ⟨_, none, rfl, Below.refl _ _, Rw.nil _ _, fun g e => by cases e⟩
  | some a =>
    have HR0 : Hid (Rw (w.alloc (.cells #[] 45)) 5 (.slice (some ⟨w.heap.size, 0, none⟩) 0 0) 0 [] (some w.heap.size)) := ⟨by simp, .inr ⟨_, 0, 0, rfl, rfl, Nat.le_refl _, by simp [maxLen], (Blk.new w _ _).lt, fun j u hu => by simp at hu, fun j hj => by omega⟩⟩
    have HS : Hid (Src Tryz.prog 5 24 (.slice (some a) xs.length c) xs.length (xs.flatMap blC) (w.alloc (.cells #[] 45))) := src_rows Tryz.underlying24 (fun _ => rfl) rfl rfl (fun i hi => by
      obtain ⟨g, o, e, hg, hc⟩ := hk i hi
      exact ⟨g, o, e, fun j hj => by rw [((Below.refl w.heap.size w).alloc (Nat.le_refl _) _).cell hg]; exact hc j hj⟩) h1
    have HB : Hid (Below w.heap.size w (w.alloc (.cells #[] 45))) := (Below.refl w.heap.size w).alloc (Nat.le_refl _) _
    clear hk h1
    obtain ⟨cs, hcs⟩ : ∃ cs, Hid (cs = xs.flatMap blC) := ⟨_, hide rfl⟩
    rw [← hcs.out] at HS ⊢
    generalize xs.length = n at *
    go_enter Tryz.func21, Tryz.ntmps21
    go_wp2_with (at_builtin; (refine wpList_append_rw rfl _ _ 24 24 rfl 45 i0 (.agg #[.int .i64 0, .string ⟨#[]⟩, .int .i64 0, .int .i64 0, .slice none 0 0]) 5 64 Tryz.underlying24 hi hz0 hz1 hz2 rfl rfl HR0.out _ _ _ rfl HS.out (by simp only [maxLen]; omega) (by omega) ?_))
    intro v6 w6 G6 hr6 hm6 hg6
    have HB6 : Hid (Below w.heap.size w w6) := below_mvs HB.out hm6 (fun k hk e => by cases e; omega) (Nat.le_refl _)
    have HR6 := hide hr6
    have HG6 : Hid (∀ g, G6 = some g → w.heap.size ≤ g) := by
      intro g e
      rcases hg6 with h | h
      · rw [h] at e; cases e; exact Nat.le_refl _
      · rw [h] at e; cases e; simp
    clear hr6 hm6 hg6
    go_wp2
    go_ret
    exact ⟨_, _, rfl, HB6.out, HR6.out, HG6.out⟩

theorem infoMessage : (Tryz.prog.info? 47).map (fun i => (i.zero, i.size, i.bytes)) = some (some (.agg #[.int .i64 0, .int .i64 0, .int .i64 0, .string ⟨#[]⟩]), 4, 40) := by kernel_rfl
set_option maxRecDepth 20000 in
set_option maxHeartbeats 4000000 in
theorem pclMessage_any {w : World} {A : Option Addr} {c : Nat} {xs : List Msg} (hl : xs.length ≤ 1000000) (hk : ∀ i (hi : i < xs.length), ∃ g o, A = some ⟨g, o, none⟩ ∧ g < w.heap.size ∧ ∀ j, j < 4 → w.cell? ⟨g, o + i * 4 + j, none⟩ = (msC xs[i])[j]?) (h1 : ∀ x ∈ xs, ∀ u ∈ msC x, u.oneCell' = true) :
    Calls Tryz.prog 22 #[.slice A xs.length c] w fun e w' => ∃ v' G, e = .returned v' ∧ Below w.heap.size w w' ∧ Rw w' 4 v' xs.length (xs.flatMap msC) G ∧ ∀ g, G = some g → w.heap.size ≤ g := by
  obtain ⟨i0, hi, hz0, hz1, hz2⟩ := infoP infoMessage
  have q : ∀ (w : World) (a : Option Addr) (n c n' c' : Nat), (binOp .eql 43 (.slice a n c) (.slice none n' c')).run Tryz.prog w = .ok (.bool a.isNone) w := fun w a n c n' c' => Lib.run_eql_slice_nil w _ _ a n c n' c' Tryz.underlying43
  cases A with
  | none =>
    have h0 : xs = [] := by
      cases xs with
      | nil => rfl
      | cons x r => obtain ⟨g, o, e, _⟩ := hk 0 (by simp); cases e
    subst h0
    clear hk h1
    simp only [List.length_nil]
    go_enter Tryz.func22, Tryz.ntmps22
    go_wp2
    go_ret
    exact ⟨_, none, rfl, Below.refl _ _, Rw.nil _ _, fun g e => by cases e⟩
  | some a =>
    have HR0 : Hid (Rw (w.alloc (.cells #[] 47)) 4 (.slice (some ⟨w.heap.size, 0, none⟩) 0 0) 0 [] (some w.heap.size)) := ⟨by simp, .inr ⟨_, 0, 0, rfl, rfl, Nat.le_refl _, by simp [maxLen], (Blk.new w _ _).lt, fun j u hu => by simp at hu, fun j hj => by omega⟩⟩
    have HS : Hid (Src Tryz.prog 4 43 (.slice (some a) xs.length c) xs.length (xs.flatMap msC) (w.alloc (.cells #[] 47))) := src_rows Tryz.underlying43 (fun _ => rfl) rfl rfl (fun i hi => by
      obtain ⟨g, o, e, hg, hc⟩ := hk i hi
      exact ⟨g, o, e, fun j hj => by rw [((Below.refl w.heap.size w).alloc (Nat.le_refl _) _).cell hg]; exact hc j hj⟩) h1
    have HB : Hid (Below w.heap.size w (w.alloc (.cells #[] 47))) := (Below.refl w.heap.size w).alloc (Nat.le_refl _) _
    clear hk h1
    obtain ⟨cs, hcs⟩ : ∃ cs, Hid (cs = xs.flatMap msC) := ⟨_, hide rfl⟩
    rw [← hcs.out] at HS ⊢
    generalize xs.length = n at *
    go_enter Tryz.func22, Tryz.ntmps22
    go_wp2_with (at_builtin; (refine wpList_append_rw rfl _ _ 43 43 rfl 47 i0 (.agg #[.int .i64 0, .int .i64 0, .int .i64 0, .string ⟨#[]⟩]) 4 40 Tryz.underlying43 hi hz0 hz1 hz2 rfl rfl HR0.out _ _ _ rfl HS.out (by simp only [maxLen]; omega) (by omega) ?_))
    intro v6 w6 G6 hr6 hm6 hg6
    have HB6 : Hid (Below w.heap.size w w6) := below_mvs HB.out hm6 (fun k hk e => by cases e; omega) (Nat.le_refl _)
    have HR6 := hide hr6
    have HG6 : Hid (∀ g, G6 = some g → w.heap.size ≤ g) := by
      intro g e
      rcases hg6 with h | h
      · rw [h] at e; cases e; exact Nat.le_refl _
      · rw [h] at e; cases e; simp
    clear hr6 hm6 hg6
    go_wp2
    go_ret
    exact ⟨_, _, rfl, HB6.out, HR6.out, HG6.out⟩

theorem infoSub : (Tryz.prog.info? 68).map (fun i => (i.zero, i.size, i.bytes)) = some (some (.agg #[.int .i64 0, .string ⟨#[]⟩]), 2, 24) := by kernel_rfl
set_option maxRecDepth 20000 in
set_option maxHeartbeats 4000000 in
theorem pclSub_any {w : World} {A : Option Addr} {c : Nat} {xs : List Sb} (hl : xs.length ≤ 1000000) (hk : ∀ i (hi : i < xs.length), ∃ g o, A = some ⟨g, o, none⟩ ∧ g < w.heap.size ∧ ∀ j, j < 2 → w.cell? ⟨g, o + i * 2 + j, none⟩ = (sbC xs[i])[j]?) (h1 : ∀ x ∈ xs, ∀ u ∈ sbC x, u.oneCell' = true) :
    Calls Tryz.prog 23 #[.slice A xs.length c] w fun e w' => ∃ v' G, e = .returned v' ∧ Below w.heap.size w w' ∧ Rw w' 2 v' xs.length (xs.flatMap sbC) G ∧ ∀ g, G = some g → w.heap.size ≤ g := by
  obtain ⟨i0, hi, hz0, hz1, hz2⟩ := infoP infoSub
  have q : ∀ (w : World) (a : Option Addr) (n c n' c' : Nat), (binOp .eql 25 (.slice a n c) (.slice none n' c')).run Tryz.prog w = .ok (.bool a.isNone) w := fun w a n c n' c' => Lib.run_eql_slice_nil w _ _ a n c n' c' Tryz.underlying25
  cases A with
  | none =>
    have h0 : xs = [] := by
      cases xs with
      | nil => rfl
      | cons x r => obtain ⟨g, o, e, _⟩ := hk 0 (by simp); cases e
    subst h0
    clear hk h1
    simp only [List.length_nil]
    go_enter Tryz.func23, Tryz.ntmps23
    go_wp2
    go_ret
    exact ⟨_, none, rfl, Below.refl _ _, Rw.nil _ _, fun g e => by cases e⟩
  | some a =>
    have HR0 : Hid (Rw (w.alloc (.cells #[] 68)) 2 (.slice (some ⟨w.heap.size, 0, none⟩) 0 0) 0 [] (some w.heap.size)) := ⟨by simp, .inr ⟨_, 0, 0, rfl, rfl, Nat.le_refl _, by simp [maxLen], (Blk.new w _ _).lt, fun j u hu => by simp at hu, fun j hj => by omega⟩⟩
    have HS : Hid (Src Tryz.prog 2 25 (.slice (some a) xs.length c) xs.length (xs.flatMap sbC) (w.alloc (.cells #[] 68))) := src_rows Tryz.underlying25 (fun _ => rfl) rfl rfl (fun i hi => by
      obtain ⟨g, o, e, hg, hc⟩ := hk i hi
      exact ⟨g, o, e, fun j hj => by rw [((Below.refl w.heap.size w).alloc (Nat.le_refl _) _).cell hg]; exact hc j hj⟩) h1
    have HB : Hid (Below w.heap.size w (w.alloc (.cells #[] 68))) := (Below.refl w.heap.size w).alloc (Nat.le_refl _) _
    clear hk h1
    obtain ⟨cs, hcs⟩ : ∃ cs, Hid (cs = xs.flatMap sbC) := ⟨_, hide rfl⟩
    rw [← hcs.out] at HS ⊢
    generalize xs.length = n at *
    go_enter Tryz.func23, Tryz.ntmps23
    go_wp2_with (at_builtin; (refine wpList_append_rw rfl _ _ 25 25 rfl 68 i0 (.agg #[.int .i64 0, .string ⟨#[]⟩]) 2 24 Tryz.underlying25 hi hz0 hz1 hz2 rfl rfl HR0.out _ _ _ rfl HS.out (by simp only [maxLen]; omega) (by omega) ?_))
    intro v6 w6 G6 hr6 hm6 hg6
    have HB6 : Hid (Below w.heap.size w w6) := below_mvs HB.out hm6 (fun k hk e => by cases e; omega) (Nat.le_refl _)
    have HR6 := hide hr6
    have HG6 : Hid (∀ g, G6 = some g → w.heap.size ≤ g) := by
      intro g e
      rcases hg6 with h | h
      · rw [h] at e; cases e; exact Nat.le_refl _
      · rw [h] at e; cases e; simp
    clear hr6 hm6 hg6
    go_wp2
    go_ret
    exact ⟨_, _, rfl, HB6.out, HR6.out, HG6.out⟩

theorem infoItem : (Tryz.prog.info? 71).map (fun i => (i.zero, i.size, i.bytes)) = some (some (.agg #[.int .i64 0, .string ⟨#[]⟩, .slice none 0 0, .int .i64 0, .int .i64 0, .int .i64 0, .string ⟨#[]⟩]), 7, 88) := by kernel_rfl
set_option maxRecDepth 20000 in
set_option maxHeartbeats 4000000 in
theorem pclItem_any {w : World} {A : Option Addr} {c : Nat} {xs : List QL} (hl : xs.length ≤ 1000000) (hk : ∀ i (hi : i < xs.length), ∃ g o, A = some ⟨g, o, none⟩ ∧ g < w.heap.size ∧ ∀ j, j < 7 → w.cell? ⟨g, o + i * 7 + j, none⟩ = (qlC xs[i])[j]?) (h1 : ∀ x ∈ xs, ∀ u ∈ qlC x, u.oneCell' = true) :
    Calls Tryz.prog 24 #[.slice A xs.length c] w fun e w' => ∃ v' G, e = .returned v' ∧ Below w.heap.size w w' ∧ Rw w' 7 v' xs.length (xs.flatMap qlC) G ∧ ∀ g, G = some g → w.heap.size ≤ g := by
  obtain ⟨i0, hi, hz0, hz1, hz2⟩ := infoP infoItem
  have q : ∀ (w : World) (a : Option Addr) (n c n' c' : Nat), (binOp .eql 26 (.slice a n c) (.slice none n' c')).run Tryz.prog w = .ok (.bool a.isNone) w := fun w a n c n' c' => Lib.run_eql_slice_nil w _ _ a n c n' c' Tryz.underlying26
  cases A with
  | none =>
    have h0 : xs = [] := by
      cases xs with
      | nil => rfl
      | cons x r => obtain ⟨g, o, e, _⟩ := hk 0 (by simp); cases e
    subst h0
    clear hk h1
    simp only [List.length_nil]
    go_enter Tryz.func24, Tryz.ntmps24
    go_wp2
    go_ret
    exact ⟨_, none, rfl, Below.refl _ _, Rw.nil _ _, fun g e => by cases e⟩
  | some a =>
    have HR0 : Hid (Rw (w.alloc (.cells #[] 71)) 7 (.slice (some ⟨w.heap.size, 0, none⟩) 0 0) 0 [] (some w.heap.size)) := ⟨by simp, .inr ⟨_, 0, 0, rfl, rfl, Nat.le_refl _, by simp [maxLen], (Blk.new w _ _).lt, fun j u hu => by simp at hu, fun j hj => by omega⟩⟩
    have HS : Hid (Src Tryz.prog 7 26 (.slice (some a) xs.length c) xs.length (xs.flatMap qlC) (w.alloc (.cells #[] 71))) := src_rows Tryz.underlying26 (fun _ => rfl) rfl rfl (fun i hi => by
      obtain ⟨g, o, e, hg, hc⟩ := hk i hi
      exact ⟨g, o, e, fun j hj => by rw [((Below.refl w.heap.size w).alloc (Nat.le_refl _) _).cell hg]; exact hc j hj⟩) h1
    have HB : Hid (Below w.heap.size w (w.alloc (.cells #[] 71))) := (Below.refl w.heap.size w).alloc (Nat.le_refl _) _
    clear hk h1
    obtain ⟨cs, hcs⟩ : ∃ cs, Hid (cs = xs.flatMap qlC) := ⟨_, hide rfl⟩
    rw [← hcs.out] at HS ⊢
    generalize xs.length = n at *
    go_enter Tryz.func24, Tryz.ntmps24
    go_wp2_with (at_builtin; (refine wpList_append_rw rfl _ _ 26 26 rfl 71 i0 (.agg #[.int .i64 0, .string ⟨#[]⟩, .slice none 0 0, .int .i64 0, .int .i64 0, .int .i64 0, .string ⟨#[]⟩]) 7 88 Tryz.underlying26 hi hz0 hz1 hz2 rfl rfl HR0.out _ _ _ rfl HS.out (by simp only [maxLen]; omega) (by omega) ?_))
    intro v6 w6 G6 hr6 hm6 hg6
    have HB6 : Hid (Below w.heap.size w w6) := below_mvs HB.out hm6 (fun k hk e => by cases e; omega) (Nat.le_refl _)
    have HR6 := hide hr6
    have HG6 : Hid (∀ g, G6 = some g → w.heap.size ≤ g) := by
      intro g e
      rcases hg6 with h | h
      · rw [h] at e; cases e; exact Nat.le_refl _
      · rw [h] at e; cases e; simp
    clear hr6 hm6 hg6
    go_wp2
    go_ret
    exact ⟨_, _, rfl, HB6.out, HR6.out, HG6.out⟩

theorem infoint : (Tryz.prog.info? 3).map (fun i => (i.zero, i.size, i.bytes)) = some (some (.int .i64 0), 1, 8) := by kernel_rfl
set_option maxRecDepth 20000 in
set_option maxHeartbeats 4000000 in
theorem pclint_any {w : World} {A : Option Addr} {c : Nat} {xs : List Int} (hl : xs.length ≤ 1000000) (hk : ∀ i (hi : i < xs.length), ∃ g o, A = some ⟨g, o, none⟩ ∧ g < w.heap.size ∧ ∀ j, j < 1 → w.cell? ⟨g, o + i * 1 + j, none⟩ = (inC xs[i])[j]?) (h1 : ∀ x ∈ xs, ∀ u ∈ inC x, u.oneCell' = true) :
    Calls Tryz.prog 25 #[.slice A xs.length c] w fun e w' => ∃ v' G, e = .returned v' ∧ Below w.heap.size w w' ∧ Rw w' 1 v' xs.length (xs.flatMap inC) G ∧ ∀ g, G = some g → w.heap.size ≤ g := by
  obtain ⟨i0, hi, hz0, hz1, hz2⟩ := infoP infoint
  have q : ∀ (w : World) (a : Option Addr) (n c n' c' : Nat), (binOp .eql 34 (.slice a n c) (.slice none n' c')).run Tryz.prog w = .ok (.bool a.isNone) w := fun w a n c n' c' => Lib.run_eql_slice_nil w _ _ a n c n' c' Tryz.underlying34
  cases A with
  | none =>
    have h0 : xs = [] := by
      cases xs with
      | nil => rfl
      | cons x r => obtain ⟨g, o, e, _⟩ := hk 0 (by simp); cases e
    subst h0
    clear hk h1
    simp only [List.length_nil]
    go_enter Tryz.func25, Tryz.ntmps25
    go_wp2
    go_ret
    exact ⟨_, none, rfl, Below.refl _ _, Rw.nil _ _, fun g e => by cases e⟩
  | some a =>
    have HR0 : Hid (Rw (w.alloc (.cells #[] 3)) 1 (.slice (some ⟨w.heap.size, 0, none⟩) 0 0) 0 [] (some w.heap.size)) := ⟨by simp, .inr ⟨_, 0, 0, rfl, rfl, Nat.le_refl _, by simp [maxLen], (Blk.new w _ _).lt, fun j u hu => by simp at hu, fun j hj => by omega⟩⟩
    have HS : Hid (Src Tryz.prog 1 34 (.slice (some a) xs.length c) xs.length (xs.flatMap inC) (w.alloc (.cells #[] 3))) := src_rows Tryz.underlying34 (fun _ => rfl) rfl rfl (fun i hi => by
      obtain ⟨g, o, e, hg, hc⟩ := hk i hi
      exact ⟨g, o, e, fun j hj => by rw [((Below.refl w.heap.size w).alloc (Nat.le_refl _) _).cell hg]; exact hc j hj⟩) h1
    have HB : Hid (Below w.heap.size w (w.alloc (.cells #[] 3))) := (Below.refl w.heap.size w).alloc (Nat.le_refl _) _
    clear hk h1
    obtain ⟨cs, hcs⟩ : ∃ cs, Hid (cs = xs.flatMap inC) := ⟨_, hide rfl⟩
    rw [← hcs.out] at HS ⊢
    generalize xs.length = n at *
    go_enter Tryz.func25, Tryz.ntmps25
    go_wp2_with (at_builtin; (refine wpList_append_rw rfl _ _ 34 34 rfl 3 i0 (.int .i64 0) 1 8 Tryz.underlying34 hi hz0 hz1 hz2 rfl rfl HR0.out _ _ _ rfl HS.out (by simp only [maxLen]; omega) (by omega) ?_))
    intro v6 w6 G6 hr6 hm6 hg6
    have HB6 : Hid (Below w.heap.size w w6) := below_mvs HB.out hm6 (fun k hk e => by cases e; omega) (Nat.le_refl _)
    have HR6 := hide hr6
    have HG6 : Hid (∀ g, G6 = some g → w.heap.size ≤ g) := by
      intro g e
      rcases hg6 with h | h
      · rw [h] at e; cases e; exact Nat.le_refl _
      · rw [h] at e; cases e; simp
    clear hr6 hm6 hg6
    go_wp2
    go_ret
    exact ⟨_, _, rfl, HB6.out, HR6.out, HG6.out⟩
end Go.Proofs.YtdbmaobjikjifaaGreatDoorR

end
section
set_option linter.unusedVariables false
set_option linter.unusedSimpArgs false
namespace Go.Proofs.YtdbmaobjikjifaaGreatDoorR
open Go.RowKit
section
variable {α : Type} {f : α → List Value} {sz : Nat}
theorem flat_set (hf : ∀ x, (f x).length = sz) (xs : List α) (k j : Nat) (hk : k < xs.length) (hj : j < sz) (x' : α) (u : Value) (hx : f x' = (f xs[k]).set j u) : (xs.set k x').flatMap f = (xs.flatMap f).set (k * sz + j) u := by
  apply List.ext_getElem?
  intro m
  rcases Nat.eq_zero_or_pos sz with h0 | hsz
  · omega
  by_cases hm : m < xs.length * sz
  · have hi : m / sz < xs.length := (Nat.div_lt_iff_lt_mul hsz).2 hm
    have hr : m % sz < sz := Nat.mod_lt _ hsz
    have e := Nat.div_add_mod m sz
    rw [Nat.mul_comm] at e
    have a1 := flat_at hf (xs.set k x') (m / sz) (by rw [List.length_set]; exact hi) (m % sz) hr
    have a2 := flat_at hf xs (m / sz) hi (m % sz) hr
    rw [e] at a1 a2
    rw [a1, List.getElem?_set]
    by_cases hmk : m / sz = k
    · by_cases hmj : m % sz = j
      · have : k * sz + j = m := by rw [← hmk, ← hmj]; exact e
        rw [if_pos this, if_pos (by rw [flat_len hf, this]; exact hm)]
        subst hmk
        rw [List.getElem_set_self, hx, hmj, List.getElem?_set_self (by rw [hf]; exact hj)]
      · have : ¬ k * sz + j = m := fun h => by
          have h2 : m % sz = j := by rw [← h, Nat.mul_comm, Nat.mul_add_mod]; exact Nat.mod_eq_of_lt hj
          exact hmj h2
        rw [if_neg this, a2]
        subst hmk
        rw [List.getElem_set_self, hx, List.getElem?_set_ne (fun h => hmj h.symm)]
    · have : ¬ k * sz + j = m := fun h => by
        have h2 : m / sz = k := by rw [← h, Nat.mul_comm, Nat.mul_add_div hsz, Nat.div_eq_of_lt hj]; rfl
        exact hmk h2
      rw [if_neg this, a2, List.getElem_set_ne (fun h => hmk h.symm)]
  · rw [List.getElem?_eq_none (by rw [flat_len hf, List.length_set]; omega), List.getElem?_eq_none (by rw [List.length_set, flat_len hf]; omega)]
/-- One cell of an element is written over. -/
theorem rw_set (hf : ∀ x, (f x).length = sz) {w : World} {xs : List α} {g o cap : Nat} (h : Rw w sz (.slice (some ⟨g, o, none⟩) xs.length cap) xs.length (xs.flatMap f) (some g)) (k j : Nat) (hk : k < xs.length) (hj : j < sz) (x' : α) (u : Value) (hx : f x' = (f xs[k]).set j u) :
    Rw (w.setCell ⟨g, o + k * sz + j, none⟩ u) sz (.slice (some ⟨g, o, none⟩) xs.length cap) xs.length ((xs.set k x').flatMap f) (some g) := by
  rw [flat_set hf xs k j hk hj x' u hx]
  refine ⟨by rw [List.length_set]; exact h.1, ?_⟩
  rcases h.2 with ⟨e, _⟩ | ⟨g', o', cap', e1, e2, h1, h2, h3, h4, h5⟩
  · cases e
  cases e1
  cases e2
  refine .inr ⟨g, o, cap, rfl, rfl, h1, h2, by simpa [World.setCell] using h3, fun m u' hu => ?_, fun m hm => ?_⟩
  · have hl := (List.getElem?_eq_some_iff.1 hu).1
    rw [List.length_set] at hl
    rw [List.getElem?_set] at hu
    by_cases e : k * sz + j = m
    · rw [if_pos e, if_pos (by omega)] at hu
      cases hu
      rw [← e, ← Nat.add_assoc]
      have := h4 m _ (List.getElem?_eq_getElem hl)
      have e2 : o + m = o + k * sz + j := by omega
      rw [e2] at this
      exact World.cell?_setCell_same _ _ _ this
    · rw [if_neg e] at hu
      rw [World.cell?_setCell_other _ ⟨g, o + k * sz + j, none⟩ ⟨g, o + m, none⟩ _ (fun h => by have := congrArg Addr.off h; simp only at this; omega)]
      exact h4 m u' hu
  · rw [World.frozen?_setCell]
    refine ⟨?_, (h5 m hm).2⟩
    by_cases e : k * sz + j = m
    · obtain ⟨y, hy⟩ := Option.isSome_iff_exists.1 (h5 m hm).1
      rw [← e, ← Nat.add_assoc] at hy ⊢
      rw [World.cell?_setCell_same _ _ _ hy]
      rfl
    · rw [World.cell?_setCell_other _ ⟨g, o + k * sz + j, none⟩ ⟨g, o + m, none⟩ _ (fun h => by have := congrArg Addr.off h; simp only at this; omega)]
      exact (h5 m hm).1
end
theorem Sep.perm {l l' : List (Option Nat)} (h : Sep l) (hp : l.Perm l') : Sep l' := (hp.pairwise_iff (fun {a b} hab g e e' => hab g e' e)).1 h
end Go.Proofs.YtdbmaobjikjifaaGreatDoorR

end
