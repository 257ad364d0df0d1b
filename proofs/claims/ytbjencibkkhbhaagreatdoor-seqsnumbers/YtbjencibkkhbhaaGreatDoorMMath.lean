/- Entries of a file: plain lists of lines. -/
import Derived.Test.YtbjencibkkhbhaaGreatDoorQMath
namespace Go.Proofs.YtbjencibkkhbhaaGreatDoor
/-- Rows of lines, as a text's lines are: each ends with a byte 10, but for the last one. -/
def LOK : List (List UInt8) → Prop
  | [] => True
  | x :: r => (Term x ∨ (r = [] ∧ x ≠ [] ∧ (10 : UInt8) ∉ x)) ∧ LOK r
theorem LOK.ne {x : List UInt8} {r : List (List UInt8)} (h : LOK (x :: r)) : x ≠ [] := by
  rcases h.1 with h | h
  · exact h.ne
  · exact h.2.1
theorem LOK.right : ∀ {a b : List (List UInt8)}, LOK (a ++ b) → LOK b
  | [], _, h => h
  | _ :: a, _, h => LOK.right (a := a) h.2
theorem LOK.left : ∀ {a b : List (List UInt8)}, LOK (a ++ b) → LOK a
  | [], _, _ => trivial
  | x :: a, b, h => ⟨by
      rcases h.1 with h1 | ⟨h1, h2⟩
      · exact .inl h1
      · exact .inr ⟨(List.append_eq_nil_iff.1 h1).1, h2⟩, LOK.left (a := a) h.2⟩
theorem LOK.term {x : List UInt8} {r : List (List UInt8)} (h : LOK (x :: r)) (hr : r ≠ []) : Term x := by
  rcases h.1 with h | h
  · exact h
  · exact (hr h.1).elim
theorem LOK.of_terms : ∀ {xs : List (List UInt8)}, (∀ x ∈ xs, Term x) → LOK xs
  | [], _ => trivial
  | x :: r, h => ⟨.inl (h x (by simp)), LOK.of_terms fun y hy => h y (by simp [hy])⟩
theorem LOK.split : ∀ {xs : List (List UInt8)}, LOK xs → splitS xs.flatten = xs
  | [], _ => by rw [List.flatten_nil, splitS]
  | x :: r, h => by
    rcases h.1 with ⟨p, rfl, hp⟩ | ⟨rfl, h1, h2⟩
    · rw [List.flatten_cons, List.append_assoc]
      show splitS (p ++ 10 :: r.flatten) = _
      rw [splitS_mid p _ hp, h.2.split]
    · rw [List.flatten_cons, List.flatten_nil, List.append_nil, splitS_end x h2 h1]
theorem lok_split (n : Nat) : ∀ (s : List UInt8), s.length ≤ n → LOK (splitS s) := by
  induction n with
  | zero =>
    intro s h
    have : s = [] := List.eq_nil_of_length_eq_zero (by omega)
    subst this
    rw [splitS]; trivial
  | succ n ih =>
    intro s h
    by_cases h0 : s = []
    · subst h0; rw [splitS]; trivial
    · cases hc : cut10 s with
      | none => rw [splitS_end s (cut10_none hc) h0]; exact ⟨.inr ⟨rfl, h0, cut10_none hc⟩, trivial⟩
      | some pr =>
        obtain ⟨p, r⟩ := pr
        obtain ⟨rfl, hp⟩ := cut10_some hc
        rw [splitS_mid p r hp]
        exact ⟨.inl ⟨p, rfl, hp⟩, ih r (by simp at h; omega)⟩
theorem lok (s : List UInt8) : LOK (splitS s) := lok_split s.length s (Nat.le_refl _)
/-- Lines in groups: those ahead of the first one that looks like a separator, and of each such line those behind it. -/
def grp : List (List UInt8) → List (List UInt8) × List (List UInt8 × List (List UInt8))
  | [] => ([], [])
  | x :: r => if sepB x then ([], (x, (grp r).1) :: (grp r).2) else (x :: (grp r).1, (grp r).2)
theorem grp_sep {x : List UInt8} {r : List (List UInt8)} (h : sepB x = true) : grp (x :: r) = ([], (x, (grp r).1) :: (grp r).2) := by rw [grp, if_pos h]
theorem grp_non {x : List UInt8} {r : List (List UInt8)} (h : sepB x = false) : grp (x :: r) = (x :: (grp r).1, (grp r).2) := by rw [grp, if_neg (by rw [h]; simp)]
theorem grp_run : ∀ (c r : List (List UInt8)), (∀ x ∈ c, sepB x = false) → grp (c ++ r) = (c ++ (grp r).1, (grp r).2)
  | [], r, _ => rfl
  | x :: c, r, h => by
    rw [List.cons_append, grp_non (h x (by simp)), grp_run c r fun y hy => h y (by simp [hy])]
    rfl
def flatG (gs : List (List UInt8 × List (List UInt8))) : List UInt8 := (gs.map fun g => g.1 ++ g.2.flatten).flatten
theorem flatG_cons (g : List UInt8 × List (List UInt8)) (gs : List (List UInt8 × List (List UInt8))) : flatG (g :: gs) = g.1 ++ g.2.flatten ++ flatG gs := by simp [flatG]
theorem flatG_app (a b : List (List UInt8 × List (List UInt8))) : flatG (a ++ b) = flatG a ++ flatG b := by simp [flatG]
theorem grp_flat : ∀ (r : List (List UInt8)), (grp r).1.flatten ++ flatG (grp r).2 = r.flatten
  | [] => rfl
  | x :: r => by
    have ih := grp_flat r
    cases h : sepB x with
    | true => rw [grp_sep h, flatG_cons]; simp [← ih]
    | false => rw [grp_non h]; simp [← ih]
theorem grp_none : ∀ {r : List (List UInt8)}, grp r = ([], []) → r = []
  | [], _ => rfl
  | x :: r, h => by
    cases hx : sepB x with
    | true => rw [grp_sep hx] at h; simp at h
    | false => rw [grp_non hx] at h; simp at h
theorem grp_snoc_sep : ∀ (p : List (List UInt8)) {x : List UInt8}, sepB x = true → grp (p ++ [x]) = ((grp p).1, (grp p).2 ++ [(x, [])])
  | [], x, h => by rw [List.nil_append, grp_sep h]; rfl
  | y :: p, x, h => by
    have ih := grp_snoc_sep p h
    cases hy : sepB y with
    | true => rw [List.cons_append, grp_sep hy, grp_sep hy, ih]; rfl
    | false => rw [List.cons_append, grp_non hy, grp_non hy, ih]
/-- A line more to the last group. -/
theorem grp_snoc_non : ∀ (p : List (List UInt8)) {x : List UInt8} {gs : List (List UInt8 × List (List UInt8))} {y : List UInt8} {b : List (List UInt8)}, sepB x = false → (grp p).2 = gs ++ [(y, b)] → grp (p ++ [x]) = ((grp p).1, gs ++ [(y, b ++ [x])])
  | [], x, gs, y, b, _, h => by simp [grp] at h
  | z :: p, x, gs, y, b, hx, h => by
    cases hz : sepB z with
    | true =>
      rw [grp_sep hz] at h
      rw [List.cons_append, grp_sep hz, grp_sep hz]
      cases gs with
      | nil =>
        simp only [List.nil_append, List.cons.injEq, Prod.mk.injEq] at h
        obtain ⟨⟨rfl, rfl⟩, hn⟩ := h
        have hp : ∀ x ∈ p, sepB x = false := by
          intro q hq
          cases hs : sepB q with
          | false => rfl
          | true =>
            obtain ⟨a, c, rfl⟩ := List.append_of_mem hq
            exfalso
            have : ∀ a : List (List UInt8), (grp (a ++ q :: c)).2 ≠ [] := by
              intro a
              induction a with
              | nil => rw [List.nil_append, grp_sep hs]; simp
              | cons t a ih =>
                cases ht : sepB t with
                | true => rw [List.cons_append, grp_sep ht]; simp
                | false => rw [List.cons_append, grp_non ht]; exact ih
            exact this a hn
        have e1 := grp_run p [x] hp
        have e2 := grp_run p [] hp
        rw [List.append_nil] at e2
        rw [e1, e2, grp_non hx]
        simp [grp]
      | cons g gs =>
        simp only [List.cons_append, List.cons.injEq] at h
        obtain ⟨rfl, h2⟩ := h
        rw [grp_snoc_non p hx h2]
        rfl
    | false =>
      rw [grp_non hz] at h
      rw [List.cons_append, grp_non hz, grp_non hz, grp_snoc_non p hx h]
/-- Where the entries stand: an entry's Head, Body and End. -/
structure Sp where
  h : Nat
  b : Nat
  e : Nat
def spans : Nat → List (List UInt8 × List (List UInt8)) → List Sp
  | _, [] => []
  | a, g :: gs => ⟨a, a + g.1.length, a + g.1.length + g.2.flatten.length⟩ :: spans (a + g.1.length + g.2.flatten.length) gs
theorem spans_app : ∀ (a : Nat) (p q : List (List UInt8 × List (List UInt8))), spans a (p ++ q) = spans a p ++ spans (a + (flatG p).length) q
  | a, [], q => by simp [spans, flatG]
  | a, g :: p, q => by
    rw [List.cons_append, spans, spans, spans_app, flatG_cons, List.cons_append]
    simp [Nat.add_assoc]
theorem spans_len : ∀ (a : Nat) (p : List (List UInt8 × List (List UInt8))), (spans a p).length = p.length
  | _, [] => rfl
  | a, g :: p => by rw [spans, List.length_cons, spans_len, List.length_cons]
def okG (gs : List (List UInt8 × List (List UInt8))) : Bool := gs.all fun g => g.2.flatten.getLast? == some 10
/-- What Scan answers of lines from a place on. -/
def restV (a : Nat) (r : List (List UInt8)) : Option (List Sp) := if (grp r).1 = [] ∧ okG (grp r).2 = true then some (spans a (grp r).2) else none
def scanV (s : List UInt8) : Option (List Sp) := restV 0 (splitS s)
/-- What stands from Body to End. -/
def cutB (s : List UInt8) (p : Sp) : List UInt8 := (s.drop p.b).take (p.e - p.b)
theorem spans_cut : ∀ (gs : List (List UInt8 × List (List UInt8))) (p q : List UInt8), (spans p.length gs).map (cutB (p ++ flatG gs ++ q)) = gs.map fun g => g.2.flatten
  | [], _, _ => rfl
  | g :: gs, p, q => by
    rw [spans, List.map_cons, List.map_cons]
    have ih := spans_cut gs (p ++ (g.1 ++ g.2.flatten)) q
    rw [List.length_append, List.length_append, ← Nat.add_assoc] at ih
    have e : p ++ (g.1 ++ g.2.flatten) ++ flatG gs ++ q = p ++ flatG (g :: gs) ++ q := by rw [flatG_cons]; simp
    rw [e] at ih
    rw [ih]
    congr 1
    unfold cutB
    show ((p ++ flatG (g :: gs) ++ q).drop (p.length + g.1.length)).take (p.length + g.1.length + g.2.flatten.length - (p.length + g.1.length)) = g.2.flatten
    have e2 : p ++ flatG (g :: gs) ++ q = (p ++ g.1) ++ (g.2.flatten ++ (flatG gs ++ q)) := by rw [flatG_cons]; simp
    rw [e2, List.drop_left' (by simp), Nat.add_sub_cancel_left, List.take_left' rfl]
/-- What stands from Head to End. -/
def cutH (s : List UInt8) (p : Sp) : List UInt8 := (s.drop p.h).take (p.e - p.h)
theorem spans_head : ∀ (gs : List (List UInt8 × List (List UInt8))) (p q : List UInt8), (spans p.length gs).map (cutH (p ++ flatG gs ++ q)) = gs.map fun g => g.1 ++ g.2.flatten
  | [], _, _ => rfl
  | g :: gs, p, q => by
    rw [spans, List.map_cons, List.map_cons]
    have ih := spans_head gs (p ++ (g.1 ++ g.2.flatten)) q
    rw [List.length_append, List.length_append, ← Nat.add_assoc] at ih
    have e : p ++ (g.1 ++ g.2.flatten) ++ flatG gs ++ q = p ++ flatG (g :: gs) ++ q := by rw [flatG_cons]; simp
    rw [e] at ih
    rw [ih]
    congr 1
    unfold cutH
    show ((p ++ flatG (g :: gs) ++ q).drop p.length).take (p.length + g.1.length + g.2.flatten.length - p.length) = g.1 ++ g.2.flatten
    have e2 : p ++ flatG (g :: gs) ++ q = p ++ ((g.1 ++ g.2.flatten) ++ (flatG gs ++ q)) := by rw [flatG_cons]; simp
    rw [e2, List.drop_left' rfl, List.take_left' (by simp; omega)]
/-- Spans lie within the text. -/
theorem spans_in : ∀ (gs : List (List UInt8 × List (List UInt8))) (a : Nat), ∀ p ∈ spans a gs, a ≤ p.h ∧ p.h ≤ p.b ∧ p.b ≤ p.e ∧ p.e ≤ a + (flatG gs).length
  | [], _, p, h => by simp [spans] at h
  | g :: gs, a, p, h => by
    rw [spans, List.mem_cons] at h
    rw [flatG_cons]
    simp only [List.length_append]
    rcases h with rfl | h
    · exact ⟨Nat.le_refl _, by simp, by simp, by simp; omega⟩
    · have := spans_in gs _ p h
      omega
theorem split_flatG {s : List UInt8} (h : (grp (splitS s)).1 = []) : flatG (grp (splitS s)).2 = s := by
  have := grp_flat (splitS s)
  rw [h, splitS_flat] at this
  simpa using this
theorem scan_cut {s : List UInt8} (h : (grp (splitS s)).1 = []) : (spans 0 (grp (splitS s)).2).map (cutB s) = (grp (splitS s)).2.map fun g => g.2.flatten := by
  have := spans_cut (grp (splitS s)).2 [] []
  rw [List.nil_append, List.append_nil, split_flatG h] at this
  exact this
theorem scan_head {s : List UInt8} (h : (grp (splitS s)).1 = []) : (spans 0 (grp (splitS s)).2).map (cutH s) = (grp (splitS s)).2.map fun g => g.1 ++ g.2.flatten := by
  have := spans_head (grp (splitS s)).2 [] []
  rw [List.nil_append, List.append_nil, split_flatG h] at this
  exact this
theorem scan_in {s : List UInt8} (h : (grp (splitS s)).1 = []) : ∀ p ∈ spans 0 (grp (splitS s)).2, p.h ≤ p.b ∧ p.b ≤ p.e ∧ p.e ≤ s.length := by
  intro p hp
  have := spans_in _ 0 p hp
  rw [split_flatG h] at this
  omega
/-- The bodies' lines are lines, and none looks like a separator. -/
theorem grp_bodies : ∀ {r : List (List UInt8)}, LOK r → (LOK (grp r).1 ∧ ∀ x ∈ (grp r).1, sepB x = false) ∧ ∀ g ∈ (grp r).2, LOK g.2 ∧ (∀ x ∈ g.2, sepB x = false) ∧ sepB g.1 = true ∧ (g.2 ≠ [] → Term g.1)
  | [], _ => ⟨⟨trivial, by simp [grp]⟩, by simp [grp]⟩
  | x :: r, h => by
    obtain ⟨⟨i1, i2⟩, i3⟩ := grp_bodies h.2
    cases hx : sepB x with
    | true =>
      rw [grp_sep hx]
      refine ⟨⟨trivial, by simp⟩, ?_⟩
      intro g hg
      rcases List.mem_cons.1 hg with rfl | hg
      · exact ⟨i1, i2, hx, fun hn => h.term (fun e => hn (by rw [e]; rfl))⟩
      · exact i3 g hg
    | false =>
      rw [grp_non hx]
      refine ⟨⟨⟨?_, i1⟩, ?_⟩, i3⟩
      · rcases h.1 with h1 | ⟨rfl, h2⟩
        · exact .inl h1
        · exact .inr ⟨rfl, h2⟩
      · intro y hy
        rcases List.mem_cons.1 hy with rfl | hy
        · exact hx
        · exact i2 y hy
theorem noSep_flat {b : List (List UInt8)} (h : LOK b) (hn : ∀ x ∈ b, sepB x = false) : anySep b.flatten = false := by
  unfold anySep
  rw [h.split]
  simpa [List.any_eq_false] using hn
end Go.Proofs.YtbjencibkkhbhaaGreatDoor
