/- Entries of a file: plain lists of lines. -/
/- A message's header: plain mathematics of lists of lines. -/
import Derived.Test.YtdbmaobjikjifaaGreatDoorRU01
import Derived.Lib.SlTrimSet
section
namespace Go.Proofs.YtdbmaobjikjifaaGreatDoorR
/-- Rows of lines, as a text's lines are: each ends with a byte 10, but for the last one. -/
def LOK : List (List UInt8) → Prop
  | [] => True
  | x :: r => (Term x ∨ (r = [] ∧ x ≠ [] ∧ (10 : UInt8) ∉ x)) ∧ LOK r
theorem LOK.ne {x : List UInt8} {r : List (List UInt8)} (h : LOK (x :: r)) : x ≠ [] := by
  rcases h.1 with h | h
  · exact h.ne
  · exact h.2.1
theorem LOK.right : ∀ {a b : List (List UInt8)}, LOK (a ++ b) → LOK b
  | [], _, h => h
  | _ :: a, _, h => LOK.right (a := a) h.2
theorem LOK.left : ∀ {a b : List (List UInt8)}, LOK (a ++ b) → LOK a
  | [], _, _ => trivial
  | x :: a, b, h => ⟨by
      rcases h.1 with h1 | ⟨h1, h2⟩
      · exact .inl h1
      · exact .inr ⟨(List.append_eq_nil_iff.1 h1).1, h2⟩, LOK.left (a := a) h.2⟩
theorem LOK.term {x : List UInt8} {r : List (List UInt8)} (h : LOK (x :: r)) (hr : r ≠ []) : Term x := by
  rcases h.1 with h | h
  · exact h
  · exact (hr h.1).elim
theorem LOK.of_terms : ∀ {xs : List (List UInt8)}, (∀ x ∈ xs, Term x) → LOK xs
  | [], _ => trivial
  | x :: r, h => ⟨.inl (h x (by simp)), LOK.of_terms fun y hy => h y (by simp [hy])⟩
theorem LOK.split : ∀ {xs : List (List UInt8)}, LOK xs → splitS xs.flatten = xs
  | [], _ => by rw [List.flatten_nil, splitS]
  | x :: r, h => by
    rcases h.1 with ⟨p, rfl, hp⟩ | ⟨rfl, h1, h2⟩
    · rw [List.flatten_cons, List.append_assoc]
      show splitS (p ++ 10 :: r.flatten) = _
      rw [splitS_mid p _ hp, h.2.split]
    · rw [List.flatten_cons, List.flatten_nil, List.append_nil, splitS_end x h2 h1]
theorem lok_split (n : Nat) : ∀ (s : List UInt8), s.length ≤ n → LOK (splitS s) := by
  induction n with
  | zero =>
    intro s h
    have : s = [] := List.eq_nil_of_length_eq_zero (by omega)
    subst this
    rw [splitS]; trivial
  | succ n ih =>
    intro s h
    by_cases h0 : s = []
    · subst h0; rw [splitS]; trivial
    · cases hc : cut10 s with
      | none => rw [splitS_end s (cut10_none hc) h0]; exact ⟨.inr ⟨rfl, h0, cut10_none hc⟩, trivial⟩
      | some pr =>
        obtain ⟨p, r⟩ := pr
        obtain ⟨rfl, hp⟩ := cut10_some hc
        rw [splitS_mid p r hp]
        exact ⟨.inl ⟨p, rfl, hp⟩, ih r (by simp at h; omega)⟩
theorem lok (s : List UInt8) : LOK (splitS s) := lok_split s.length s (Nat.le_refl _)
/-- Lines in groups: those ahead of the first one that looks like a separator, and of each such line those behind it. -/
def grp : List (List UInt8) → List (List UInt8) × List (List UInt8 × List (List UInt8))
  | [] => ([], [])
  | x :: r => if sepB x then ([], (x, (grp r).1) :: (grp r).2) else (x :: (grp r).1, (grp r).2)
theorem grp_sep {x : List UInt8} {r : List (List UInt8)} (h : sepB x = true) : grp (x :: r) = ([], (x, (grp r).1) :: (grp r).2) := by rw [grp, if_pos h]
theorem grp_non {x : List UInt8} {r : List (List UInt8)} (h : sepB x = false) : grp (x :: r) = (x :: (grp r).1, (grp r).2) := by rw [grp, if_neg (by rw [h]; simp)]
theorem grp_run : ∀ (c r : List (List UInt8)), (∀ x ∈ c, sepB x = false) → grp (c ++ r) = (c ++ (grp r).1, (grp r).2)
  | [], r, _ => rfl
  | x :: c, r, h => by
    rw [List.cons_append, grp_non (h x (by simp)), grp_run c r fun y hy => h y (by simp [hy])]
    rfl
def flatG (gs : List (List UInt8 × List (List UInt8))) : List UInt8 := (gs.map fun g => g.1 ++ g.2.flatten).flatten
theorem flatG_cons (g : List UInt8 × List (List UInt8)) (gs : List (List UInt8 × List (List UInt8))) : flatG (g :: gs) = g.1 ++ g.2.flatten ++ flatG gs := by simp [flatG]
theorem flatG_app (a b : List (List UInt8 × List (List UInt8))) : flatG (a ++ b) = flatG a ++ flatG b := by simp [flatG]
theorem grp_flat : ∀ (r : List (List UInt8)), (grp r).1.flatten ++ flatG (grp r).2 = r.flatten
  | [] => rfl
  | x :: r => by
    have ih := grp_flat r
    cases h : sepB x with
    | true => rw [grp_sep h, flatG_cons]; simp [← ih]
    | false => rw [grp_non h]; simp [← ih]
theorem grp_none : ∀ {r : List (List UInt8)}, grp r = ([], []) → r = []
  | [], _ => rfl
  | x :: r, h => by
    cases hx : sepB x with
    | true => rw [grp_sep hx] at h; simp at h
    | false => rw [grp_non hx] at h; simp at h
theorem grp_snoc_sep : ∀ (p : List (List UInt8)) {x : List UInt8}, sepB x = true → grp (p ++ [x]) = ((grp p).1, (grp p).2 ++ [(x, [])])
  | [], x, h => by rw [List.nil_append, grp_sep h]; rfl
  | y :: p, x, h => by
    have ih := grp_snoc_sep p h
    cases hy : sepB y with
    | true => rw [List.cons_append, grp_sep hy, grp_sep hy, ih]; rfl
    | false => rw [List.cons_append, grp_non hy, grp_non hy, ih]
/-- A line more to the last group. -/
theorem grp_snoc_non : ∀ (p : List (List UInt8)) {x : List UInt8} {gs : List (List UInt8 × List (List UInt8))} {y : List UInt8} {b : List (List UInt8)}, sepB x = false → (grp p).2 = gs ++ [(y, b)] → grp (p ++ [x]) = ((grp p).1, gs ++ [(y, b ++ [x])])
  | [], x, gs, y, b, _, h => by simp [grp] at h
  | z :: p, x, gs, y, b, hx, h => by
    cases hz : sepB z with
    | true =>
      rw [grp_sep hz] at h
      rw [List.cons_append, grp_sep hz, grp_sep hz]
      cases gs with
      | nil =>
        simp only [List.nil_append, List.cons.injEq, Prod.mk.injEq] at h
        obtain ⟨⟨rfl, rfl⟩, hn⟩ := h
        have hp : ∀ x ∈ p, sepB x = false := by
          intro q hq
          cases hs : sepB q with
          | false => rfl
          | true =>
            obtain ⟨a, c, rfl⟩ := List.append_of_mem hq
            exfalso
            have : ∀ a : List (List UInt8), (grp (a ++ q :: c)).2 ≠ [] := by
              intro a
              induction a with
              | nil => rw [List.nil_append, grp_sep hs]; simp
              | cons t a ih =>
                cases ht : sepB t with
                | true => rw [List.cons_append, grp_sep ht]; simp
                | false => rw [List.cons_append, grp_non ht]; exact ih
            exact this a hn
        have e1 := grp_run p [x] hp
        have e2 := grp_run p [] hp
        rw [List.append_nil] at e2
        rw [e1, e2, grp_non hx]
        simp [grp]
      | cons g gs =>
        simp only [List.cons_append, List.cons.injEq] at h
        obtain ⟨rfl, h2⟩ := h
        rw [grp_snoc_non p hx h2]
        rfl
    | false =>
      rw [grp_non hz] at h
      rw [List.cons_append, grp_non hz, grp_non hz, grp_snoc_non p hx h]
/-- Where the entries stand: an entry's Head, Body and End. -/
structure Sp where
  h : Nat
  b : Nat
  e : Nat
def spans : Nat → List (List UInt8 × List (List UInt8)) → List Sp
  | _, [] => []
  | a, g :: gs => ⟨a, a + g.1.length, a + g.1.length + g.2.flatten.length⟩ :: spans (a + g.1.length + g.2.flatten.length) gs
theorem spans_app : ∀ (a : Nat) (p q : List (List UInt8 × List (List UInt8))), spans a (p ++ q) = spans a p ++ spans (a + (flatG p).length) q
  | a, [], q => by simp [spans, flatG]
  | a, g :: p, q => by
    rw [List.cons_append, spans, spans, spans_app, flatG_cons, List.cons_append]
    simp [Nat.add_assoc]
theorem spans_len : ∀ (a : Nat) (p : List (List UInt8 × List (List UInt8))), (spans a p).length = p.length
  | _, [] => rfl
  | a, g :: p => by rw [spans, List.length_cons, spans_len, List.length_cons]
def okG (gs : List (List UInt8 × List (List UInt8))) : Bool := gs.all fun g => g.2.flatten.getLast? == some 10
/-- What Scan answers of lines from a place on. -/
def restV (a : Nat) (r : List (List UInt8)) : Option (List Sp) := if (grp r).1 = [] ∧ okG (grp r).2 = true then some (spans a (grp r).2) else none
def scanV (s : List UInt8) : Option (List Sp) := restV 0 (splitS s)
/-- What stands from Body to End. -/
def cutB (s : List UInt8) (p : Sp) : List UInt8 := (s.drop p.b).take (p.e - p.b)
theorem spans_cut : ∀ (gs : List (List UInt8 × List (List UInt8))) (p q : List UInt8), (spans p.length gs).map (cutB (p ++ flatG gs ++ q)) = gs.map fun g => g.2.flatten
  | [], _, _ => rfl
  | g :: gs, p, q => by
    rw [spans, List.map_cons, List.map_cons]
    have ih := spans_cut gs (p ++ (g.1 ++ g.2.flatten)) q
    rw [List.length_append, List.length_append, ← Nat.add_assoc] at ih
    have e : p ++ (g.1 ++ g.2.flatten) ++ flatG gs ++ q = p ++ flatG (g :: gs) ++ q := by rw [flatG_cons]; simp
    rw [e] at ih
    rw [ih]
    congr 1
    unfold cutB
    show ((p ++ flatG (g :: gs) ++ q).drop (p.length + g.1.length)).take (p.length + g.1.length + g.2.flatten.length - (p.length + g.1.length)) = g.2.flatten
    have e2 : p ++ flatG (g :: gs) ++ q = (p ++ g.1) ++ (g.2.flatten ++ (flatG gs ++ q)) := by rw [flatG_cons]; simp
    rw [e2, List.drop_left' (by simp), Nat.add_sub_cancel_left, List.take_left' rfl]
/-- What stands from Head to End. -/
def cutH (s : List UInt8) (p : Sp) : List UInt8 := (s.drop p.h).take (p.e - p.h)
theorem spans_head : ∀ (gs : List (List UInt8 × List (List UInt8))) (p q : List UInt8), (spans p.length gs).map (cutH (p ++ flatG gs ++ q)) = gs.map fun g => g.1 ++ g.2.flatten
  | [], _, _ => rfl
  | g :: gs, p, q => by
    rw [spans, List.map_cons, List.map_cons]
    have ih := spans_head gs (p ++ (g.1 ++ g.2.flatten)) q
    rw [List.length_append, List.length_append, ← Nat.add_assoc] at ih
    have e : p ++ (g.1 ++ g.2.flatten) ++ flatG gs ++ q = p ++ flatG (g :: gs) ++ q := by rw [flatG_cons]; simp
    rw [e] at ih
    rw [ih]
    congr 1
    unfold cutH
    show ((p ++ flatG (g :: gs) ++ q).drop p.length).take (p.length + g.1.length + g.2.flatten.length - p.length) = g.1 ++ g.2.flatten
    have e2 : p ++ flatG (g :: gs) ++ q = p ++ ((g.1 ++ g.2.flatten) ++ (flatG gs ++ q)) := by rw [flatG_cons]; simp
    rw [e2, List.drop_left' rfl, List.take_left' (by simp; omega)]
/-- Spans lie within the text. -/
theorem spans_in : ∀ (gs : List (List UInt8 × List (List UInt8))) (a : Nat), ∀ p ∈ spans a gs, a ≤ p.h ∧ p.h ≤ p.b ∧ p.b ≤ p.e ∧ p.e ≤ a + (flatG gs).length
  | [], _, p, h => by simp [spans] at h
  | g :: gs, a, p, h => by
    rw [spans, List.mem_cons] at h
    rw [flatG_cons]
    simp only [List.length_append]
    rcases h with rfl | h
    · exact ⟨Nat.le_refl _, by simp, by simp, by simp; omega⟩
    · have := spans_in gs _ p h
      omega
theorem split_flatG {s : List UInt8} (h : (grp (splitS s)).1 = []) : flatG (grp (splitS s)).2 = s := by
  have := grp_flat (splitS s)
  rw [h, splitS_flat] at this
  simpa using this
theorem scan_cut {s : List UInt8} (h : (grp (splitS s)).1 = []) : (spans 0 (grp (splitS s)).2).map (cutB s) = (grp (splitS s)).2.map fun g => g.2.flatten := by
  have := spans_cut (grp (splitS s)).2 [] []
  rw [List.nil_append, List.append_nil, split_flatG h] at this
  exact this
theorem scan_head {s : List UInt8} (h : (grp (splitS s)).1 = []) : (spans 0 (grp (splitS s)).2).map (cutH s) = (grp (splitS s)).2.map fun g => g.1 ++ g.2.flatten := by
  have := spans_head (grp (splitS s)).2 [] []
  rw [List.nil_append, List.append_nil, split_flatG h] at this
  exact this
theorem scan_in {s : List UInt8} (h : (grp (splitS s)).1 = []) : ∀ p ∈ spans 0 (grp (splitS s)).2, p.h ≤ p.b ∧ p.b ≤ p.e ∧ p.e ≤ s.length := by
  intro p hp
  have := spans_in _ 0 p hp
  rw [split_flatG h] at this
  omega
/-- The bodies' lines are lines, and none looks like a separator. -/
theorem grp_bodies : ∀ {r : List (List UInt8)}, LOK r → (LOK (grp r).1 ∧ ∀ x ∈ (grp r).1, sepB x = false) ∧ ∀ g ∈ (grp r).2, LOK g.2 ∧ (∀ x ∈ g.2, sepB x = false) ∧ sepB g.1 = true ∧ (g.2 ≠ [] → Term g.1)
  | [], _ => ⟨⟨trivial, by simp [grp]⟩, by simp [grp]⟩
  | x :: r, h => by
    obtain ⟨⟨i1, i2⟩, i3⟩ := grp_bodies h.2
    cases hx : sepB x with
    | true =>
      rw [grp_sep hx]
      refine ⟨⟨trivial, by simp⟩, ?_⟩
      intro g hg
      rcases List.mem_cons.1 hg with rfl | hg
      · exact ⟨i1, i2, hx, fun hn => h.term (fun e => hn (by rw [e]; rfl))⟩
      · exact i3 g hg
    | false =>
      rw [grp_non hx]
      refine ⟨⟨⟨?_, i1⟩, ?_⟩, i3⟩
      · rcases h.1 with h1 | ⟨rfl, h2⟩
        · exact .inl h1
        · exact .inr ⟨rfl, h2⟩
      · intro y hy
        rcases List.mem_cons.1 hy with rfl | hy
        · exact hx
        · exact i2 y hy
theorem noSep_flat {b : List (List UInt8)} (h : LOK b) (hn : ∀ x ∈ b, sepB x = false) : anySep b.flatten = false := by
  unfold anySep
  rw [h.split]
  simpa [List.any_eq_false] using hn
end Go.Proofs.YtdbmaobjikjifaaGreatDoorR

end
section
namespace Go.Proofs.YtdbmaobjikjifaaGreatDoorR
open Go.RowKit
/-- Bytes without a byte 13 at their end. -/
def cr (p : List UInt8) : List UInt8 := if p.getLast? = some 13 then p.dropLast else p
theorem trimSuffix_cr (p : List UInt8) : Lib.trimSuffix p [13] = cr p := by
  unfold Lib.trimSuffix cr Lib.hasSuffix
  rcases List.eq_nil_or_concat p with rfl | ⟨q, c, rfl⟩
  · rfl
  · by_cases hc : c = 13
    · subst hc
      simp [List.isSuffixOf]
    · have hc2 : ¬ (13 : UInt8) = c := fun e => hc e.symm
      simp [List.isSuffixOf, hc, hc2]
/-- A line's text. -/
def txt (l : List UInt8) : List UInt8 := if l.getLast? = some 10 then cr l.dropLast else l
theorem txt_term (p : List UInt8) : txt (p ++ [10]) = cr p := by
  unfold txt
  simp
theorem txt_open {x : List UInt8} (h : (10 : UInt8) ∉ x) : txt x = x := by
  unfold txt
  rw [if_neg]
  intro e
  exact h (List.mem_of_getLast? e)
theorem txt_nil : txt [] = [] := rfl
theorem cr_len (p : List UInt8) : (cr p).length ≤ p.length := by
  unfold cr
  split <;> simp
theorem txt_len (p : List UInt8) : (txt p).length ≤ p.length := by
  unfold txt
  split
  · have := cr_len p.dropLast
    simp at this
    omega
  · exact Nat.le_refl _
theorem cr_app {p q : List UInt8} (h : p.getLast? ≠ some 13) : cr (p ++ q) = p ++ cr q := by
  rcases List.eq_nil_or_concat q with rfl | ⟨r, c, rfl⟩
  · simp [cr, h]
  · rw [List.concat_eq_append]
    unfold cr
    rw [← List.append_assoc]
    simp only [List.getLast?_append, List.getLast?_singleton, Option.some_or, List.dropLast_concat]
    split <;> simp
theorem txt_app {p q : List UInt8} (h : p.getLast? ≠ some 13) (h2 : p.getLast? ≠ some 10) : txt (p ++ q) = p ++ txt q := by
  rcases List.eq_nil_or_concat q with rfl | ⟨r, c, rfl⟩
  · simp [txt, h2]
  · rw [List.concat_eq_append]
    unfold txt
    rw [← List.append_assoc]
    simp only [List.getLast?_append, List.getLast?_singleton, Option.some_or, List.dropLast_concat]
    split
    · exact cr_app h
    · simp
/-- A line that begins with a blank: it goes on. -/
def blB : List UInt8 → Bool
  | [] => false
  | c :: _ => c == 32 || c == 9
theorem blB_txt {x : List UInt8} (h : blB x = true) : txt x ≠ [] := by
  cases x with
  | nil => cases h
  | cons c r =>
    have h1 : ([c] : List UInt8).getLast? ≠ some 13 := by
      intro e
      simp at e
      subst e
      cases h
    have h2 : ([c] : List UInt8).getLast? ≠ some 10 := by
      intro e
      simp at e
      subst e
      cases h
    have := txt_app (q := r) h1 h2
    simp at this
    rw [this]
    simp
/-- What strings.Cut tells at a byte. -/
def cutV (b : UInt8) : List UInt8 → List UInt8 × List UInt8 × Bool
  | [] => ([], [], false)
  | c :: l => if c = b then ([], l, true) else match cutV b l with | (p, q, f) => (c :: p, q, f)
theorem cutV_out {b : UInt8} : ∀ {l : List UInt8}, b ∉ l → cutV b l = (l, [], false)
  | [], _ => rfl
  | c :: l, h => by
    have h1 := cutV_out (l := l) (fun hp => h (List.mem_cons_of_mem _ hp))
    have hc : c ≠ b := fun e => h (by simp [e])
    rw [cutV, if_neg hc, h1]
theorem cutV_in {b : UInt8} : ∀ {p : List UInt8} (q : List UInt8), b ∉ p → cutV b (p ++ b :: q) = (p, q, true)
  | [], q, _ => by simp [cutV]
  | c :: p, q, h => by
    have h1 := cutV_in (p := p) q (fun hp => h (List.mem_cons_of_mem _ hp))
    have hc : c ≠ b := fun e => h (by simp [e])
    rw [List.cons_append, cutV, if_neg hc, h1]
theorem cutV_inv {b : UInt8} : ∀ {l p q : List UInt8}, cutV b l = (p, q, true) → l = p ++ b :: q ∧ b ∉ p
  | [], p, q, h => by cases h
  | c :: l, p, q, h => by
    rw [cutV] at h
    by_cases hc : c = b
    · rw [if_pos hc] at h
      cases h
      exact ⟨by rw [hc]; rfl, by simp⟩
    · rw [if_neg hc] at h
      cases h1 : cutV b l with
      | mk p' r' =>
        obtain ⟨q', f'⟩ := r'
        rw [h1] at h
        simp only [Prod.mk.injEq] at h
        obtain ⟨rfl, rfl, rfl⟩ := h
        obtain ⟨h2, h3⟩ := cutV_inv h1
        exact ⟨by rw [h2]; rfl, by simp only [List.mem_cons, not_or]; exact ⟨fun e => hc e.symm, h3⟩⟩
theorem cutV_no {b : UInt8} : ∀ {l p q : List UInt8}, cutV b l = (p, q, false) → p = l ∧ b ∉ l
  | [], p, q, h => by cases h; exact ⟨rfl, by simp⟩
  | c :: l, p, q, h => by
    rw [cutV] at h
    by_cases hc : c = b
    · rw [if_pos hc] at h
      cases h
    · rw [if_neg hc] at h
      cases h1 : cutV b l with
      | mk p' r' =>
        obtain ⟨q', f'⟩ := r'
        rw [h1] at h
        simp only [Prod.mk.injEq] at h
        obtain ⟨rfl, rfl, rfl⟩ := h
        obtain ⟨h2, h3⟩ := cutV_no h1
        exact ⟨by rw [h2], by simp only [List.mem_cons, not_or]; exact ⟨fun e => hc e.symm, h3⟩⟩
/-- A byte of a name. -/
def nbB (c : UInt8) : Bool := decide (33 ≤ c.toNat ∧ c.toNat ≤ 126)
/-- The name ahead of a text's first colon. -/
def nameO (t : List UInt8) : Option (List UInt8) := match cutV 58 t with
  | (p, _, f) => if f && !p.isEmpty && p.all nbB then some p else none
theorem nameO_some {t p : List UInt8} (h : nameO t = some p) : ∃ q, t = p ++ 58 :: q ∧ (58 : UInt8) ∉ p ∧ p ≠ [] ∧ p.all nbB = true := by
  unfold nameO at h
  cases h1 : cutV 58 t with
  | mk p' r' =>
    obtain ⟨q', f'⟩ := r'
    rw [h1] at h
    simp only [Option.ite_none_right_eq_some, Option.some.injEq, Bool.and_eq_true, Bool.not_eq_true', List.isEmpty_eq_false_iff] at h
    obtain ⟨⟨⟨rfl, h2⟩, h3⟩, rfl⟩ := h
    obtain ⟨h4, h5⟩ := cutV_inv h1
    exact ⟨q', h4, h5, h2, h3⟩
theorem nameO_of {p q : List UInt8} (h1 : (58 : UInt8) ∉ p) (h2 : p ≠ []) (h3 : p.all nbB = true) : nameO (p ++ 58 :: q) = some p := by
  unfold nameO
  rw [cutV_in q h1]
  simp [h2, h3]
/-- A field. -/
structure Fd where
  name : List UInt8
  value : List UInt8
  from' : Nat
  to : Nat
/-- The text of some lines, without blanks at its ends. -/
def valB (s : List UInt8) : List UInt8 := Lib.trimS ((splitS s).map txt).flatten [32, 9]
def fdOf (x : List UInt8) (g : List (List UInt8)) (at' : Nat) : Option Fd :=
  (nameO (txt x)).map fun p => ⟨p, Lib.trimS ((txt x).drop (p.length + 1) ++ (g.map txt).flatten) [32, 9], at', at' + x.length + g.flatten.length⟩
/-- Fields of lines, the first of which begins at a place; where the body begins. -/
def hdF : Nat → List (List UInt8) → Nat → List Fd × Nat
  | 0, _, at' => ([], at')
  | _ + 1, [], at' => ([], at')
  | n + 1, x :: r, at' => if txt x = [] then ([], at' + x.length) else
    ((fdOf x (r.takeWhile blB) at').toList ++ (hdF n (r.dropWhile blB) (at' + x.length + (r.takeWhile blB).flatten.length)).1,
      (hdF n (r.dropWhile blB) (at' + x.length + (r.takeWhile blB).flatten.length)).2)
def bodyL : List (List UInt8) → Nat → Nat
  | [], at' => at'
  | x :: r, at' => if txt x = [] then at' + x.length else bodyL r (at' + x.length)
theorem bodyL_skip : ∀ (r : List (List UInt8)) (at' : Nat), bodyL (r.dropWhile blB) (at' + (r.takeWhile blB).flatten.length) = bodyL r at'
  | [], _ => rfl
  | x :: r, at' => by
    by_cases h : blB x = true
    · rw [List.dropWhile_cons_of_pos h, List.takeWhile_cons_of_pos h, bodyL, if_neg (blB_txt h), ← bodyL_skip r, List.flatten_cons, List.length_append, Nat.add_assoc]
    · rw [List.dropWhile_cons_of_neg h, List.takeWhile_cons_of_neg h]
      rfl
theorem dropWhile_len (r : List (List UInt8)) : (r.dropWhile blB).length ≤ r.length := by
  have := congrArg List.length (List.takeWhile_append_dropWhile (p := blB) (l := r))
  rw [List.length_append] at this
  omega
theorem hdF_body : ∀ (n : Nat) (ls : List (List UInt8)) (at' : Nat), ls.length ≤ n → (hdF n ls at').2 = bodyL ls at'
  | 0, [], _, _ => rfl
  | _ + 1, [], _, _ => rfl
  | n + 1, x :: r, at', h => by
    rw [hdF, bodyL]
    split
    · rfl
    · have := dropWhile_len r
      simp at h
      show (hdF n _ _).2 = _
      rw [hdF_body n _ _ (by omega), bodyL_skip]
theorem hdF_fuel : ∀ (n k : Nat) (ls : List (List UInt8)) (at' : Nat), ls.length ≤ n → ls.length ≤ k → hdF n ls at' = hdF k ls at'
  | 0, 0, _, _, _, _ => rfl
  | 0, _ + 1, [], _, _, _ => rfl
  | _ + 1, 0, [], _, _, _ => rfl
  | _ + 1, _ + 1, [], _, _, _ => rfl
  | n + 1, k + 1, x :: r, at', h, h2 => by
    rw [hdF, hdF]
    have := dropWhile_len r
    simp at h h2
    rw [hdF_fuel n k _ _ (by omega) (by omega)]
/-- Fields of lines, and where the body begins. -/
def hd (ls : List (List UInt8)) (at' : Nat) : List Fd × Nat := hdF ls.length ls at'
theorem hd_nil (at' : Nat) : hd [] at' = ([], at') := rfl
theorem hd_stop {x : List UInt8} {r : List (List UInt8)} {at' : Nat} (h : txt x = []) : hd (x :: r) at' = ([], at' + x.length) := by
  unfold hd
  rw [List.length_cons, hdF, if_pos h]
theorem hd_cons {x : List UInt8} {r : List (List UInt8)} {at' : Nat} (h : txt x ≠ []) : hd (x :: r) at' =
    ((fdOf x (r.takeWhile blB) at').toList ++ (hd (r.dropWhile blB) (at' + x.length + (r.takeWhile blB).flatten.length)).1,
      (hd (r.dropWhile blB) (at' + x.length + (r.takeWhile blB).flatten.length)).2) := by
  unfold hd
  rw [List.length_cons, hdF, if_neg h, hdF_fuel _ (r.dropWhile blB).length _ _ (dropWhile_len r) (Nat.le_refl _)]
theorem hd_body (ls : List (List UInt8)) (at' : Nat) : (hd ls at').2 = bodyL ls at' := hdF_body _ _ _ (Nat.le_refl _)
theorem hd_count : ∀ (n : Nat) (ls : List (List UInt8)) (at' : Nat), ls.length ≤ n → (hd ls at').1.length ≤ ls.length
  | _, [], _, _ => Nat.le_refl _
  | n + 1, x :: r, at', h => by
    by_cases hx : txt x = []
    · rw [hd_stop hx]
      simp
    · rw [hd_cons hx]
      have h1 := dropWhile_len r
      simp at h
      have h2 := hd_count n (r.dropWhile blB) (at' + x.length + (r.takeWhile blB).flatten.length) (by omega)
      have h3 : ∀ o : Option Fd, o.toList.length ≤ 1 := fun o => by cases o <;> simp
      have h4 := h3 (fdOf x (r.takeWhile blB) at')
      simp only [List.length_append, List.length_cons]
      omega
/-- What the program reads as a field's value is what the words ask. -/
theorem val_field {x p : List UInt8} {g : List (List UInt8)} (hl : LOK (x :: g)) (hn : nameO (txt x) = some p) :
    valB (x.drop (p.length + 1) ++ g.flatten) = Lib.trimS ((txt x).drop (p.length + 1) ++ (g.map txt).flatten) [32, 9] ∧ p = x.take p.length ∧ p.length + 1 ≤ x.length := by
  obtain ⟨q, hq, _, _, hall⟩ := nameO_some hn
  have hx : ∃ y, x = (p ++ [58]) ++ y := by
    rcases hl.1 with ⟨z, rfl, hz⟩ | ⟨_, _, h10⟩
    · rw [txt_term] at hq
      unfold cr at hq
      split at hq
      · refine ⟨q ++ [13, 10], ?_⟩
        next h13 =>
        have hz2 : z ≠ [] := by rintro rfl; cases h13
        have h4 := List.dropLast_concat_getLast hz2
        rw [List.getLast?_eq_some_getLast hz2] at h13
        rw [Option.some.inj h13, hq] at h4
        rw [← h4]
        simp
      · exact ⟨q ++ [10], by rw [hq]; simp⟩
    · rw [txt_open h10] at hq
      exact ⟨q, by rw [hq]; simp⟩
  obtain ⟨y, rfl⟩ := hx
  have e1 : ((p ++ [58]) ++ y).drop (p.length + 1) = y := by
    rw [List.drop_append, List.drop_of_length_le (by simp)]
    simp
  have e2 : txt ((p ++ [58]) ++ y) = (p ++ [58]) ++ txt y := txt_app (by simp) (by simp)
  have e3 : ((p ++ [58]) ++ txt y).drop (p.length + 1) = txt y := by
    rw [List.drop_append, List.drop_of_length_le (by simp)]
    simp
  refine ⟨?_, by rw [List.append_assoc, List.take_left' rfl], by simp⟩
  rw [e1, e2, e3]
  unfold valB
  have key : ((splitS (y ++ g.flatten)).map txt).flatten = txt y ++ (g.map txt).flatten := by
    rcases hl.1 with ⟨z, hz, h10⟩ | ⟨rfl, _, h10⟩
    · have hy : Term y := by
        rcases List.eq_nil_or_concat y with rfl | ⟨r, c, rfl⟩
        · have := congrArg List.getLast? hz
          simp at this
        · rw [List.concat_eq_append, ← List.append_assoc] at hz
          have h5 := List.append_inj' hz rfl
          have hc : c = 10 := by simpa using h5.2
          refine ⟨r, by rw [hc]; simp, fun hm => h10 ?_⟩
          rw [← h5.1]
          exact List.mem_append_right _ hm
      have h6 : LOK (y :: g) := ⟨.inl hy, hl.2⟩
      have := h6.split
      rw [List.flatten_cons] at this
      rw [this]
      simp
    · simp only [List.flatten_nil, List.append_nil, List.map_nil]
      have hy : (10 : UInt8) ∉ y := fun hm => h10 (List.mem_append_right _ hm)
      by_cases h0 : y = []
      · subst h0
        rfl
      · rw [splitS_end y hy h0]
        simp
  rw [key]
end Go.Proofs.YtdbmaobjikjifaaGreatDoorR

end
