/- A region that draws its order, which reads memory that was there and whose calls may make memory: one walk in the order of the text, in whatever world that keeps the old blocks. -/
/- A region that draws its order, whose first operations read old memory or make new one, and whose number c waits for all of them: one walk of the first ones, in whatever world that keeps the old blocks; then all orders of the rest. -/
/- Entries of a file: plain lists of lines. -/
import Derived.Test.YtbfdbbpkpjgamaaGreatDoorU01
import Derived.Deep.QuietTactic
import Derived.BigQuiet
import Derived.Test.YtbfdbbpkpjgamaaGreatDoorU03
import Derived.Test.YtbfdbbpkpjgamaaGreatDoorU02
section
namespace Go.Proofs.YtbfdbbpkpjgamaaGreatDoor
open Go.RowKit

/-- A world that holds all blocks of W as they were. -/
structure Ext (W : World) where
  w : World
  ok : Below W.heap.size W w

section
variable {P : Program} {W : World}
theorem ext_some (W : World) : Nonempty (Ext W) := ⟨⟨W, Below.refl _ _⟩⟩
theorem ext_cell (W : World) (u : Ext W) (b o : Nat) (h : b < W.heap.size) : u.w.cell? ⟨b, o, none⟩ = W.cell? ⟨b, o, none⟩ := u.ok.cell (p := ⟨b, o, none⟩) h
theorem wp_region_ext {id : Nat} {Q : Exit → Act → World → Prop} {a : Act} {l : List Oper} (hm : P.follows .mixedOrders = true) (hB : Region.lexB .any l.toArray = true)
    (h : wpQuiet P l.toArray (fun w' => ∃ u : Ext W, w' = u.w) (fun a' => ∀ w', (∃ u : Ext W, w' = u.w) → Q .normal a' w') l a) : (Code.region id l.toArray true).wp P Q a W :=
  wp_region_quiet (C := fun w' => ∃ u : Ext W, w' = u.w) hm hB ⟨⟨W.drew, (Below.refl _ _).drew⟩, rfl⟩ (by simpa using h)
/-- A call that makes memory and turns none. -/
theorem ext_call {f : FuncId} {args : Array Value} {u : Ext W} {v : Value} (h : Calls P f args u.w fun e w' => e = .returned v ∧ Below u.w.heap.size u.w w') :
    Calls P f args u.w fun e w'' => e = .returned v ∧ ∃ u' : Ext W, w'' = u'.w :=
  h.mono fun _ w' ⟨he, hb⟩ => ⟨he, ⟨w', u.ok.trans (hb.mono u.ok.size)⟩, rfl⟩
/-- A call that leaves the world as it was. -/
theorem ext_same {f : FuncId} {args : Array Value} {u : Ext W} {v : Value} (h : Calls P f args u.w fun e w' => e = .returned v ∧ w' = u.w) :
    Calls P f args u.w fun e w'' => e = .returned v ∧ ∃ u' : Ext W, w'' = u'.w :=
  h.mono fun _ _ ⟨he, hw⟩ => ⟨he, u, hw⟩
end
end Go.Proofs.YtbfdbbpkpjgamaaGreatDoor

end
section
namespace Go.Proofs.YtbfdbbpkpjgamaaGreatDoor
open Go.RowKit
section
variable {P : Program} {md : Region.Mode} {ops : Array Oper} {c : Nat} {C : World → Prop} {R : Nat → Array Bool → Act → Prop}
/-- All orders until c comes up: then nothing else may. -/
def anyE (P : Program) (md : Region.Mode) (ops : Array Oper) (C : World → Prop) (c : Nat) (R : Nat → Array Bool → Act → Prop) : Nat → Array Bool → Act → Prop
  | 0, _, _ => False
  | f + 1, L, a => (c ∈ Region.ready md ops L → Region.ready md ops L = [c] ∧ R f L a) ∧
    (c ∉ Region.ready md ops L → Region.ready md ops L ≠ [] ∧ ∀ i ∈ Region.ready md ops L, qOp P ops C i (anyE P md ops C c R f (L.setIfInBounds i true)) a)
/-- c waits for i, through operations that have not come up. -/
inductive Chn (md : Region.Mode) (ops : Array Oper) (c : Nat) (L : Array Bool) : Nat → Prop
  | dir {i : Nat} : waits md ops c i = true → Chn md ops c L i
  | step {i k : Nat} : waits md ops k i = true → L.getD k true = false → Chn md ops c L k → Chn md ops c L i
theorem not_ready {L : Array Bool} {j i : Nat} (hw : waits md ops j i = true) (hi : L.getD i true = false) : j ∉ Region.ready md ops L := fun hj => by
  obtain ⟨_, oj, hoj, hall⟩ := mem_ready.1 hj
  unfold waits at hw
  rw [hoj] at hw
  obtain ⟨e, he, h2⟩ := Array.any_eq_true'.1 hw
  simp only [Bool.and_eq_true, beq_iff_eq] at h2
  have h1 := hall e he h2.1
  rw [h2.2] at h1
  rcases Nat.lt_or_ge i L.size with h' | h'
  · simp [h'] at hi h1
    rw [hi] at h1
    cases h1
  · simp [Array.getElem?_eq_none h'] at h1
theorem Chn.no {L : Array Bool} {i : Nat} (h : Chn md ops c L i) : L.getD i true = false → c ∉ Region.ready md ops L := by
  induction h with
  | dir hw => exact fun hi => not_ready hw hi
  | step _ hk _ ih => exact fun _ => ih hk
theorem Chn.next {L : Array Bool} {i j : Nat} (h : Chn md ops c L i) (hj : j ∈ Region.ready md ops L) : L.getD i true = false → Chn md ops c (L.setIfInBounds j true) i := by
  induction h with
  | dir hw => exact fun _ => .dir hw
  | step hw hk _ ih =>
    intro hi
    refine .step hw ?_ (ih hk)
    rw [getD_set_ne true]
    · exact hk
    · rintro rfl
      exact not_ready hw hi hj
theorem anyE_first {i : Nat} {oi : Oper} {v : Value} (hi : ops[i]? = some oi) (hsel : ∀ (j : Nat) (o : Oper) cs b, ops[j]? = some o → o.op ≠ .select cs b) :
    ∀ (f : Nat) (L : Array Bool) (a : Act),
      (∀ j oj, ops[j]? = some oj → j ≠ i → L.getD j true = false → (∀ e ∈ oj.after, Region.binds md e = true → e.on ≠ i) → oi.apart ops oj = true) →
      i ∈ Region.ready md ops L → Chn md ops c L i → YieldsIn P ops C oi v a →
      anyE P md ops C c R f (L.setIfInBounds i true) (a.put oi.dst v) → anyE P md ops C c R (f + 1) L a := by
  intro f
  induction f with
  | zero => intro L a _ _ _ _ H; exact H.elim
  | succ f ih =>
    intro L a hfree hr hch hy H
    have hun := (mem_ready.1 hr).1
    have hnc := hch.no hun
    refine ⟨fun h => absurd h hnc, fun _ => ⟨(fun h => by rw [h] at hr; cases hr), fun j hj => ?_⟩⟩
    by_cases hji : j = i
    · subst hji
      exact hy.qOp hi H
    · have hj1 := ready_mono hj hji
      have hcn : c ∉ Region.ready md ops (L.setIfInBounds i true) := fun hc => by
        have := (H.1 hc).1
        rw [this] at hj1
        have := List.mem_singleton.1 hj1
        subst this
        exact hnc hj
      have h1 := (H.2 hcn).2 j hj1
      obtain ⟨hjun, oj, hoj, hall⟩ := mem_ready.1 hj
      have hnot : ∀ e ∈ oj.after, Region.binds md e = true → e.on ≠ i := fun e he hb heq => by
        have h1 := hall e he hb
        rw [heq] at h1
        rcases Nat.lt_or_ge i L.size with h' | h'
        · simp [h'] at hun h1
          rw [hun] at h1
          cases h1
        · simp [Array.getElem?_eq_none h'] at h1
      have h2 := qOp_put hoj (hfree j oj hoj hji hjun hnot) (fun cs b => hsel i oi cs b hi) (fun cs b => hsel j oj cs b hoj) hy h1
      have hfree' : ∀ k ok, ops[k]? = some ok → k ≠ i → (L.setIfInBounds j true).getD k true = false →
          (∀ e ∈ ok.after, Region.binds md e = true → e.on ≠ i) → oi.apart ops ok = true := fun k ok hk hki hun hno => by
        refine hfree k ok hk hki ?_ hno
        by_cases hjk : j = k
        · subst hjk
          exact hjun
        · rw [getD_set_ne true hjk] at hun
          exact hun
      refine qOp_mono (fun a' h3 => ih (L.setIfInBounds j true) a' hfree' (ready_mono hr (Ne.symm hji)) (hch.next hj hun) h3.1 ?_) h2
      rw [Array.setIfInBounds_comm _ _ hji]
      exact h3.2
/-- The chain, by looking. -/
def chnB (md : Region.Mode) (ops : Array Oper) (c : Nat) (L : Array Bool) : Nat → Nat → Bool
  | 0, i => waits md ops c i
  | n + 1, i => waits md ops c i || (List.range ops.size).any fun k => waits md ops k i && !L.getD k true && chnB md ops c L n k
theorem chnB_spec {L : Array Bool} : ∀ (n i : Nat), chnB md ops c L n i = true → Chn md ops c L i
  | 0, _, h => .dir h
  | n + 1, i, h => by
    unfold chnB at h
    rw [Bool.or_eq_true] at h
    rcases h with h | h
    · exact .dir h
    · obtain ⟨k, _, hk⟩ := List.any_eq_true.1 h
      simp only [Bool.and_eq_true, Bool.not_eq_true'] at hk
      exact .step hk.1.1 hk.1.2 (chnB_spec n k hk.2)
def lexE (md : Region.Mode) (ops : Array Oper) (c n : Nat) : Nat → Nat → Array Bool → Bool
  | 0, _, L => Region.ready md ops L == [c]
  | f + 1, k, L => (Region.ready md ops L).contains k && Region.free md ops L k && chnB md ops c L n k && lexE md ops c n f (k + 1) (L.setIfInBounds k true)
/-- What has come up behind the first ones. -/
def fstL : Nat → Nat → Array Bool → Array Bool
  | 0, _, L => L
  | f + 1, k, L => fstL f (k + 1) (L.setIfInBounds k true)
theorem anyE_lex {n : Nat} (hs : Region.noSelect ops = true) : ∀ (l : List Oper) (k f : Nat) (L : Array Bool) (a : Act), (∀ j o, l[j]? = some o → ops[k + j]? = some o) →
    lexE md ops c n l.length k L = true → wpQuiet P ops C (fun a' => R f (fstL l.length k L) a') l a → anyE P md ops C c R (l.length + (f + 1)) L a
  | [], k, f, L, a, _, hB, h => by
    have hB' : Region.ready md ops L = [c] := by simpa [lexE] using hB
    show anyE P md ops C c R (0 + (f + 1)) L a
    rw [Nat.zero_add]
    exact ⟨fun _ => ⟨hB', h⟩, fun hn => absurd (by rw [hB']; simp) hn⟩
  | o :: l, k, f, L, a, hl, hB, h => by
    have h0 : ops[k]? = some o := by simpa using hl 0 o rfl
    simp only [List.length_cons, lexE, Bool.and_eq_true] at hB
    obtain ⟨⟨⟨hr, hf⟩, hch⟩, hB'⟩ := hB
    have hst : qOp P ops C k (wpQuiet P ops C (fun a' => R f (fstL (l.length + 1) k L) a') l) a := by unfold qOp; simp only [h0]; exact h
    obtain ⟨v, hy, hK⟩ := yieldsIn_of_qOp h0 hst
    have := anyE_first h0 (Region.noSelect_spec hs) (l.length + (f + 1)) L a (Region.free_spec h0 hf) (by simpa using hr) (chnB_spec n k hch) hy
      (anyE_lex (n := n) hs l (k + 1) f _ _ (fun j o hj => by have := hl (j + 1) o hj; rwa [show k + 1 + j = k + (j + 1) by omega]) hB' hK)
    rw [List.length_cons, show l.length + 1 + (f + 1) = l.length + (f + 1) + 1 by omega]
    exact this
theorem any_of_E {Q : Exit → Act → World → Prop} (hR : ∀ f L a w, C w → R f L a → wpAny P md ops Q (f + 1) L a w) : ∀ (f : Nat) (L : Array Bool) (a : Act) (w : World), C w → anyE P md ops C c R f L a → wpAny P md ops Q f L a w
  | 0, _, _, _, _, h => h.elim
  | f + 1, L, a, w, hw, h => by
    by_cases hc : c ∈ Region.ready md ops L
    · exact hR f L a w hw (h.1 hc).2
    · obtain ⟨h1, h2⟩ := h.2 hc
      exact ⟨fun h0 => absurd h0 h1, fun i hi => wpOp_of_qOp hw (fun a' w' hw' => any_of_E hR f _ a' w' hw') (h2 i hi)⟩
/-- The first c operations by one walk; the others, from number c on, in all orders. -/
theorem wp_region_then {W : World} {id : Nat} {Q : Exit → Act → World → Prop} {a : Act} {l : List Oper} (c n f : Nat) (hm : P.follows .mixedOrders = true) (hs : Region.noSelect l.toArray = true) (hf : l.length = c + (f + 1))
    (hB : lexE .any l.toArray c n c 0 (Array.replicate l.length false) = true)
    (h : wpQuiet P l.toArray (fun w' => ∃ u : Ext W, w' = u.w) (fun a' => ∀ w', (∃ u : Ext W, w' = u.w) → anyL P .any l.toArray Q l.length (fun _ => True) (f + 1) (fstL c 0 (Array.replicate l.length false)) a' w') (l.take c) a) : (Code.region id l.toArray true).wp P Q a W := by
  have hlc : (l.take c).length = c := by rw [List.length_take]; omega
  refine wp_region_any hm (any_of_E (C := fun w' => ∃ u : Ext W, w' = u.w) (c := c) (R := fun f L a => ∀ w', (∃ u : Ext W, w' = u.w) → anyL P .any l.toArray Q l.length (fun _ => True) (f + 1) L a w') (fun f L a w hw hR => any_of_L _ _ _ _ (hR w hw)) _ _ _ _ ⟨⟨W.drew, (Below.refl _ _).drew⟩, rfl⟩ ?_)
  have := anyE_lex (P := P) (md := .any) (ops := l.toArray) (C := fun w' => ∃ u : Ext W, w' = u.w) (c := c) (n := n) (R := fun f L a => ∀ w', (∃ u : Ext W, w' = u.w) → anyL P .any l.toArray Q l.length (fun _ => True) (f + 1) L a w') hs (l.take c) 0 f (Array.replicate l.length false) a
    (fun j o hj => by
      rw [Nat.zero_add, List.getElem?_toArray]
      rw [List.getElem?_take] at hj
      split at hj
      · exact hj
      · cases hj) (by rw [hlc]; exact hB) (by rw [hlc]; exact h)
  rw [hlc] at this
  rw [List.size_toArray, hf]
  rw [hf] at this
  exact this
end
end Go.Proofs.YtbfdbbpkpjgamaaGreatDoor

end
section
namespace Go.Proofs.YtbfdbbpkpjgamaaGreatDoor
/-- Rows of lines, as a text's lines are: each ends with a byte 10, but for the last one. -/
def LOK : List (List UInt8) → Prop
  | [] => True
  | x :: r => (Term x ∨ (r = [] ∧ x ≠ [] ∧ (10 : UInt8) ∉ x)) ∧ LOK r
theorem LOK.ne {x : List UInt8} {r : List (List UInt8)} (h : LOK (x :: r)) : x ≠ [] := by
  rcases h.1 with h | h
  · exact h.ne
  · exact h.2.1
theorem LOK.right : ∀ {a b : List (List UInt8)}, LOK (a ++ b) → LOK b
  | [], _, h => h
  | _ :: a, _, h => LOK.right (a := a) h.2
theorem LOK.left : ∀ {a b : List (List UInt8)}, LOK (a ++ b) → LOK a
  | [], _, _ => trivial
  | x :: a, b, h => ⟨by
      rcases h.1 with h1 | ⟨h1, h2⟩
      · exact .inl h1
      · exact .inr ⟨(List.append_eq_nil_iff.1 h1).1, h2⟩, LOK.left (a := a) h.2⟩
theorem LOK.term {x : List UInt8} {r : List (List UInt8)} (h : LOK (x :: r)) (hr : r ≠ []) : Term x := by
  rcases h.1 with h | h
  · exact h
  · exact (hr h.1).elim
theorem LOK.of_terms : ∀ {xs : List (List UInt8)}, (∀ x ∈ xs, Term x) → LOK xs
  | [], _ => trivial
  | x :: r, h => ⟨.inl (h x (by simp)), LOK.of_terms fun y hy => h y (by simp [hy])⟩
theorem LOK.split : ∀ {xs : List (List UInt8)}, LOK xs → splitS xs.flatten = xs
  | [], _ => by rw [List.flatten_nil, splitS]
  | x :: r, h => by
    rcases h.1 with ⟨p, rfl, hp⟩ | ⟨rfl, h1, h2⟩
    · rw [List.flatten_cons, List.append_assoc]
      show splitS (p ++ 10 :: r.flatten) = _
      rw [splitS_mid p _ hp, h.2.split]
    · rw [List.flatten_cons, List.flatten_nil, List.append_nil, splitS_end x h2 h1]
theorem lok_split (n : Nat) : ∀ (s : List UInt8), s.length ≤ n → LOK (splitS s) := by
  induction n with
  | zero =>
    intro s h
    have : s = [] := List.eq_nil_of_length_eq_zero (by omega)
    subst this
    rw [splitS]; trivial
  | succ n ih =>
    intro s h
    by_cases h0 : s = []
    · subst h0; rw [splitS]; trivial
    · cases hc : cut10 s with
      | none => rw [splitS_end s (cut10_none hc) h0]; exact ⟨.inr ⟨rfl, h0, cut10_none hc⟩, trivial⟩
      | some pr =>
        obtain ⟨p, r⟩ := pr
        obtain ⟨rfl, hp⟩ := cut10_some hc
        rw [splitS_mid p r hp]
        exact ⟨.inl ⟨p, rfl, hp⟩, ih r (by simp at h; omega)⟩
theorem lok (s : List UInt8) : LOK (splitS s) := lok_split s.length s (Nat.le_refl _)
/-- Lines in groups: those ahead of the first one that looks like a separator, and of each such line those behind it. -/
def grp : List (List UInt8) → List (List UInt8) × List (List UInt8 × List (List UInt8))
  | [] => ([], [])
  | x :: r => if sepB x then ([], (x, (grp r).1) :: (grp r).2) else (x :: (grp r).1, (grp r).2)
theorem grp_sep {x : List UInt8} {r : List (List UInt8)} (h : sepB x = true) : grp (x :: r) = ([], (x, (grp r).1) :: (grp r).2) := by rw [grp, if_pos h]
theorem grp_non {x : List UInt8} {r : List (List UInt8)} (h : sepB x = false) : grp (x :: r) = (x :: (grp r).1, (grp r).2) := by rw [grp, if_neg (by rw [h]; simp)]
theorem grp_run : ∀ (c r : List (List UInt8)), (∀ x ∈ c, sepB x = false) → grp (c ++ r) = (c ++ (grp r).1, (grp r).2)
  | [], r, _ => rfl
  | x :: c, r, h => by
    rw [List.cons_append, grp_non (h x (by simp)), grp_run c r fun y hy => h y (by simp [hy])]
    rfl
def flatG (gs : List (List UInt8 × List (List UInt8))) : List UInt8 := (gs.map fun g => g.1 ++ g.2.flatten).flatten
theorem flatG_cons (g : List UInt8 × List (List UInt8)) (gs : List (List UInt8 × List (List UInt8))) : flatG (g :: gs) = g.1 ++ g.2.flatten ++ flatG gs := by simp [flatG]
theorem flatG_app (a b : List (List UInt8 × List (List UInt8))) : flatG (a ++ b) = flatG a ++ flatG b := by simp [flatG]
theorem grp_flat : ∀ (r : List (List UInt8)), (grp r).1.flatten ++ flatG (grp r).2 = r.flatten
  | [] => rfl
  | x :: r => by
    have ih := grp_flat r
    cases h : sepB x with
    | true => rw [grp_sep h, flatG_cons]; simp [← ih]
    | false => rw [grp_non h]; simp [← ih]
theorem grp_none : ∀ {r : List (List UInt8)}, grp r = ([], []) → r = []
  | [], _ => rfl
  | x :: r, h => by
    cases hx : sepB x with
    | true => rw [grp_sep hx] at h; simp at h
    | false => rw [grp_non hx] at h; simp at h
theorem grp_snoc_sep : ∀ (p : List (List UInt8)) {x : List UInt8}, sepB x = true → grp (p ++ [x]) = ((grp p).1, (grp p).2 ++ [(x, [])])
  | [], x, h => by rw [List.nil_append, grp_sep h]; rfl
  | y :: p, x, h => by
    have ih := grp_snoc_sep p h
    cases hy : sepB y with
    | true => rw [List.cons_append, grp_sep hy, grp_sep hy, ih]; rfl
    | false => rw [List.cons_append, grp_non hy, grp_non hy, ih]
/-- A line more to the last group. -/
theorem grp_snoc_non : ∀ (p : List (List UInt8)) {x : List UInt8} {gs : List (List UInt8 × List (List UInt8))} {y : List UInt8} {b : List (List UInt8)}, sepB x = false → (grp p).2 = gs ++ [(y, b)] → grp (p ++ [x]) = ((grp p).1, gs ++ [(y, b ++ [x])])
  | [], x, gs, y, b, _, h => by simp [grp] at h
  | z :: p, x, gs, y, b, hx, h => by
    cases hz : sepB z with
    | true =>
      rw [grp_sep hz] at h
      rw [List.cons_append, grp_sep hz, grp_sep hz]
      cases gs with
      | nil =>
        simp only [List.nil_append, List.cons.injEq, Prod.mk.injEq] at h
        obtain ⟨⟨rfl, rfl⟩, hn⟩ := h
        have hp : ∀ x ∈ p, sepB x = false := by
          intro q hq
          cases hs : sepB q with
          | false => rfl
          | true =>
            obtain ⟨a, c, rfl⟩ := List.append_of_mem hq
            exfalso
            have : ∀ a : List (List UInt8), (grp (a ++ q :: c)).2 ≠ [] := by
              intro a
              induction a with
              | nil => rw [List.nil_append, grp_sep hs]; simp
              | cons t a ih =>
                cases ht : sepB t with
                | true => rw [List.cons_append, grp_sep ht]; simp
                | false => rw [List.cons_append, grp_non ht]; exact ih
            exact this a hn
        have e1 := grp_run p [x] hp
        have e2 := grp_run p [] hp
        rw [List.append_nil] at e2
        rw [e1, e2, grp_non hx]
        simp [grp]
      | cons g gs =>
        simp only [List.cons_append, List.cons.injEq] at h
        obtain ⟨rfl, h2⟩ := h
        rw [grp_snoc_non p hx h2]
        rfl
    | false =>
      rw [grp_non hz] at h
      rw [List.cons_append, grp_non hz, grp_non hz, grp_snoc_non p hx h]
/-- Where the entries stand: an entry's Head, Body and End. -/
structure Sp where
  h : Nat
  b : Nat
  e : Nat
def spans : Nat → List (List UInt8 × List (List UInt8)) → List Sp
  | _, [] => []
  | a, g :: gs => ⟨a, a + g.1.length, a + g.1.length + g.2.flatten.length⟩ :: spans (a + g.1.length + g.2.flatten.length) gs
theorem spans_app : ∀ (a : Nat) (p q : List (List UInt8 × List (List UInt8))), spans a (p ++ q) = spans a p ++ spans (a + (flatG p).length) q
  | a, [], q => by simp [spans, flatG]
  | a, g :: p, q => by
    rw [List.cons_append, spans, spans, spans_app, flatG_cons, List.cons_append]
    simp [Nat.add_assoc]
theorem spans_len : ∀ (a : Nat) (p : List (List UInt8 × List (List UInt8))), (spans a p).length = p.length
  | _, [] => rfl
  | a, g :: p => by rw [spans, List.length_cons, spans_len, List.length_cons]
def okG (gs : List (List UInt8 × List (List UInt8))) : Bool := gs.all fun g => g.2.flatten.getLast? == some 10
/-- What Scan answers of lines from a place on. -/
def restV (a : Nat) (r : List (List UInt8)) : Option (List Sp) := if (grp r).1 = [] ∧ okG (grp r).2 = true then some (spans a (grp r).2) else none
def scanV (s : List UInt8) : Option (List Sp) := restV 0 (splitS s)
/-- What stands from Body to End. -/
def cutB (s : List UInt8) (p : Sp) : List UInt8 := (s.drop p.b).take (p.e - p.b)
theorem spans_cut : ∀ (gs : List (List UInt8 × List (List UInt8))) (p q : List UInt8), (spans p.length gs).map (cutB (p ++ flatG gs ++ q)) = gs.map fun g => g.2.flatten
  | [], _, _ => rfl
  | g :: gs, p, q => by
    rw [spans, List.map_cons, List.map_cons]
    have ih := spans_cut gs (p ++ (g.1 ++ g.2.flatten)) q
    rw [List.length_append, List.length_append, ← Nat.add_assoc] at ih
    have e : p ++ (g.1 ++ g.2.flatten) ++ flatG gs ++ q = p ++ flatG (g :: gs) ++ q := by rw [flatG_cons]; simp
    rw [e] at ih
    rw [ih]
    congr 1
    unfold cutB
    show ((p ++ flatG (g :: gs) ++ q).drop (p.length + g.1.length)).take (p.length + g.1.length + g.2.flatten.length - (p.length + g.1.length)) = g.2.flatten
    have e2 : p ++ flatG (g :: gs) ++ q = (p ++ g.1) ++ (g.2.flatten ++ (flatG gs ++ q)) := by rw [flatG_cons]; simp
    rw [e2, List.drop_left' (by simp), Nat.add_sub_cancel_left, List.take_left' rfl]
/-- What stands from Head to End. -/
def cutH (s : List UInt8) (p : Sp) : List UInt8 := (s.drop p.h).take (p.e - p.h)
theorem spans_head : ∀ (gs : List (List UInt8 × List (List UInt8))) (p q : List UInt8), (spans p.length gs).map (cutH (p ++ flatG gs ++ q)) = gs.map fun g => g.1 ++ g.2.flatten
  | [], _, _ => rfl
  | g :: gs, p, q => by
    rw [spans, List.map_cons, List.map_cons]
    have ih := spans_head gs (p ++ (g.1 ++ g.2.flatten)) q
    rw [List.length_append, List.length_append, ← Nat.add_assoc] at ih
    have e : p ++ (g.1 ++ g.2.flatten) ++ flatG gs ++ q = p ++ flatG (g :: gs) ++ q := by rw [flatG_cons]; simp
    rw [e] at ih
    rw [ih]
    congr 1
    unfold cutH
    show ((p ++ flatG (g :: gs) ++ q).drop p.length).take (p.length + g.1.length + g.2.flatten.length - p.length) = g.1 ++ g.2.flatten
    have e2 : p ++ flatG (g :: gs) ++ q = p ++ ((g.1 ++ g.2.flatten) ++ (flatG gs ++ q)) := by rw [flatG_cons]; simp
    rw [e2, List.drop_left' rfl, List.take_left' (by simp; omega)]
/-- Spans lie within the text. -/
theorem spans_in : ∀ (gs : List (List UInt8 × List (List UInt8))) (a : Nat), ∀ p ∈ spans a gs, a ≤ p.h ∧ p.h ≤ p.b ∧ p.b ≤ p.e ∧ p.e ≤ a + (flatG gs).length
  | [], _, p, h => by simp [spans] at h
  | g :: gs, a, p, h => by
    rw [spans, List.mem_cons] at h
    rw [flatG_cons]
    simp only [List.length_append]
    rcases h with rfl | h
    · exact ⟨Nat.le_refl _, by simp, by simp, by simp; omega⟩
    · have := spans_in gs _ p h
      omega
theorem split_flatG {s : List UInt8} (h : (grp (splitS s)).1 = []) : flatG (grp (splitS s)).2 = s := by
  have := grp_flat (splitS s)
  rw [h, splitS_flat] at this
  simpa using this
theorem scan_cut {s : List UInt8} (h : (grp (splitS s)).1 = []) : (spans 0 (grp (splitS s)).2).map (cutB s) = (grp (splitS s)).2.map fun g => g.2.flatten := by
  have := spans_cut (grp (splitS s)).2 [] []
  rw [List.nil_append, List.append_nil, split_flatG h] at this
  exact this
theorem scan_head {s : List UInt8} (h : (grp (splitS s)).1 = []) : (spans 0 (grp (splitS s)).2).map (cutH s) = (grp (splitS s)).2.map fun g => g.1 ++ g.2.flatten := by
  have := spans_head (grp (splitS s)).2 [] []
  rw [List.nil_append, List.append_nil, split_flatG h] at this
  exact this
theorem scan_in {s : List UInt8} (h : (grp (splitS s)).1 = []) : ∀ p ∈ spans 0 (grp (splitS s)).2, p.h ≤ p.b ∧ p.b ≤ p.e ∧ p.e ≤ s.length := by
  intro p hp
  have := spans_in _ 0 p hp
  rw [split_flatG h] at this
  omega
/-- The bodies' lines are lines, and none looks like a separator. -/
theorem grp_bodies : ∀ {r : List (List UInt8)}, LOK r → (LOK (grp r).1 ∧ ∀ x ∈ (grp r).1, sepB x = false) ∧ ∀ g ∈ (grp r).2, LOK g.2 ∧ (∀ x ∈ g.2, sepB x = false) ∧ sepB g.1 = true ∧ (g.2 ≠ [] → Term g.1)
  | [], _ => ⟨⟨trivial, by simp [grp]⟩, by simp [grp]⟩
  | x :: r, h => by
    obtain ⟨⟨i1, i2⟩, i3⟩ := grp_bodies h.2
    cases hx : sepB x with
    | true =>
      rw [grp_sep hx]
      refine ⟨⟨trivial, by simp⟩, ?_⟩
      intro g hg
      rcases List.mem_cons.1 hg with rfl | hg
      · exact ⟨i1, i2, hx, fun hn => h.term (fun e => hn (by rw [e]; rfl))⟩
      · exact i3 g hg
    | false =>
      rw [grp_non hx]
      refine ⟨⟨⟨?_, i1⟩, ?_⟩, i3⟩
      · rcases h.1 with h1 | ⟨rfl, h2⟩
        · exact .inl h1
        · exact .inr ⟨rfl, h2⟩
      · intro y hy
        rcases List.mem_cons.1 hy with rfl | hy
        · exact hx
        · exact i2 y hy
theorem noSep_flat {b : List (List UInt8)} (h : LOK b) (hn : ∀ x ∈ b, sepB x = false) : anySep b.flatten = false := by
  unfold anySep
  rw [h.split]
  simpa [List.any_eq_false] using hn
end Go.Proofs.YtbfdbbpkpjgamaaGreatDoor

end
