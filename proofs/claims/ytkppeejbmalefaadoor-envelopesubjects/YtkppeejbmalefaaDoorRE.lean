/- A region that draws its order, whose first operations read old memory or make new one, and whose number c waits for all of them: one walk of the first ones, in whatever world that keeps the old blocks; then all orders of the rest. -/
import Derived.Test.YtkppeejbmalefaaDoorRLI
import Derived.Test.YtkppeejbmalefaaDoorCalm
namespace Go.Proofs.YtkppeejbmalefaaDoor
open Go.RowKit
section
variable {P : Program} {md : Region.Mode} {ops : Array Oper} {c : Nat} {C : World → Prop} {R : Nat → Array Bool → Act → Prop}
/-- All orders until c comes up: then nothing else may. -/
def anyE (P : Program) (md : Region.Mode) (ops : Array Oper) (C : World → Prop) (c : Nat) (R : Nat → Array Bool → Act → Prop) : Nat → Array Bool → Act → Prop
  | 0, _, _ => False
  | f + 1, L, a => (c ∈ Region.ready md ops L → Region.ready md ops L = [c] ∧ R f L a) ∧
    (c ∉ Region.ready md ops L → Region.ready md ops L ≠ [] ∧ ∀ i ∈ Region.ready md ops L, qOp P ops C i (anyE P md ops C c R f (L.setIfInBounds i true)) a)
/-- c waits for i, through operations that have not come up. -/
inductive Chn (md : Region.Mode) (ops : Array Oper) (c : Nat) (L : Array Bool) : Nat → Prop
  | dir {i : Nat} : waits md ops c i = true → Chn md ops c L i
  | step {i k : Nat} : waits md ops k i = true → L.getD k true = false → Chn md ops c L k → Chn md ops c L i
theorem not_ready {L : Array Bool} {j i : Nat} (hw : waits md ops j i = true) (hi : L.getD i true = false) : j ∉ Region.ready md ops L := fun hj => by
  obtain ⟨_, oj, hoj, hall⟩ := mem_ready.1 hj
  unfold waits at hw
  rw [hoj] at hw
  obtain ⟨e, he, h2⟩ := Array.any_eq_true'.1 hw
  simp only [Bool.and_eq_true, beq_iff_eq] at h2
  have h1 := hall e he h2.1
  rw [h2.2] at h1
  rcases Nat.lt_or_ge i L.size with h' | h'
  · simp [h'] at hi h1
    rw [hi] at h1
    cases h1
  · simp [Array.getElem?_eq_none h'] at h1
theorem Chn.no {L : Array Bool} {i : Nat} (h : Chn md ops c L i) : L.getD i true = false → c ∉ Region.ready md ops L := by
  induction h with
  | dir hw => exact fun hi => not_ready hw hi
  | step _ hk _ ih => exact fun _ => ih hk
theorem Chn.next {L : Array Bool} {i j : Nat} (h : Chn md ops c L i) (hj : j ∈ Region.ready md ops L) : L.getD i true = false → Chn md ops c (L.setIfInBounds j true) i := by
  induction h with
  | dir hw => exact fun _ => .dir hw
  | step hw hk _ ih =>
    intro hi
    refine .step hw ?_ (ih hk)
    rw [getD_set_ne true]
    · exact hk
    · rintro rfl
      exact not_ready hw hi hj
theorem anyE_first {i : Nat} {oi : Oper} {v : Value} (hi : ops[i]? = some oi) (hsel : ∀ (j : Nat) (o : Oper) cs b, ops[j]? = some o → o.op ≠ .select cs b) :
    ∀ (f : Nat) (L : Array Bool) (a : Act),
      (∀ j oj, ops[j]? = some oj → j ≠ i → L.getD j true = false → (∀ e ∈ oj.after, Region.binds md e = true → e.on ≠ i) → oi.apart ops oj = true) →
      i ∈ Region.ready md ops L → Chn md ops c L i → YieldsIn P ops C oi v a →
      anyE P md ops C c R f (L.setIfInBounds i true) (a.put oi.dst v) → anyE P md ops C c R (f + 1) L a := by
  intro f
  induction f with
  | zero => intro L a _ _ _ _ H; exact H.elim
  | succ f ih =>
    intro L a hfree hr hch hy H
    have hun := (mem_ready.1 hr).1
    have hnc := hch.no hun
    refine ⟨fun h => absurd h hnc, fun _ => ⟨(fun h => by rw [h] at hr; cases hr), fun j hj => ?_⟩⟩
    by_cases hji : j = i
    · subst hji
      exact hy.qOp hi H
    · have hj1 := ready_mono hj hji
      have hcn : c ∉ Region.ready md ops (L.setIfInBounds i true) := fun hc => by
        have := (H.1 hc).1
        rw [this] at hj1
        have := List.mem_singleton.1 hj1
        subst this
        exact hnc hj
      have h1 := (H.2 hcn).2 j hj1
      obtain ⟨hjun, oj, hoj, hall⟩ := mem_ready.1 hj
      have hnot : ∀ e ∈ oj.after, Region.binds md e = true → e.on ≠ i := fun e he hb heq => by
        have h1 := hall e he hb
        rw [heq] at h1
        rcases Nat.lt_or_ge i L.size with h' | h'
        · simp [h'] at hun h1
          rw [hun] at h1
          cases h1
        · simp [Array.getElem?_eq_none h'] at h1
      have h2 := qOp_put hoj (hfree j oj hoj hji hjun hnot) (fun cs b => hsel i oi cs b hi) (fun cs b => hsel j oj cs b hoj) hy h1
      have hfree' : ∀ k ok, ops[k]? = some ok → k ≠ i → (L.setIfInBounds j true).getD k true = false →
          (∀ e ∈ ok.after, Region.binds md e = true → e.on ≠ i) → oi.apart ops ok = true := fun k ok hk hki hun hno => by
        refine hfree k ok hk hki ?_ hno
        by_cases hjk : j = k
        · subst hjk
          exact hjun
        · rw [getD_set_ne true hjk] at hun
          exact hun
      refine qOp_mono (fun a' h3 => ih (L.setIfInBounds j true) a' hfree' (ready_mono hr (Ne.symm hji)) (hch.next hj hun) h3.1 ?_) h2
      rw [Array.setIfInBounds_comm _ _ hji]
      exact h3.2
/-- The chain, by looking. -/
def chnB (md : Region.Mode) (ops : Array Oper) (c : Nat) (L : Array Bool) : Nat → Nat → Bool
  | 0, i => waits md ops c i
  | n + 1, i => waits md ops c i || (List.range ops.size).any fun k => waits md ops k i && !L.getD k true && chnB md ops c L n k
theorem chnB_spec {L : Array Bool} : ∀ (n i : Nat), chnB md ops c L n i = true → Chn md ops c L i
  | 0, _, h => .dir h
  | n + 1, i, h => by
    unfold chnB at h
    rw [Bool.or_eq_true] at h
    rcases h with h | h
    · exact .dir h
    · obtain ⟨k, _, hk⟩ := List.any_eq_true.1 h
      simp only [Bool.and_eq_true, Bool.not_eq_true'] at hk
      exact .step hk.1.1 hk.1.2 (chnB_spec n k hk.2)
def lexE (md : Region.Mode) (ops : Array Oper) (c n : Nat) : Nat → Nat → Array Bool → Bool
  | 0, _, L => Region.ready md ops L == [c]
  | f + 1, k, L => (Region.ready md ops L).contains k && Region.free md ops L k && chnB md ops c L n k && lexE md ops c n f (k + 1) (L.setIfInBounds k true)
/-- What has come up behind the first ones. -/
def fstL : Nat → Nat → Array Bool → Array Bool
  | 0, _, L => L
  | f + 1, k, L => fstL f (k + 1) (L.setIfInBounds k true)
theorem anyE_lex {n : Nat} (hs : Region.noSelect ops = true) : ∀ (l : List Oper) (k f : Nat) (L : Array Bool) (a : Act), (∀ j o, l[j]? = some o → ops[k + j]? = some o) →
    lexE md ops c n l.length k L = true → wpQuiet P ops C (fun a' => R f (fstL l.length k L) a') l a → anyE P md ops C c R (l.length + (f + 1)) L a
  | [], k, f, L, a, _, hB, h => by
    have hB' : Region.ready md ops L = [c] := by simpa [lexE] using hB
    show anyE P md ops C c R (0 + (f + 1)) L a
    rw [Nat.zero_add]
    exact ⟨fun _ => ⟨hB', h⟩, fun hn => absurd (by rw [hB']; simp) hn⟩
  | o :: l, k, f, L, a, hl, hB, h => by
    have h0 : ops[k]? = some o := by simpa using hl 0 o rfl
    simp only [List.length_cons, lexE, Bool.and_eq_true] at hB
    obtain ⟨⟨⟨hr, hf⟩, hch⟩, hB'⟩ := hB
    have hst : qOp P ops C k (wpQuiet P ops C (fun a' => R f (fstL (l.length + 1) k L) a') l) a := by unfold qOp; simp only [h0]; exact h
    obtain ⟨v, hy, hK⟩ := yieldsIn_of_qOp h0 hst
    have := anyE_first h0 (Region.noSelect_spec hs) (l.length + (f + 1)) L a (Region.free_spec h0 hf) (by simpa using hr) (chnB_spec n k hch) hy
      (anyE_lex (n := n) hs l (k + 1) f _ _ (fun j o hj => by have := hl (j + 1) o hj; rwa [show k + 1 + j = k + (j + 1) by omega]) hB' hK)
    rw [List.length_cons, show l.length + 1 + (f + 1) = l.length + (f + 1) + 1 by omega]
    exact this
theorem any_of_E {Q : Exit → Act → World → Prop} (hR : ∀ f L a w, C w → R f L a → wpAny P md ops Q (f + 1) L a w) : ∀ (f : Nat) (L : Array Bool) (a : Act) (w : World), C w → anyE P md ops C c R f L a → wpAny P md ops Q f L a w
  | 0, _, _, _, _, h => h.elim
  | f + 1, L, a, w, hw, h => by
    by_cases hc : c ∈ Region.ready md ops L
    · exact hR f L a w hw (h.1 hc).2
    · obtain ⟨h1, h2⟩ := h.2 hc
      exact ⟨fun h0 => absurd h0 h1, fun i hi => wpOp_of_qOp hw (fun a' w' hw' => any_of_E hR f _ a' w' hw') (h2 i hi)⟩
/-- The first c operations by one walk; the others, from number c on, in all orders. -/
theorem wp_region_then {W : World} {id : Nat} {Q : Exit → Act → World → Prop} {a : Act} {l : List Oper} (c n f : Nat) (hm : P.follows .mixedOrders = true) (hs : Region.noSelect l.toArray = true) (hf : l.length = c + (f + 1))
    (hB : lexE .any l.toArray c n c 0 (Array.replicate l.length false) = true)
    (h : wpQuiet P l.toArray (fun w' => ∃ u : Ext W, w' = u.w) (fun a' => ∀ w', (∃ u : Ext W, w' = u.w) → anyL P .any l.toArray Q l.length (fun _ => True) (f + 1) (fstL c 0 (Array.replicate l.length false)) a' w') (l.take c) a) : (Code.region id l.toArray true).wp P Q a W := by
  have hlc : (l.take c).length = c := by rw [List.length_take]; omega
  refine wp_region_any hm (any_of_E (C := fun w' => ∃ u : Ext W, w' = u.w) (c := c) (R := fun f L a => ∀ w', (∃ u : Ext W, w' = u.w) → anyL P .any l.toArray Q l.length (fun _ => True) (f + 1) L a w') (fun f L a w hw hR => any_of_L _ _ _ _ (hR w hw)) _ _ _ _ ⟨⟨W.drew, (Below.refl _ _).drew⟩, rfl⟩ ?_)
  have := anyE_lex (P := P) (md := .any) (ops := l.toArray) (C := fun w' => ∃ u : Ext W, w' = u.w) (c := c) (n := n) (R := fun f L a => ∀ w', (∃ u : Ext W, w' = u.w) → anyL P .any l.toArray Q l.length (fun _ => True) (f + 1) L a w') hs (l.take c) 0 f (Array.replicate l.length false) a
    (fun j o hj => by
      rw [Nat.zero_add, List.getElem?_toArray]
      rw [List.getElem?_take] at hj
      split at hj
      · exact hj
      · cases hj) (by rw [hlc]; exact hB) (by rw [hlc]; exact h)
  rw [hlc] at this
  rw [List.size_toArray, hf]
  rw [hf] at this
  exact this
end
end Go.Proofs.YtkppeejbmalefaaDoor
