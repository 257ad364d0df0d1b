/- RL once more: a load that the first store waits for through others. -/
import Derived.Test.YthhnlkbjpahjeaaGreatDoorU37
namespace Go.Proofs.YthhnlkbjpahjeaaGreatDoor
open Go.RowKit
section
variable {P : Program} {md : Region.Mode} {ops : Array Oper} {Q : Exit → Act → World → Prop} {c : Nat} {T : World → Prop}
theorem takeM_all {i : Nat} {oi : Oper} {v : Value} (ch : List Nat) (hi : ops[i]? = some oi) (hsel : ∀ (j : Nat) (o : Oper) cs b, ops[j]? = some o → o.op ≠ .select cs b)
    (hQ : ∀ ch a w, Q (.panic ch) (a.put oi.dst v) w → Q (.panic ch) a w) (hcc : c ∈ ch) (hw : ∀ m ∈ ch, ∃ m', (m' = i ∨ m' ∈ ch) ∧ waits md ops m m' = true) :
    ∀ (f : Nat) (L : Array Bool) (a : Act) (w : World), (∀ m ∈ ch, L.getD m true = false) →
      (∀ j oj, ops[j]? = some oj → j ≠ i → L.getD j true = false → (∀ e ∈ oj.after, Region.binds md e = true → e.on ≠ i) → oi.apart ops oj = true) →
      i ∈ Region.ready md ops L → YieldsIf P ops T oi v a → T w →
      anyL P md ops Q c T f (L.setIfInBounds i true) (a.put oi.dst v) w → anyL P md ops Q c T (f + 1) L a w := by
  have hgen : ∀ (L : Array Bool) j m', L.getD m' true = false → j ∈ Region.ready md ops L → ∀ oj, ops[j]? = some oj → ∀ e ∈ oj.after, Region.binds md e = true → e.on ≠ m' := by
    intro L j m' h0 hj oj' hoj' e he hb heq
    obtain ⟨_, oj, hoj, hall⟩ := mem_ready.1 hj
    rw [hoj] at hoj'
    cases hoj'
    have h1 := hall e he hb
    rw [heq] at h1
    rcases Nat.lt_or_ge m' L.size with h' | h'
    · simp [h'] at h0 h1
      rw [h0] at h1
      cases h1
    · simp [Array.getElem?_eq_none h'] at h1
  have hnc : ∀ (L : Array Bool) j, (∀ m ∈ ch, L.getD m true = false) → i ∈ Region.ready md ops L → j ∈ Region.ready md ops L → j ∉ ch := by
    intro L j hL hr hj hm
    obtain ⟨m', hm', hwt⟩ := hw j hm
    obtain ⟨_, oj, hoj, _⟩ := mem_ready.1 hj
    have hun : L.getD m' true = false := by
      rcases hm' with rfl | h
      · exact (mem_ready.1 hr).1
      · exact hL _ h
    unfold waits at hwt
    rw [hoj] at hwt
    obtain ⟨e, he, h2⟩ := Array.any_eq_true'.1 hwt
    simp only [Bool.and_eq_true, beq_iff_eq] at h2
    exact hgen L j m' hun hj oj hoj e he h2.1 h2.2
  have hset : ∀ (L : Array Bool) j m, j ≠ m → (L.setIfInBounds j true).getD m true = L.getD m true := fun L j m h => getD_set_ne true h
  intro f
  induction f with
  | zero =>
    intro L a w _ _ hr hy hT H
    refine ⟨fun h => (by rw [h] at hr; cases hr), fun j hj => ?_⟩
    by_cases hji : j = i
    · subst hji
      exact hy.wpOp hi hT ⟨fun _ => hT, H⟩
    · have := ready_mono hj hji
      rw [H.1] at this
      cases this
  | succ f ih =>
    intro L a w hc hfree hr hy hT H
    refine ⟨fun h => (by rw [h] at hr; cases hr), fun j hj => ?_⟩
    by_cases hji : j = i
    · subst hji
      exact hy.wpOp hi hT ⟨fun _ => hT, H⟩
    · obtain ⟨hjun, oj, hoj, _⟩ := mem_ready.1 hj
      have hjc := hnc L j hc hr hj
      have hic := hnc L i hc hr hr
      have h2 := wpOp_putIf hoj (hfree j oj hoj hji hjun (hgen L j i (mem_ready.1 hr).1 hj oj hoj)) (fun cs b => hsel i oi cs b hi) (fun cs b => hsel j oj cs b hoj) hQ hy (H.2 j (ready_mono hj hji))
      have hc1 : ∀ m ∈ ch, (L.setIfInBounds j true).getD m true = false := fun m hm => (hset L j m (fun e => hjc (e ▸ hm))).trans (hc m hm)
      refine wpOp_mono (fun a' w' h3 => ?_) h2
      have hT' : T w' := h3.2.1 (by rw [hset _ j c (fun e => hjc (e ▸ hcc)), hset _ i c (fun e => hic (e ▸ hcc))]; exact hc c hcc)
      refine ⟨fun _ => hT', ih (L.setIfInBounds j true) a' w' hc1 (fun k ok hk hki hun hno => ?_) (ready_mono hr (Ne.symm hji)) h3.1 hT' ?_⟩
      · refine hfree k ok hk hki ?_ hno
        by_cases hjk : j = k
        · subst hjk
          exact hjun
        · rw [getD_set_ne true hjk] at hun
          exact hun
      · rw [Array.setIfInBounds_comm _ _ hji]
        exact h3.2.2
theorem takeM (ch : List Nat) {i : Nat} {oi : Oper} {v : Value} {f : Nat} {L : Array Bool} {a : Act} {w : World} (hi : ops[i]? = some oi) (hs : Region.noSelect ops = true) (hf : Region.free md ops L i = true) (hr : (Region.ready md ops L).contains i = true)
    (hw : ch.all (fun m => (i :: ch).any (fun m' => waits md ops m m')) = true) (hcc : ch.contains c = true) (hc : ch.all (fun m => !(L.getD m true)) = true) (hQ : ∀ ch a w, Q (.panic ch) (a.put oi.dst v) w → Q (.panic ch) a w) (hT : T w) (hy : YieldsIf P ops T oi v a)
    (h : anyL P md ops Q c T f (L.setIfInBounds i true) (a.put oi.dst v) w) : anyL P md ops Q c T (f + 1) L a w :=
  takeM_all ch hi (Region.noSelect_spec hs) hQ (by simpa using hcc) (fun m hm => by
    obtain ⟨m', h1, h2⟩ := List.any_eq_true.1 (List.all_eq_true.1 hw m hm)
    exact ⟨m', by simpa using h1, h2⟩) f L a w (fun m hm => by
    have h1 := List.all_eq_true.1 hc m hm
    rw [Bool.not_eq_true'] at h1
    exact h1) (Region.free_spec hi hf) (by simpa using hr) hy hT h
end
end Go.Proofs.YthhnlkbjpahjeaaGreatDoor
