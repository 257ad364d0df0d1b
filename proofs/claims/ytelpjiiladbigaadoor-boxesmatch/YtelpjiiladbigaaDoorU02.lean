/- Names in order, each once: sorted, made compact, filtered; put one by one into a rising row. -/
import Derived.Test.YtelpjiiladbigaaDoorU01
import Derived.Lib.SlicesCompact
namespace Go.Proofs.YtelpjiiladbigaaDoor
abbrev Nms := List (List UInt8)
theorem rise_unique {ns ms : Nms} (h1 : ns.Pairwise (· < ·)) (h2 : ms.Pairwise (· < ·)) (hm : ∀ n, n ∈ ns ↔ n ∈ ms) : ns = ms := by
  have n1 : ns.Nodup := h1.imp (fun h e => by rw [e] at h; exact List.lt_irrefl _ h)
  have n2 : ms.Nodup := h2.imp (fun h e => by rw [e] at h; exact List.lt_irrefl _ h)
  refine List.Perm.eq_of_pairwise (le := fun a b => a < b) (fun a b _ _ h h' => absurd (List.lt_trans h h') (List.lt_irrefl _)) h1 h2 ?_
  rw [List.perm_ext_iff_of_nodup n1 n2]
  exact hm
/-- Sorted, byte by byte. -/
def sortL (ss : Nms) : Nms := ss.mergeSort fun x y => decide (x ≤ y)
theorem sortL_len (ss : Nms) : (sortL ss).length = ss.length := List.length_mergeSort ss
theorem sortL_mem (ss : Nms) (x : List UInt8) : x ∈ sortL ss ↔ x ∈ ss := List.mem_mergeSort
theorem sortL_ord (ss : Nms) : (sortL ss).Pairwise (· ≤ ·) := by
  have h := List.pairwise_mergeSort (le := fun x y : List UInt8 => decide (x ≤ y)) (fun a b c h1 h2 => by simp only [decide_eq_true_eq] at *; exact List.le_trans h1 h2) (fun a b => by simp only [Bool.or_eq_true, decide_eq_true_eq]; exact List.le_total a b) ss
  exact h.imp fun h => by simpa using h
theorem lt_of_le_ne {a b : List UInt8} (h : a ≤ b) (hne : a ≠ b) : a < b := by
  by_cases h2 : a < b
  · exact h2
  · exact absurd (List.le_antisymm h (List.not_lt.1 h2)) hne
theorem lt_of_le_lt {a b c : List UInt8} (h : a ≤ b) (h2 : b < c) : a < c := by
  by_cases e : a = b
  · rw [e]; exact h2
  · exact List.lt_trans (lt_of_le_ne h e) h2
theorem comp_upto {zs : Nms} (hz : zs.Pairwise (· ≤ ·)) : ∀ m, m ≤ zs.length → (Lib.compactUpTo zs.toArray m).Pairwise (· < ·) ∧ ∀ x, x ∈ Lib.compactUpTo zs.toArray m ↔ ∃ j, ∃ _ : j < m, zs[j]? = some x
  | 0, _ => by
    refine ⟨by simp [Lib.compactUpTo], fun x => ?_⟩
    simp [Lib.compactUpTo]
  | m + 1, hm => by
    obtain ⟨h1, h2⟩ := comp_upto hz m (by omega)
    have hat : ∀ j (hj : j < zs.length), zs.toArray[j]! = zs[j] := fun j hj => by simp [getElem!_pos, hj]
    rw [Lib.compactUpTo_succ]
    have hmem : ∀ x, (∃ j, ∃ _ : j < m + 1, zs[j]? = some x) ↔ (∃ j, ∃ _ : j < m, zs[j]? = some x) ∨ x = zs[m] := fun x => by
      constructor
      · rintro ⟨j, hj, e⟩
        by_cases hjm : j = m
        · subst hjm
          rw [List.getElem?_eq_getElem (by omega)] at e
          exact .inr (Option.some.inj e).symm
        · exact .inl ⟨j, by omega, e⟩
      · rintro (⟨j, hj, e⟩ | rfl)
        · exact ⟨j, by omega, e⟩
        · exact ⟨m, by omega, List.getElem?_eq_getElem (by omega)⟩
    by_cases hk : Lib.keeps zs.toArray m = true
    · rw [if_pos hk, hat m (by omega)]
      refine ⟨List.pairwise_append.2 ⟨h1, by simp, fun a ha b hb => ?_⟩, fun x => ?_⟩
      · rw [List.mem_singleton] at hb
        subst hb
        obtain ⟨j, hj, e⟩ := (h2 a).1 ha
        have hjl : j < zs.length := by omega
        rw [List.getElem?_eq_getElem hjl] at e
        cases e
        have hk2 : m = 0 ∨ zs[m] ≠ zs[m - 1]'(by omega) := by
          unfold Lib.keeps at hk
          rw [hat m (by omega), hat (m - 1) (by omega)] at hk
          exact of_decide_eq_true hk
        have hne : zs[m] ≠ zs[m - 1]'(by omega) := hk2.resolve_left (by omega)
        have hle : zs[m - 1]'(by omega) ≤ zs[m] := List.pairwise_iff_getElem.1 hz (m - 1) m (by omega) (by omega) (by omega)
        have hlt := lt_of_le_ne hle hne.symm
        by_cases hj1 : j = m - 1
        · subst hj1; exact hlt
        · exact lt_of_le_lt (List.pairwise_iff_getElem.1 hz j (m - 1) (by omega) (by omega) (by omega)) hlt
      · rw [List.mem_append, List.mem_singleton, h2 x, hmem x]
    · rw [if_neg hk, List.append_nil]
      refine ⟨h1, fun x => ?_⟩
      rw [h2 x, hmem x]
      have hk2 : ¬ (m = 0 ∨ zs[m] ≠ zs[m - 1]'(by omega)) := by
        intro h
        apply hk
        unfold Lib.keeps
        rw [hat m (by omega), hat (m - 1) (by omega)]
        exact decide_eq_true h
      have hm0 : m ≠ 0 := fun e => hk2 (.inl e)
      have heq : zs[m] = zs[m - 1]'(by omega) := Decidable.byContradiction fun h => hk2 (.inr h)
      constructor
      · exact .inl
      · rintro (h | rfl)
        · exact h
        · exact ⟨m - 1, by omega, by rw [List.getElem?_eq_getElem (by omega), heq]⟩
def compL (ss : Nms) : Nms := Lib.compact (sortL ss)
theorem compL_ord (ss : Nms) : (compL ss).Pairwise (· < ·) := (comp_upto (sortL_ord ss) _ (Nat.le_refl _)).1
theorem compL_mem (ss : Nms) (x : List UInt8) : x ∈ compL ss ↔ x ∈ ss := by
  rw [← sortL_mem ss x]
  refine ((comp_upto (sortL_ord ss) _ (Nat.le_refl _)).2 x).trans ?_
  constructor
  · rintro ⟨j, _, e⟩
    exact List.mem_of_getElem? e
  · intro h
    obtain ⟨j, hj, rfl⟩ := List.mem_iff_getElem.1 h
    exact ⟨j, hj, List.getElem?_eq_getElem hj⟩
theorem compL_len (ss : Nms) : (compL ss).length ≤ ss.length := by
  unfold compL Lib.compact Lib.compactUpTo
  rw [List.length_map]
  refine Nat.le_trans (List.length_filter_le _ _) ?_
  rw [List.length_range, sortL_len]
  exact Nat.le_refl _
/-- What Match answers is what the document says. -/
theorem comp_mat (f : List UInt8 → Bool) (ss : Nms) : (compL ss).filter f = matL f ss := by
  refine rise_unique ((compL_ord ss).filter f) (matL_ord f ss) fun n => ?_
  rw [List.mem_filter, compL_mem, matL_mem]
theorem matL_next {f : List UInt8 → Bool} {ss : Nms} {i : Nat} (h : i < ss.length) : matL f (ss.take (i + 1)) = if f ss[i] then insU ss[i] (matL f (ss.take i)) else matL f (ss.take i) := by
  unfold matL
  rw [List.take_succ_eq_append_getElem h, List.foldl_append]
  rfl
theorem matL_len (f : List UInt8 → Bool) (ss : Nms) : (matL f ss).length ≤ ss.length := by
  rw [← comp_mat]
  exact Nat.le_trans (List.length_filter_le _ _) (compL_len ss)
/-- Where a name goes in a rising row: it is there, or it is put ahead of all that are greater. -/
theorem ins_there {x : List UInt8} {out : Nms} (ho : out.Pairwise (· < ·)) (h : x ∈ out) : insU x out = out := by
  refine rise_unique (insU_ord x out ho) ho fun n => ?_
  rw [insU_mem]
  exact ⟨fun e => e.elim (fun e => e ▸ h) id, .inr⟩
theorem ins_at {x : List UInt8} {out : Nms} {k : Nat} (ho : out.Pairwise (· < ·)) (hk : k ≤ out.length) (hgt : ∀ j (hj : j < out.length), k ≤ j → x < out[j]) (hlt : ∀ hk0 : 0 < k, out[k - 1]'(by omega) < x) : insU x out = out.take k ++ x :: out.drop k := by
  refine rise_unique (insU_ord x out ho) ?_ fun n => ?_
  · refine List.pairwise_append.2 ⟨ho.sublist (List.take_sublist k out), List.pairwise_cons.2 ⟨fun y hy => ?_, ho.sublist (List.drop_sublist k out)⟩, fun a ha b hb => ?_⟩
    · obtain ⟨j, hj, rfl⟩ := List.mem_iff_getElem.1 hy
      rw [List.getElem_drop]
      exact hgt _ _ (by omega)
    · obtain ⟨i, hi, rfl⟩ := List.mem_iff_getElem.1 ha
      rw [List.length_take] at hi
      rw [List.getElem_take]
      have hix : out[i]'(by omega) < x := by
        have h1 := hlt (by omega)
        by_cases e : i = k - 1
        · subst e; exact h1
        · exact List.lt_trans (List.pairwise_iff_getElem.1 ho i (k - 1) (by omega) (by omega) (by omega)) h1
      rcases List.mem_cons.1 hb with rfl | hb
      · exact hix
      · obtain ⟨j, hj, rfl⟩ := List.mem_iff_getElem.1 hb
        rw [List.getElem_drop]
        exact List.lt_trans hix (hgt _ _ (by omega))
  · rw [insU_mem, List.mem_append, List.mem_cons]
    have : n ∈ out ↔ n ∈ out.take k ∨ n ∈ out.drop k := by
      conv => lhs; rw [← List.take_append_drop k out]
      rw [List.mem_append]
    rw [this]
    constructor
    · rintro (h | h | h)
      · exact .inr (.inl h)
      · exact .inl h
      · exact .inr (.inr h)
    · rintro (h | h | h)
      · exact .inr (.inl h)
      · exact .inl h
      · exact .inr (.inr h)
end Go.Proofs.YtelpjiiladbigaaDoor
