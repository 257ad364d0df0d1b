/- The laws SeqsSets and SeqsTexts, wherever package seqs answers as told. -/
import Derived.Test.YtbjencibkkhbhabGreatDoorSl2
import Derived.Test.YtbjencibkkhbhabGreatDoorSq9
set_option linter.unusedSimpArgs false
set_option linter.unusedVariables false
namespace Go.Proofs.YtbjencibkkhbhabGreatDoor
open Go.RowKit Go.Shelf
theorem ra_nil (w : World) : RA w (.slice none 0 0) [] := ⟨none, 0, rfl, fun i hi => by simp at hi⟩
theorem set_len {s : List UInt8} {set : List (Nat × Nat)} (h : sqS s = some set) : set.length ≤ 50 := by
  unfold sqS at h
  split at h
  · rw [mapM_len _ _ h]; assumption
  · cases h
theorem nat_rat {rs : List (Int × Int)} (h : rs.all rgOk = true) : (rs.map ratN).map natR = rs ∧ ∀ r ∈ rs.map ratN, r.1 ≤ 2147483648 ∧ r.2 ≤ 2147483648 := by
  constructor
  · rw [List.map_map]
    conv => rhs; rw [← List.map_id rs]
    refine List.map_congr_left fun r hr => ?_
    have := List.all_eq_true.1 h r hr
    simp [rgOk] at this
    simp [natR, ratN]
    ext <;> simp <;> omega
  · intro r hr
    obtain ⟨q, hq, rfl⟩ := List.mem_map.1 hr
    have := List.all_eq_true.1 h q hq
    simp [rgOk] at this
    simp [ratN]
    omega
theorem jn_len_le (c : UInt8) (n : Nat) : ∀ ts : List (List UInt8), (∀ t ∈ ts, t.length ≤ n) → (jn c ts).length ≤ ts.length * (n + 1)
  | [], _ => by simp [jn]
  | [t], h => by have := h t (by simp); simp [jn]; omega
  | t :: u :: ts, h => by
    have h1 := h t (by simp)
    have h2 := jn_len_le c n (u :: ts) (fun x hx => h x (by simp only [List.mem_cons] at hx ⊢; exact .inr hx))
    rw [jn_cons (by simp), List.length_append, List.length_cons, List.length_cons, Nat.add_mul]
    omega
theorem tx_len {rs : List (Int × Int)} {t : List UInt8} (h : txO rs = some t) : t.length ≤ 100000 ∧ sqS t = some (rs.map ratN) ∧ (rs.map ratN).map natR = rs := by
  unfold txO at h
  split at h
  · rename_i hh
    obtain ⟨h1, h2, h3⟩ := hh
    cases h
    have h4 := nat_rat h1
    refine ⟨?_, sq_back (fun e => by have := congrArg List.length e; rw [List.length_map, List.length_nil] at this; omega) (by rw [List.length_map]; exact h3) h4.2, h4.1⟩
    unfold sqT
    have := jn_len_le 44 21 ((rs.map ratN).map sqTI) (fun t ht => by
      obtain ⟨r, hr, rfl⟩ := List.mem_map.1 ht
      have hb := h4.2 r hr
      have l1 := sqT1_len hb.1
      have l2 := sqT1_len hb.2
      unfold sqTI
      split <;> simp <;> omega)
    rw [List.length_map, List.length_map] at this
    omega
  · cases h
end Go.Proofs.YtbjencibkkhbhabGreatDoor
