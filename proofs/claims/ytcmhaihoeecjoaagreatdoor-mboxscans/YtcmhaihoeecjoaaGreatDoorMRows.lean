/- Rows of entries: plain lists of lines. -/
import Derived.Test.YtcmhaihoeecjoaaGreatDoorMMath
namespace Go.Proofs.YtcmhaihoeecjoaaGreatDoor
/-- Entries one behind the other: each one's separator line and message. -/
def rowsT (es : List (List UInt8 × List UInt8)) : List UInt8 := (es.map fun e => e.1 ++ encL e.2).flatten
def rowsG (es : List (List UInt8 × List UInt8)) : List (List UInt8 × List (List UInt8)) := es.map fun e => (e.1, splitS (encL e.2))
def rowsL (es : List (List UInt8 × List UInt8)) : List (List UInt8) := (es.map fun e => e.1 :: splitS (encL e.2)).flatten
theorem enc_terms (m : List UInt8) : ∀ x ∈ splitS (encL m), Term x ∧ sepB x = false := by
  rw [enc_lines]
  intro x hx
  obtain ⟨y, hy, rfl⟩ := List.mem_map.1 hx
  exact ⟨(term_split m.length m (Nat.le_refl _) y hy).quote, sep_quote y⟩
theorem rowsL_flat (es : List (List UInt8 × List UInt8)) : (rowsL es).flatten = rowsT es := by
  unfold rowsL rowsT
  induction es with
  | nil => rfl
  | cons e es ih =>
    simp only [List.map_cons, List.flatten_cons, List.flatten_append]
    rw [ih, splitS_flat]
theorem rowsL_terms : ∀ (es : List (List UInt8 × List UInt8)), (∀ e ∈ es, Term e.1) → ∀ x ∈ rowsL es, Term x := by
  intro es h x hx
  unfold rowsL at hx
  obtain ⟨l, hl, hxl⟩ := List.mem_flatten.1 hx
  obtain ⟨e, he, rfl⟩ := List.mem_map.1 hl
  rcases List.mem_cons.1 hxl with rfl | hxl
  · exact h e he
  · exact (enc_terms e.2 x hxl).1
theorem rows_split {es : List (List UInt8 × List UInt8)} (h : ∀ e ∈ es, Term e.1) : splitS (rowsT es) = rowsL es := by
  rw [← rowsL_flat]
  exact (LOK.of_terms (rowsL_terms es h)).split
theorem rows_grp : ∀ (es : List (List UInt8 × List UInt8)), (∀ e ∈ es, sepB e.1 = true) → grp (rowsL es) = ([], rowsG es)
  | [], _ => rfl
  | e :: es, h => by
    have ih := rows_grp es fun x hx => h x (by simp [hx])
    have e1 : rowsL (e :: es) = e.1 :: (splitS (encL e.2) ++ rowsL es) := by simp [rowsL]
    rw [e1, grp_sep (h e (by simp)), grp_run _ _ (fun x hx => (enc_terms e.2 x hx).2), ih]
    simp [rowsG]
theorem rows_ok (es : List (List UInt8 × List UInt8)) : okG (rowsG es) = true := by
  unfold okG rowsG
  rw [List.all_eq_true]
  intro g hg
  obtain ⟨e, _, rfl⟩ := List.mem_map.1 hg
  show ((splitS (encL e.2)).flatten.getLast? == some 10) = true
  rw [splitS_flat]
  obtain ⟨m, hm⟩ := enc_end e.2
  rw [hm]
  simp
theorem rows_scan {es : List (List UInt8 × List UInt8)} (h : ∀ e ∈ es, Term e.1 ∧ sepB e.1 = true) : scanV (rowsT es) = some (spans 0 (rowsG es)) := by
  unfold scanV restV
  rw [rows_split fun e he => (h e he).1, rows_grp es fun e he => (h e he).2]
  rw [if_pos ⟨rfl, rows_ok es⟩]
theorem rows_lead {es : List (List UInt8 × List UInt8)} (h : ∀ e ∈ es, Term e.1 ∧ sepB e.1 = true) : grp (splitS (rowsT es)) = ([], rowsG es) := by
  rw [rows_split fun e he => (h e he).1, rows_grp es fun e he => (h e he).2]
theorem rows_cut {es : List (List UInt8 × List UInt8)} (h : ∀ e ∈ es, Term e.1 ∧ sepB e.1 = true) : (spans 0 (rowsG es)).map (cutB (rowsT es)) = es.map fun e => encL e.2 := by
  have := scan_cut (s := rowsT es) (by rw [rows_lead h])
  rw [rows_lead h] at this
  rw [this]
  unfold rowsG
  rw [List.map_map]
  exact List.map_congr_left fun e _ => splitS_flat _
theorem rows_head {es : List (List UInt8 × List UInt8)} (h : ∀ e ∈ es, Term e.1 ∧ sepB e.1 = true) : (spans 0 (rowsG es)).map (cutH (rowsT es)) = es.map fun e => e.1 ++ encL e.2 := by
  have := scan_head (s := rowsT es) (by rw [rows_lead h])
  rw [rows_lead h] at this
  rw [this]
  unfold rowsG
  rw [List.map_map]
  exact List.map_congr_left fun e _ => by show e.1 ++ (splitS (encL e.2)).flatten = _; rw [splitS_flat]
theorem rows_in {es : List (List UInt8 × List UInt8)} (h : ∀ e ∈ es, Term e.1 ∧ sepB e.1 = true) : ∀ p ∈ spans 0 (rowsG es), p.h ≤ p.b ∧ p.b ≤ p.e ∧ p.e ≤ (rowsT es).length := by
  have := scan_in (s := rowsT es) (by rw [rows_lead h])
  rwa [rows_lead h] at this
theorem rowsT_snoc (es : List (List UInt8 × List UInt8)) (e : List UInt8 × List UInt8) : rowsT (es ++ [e]) = rowsT es ++ (e.1 ++ encL e.2) := by simp [rowsT]
end Go.Proofs.YtcmhaihoeecjoaaGreatDoor
