/- The document's Text, colon, blank, trim of layer 9. -/
import Derived.Test.YtkppeejbmalefaaDoorHs2
namespace Go.Proofs.YtkppeejbmalefaaDoor
open Go.RowKit Go.Shelf
theorem txt_snoc (q : List UInt8) (c : UInt8) : txt (q ++ [c]) = if c = 10 then cr q else q ++ [c] := by
  unfold txt
  simp
theorem cr_snoc (q : List UInt8) (c : UInt8) : cr (q ++ [c]) = if c = 13 then q else q ++ [c] := by
  unfold cr
  simp
theorem at_snoc (q : List UInt8) (c : UInt8) (r : List UInt8) (h : q.length < (⟨(q ++ c :: r).toArray⟩ : ByteArray).size) : (⟨(q ++ c :: r).toArray⟩ : ByteArray)[q.length]'h = c := by
  show (q ++ c :: r)[q.length]'(by simp) = c
  rw [List.getElem_append_right (Nat.le_refl _)]
  simp
theorem not_byte {x : UInt8} {n : Nat} (hn : n < 256) (h : x ≠ n.toUInt8) : ¬ ((x.toNat : Int) = n) := by
  intro e
  apply h
  apply UInt8.toNat_inj.1
  have : x.toNat = n := by omega
  rw [this]
  simp
  omega
/-- A blank. -/
def bkB (c : UInt8) : Bool := c == 32 || c == 9
/-- Where a field's name ends. -/
def colN (t : List UInt8) : Int := match nameO t with
  | some p => (p.length : Nat)
  | none => -1
theorem nameO_none_of {t : List UInt8} (h : ∀ p q, t = p ++ 58 :: q → (58 : UInt8) ∉ p → p ≠ [] → p.all nbB = true → False) : nameO t = none := by
  cases hn : nameO t with
  | none => rfl
  | some p =>
    obtain ⟨q, h1, h2, h3, h4⟩ := nameO_some hn
    exact (h p q h1 h2 h3 h4).elim
theorem colN_none {t : List UInt8} (h : nameO t = none) : colN t = -1 := by
  unfold colN
  rw [h]
theorem colN_some {t p : List UInt8} (h : nameO t = some p) : colN t = (p.length : Nat) := by
  unfold colN
  rw [h]
theorem take_ne {t : List UInt8} {j : Nat} (hlt : j < t.length) (h0 : ¬ j = 0) : t.take j ≠ [] := by
  intro h
  have h8 : (t.take j).length = 0 := by
    rw [h]
    rfl
  rw [List.length_take] at h8
  omega
def ncB (c : UInt8) : Bool := nbB c && c != 58
theorem ncB_at {t : List UInt8} {i j : Nat} (h : (t.take i).all ncB = true) (hj : j < i) (hjt : j < t.length) : ncB t[j] = true := by
  rw [List.all_eq_true] at h
  have hk : j < (t.take i).length := by rw [List.length_take]; omega
  have := h ((t.take i)[j]'hk) (List.getElem_mem hk)
  rwa [List.getElem_take] at this
theorem take_ncB_next {p : List UInt8} {k : Nat} (hk : k < p.length) (h : (p.take k).all ncB = true) (hc : ncB p[k] = true) : (p.take (k + 1)).all ncB = true := by
  rw [List.take_succ_eq_append_getElem hk, List.all_append, h]
  simp [hc]
theorem right_cons (c : UInt8) (l : List UInt8) : Lib.trimRightS (c :: l) [32, 9] = if Lib.trimRightS l [32, 9] = [] then (if bkB c then [] else [c]) else c :: Lib.trimRightS l [32, 9] := by
  unfold Lib.trimRightS
  rw [List.reverse_cons, List.dropWhile_append]
  have hp : ∀ x : UInt8, ([32, 9] : List UInt8).contains x = bkB x := fun x => by
    unfold bkB
    rw [Bool.eq_iff_iff]
    simp
  by_cases h : (l.reverse.dropWhile fun x => ([32, 9] : List UInt8).contains x) = []
  · rw [h]
    simp only [List.isEmpty_nil, if_true, List.reverse_nil]
    rw [List.dropWhile_cons, hp]
    split <;> simp
  · have h2 : (l.reverse.dropWhile fun x => ([32, 9] : List UInt8).contains x).isEmpty = false := by simpa using h
    rw [if_neg (by rw [h2]; simp), if_neg (by simpa using h)]
    simp
theorem left_cons (c : UInt8) (l : List UInt8) : Lib.trimLeftS (c :: l) [32, 9] = if bkB c then Lib.trimLeftS l [32, 9] else c :: l := by
  unfold Lib.trimLeftS
  have hp : ([32, 9] : List UInt8).contains c = bkB c := by
    unfold bkB
    rw [Bool.eq_iff_iff]
    simp
  rw [List.dropWhile_cons, hp]
theorem trim_swap : ∀ (l : List UInt8), Lib.trimRightS (Lib.trimLeftS l [32, 9]) [32, 9] = Lib.trimS l [32, 9]
  | [] => rfl
  | c :: l => by
    have ih := trim_swap l
    unfold Lib.trimS at *
    rw [left_cons]
    by_cases hc : bkB c = true
    · rw [if_pos hc, ih, right_cons, if_pos hc]
      by_cases h : Lib.trimRightS l [32, 9] = []
      · rw [if_pos h, h]
      · rw [if_neg h, left_cons, if_pos hc]
    · rw [if_neg hc, right_cons, if_neg hc]
      by_cases h : Lib.trimRightS l [32, 9] = []
      · rw [if_pos h, left_cons, if_neg hc]
      · rw [if_neg h, left_cons, if_neg hc]
theorem right_snoc (q : List UInt8) (c : UInt8) : Lib.trimRightS (q ++ [c]) [32, 9] = if bkB c then Lib.trimRightS q [32, 9] else q ++ [c] := by
  unfold Lib.trimRightS
  have hp : ([32, 9] : List UInt8).contains c = bkB c := by
    unfold bkB
    rw [Bool.eq_iff_iff]
    simp
  rw [List.reverse_append, List.reverse_singleton, List.singleton_append, List.dropWhile_cons, hp]
  split <;> simp
end Go.Proofs.YtkppeejbmalefaaDoor
