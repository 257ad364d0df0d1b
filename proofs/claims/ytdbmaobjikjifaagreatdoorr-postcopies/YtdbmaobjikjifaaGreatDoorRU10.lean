/- Runes of texts: whether a text has a rune that a test takes, where the test is one on bytes below 128. -/
/- Texts: halves, pieces, where a byte stands (package boxes). -/
/- line and goOn of package header; Body. -/
import Derived.Test.YtdbmaobjikjifaaGreatDoorRU02
import Derived.Shelf.GgClosure.StringsIndexFunc
import Derived.Laws.RangeString
import Derived.Lib.DecodeN
import Derived.Lib.SlTrimSet
import Derived.Test.YtdbmaobjikjifaaGreatDoorRU06
import Derived.BigQuiet
import Derived.Deep.QuietTactic
section
namespace Go.Proofs.YtdbmaobjikjifaaGreatDoorR
open Go.RowKit
theorem decode_highG (s : ByteArray) (pos : Nat) (h : pos < s.size) (ha : 128 ≤ (s[pos]'h).toNat) : 128 ≤ (Utf8.decode s pos).1 := by
  have e : (s.get! pos).toNat = (s[pos]'h).toNat := by
    simp [ByteArray.get!, getElem!_pos, h]
    rfl
  rw [Lib.decode_at, e]
  generalize (s[pos]'h).toNat = b0 at *
  generalize (s.get! (pos + 1)).toNat = b1
  generalize (s.get! (pos + 2)).toNat = b2
  generalize (s.get! (pos + 3)).toNat = b3
  unfold Lib.decodeN
  repeat' split
  all_goals (dsimp only; omega)
/-- A test of runes: false of a byte that pB takes, true of the other bytes below 128 and of all runes from 128 on. -/
structure RuneT (pR : Nat → Bool) (pB : UInt8 → Bool) : Prop where
  low : ∀ c : UInt8, c.toNat < 128 → pR c.toNat = !pB c
  high : ∀ x, 128 ≤ x → pR x = true
  lt : ∀ c, pB c = true → c.toNat < 128
theorem idx_from {pR : Nat → Bool} {pB : UInt8 → Bool} (T : RuneT pR pB) (l : List UInt8) : ∀ (r pre : List UInt8) (f : Nat), pre ++ r = l → r.length ≤ f →
    Lib.idxFuncFrom pR true ⟨l.toArray⟩ f pre.length = if r.dropWhile pB = [] then -1 else ((pre.length + (r.takeWhile pB).length : Nat) : Int)
  | [], pre, f, h, _ => by
    rw [Lib.idxFuncFrom_end _ _ _ _ _ (by subst h; simp [ByteArray.size])]
    rfl
  | c :: r, pre, 0, _, hf => by simp at hf
  | c :: r, pre, f + 1, h, hf => by
    have hlt : pre.length < (⟨l.toArray⟩ : ByteArray).size := by subst h; simp [ByteArray.size]
    have hat : (⟨l.toArray⟩ : ByteArray)[pre.length]'hlt = c := by
      show l[pre.length]'(by simpa [ByteArray.size] using hlt) = c
      subst h
      simp
    rw [Lib.idxFuncFrom, if_pos hlt]
    cases hc : pB c with
    | true =>
      have h128 := T.lt c hc
      have hd := decode_ascii ⟨l.toArray⟩ pre.length hlt (by rw [hat]; exact h128)
      rw [hat] at hd
      have ih := idx_from T l r (pre ++ [c]) f (by rw [← h]; simp) (by simp at hf; omega)
      rw [hd, if_neg (by rw [T.low c h128, hc]; simp)]
      rw [List.length_append] at ih
      show Lib.idxFuncFrom pR true _ f (pre.length + 1) = _
      rw [show pre.length + [c].length = pre.length + 1 from rfl] at ih
      rw [ih, List.dropWhile_cons_of_pos hc, List.takeWhile_cons_of_pos hc]
      split
      · rfl
      · simp
        omega
    | false =>
      have hp : pR (Utf8.decode ⟨l.toArray⟩ pre.length).1 = true := by
        by_cases h128 : c.toNat < 128
        · have hd := decode_ascii ⟨l.toArray⟩ pre.length hlt (by rw [hat]; exact h128)
          rw [hat] at hd
          rw [hd, T.low c h128, hc]
          rfl
        · rw [T.high _ (decode_highG _ _ hlt (by rw [hat]; omega))]
      rw [if_pos hp, List.dropWhile_cons_of_neg (by simp [hc]), List.takeWhile_cons_of_neg (by simp [hc]), if_neg (by simp)]
      simp
theorem drop_allG (pB : UInt8 → Bool) (l : List UInt8) : l.dropWhile pB = [] ↔ l.all pB = true := by
  induction l with
  | nil => simp
  | cons c r ih =>
    cases hc : pB c with
    | true => rw [List.dropWhile_cons_of_pos hc, ih, List.all_cons, hc]; simp
    | false => rw [List.dropWhile_cons_of_neg (by simp [hc]), List.all_cons, hc]; simp
theorem idx_allG {pR : Nat → Bool} {pB : UInt8 → Bool} (T : RuneT pR pB) (l : List UInt8) : decide (0 ≤ Lib.idxFunc pR true ⟨l.toArray⟩) = !l.all pB := by
  have h := idx_from T l l [] (⟨l.toArray⟩ : ByteArray).size rfl (by simp [ByteArray.size])
  have h' : Lib.idxFunc pR true ⟨l.toArray⟩ = if l.dropWhile pB = [] then -1 else (((l.takeWhile pB).length : Nat) : Int) := by simpa [Lib.idxFunc] using h
  rw [h']
  cases ha : l.all pB with
  | true => rw [if_pos ((drop_allG pB l).2 ha)]; rfl
  | false =>
    rw [if_neg (fun e => by rw [(drop_allG pB l).1 e] at ha; cases ha)]
    simp
end Go.Proofs.YtdbmaobjikjifaaGreatDoorR

end
section
namespace Go.Proofs.YtdbmaobjikjifaaGreatDoorR
end Go.Proofs.YtdbmaobjikjifaaGreatDoorR

end
section
namespace Go.Proofs.YtdbmaobjikjifaaGreatDoorR
open Go.RowKit Go.Shelf
/-- Where a line begins in a message, and what is behind it. -/
structure AtL (m pre : List UInt8) (ls : List (List UInt8)) : Prop where
  eq : m = pre ++ ls.flatten
  ok : LOK ls
theorem AtL.next {m pre x : List UInt8} {r : List (List UInt8)} (h : AtL m pre (x :: r)) : AtL m (pre ++ x) r := ⟨by rw [h.eq]; simp, h.ok.2⟩
theorem AtL.start (m : List UInt8) : AtL m [] (splitS m) := ⟨by rw [splitS_flat]; rfl, lok m⟩
theorem AtL.skip {m pre : List UInt8} {g r : List (List UInt8)} (h : AtL m pre (g ++ r)) : AtL m (pre ++ g.flatten) r := ⟨by rw [h.eq]; simp, h.ok.right⟩
/-- The blanks. -/
theorem blank_in (c : UInt8) (h : c = 32 ∨ c = 9) : 0 ≤ Lib.indexByte [32, 9] c := by
  rcases h with rfl | rfl <;> decide
theorem blank_out (c : UInt8) (h : ¬ (c = 32 ∨ c = 9)) : Lib.indexByte [32, 9] c = -1 := by
  refine index_out ?_
  simp only [List.mem_cons, List.not_mem_nil, or_false]
  exact h
theorem blB_cons {c : UInt8} {y : List UInt8} : blB (c :: y) = true ↔ (c = 32 ∨ c = 9) := by simp [blB]
end Go.Proofs.YtdbmaobjikjifaaGreatDoorR

end
