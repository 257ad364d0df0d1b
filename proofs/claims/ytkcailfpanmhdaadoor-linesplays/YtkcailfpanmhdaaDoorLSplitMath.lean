/- A text's lines, each with its end. -/
import Derived.Test.YtkcailfpanmhdaaDoorLr6
namespace Go.Proofs.YtkcailfpanmhdaaDoor
open Go.RowKit
/-- A text's lines. -/
def splitS : List UInt8 → List (List UInt8)
  | [] => []
  | c :: r => if c = 10 then [10] :: splitS r else match splitS r with
    | [] => [[c]]
    | x :: xs => (c :: x) :: xs
theorem splitS_mid : ∀ (p r : List UInt8), (10 : UInt8) ∉ p → splitS (p ++ 10 :: r) = (p ++ [10]) :: splitS r
  | [], r, _ => by simp [splitS]
  | c :: p, r, h => by
    simp only [List.mem_cons, not_or] at h
    show splitS (c :: (p ++ 10 :: r)) = _
    rw [splitS, if_neg (fun e => h.1 e.symm), splitS_mid p r h.2]
    rfl
theorem splitS_end : ∀ (l : List UInt8), (10 : UInt8) ∉ l → l ≠ [] → splitS l = [l]
  | [c], h, _ => by
    simp only [List.mem_cons, not_or] at h
    rw [splitS, if_neg (fun e => h.1 e.symm)]
    rfl
  | c :: d :: r, h, _ => by
    simp only [List.mem_cons, not_or] at h
    rw [splitS, if_neg (fun e => h.1 e.symm), splitS_end (d :: r) (by simp only [List.mem_cons, not_or]; exact h.2) (by simp)]
theorem splitS_flat : ∀ (l : List UInt8), (splitS l).flatten = l
  | [] => rfl
  | c :: r => by
    have ih := splitS_flat r
    rw [splitS]
    split
    · next hc => simp [ih, hc]
    · split
      · next h =>
        rw [h] at ih
        simp at ih
        simp [← ih]
      · next x xs h =>
        rw [h] at ih
        simp at ih
        simp [ih]
theorem splitS_len : ∀ (l : List UInt8), (splitS l).length ≤ l.length
  | [] => Nat.le_refl _
  | c :: r => by
    have ih := splitS_len r
    rw [splitS]
    split
    · simp; omega
    · split
      · next h => simp
      · next x xs h =>
        rw [h] at ih
        simp at ih ⊢
        omega
theorem ext_take (l : List UInt8) (k : Nat) : (⟨l.toArray⟩ : ByteArray).extract 0 k = ⟨(l.take k).toArray⟩ := by
  apply ByteArray.ext
  simp [ByteArray.data_extract]
theorem ext_drop (l : List UInt8) (k : Nat) : (⟨l.toArray⟩ : ByteArray).extract k l.length = ⟨(l.drop k).toArray⟩ := by
  apply ByteArray.ext
  simp only [ByteArray.data_extract, List.extract_toArray]
  congr 1
  rw [List.extract_eq_take_drop]
  apply List.take_of_length_le
  rw [List.length_drop]
  omega
theorem ext_mid (l : List UInt8) (a b : Nat) : (⟨l.toArray⟩ : ByteArray).extract a b = ⟨((l.drop a).take (b - a)).toArray⟩ := by
  apply ByteArray.ext
  simp [ByteArray.data_extract, List.extract_eq_take_drop]
/-- A text as a cell holds it. -/
def sv (x : List UInt8) : Value := .string ⟨x.toArray⟩
theorem strInfo : (Tryd.prog.info? 9).map (fun i => (i.zero, i.size, i.bytes)) = some (some (.string ⟨#[]⟩), 1, 16) := by kernel_rfl
theorem sv_oneCell (xs : List (List UInt8)) : ∀ u ∈ xs.map sv, u.oneCell' = true := by
  intro u hu
  obtain ⟨b, _, rfl⟩ := List.mem_map.1 hu
  rfl
/-- One text, laid as a row just now. -/
theorem src_one {w : World} {t : TypeId} (x : List UInt8) {c : Nat} (ht : Tryd.prog.underlying t = some (.slice 9)) : Src Tryd.prog 1 t (.slice (some ⟨w.heap.size, 0, none⟩) 1 c) 1 [sv x] (w.alloc (.cells #[.string ⟨x.toArray⟩] 9)) := by
  refine Src.ofSlice _ ht ⟨w.heap.size, 0, none⟩ 1 c [sv x] (by simp) (fun j u hu => ?_) (sv_oneCell [x])
  have hj := (List.getElem?_eq_some_iff.1 hu).1
  obtain rfl : j = 0 := by simpa using hj
  rw [Go.WideShapes.add_plain, Nat.zero_add, (Blk.new w _ _).cell]
  simp at hu
  rw [← hu]
  rfl
end Go.Proofs.YtkcailfpanmhdaaDoor
