/- Texts: halves, pieces, where a byte stands. -/
import Derived.Test.YtppipfjnichikaaDoorPaMath
import Derived.Test.YtppipfjnichikaaDoorOwn
import Derived.Test.YtppipfjnichikaaDoorShelf
import Derived.Test.YtppipfjnichikaaDoorChecked
namespace Go.Proofs.YtppipfjnichikaaDoor
open Go.RowKit Go.Shelf
theorem hide {p : Prop} (h : p) : Hid p := h
theorem size_lit (l : List UInt8) : (⟨l.toArray⟩ : ByteArray).size = l.length := by simp [ByteArray.size]
theorem cat_lit (a b : List UInt8) : (⟨a.toArray⟩ : ByteArray) ++ ⟨b.toArray⟩ = ⟨(a ++ b).toArray⟩ := by
  apply ByteArray.ext
  simp [ByteArray.data_append]
theorem ext_take (l : List UInt8) (k : Nat) : (⟨l.toArray⟩ : ByteArray).extract 0 k = ⟨(l.take k).toArray⟩ := by
  apply ByteArray.ext
  simp [ByteArray.data_extract]
theorem ext_drop (l : List UInt8) (k : Nat) : (⟨l.toArray⟩ : ByteArray).extract k l.length = ⟨(l.drop k).toArray⟩ := by
  apply ByteArray.ext
  simp [ByteArray.data_extract]
  exact List.take_of_length_le (by simp)
theorem ext_mid (l : List UInt8) (i j : Nat) : (⟨l.toArray⟩ : ByteArray).extract i j = ⟨((l.drop i).take (j - i)).toArray⟩ := by
  apply ByteArray.ext
  simp [ByteArray.data_extract]
theorem index_in {b : UInt8} : ∀ {p : List UInt8} (r : List UInt8), b ∉ p → Lib.indexByte (p ++ b :: r) b = p.length
  | [], r, _ => by simp [Lib.indexByte]
  | c :: p, r, h => by
    have h1 := index_in r (fun hp => h (List.mem_cons_of_mem _ hp))
    have hc : (c == b) = false := by
      rw [beq_eq_false_iff_ne]
      rintro rfl
      exact h (by simp)
    rw [List.cons_append, Lib.indexByte, hc, h1]
    simp
theorem index_out {b : UInt8} : ∀ {l : List UInt8}, b ∉ l → Lib.indexByte l b = -1
  | [], _ => rfl
  | c :: p, h => by
    have h1 := index_out (l := p) (fun hp => h (List.mem_cons_of_mem _ hp))
    have hc : (c == b) = false := by
      rw [beq_eq_false_iff_ne]
      rintro rfl
      exact h (by simp)
    rw [Lib.indexByte, hc, h1]
    simp
theorem split_at_byte {b : UInt8} : ∀ (l : List UInt8), b ∈ l → ∃ p q, l = p ++ b :: q ∧ b ∉ p
  | [], h => by cases h
  | c :: l, h => by
    by_cases hc : c = b
    · exact ⟨[], l, by rw [hc]; rfl, by simp⟩
    · obtain ⟨p, q, e, hp⟩ := split_at_byte l (by rcases List.mem_cons.1 h with h | h; exact absurd h.symm hc; exact h)
      refine ⟨c :: p, q, by rw [e]; rfl, ?_⟩
      simp only [List.mem_cons, not_or]
      exact ⟨fun e => hc e.symm, hp⟩
end Go.Proofs.YtppipfjnichikaaDoor
