/- Texts: where a byte stands, halves. -/
import Derived.Test.YtbjencibkkhbhaaGreatDoorMgQMath
import Derived.Test.YtbjencibkkhbhaaGreatDoorOwn
import Derived.Test.YtbjencibkkhbhaaGreatDoorShelf
import Derived.Test.YtbjencibkkhbhaaGreatDoorChecked
namespace Go.Proofs.YtbjencibkkhbhaaGreatDoor
open Go.RowKit Go.Shelf
theorem hide {p : Prop} (h : p) : Hid p := h
theorem size_lit (l : List UInt8) : (⟨l.toArray⟩ : ByteArray).size = l.length := by simp [ByteArray.size]
theorem cat_lit (a b : List UInt8) : (⟨a.toArray⟩ : ByteArray) ++ ⟨b.toArray⟩ = ⟨(a ++ b).toArray⟩ := by
  apply ByteArray.ext
  simp [ByteArray.data_append]
theorem drop_mid (p r : List UInt8) (c : UInt8) : (p ++ c :: r).drop (p.length + 1) = r := by
  rw [List.drop_append, List.drop_of_length_le (by omega), show p.length + 1 - p.length = 1 from by omega]
  rfl
theorem index_in {b : UInt8} : ∀ {p : List UInt8} (r : List UInt8), b ∉ p → Lib.indexByte (p ++ b :: r) b = p.length
  | [], r, _ => by simp [Lib.indexByte]
  | c :: p, r, h => by
    have h1 := index_in r (fun hp => h (List.mem_cons_of_mem _ hp))
    have hc : (c == b) = false := by
      rw [beq_eq_false_iff_ne]
      rintro rfl
      exact h (by simp)
    rw [List.cons_append, Lib.indexByte, hc, h1]
    simp
theorem index_out {b : UInt8} : ∀ {l : List UInt8}, b ∉ l → Lib.indexByte l b = -1
  | [], _ => rfl
  | c :: p, h => by
    have h1 := index_out (l := p) (fun hp => h (List.mem_cons_of_mem _ hp))
    have hc : (c == b) = false := by
      rw [beq_eq_false_iff_ne]
      rintro rfl
      exact h (by simp)
    rw [Lib.indexByte, hc, h1]
    simp
theorem split_at_byte {b : UInt8} : ∀ (l : List UInt8), b ∈ l → ∃ p q, l = p ++ b :: q ∧ b ∉ p
  | [], h => by cases h
  | c :: l, h => by
    by_cases hc : c = b
    · exact ⟨[], l, by rw [hc]; rfl, by simp⟩
    · obtain ⟨p, q, e, hp⟩ := split_at_byte l (by rcases List.mem_cons.1 h with h | h; exact absurd h.symm hc; exact h)
      refine ⟨c :: p, q, by rw [e]; rfl, ?_⟩
      simp only [List.mem_cons, not_or]
      exact ⟨fun e => hc e.symm, hp⟩
theorem bel_drewN (w : World) (n : Nat) : Below w.heap.size w (w.drewN n) := ⟨rfl, rfl, rfl, Nat.le_refl _, fun _ _ => rfl⟩
end Go.Proofs.YtbjencibkkhbhaaGreatDoor
