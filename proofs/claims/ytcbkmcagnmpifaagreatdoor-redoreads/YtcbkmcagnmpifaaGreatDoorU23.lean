/- Numbers of four bytes; records. -/
/- A row made by make, as a row of one's own; where a row lies that isn't empty. -/
import Derived.Test.YtcbkmcagnmpifaaGreatDoorU22
import Derived.BigQuiet
import Derived.Deep.QuietTactic
import Derived.Test.YtcbkmcagnmpifaaGreatDoorU03
section
namespace Go.Proofs.YtcbkmcagnmpifaaGreatDoor
open Go.RowKit
def fourB (n : Nat) : List UInt8 := [UInt8.ofNat (n / 16777216), UInt8.ofNat (n / 65536), UInt8.ofNat (n / 256), UInt8.ofNat n]
def recB (bs : List UInt8) : List UInt8 := fourB bs.length ++ fourB (sumN 1 bs) ++ bs
theorem fourB_length (n : Nat) : (fourB n).length = 4 := rfl
theorem recB_length (bs : List UInt8) : (recB bs).length = bs.length + 8 := by
  simp [recB, fourB_length]
  omega
/-- The number that four bytes are. -/
def numN (bs : List UInt8) : Nat := (bs.getD 0 0).toNat * 16777216 + (bs.getD 1 0).toNat * 65536 + (bs.getD 2 0).toNat * 256 + (bs.getD 3 0).toNat
theorem numN_four (n : Nat) (h : n < 4294967296) (r : List UInt8) : numN (fourB n ++ r) = n := by
  unfold numN fourB
  simp only [List.cons_append, List.nil_append, List.getD_cons_zero, List.getD_cons_succ]
  rw [UInt8.toNat_ofNat', UInt8.toNat_ofNat', UInt8.toNat_ofNat', UInt8.toNat_ofNat']
  omega
theorem numN_lt (bs : List UInt8) : numN bs < 4294967296 := by
  unfold numN
  have h0 := UInt8.toNat_lt (bs.getD 0 0)
  have h1 := UInt8.toNat_lt (bs.getD 1 0)
  have h2 := UInt8.toNat_lt (bs.getD 2 0)
  have h3 := UInt8.toNat_lt (bs.getD 3 0)
  omega
theorem numN_at (bs : List UInt8) (h : 4 ≤ bs.length) : numN bs = bs[0].toNat * 16777216 + bs[1].toNat * 65536 + bs[2].toNat * 256 + bs[3].toNat := by
  unfold numN
  simp only [List.getD_eq_getElem?_getD]
  rw [List.getElem?_eq_getElem (by omega), List.getElem?_eq_getElem (by omega), List.getElem?_eq_getElem (by omega), List.getElem?_eq_getElem (by omega)]
  rfl

/-- The cells of a number's four bytes. -/
theorem four_cells (n : Nat) (hn : n < 4294967296) : (#[.int .u8 ((n : Int) / 16777216), .int .u8 ((n : Int) / 65536 % 256), .int .u8 ((n : Int) / 256 % 256), .int .u8 ((n : Int) % 256)] : Array Value) = ((fourB n).map bv).toArray := by
  have e : ∀ (m : Nat) (z : Int), z = (m % 256 : Nat) → Value.int .u8 z = bv (UInt8.ofNat m) := fun m z h => by
    unfold bv
    rw [UInt8.toNat_ofNat', h]
  rw [e (n / 16777216) _ (by omega), e (n / 65536) _ (by omega), e (n / 256) _ (by omega), e n _ (by omega)]
  rfl

end Go.Proofs.YtcbkmcagnmpifaaGreatDoor

end
section
namespace Go.Proofs.YtcbkmcagnmpifaaGreatDoor
open Go.RowKit
theorem Rw.of_owns {w : World} {base : Nat} {e : TypeId} {v : Value} {n : Nat} {xs : List Value} (h : w.ownsRow base e 1 v n xs) : Rw w 1 v n xs v.ownBlock := by
  refine ⟨by rw [h.1], ?_⟩
  rcases h.2 with ⟨rfl, hn⟩ | ⟨g, cap, cur, rfl, _, hg, h1, h2, h3, h4⟩
  · exact .inl ⟨rfl, hn, rfl⟩
  · have hk : Blk w g cur e := hg
    refine .inr ⟨g, 0, cap, rfl, rfl, h1, h2, hk.lt, fun j u hu => ?_, fun j hj => ⟨?_, hk.frozen _⟩⟩
    · have hj := (List.getElem?_eq_some_iff.1 hu).1
      rw [← h4] at hu
      simp only [Nat.mul_one] at hu
      rw [hk.cell, Nat.zero_add]
      have hjn : j < n := by rw [h.1] at hj; omega
      rw [List.getElem?_take_of_lt hjn] at hu
      simpa using hu
    · rw [hk.cell, Nat.zero_add, Array.getElem?_eq_getElem (by omega)]
      rfl
theorem Rw.blk {w : World} {v : Value} {n : Nat} {cs : List Value} {G : Option Nat} (h : Rw w 1 v n cs G) (h0 : 0 < n) : ∃ g o c, G = some g ∧ v = .slice (some ⟨g, o, none⟩) n c ∧ n ≤ c ∧ g < w.heap.size ∧ (∀ j u, cs[j]? = some u → w.cell? ⟨g, o + j, none⟩ = some u) ∧ ∀ j, j < n → w.frozen? ⟨g, o + j, none⟩ = false := by
  rcases h.2 with ⟨_, h, _⟩ | ⟨g, o, c, k1, k2, h1, h2, h3, h4, h5⟩
  · omega
  · exact ⟨g, o, c, k1, k2, h1, h3, h4, fun j hj => (h5 j (by omega)).2⟩
end Go.Proofs.YtcbkmcagnmpifaaGreatDoor

end
