/- The law SeqsBack, wherever package seqs answers as told. -/
import Derived.Test.YtbjencibkkhbhaaGreatDoorSl2
set_option linter.unusedSimpArgs false
set_option linter.unusedVariables false
namespace Go.Proofs.YtbjencibkkhbhaaGreatDoor
open Go.RowKit Go.Shelf
theorem and31 (x : Int) : ∃ f : Nat, f < 32 ∧ bits .and .i64 x 31 = (f : Int) := by
  refine ⟨(BitVec.ofInt 64 x).toNat % 32, Nat.mod_lt _ (by decide), ?_⟩
  have h : ((BitVec.ofInt 64 x) &&& (BitVec.ofInt 64 31)).toNat = (BitVec.ofInt 64 x).toNat % 32 := by
    rw [BitVec.toNat_and, show (BitVec.ofInt 64 31).toNat = 2 ^ 5 - 1 from by decide, Nat.and_two_pow_sub_one_eq_mod]
  show IntKind.i64.wrap (((BitVec.ofInt 64 x) &&& (BitVec.ofInt 64 31)).toNat : Nat) = _
  rw [h, IntKind.wrap_i64]
  have := Nat.mod_lt (BitVec.ofInt 64 x).toNat (show 0 < 32 by decide)
  omega
def apF (f how g : Nat) : Nat := if how = 0 then g else if how = 1 then f ||| g else f &&& (31 - g)
theorem ap_and : ∀ f, f < 32 → ∀ g, g < 32 → bits .and .i64 ((apF f 1 g : Nat) : Int) (g : Nat) = ((g : Nat) : Int) := by decide +kernel
theorem ap_not : ∀ f, f < 32 → ∀ g, g < 32 → bits .andNot .i64 ((apF f 1 g : Nat) : Int) (g : Nat) = ((apF f 2 g : Nat) : Int) ∧ bits .andNot .i64 ((f : Nat) : Int) (g : Nat) = ((apF f 2 g : Nat) : Int) ∧ apF (apF f 1 g) 2 g = apF f 2 g ∧ apF f 1 g < 32 := by decide +kernel
theorem flT_len : ∀ f, f < 32 → (flT f).length ≤ 100000 := by decide +kernel
end Go.Proofs.YtbjencibkkhbhaaGreatDoor
