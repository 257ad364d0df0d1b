/- The document's Flags of layer 14. -/
import Derived.Test.YtbjencibkkhbhabGreatDoorSq3
import Derived.Test.YtbjencibkkhbhabGreatDoorHs1
set_option linter.unusedSimpArgs false
set_option linter.unusedVariables false
namespace Go.Proofs.YtbjencibkkhbhabGreatDoor
open Go.RowKit Go.Shelf
theorem or_nat (a b : Nat) (ha : a < 2147483648) (hb : b < 2147483648) : bits .or .i64 (a : Int) (b : Int) = ((a ||| b : Nat) : Int) := by
  have ha' : a % 2 ^ IntKind.i64.bits = a := Nat.mod_eq_of_lt (by simp [IntKind.bits]; omega)
  have hb' : b % 2 ^ IntKind.i64.bits = b := Nat.mod_eq_of_lt (by simp [IntKind.bits]; omega)
  simp only [bits, BitVec.ofInt_natCast, BitVec.toNat_or, BitVec.toNat_ofNat, ha', hb']
  have := Nat.or_lt_two_pow (n := 31) ha hb
  rw [IntKind.wrap_i64]
  omega
def flV (o : Option Nat) : Ending := .returned (.tuple #[.int .i64 ((o.getD 0 : Nat) : Int), .bool o.isSome])
theorem flF_next {F : Nat} {ws : List (List UInt8)} {k : Nat} (h : k < ws.length) : flF F (ws.drop k) = (flW ws[k]).bind fun b => flF (F ||| b) (ws.drop (k + 1)) := by
  rw [List.drop_eq_getElem_cons h]
  rfl
end Go.Proofs.YtbjencibkkhbhabGreatDoor
