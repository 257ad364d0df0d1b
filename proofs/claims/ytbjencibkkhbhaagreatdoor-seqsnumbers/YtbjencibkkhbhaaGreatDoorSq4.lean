/- The document's Flags of layer 14. -/
import Derived.Test.YtbjencibkkhbhaaGreatDoorSq3
import Derived.Test.YtbjencibkkhbhaaGreatDoorHs1
set_option linter.unusedSimpArgs false
set_option linter.unusedVariables false
namespace Go.Proofs.YtbjencibkkhbhaaGreatDoor
open Go.RowKit Go.Shelf
theorem or_nat (a b : Nat) (ha : a < 2147483648) (hb : b < 2147483648) : bits .or .i64 (a : Int) (b : Int) = ((a ||| b : Nat) : Int) := by
  have ha' : a % 2 ^ IntKind.i64.bits = a := Nat.mod_eq_of_lt (by simp [IntKind.bits]; omega)
  have hb' : b % 2 ^ IntKind.i64.bits = b := Nat.mod_eq_of_lt (by simp [IntKind.bits]; omega)
  simp only [bits, BitVec.ofInt_natCast, BitVec.toNat_or, BitVec.toNat_ofNat, ha', hb']
  have := Nat.or_lt_two_pow (n := 31) ha hb
  rw [IntKind.wrap_i64]
  omega
set_option maxRecDepth 20000 in
theorem rname14 (i : Nat) (hi : i < 5) (w : World) : Calls Tryz.prog 44 #[.int .i64 (i : Nat)] w fun e w' => e = .returned (.string ⟨(flN.getD i []).toArray⟩) ∧ Below w.heap.size w w' := by
  obtain rfl | rfl | rfl | rfl | rfl : i = 0 ∨ i = 1 ∨ i = 2 ∨ i = 3 ∨ i = 4 := by omega
  all_goals
    go_enter Tryz.func44, Tryz.ntmps44
    go_wp2
    go_ret
    exact ⟨rfl, (Below.refl _ _).alloc (Nat.le_refl _) _⟩
def flV (o : Option Nat) : Ending := .returned (.tuple #[.int .i64 ((o.getD 0 : Nat) : Int), .bool o.isSome])
theorem flF_next {F : Nat} {ws : List (List UInt8)} {k : Nat} (h : k < ws.length) : flF F (ws.drop k) = (flW ws[k]).bind fun b => flF (F ||| b) (ws.drop (k + 1)) := by
  rw [List.drop_eq_getElem_cons h]
  rfl
end Go.Proofs.YtbjencibkkhbhaaGreatDoor
