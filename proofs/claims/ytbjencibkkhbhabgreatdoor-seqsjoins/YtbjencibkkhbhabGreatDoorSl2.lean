/- The laws SeqsNumbers, SeqsFlags, SeqsSets, SeqsHas, SeqsOf, wherever package seqs answers as told. -/
import Derived.Test.YtbjencibkkhbhabGreatDoorSl1
set_option linter.unusedSimpArgs false
set_option linter.unusedVariables false
namespace Go.Proofs.YtbjencibkkhbhabGreatDoor
open Go.RowKit Go.Shelf
def CNumber (w : World) (ea : Nat → Addr) : Prop := ∀ (s : List UInt8) (W : World), s.length ≤ 100000 → Below w.heap.size w W → Calls Tryz.prog 50 #[.string ⟨s.toArray⟩] W fun e w' => Below W.heap.size W w' ∧ ((sqN s ≠ 0 ∧ e = .returned (.tuple #[.int .i64 (sqN s : Nat), .nilIface])) ∨ (sqN s = 0 ∧ e = .returned (.tuple #[.int .i64 0, errF ea])))
def CHas (w : World) : Prop := ∀ (W : World) (v : Value) (rs : List (Int × Int)) (n mx : Int), rs.length ≤ 1000 → Below w.heap.size w W → RA W v rs → Calls Tryz.prog 10 #[v, .int .i64 n, .int .i64 mx] W fun e w' => e = .returned (.bool (sqIn rs n mx)) ∧ Below W.heap.size W w'
def CAlive (w : World) : Prop := Calls Tryz.prog 6 #[] w fun e w' => e = .returned (.bool true) ∧ Below w.heap.size w w'
end Go.Proofs.YtbjencibkkhbhabGreatDoor
