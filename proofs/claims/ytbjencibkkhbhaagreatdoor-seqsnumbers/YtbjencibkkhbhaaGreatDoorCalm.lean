/- A region that draws its order, which reads memory that was there and whose calls may make memory: one walk in the order of the text, in whatever world that keeps the old blocks. -/
import Derived.Test.YtbjencibkkhbhaaGreatDoorMem
import Derived.Deep.QuietTactic
import Derived.BigQuiet
namespace Go.Proofs.YtbjencibkkhbhaaGreatDoor
open Go.RowKit

/-- A world that holds all blocks of W as they were. -/
structure Ext (W : World) where
  w : World
  ok : Below W.heap.size W w

section
variable {P : Program} {W : World}
theorem ext_some (W : World) : Nonempty (Ext W) := ⟨⟨W, Below.refl _ _⟩⟩
theorem ext_cell (W : World) (u : Ext W) (b o : Nat) (h : b < W.heap.size) : u.w.cell? ⟨b, o, none⟩ = W.cell? ⟨b, o, none⟩ := u.ok.cell (p := ⟨b, o, none⟩) h
theorem wp_region_ext {id : Nat} {Q : Exit → Act → World → Prop} {a : Act} {l : List Oper} (hm : P.follows .mixedOrders = true) (hB : Region.lexB .any l.toArray = true)
    (h : wpQuiet P l.toArray (fun w' => ∃ u : Ext W, w' = u.w) (fun a' => ∀ w', (∃ u : Ext W, w' = u.w) → Q .normal a' w') l a) : (Code.region id l.toArray true).wp P Q a W :=
  wp_region_quiet (C := fun w' => ∃ u : Ext W, w' = u.w) hm hB ⟨⟨W.drew, (Below.refl _ _).drew⟩, rfl⟩ (by simpa using h)
/-- A call that makes memory and turns none. -/
theorem ext_call {f : FuncId} {args : Array Value} {u : Ext W} {v : Value} (h : Calls P f args u.w fun e w' => e = .returned v ∧ Below u.w.heap.size u.w w') :
    Calls P f args u.w fun e w'' => e = .returned v ∧ ∃ u' : Ext W, w'' = u'.w :=
  h.mono fun _ w' ⟨he, hb⟩ => ⟨he, ⟨w', u.ok.trans (hb.mono u.ok.size)⟩, rfl⟩
/-- A call that leaves the world as it was. -/
theorem ext_same {f : FuncId} {args : Array Value} {u : Ext W} {v : Value} (h : Calls P f args u.w fun e w' => e = .returned v ∧ w' = u.w) :
    Calls P f args u.w fun e w'' => e = .returned v ∧ ∃ u' : Ext W, w'' = u'.w :=
  h.mono fun _ _ ⟨he, hw⟩ => ⟨he, u, hw⟩
end
end Go.Proofs.YtbjencibkkhbhaaGreatDoor
