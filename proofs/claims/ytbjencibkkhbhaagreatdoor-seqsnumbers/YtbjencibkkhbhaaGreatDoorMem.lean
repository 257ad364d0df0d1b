/- Blocks of cells that a world holds, of whatever program. -/
import Derived.WalkKit
import Derived.WalkLawsBesides
namespace Go.Proofs.YtbjencibkkhbhaaGreatDoor
open Go.RowKit

/-- Block b of w holds just these cells, none of them frozen. -/
def Blk (w : World) (b : Nat) (vs : Array Value) (t : TypeId) : Prop := w.heap[b]? = some (.cells vs t (0, 0))
section
variable {w w' : World} {b B : Nat} {vs : Array Value} {t : TypeId}
theorem Blk.cell (h : Blk w b vs t) (i : Nat) : w.cell? ⟨b, i, none⟩ = vs[i]? := by
  unfold Blk at h
  simp [World.cell?, h]
theorem Blk.frozen (h : Blk w b vs t) (i : Nat) : w.frozen? ⟨b, i, none⟩ = false := by
  unfold Blk at h
  simp [World.frozen?, h]
theorem Blk.lt (h : Blk w b vs t) : b < w.heap.size := (Array.getElem?_eq_some_iff.1 h).1
theorem Blk.below (h : Blk w b vs t) (hb : Below B w w') (hlt : b < B) : Blk w' b vs t := (hb.block b hlt).trans h
theorem Blk.set (h : Blk w b vs t) (i : Nat) (v : Value) : Blk (w.setCell ⟨b, i, none⟩ v) b (vs.setIfInBounds i v) t := by
  unfold Blk at *
  simp only [World.setCell, Array.getElem?_modify, if_true, h]
  simp
theorem Blk.set_other (h : Blk w b vs t) (a : Addr) (v : Value) (hne : a.block ≠ b) : Blk (w.setCell a v) b vs t := by
  unfold Blk at *
  rw [Below.heap_setCell _ _ _ _ (Ne.symm hne)]
  exact h
theorem Blk.alloc (h : Blk w b vs t) (o : Obj) : Blk (w.alloc o) b vs t := by
  have := h.lt
  unfold Blk at *
  rw [Below.heap_alloc _ _ _ this]
  exact h
theorem Blk.drewN (h : Blk w b vs t) (n : Nat) : Blk (w.drewN n) b vs t := h
end
theorem Blk.new (w : World) (vs : Array Value) (t : TypeId) : Blk (w.alloc (.cells vs t)) w.heap.size vs t := by
  unfold Blk World.alloc
  simp
theorem Blk.new1 (w : World) (o : Obj) (vs : Array Value) (t : TypeId) : Blk ((w.alloc o).alloc (.cells vs t)) (w.heap.size + 1) vs t := by
  have := Blk.new (w.alloc o) vs t
  rwa [World.size_alloc] at this
end Go.Proofs.YtbjencibkkhbhaaGreatDoor
