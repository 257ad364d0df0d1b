/- errors.Is over two errors of the make of errors.New: true of one pointer, false of two. -/
/- The numbers of errors: postbagnum.Num at nil and at each of package api's thirteen values. -/
/- Package post: Same, Check. -/
import Derived.Test.YtdbmaobjikjifaaGreatDoorRProg
import Derived.WalkKit
import Derived.WalkLawsBesides
import Derived.LaidEql
import Derived.Stop.Asserts
import Derived.RowKitTokens
import Derived.Test.YtdbmaobjikjifaaGreatDoorRU25
import Derived.Test.YtdbmaobjikjifaaGreatDoorRU26
import Derived.Test.YtdbmaobjikjifaaGreatDoorRU27
section
namespace Go.Proofs.YtdbmaobjikjifaaGreatDoorR
open Go.RowKit Go.Extern.Stop Go.Stop Go.Extern

theorem isComp : (Tryz.prog.info? 216).map (·.comparable) = some true := by kernel_rfl
theorem isSize : (Tryz.prog.info? 232).map (·.size) = some 1 := by kernel_rfl
end Go.Proofs.YtdbmaobjikjifaaGreatDoorR

end
section
namespace Go.Proofs.YtdbmaobjikjifaaGreatDoorR
open Go.RowKit

/-- The package-level variables that hold the errors that this program knows, in the document's order (one that it does not know: the first one). -/
def gno (i : Nat) : Nat := ([0, 1, 7, 3, 6, 4, 0, 0, 0, 0, 5, 0, 2] : List Nat).getD i 0

/-- A world in which these variables hold errors. -/
structure Errs (w : World) (a : Nat → Addr) : Prop where
  cell : ∀ i, i < 13 → w.cell? ⟨gno i, 0, none⟩ = some (.iface 216 (.pointer (some (a i))))
  low : ∀ i, i < 13 → gno i < w.heap.size
  blk : ∀ i, i < 13 → ∃ c t, w.heap[(a i).block]? = some (.cells c t (0, 0))

theorem blk_lt {w : World} {k : Nat} {o : Obj} (h : w.heap[k]? = some o) : k < w.heap.size := (Array.getElem?_eq_some_iff.1 h).1

theorem Errs.below {w w' : World} {a : Nat → Addr} (h : Errs w a) (hb : Below w.heap.size w w') : Errs w' a where
  cell := fun i hi => by rw [hb.cell (p := ⟨gno i, 0, none⟩) (h.low i hi)]; exact h.cell i hi
  low := fun i hi => Nat.lt_of_lt_of_le (h.low i hi) hb.size
  blk := fun i hi => by
    obtain ⟨c, t, k⟩ := h.blk i hi
    exact ⟨c, t, by rw [hb.block _ (blk_lt k)]; exact k⟩

def errV (a : Nat → Addr) (i : Nat) : Value := .iface 216 (.pointer (some (a i)))

end Go.Proofs.YtdbmaobjikjifaaGreatDoorR

end
section
set_option linter.unusedVariables false
set_option linter.unusedSimpArgs false
namespace Go.Proofs.YtdbmaobjikjifaaGreatDoorR
open Go.RowKit Go.Shelf
theorem Errs.name {w : World} {ea : Nat → Addr} (h : Errs w ea) : EN w (ea 3) := ⟨h.cell 3 (by omega), h.low 3 (by omega)⟩

/-- The error of number k (the document's), or none. -/
def erV (ea : Nat → Addr) (k : Nat) : Value := .iface 216 (.pointer (some (ea (k - 1))))
set_option maxRecDepth 20000 in
set_option maxHeartbeats 2000000 in
theorem pcheck_any {v : Value} {w : World} {s : Stt} {ea : Nat → Addr} (hE : Errs w ea) (hS : StR w v s) (hd : BdS s) :
    Calls Tryz.prog 9 #[v] w fun e w' => e = .returned (if poForm s then .nilIface else erV ea 2) ∧ Below w.heap.size w w' := by
  have hv := hS
  obtain ⟨bv, sv, qv, rfl, hb, hs, hq⟩ := hS
  obtain ⟨Ab, cb, rfl⟩ := hb.form
  obtain ⟨As, cs, rfl⟩ := hs.form
  obtain ⟨Aq, cq, rfl⟩ := hq.form
  have HB0 : Hid (Below w.heap.size w (w.alloc (.cells #[.slice Ab s.boxes.length cb, .slice As s.subs.length cs, .slice Aq s.queue.length cq, .int .i64 s.nextValid, .int .i64 s.nextItem] 28))) := (Below.refl w.heap.size w).alloc (Nat.le_refl _) _
  have HE0 := hide (hE.below HB0.out)
  have H1 := hide (pform_any HE0.out.name (hv.below HB0.out) hd)
  clear hv hb hs hq hE hd
  obtain ⟨V, HV⟩ : ∃ V, Hid (V = if poForm s then Value.nilIface else erV ea 2) := ⟨_, hide rfl⟩
  rw [← HV.out]
  generalize poForm s = T at *
  generalize s.boxes.length = lb at *
  generalize s.subs.length = ls at *
  generalize s.queue.length = lq at *
  generalize s.nextValid = nv at *
  generalize s.nextItem = ni at *
  cases T with
  | true =>
    go_enter Tryz.func9, Tryz.ntmps9
    go_wp2_with (go_at_call 12; refine H1.out.mono ?_; rintro e w1 ⟨rfl, hb1⟩; replace hb1 := hide hb1)
    go_ret
    exact ⟨by rw [HV.out]; rfl, HB0.out.trans (hb1.out.mono HB0.out.size)⟩
  | false =>
    go_enter Tryz.func9, Tryz.ntmps9
    go_wp2_with (go_at_call 12; refine H1.out.mono ?_; rintro e w1 ⟨rfl, hb1⟩; have c1 : w1.cell? ⟨1, 0, none⟩ = some (.iface 216 (.pointer (some (ea 1)))) := (HE0.out.below hb1).cell 1 (by omega); replace hb1 := hide hb1)
    go_ret
    exact ⟨by rw [HV.out]; rfl, HB0.out.trans (hb1.out.mono HB0.out.size)⟩
end Go.Proofs.YtdbmaobjikjifaaGreatDoorR

end
