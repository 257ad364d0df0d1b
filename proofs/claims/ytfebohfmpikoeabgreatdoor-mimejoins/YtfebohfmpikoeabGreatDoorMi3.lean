/- Type of package mime, whatever the text. -/
import Derived.Test.YtfebohfmpikoeabGreatDoorMi2
import Derived.Test.YtfebohfmpikoeabGreatDoorRws
import Derived.Defers
import Derived.Recover
import Derived.Deep.LoopGhost
namespace Go.Proofs.YtfebohfmpikoeabGreatDoor
open Go.RowKit Go.Shelf
def Pm.cs (p : Pm) : List Value := [.string ⟨p.name.toArray⟩, .string ⟨p.value.toArray⟩]
theorem pm_len (p : Pm) : p.cs.length = 2 := rfl
theorem src_pm {w : World} (p : Pm) {k : Nat} : Src Tryz.prog 2 25 (.slice (some ⟨w.heap.size, 0, none⟩) 1 k) 1 p.cs (w.alloc (.cells #[.string ⟨p.name.toArray⟩, .string ⟨p.value.toArray⟩] 36)) := by
  refine Src.ofSlice _ Tryz.underlying25 ⟨w.heap.size, 0, none⟩ 1 k _ (by simp [Pm.cs]) (fun j u hu => ?_) (by simp [Value.oneCell', Pm.cs])
  rw [Go.WideShapes.add_plain, Nat.zero_add, World.cell?_alloc_mark]
  rw [← hu, ← List.getElem?_toArray]
  rfl
theorem pmInfo : (Tryz.prog.info? 36).map (fun i => (i.zero, i.size, i.bytes)) = some (some (.agg #[.string ⟨#[]⟩, .string ⟨#[]⟩]), 2, 32) := by kernel_rfl
/-- The error of what isn't in form. -/
structure EFm (w : World) (a : Addr) : Prop where
  cell : w.cell? ⟨0, 0, none⟩ = some (.iface 138 (.pointer (some a)))
  low : 0 < w.heap.size
theorem EFm.below {w w' : World} {a : Addr} (h : EFm w a) (hb : Below w.heap.size w w') : EFm w' a := ⟨(hb.cell (p := ⟨0, 0, none⟩) h.low).trans h.cell, Nat.lt_of_lt_of_le h.low hb.size⟩
/-- The four cells of the results. -/
structure TC (w wr : World) (x0 x1 x2 : Value) : Prop where
  b0 : Blk wr w.heap.size #[x0] 9
  b1 : Blk wr (w.heap.size + 1) #[x1] 9
  b2 : Blk wr (w.heap.size + 1 + 1) #[x2] 25
  b3 : Blk wr (w.heap.size + 1 + 1 + 1) #[.nilIface] 32
  low : Below w.heap.size w wr
section
variable {w wr w' : World} {x0 x1 x2 : Value}
theorem TC.mv (h : TC w wr x0 x1 x2) (hm : Mvs (fun k => k = w.heap.size + 1 + 1 + 1 + 1) wr w') : TC w w' x0 x1 x2 :=
  ⟨hm.blk h.b0 (by omega), hm.blk h.b1 (by omega), hm.blk h.b2 (by omega), hm.blk h.b3 (by omega), h.low.trans (hm.below (fun k hk => by omega) h.low.size)⟩
theorem TC.set0 (h : TC w wr x0 x1 x2) (v : Value) : TC w (wr.setCell ⟨w.heap.size, 0, none⟩ v) v x1 x2 :=
  ⟨h.b0.set 0 v, h.b1.set_other _ _ (by dsimp only; omega), h.b2.set_other _ _ (by dsimp only; omega), h.b3.set_other _ _ (by dsimp only; omega), h.low.setCell (p := ⟨w.heap.size, 0, none⟩) (by dsimp only; omega) _⟩
theorem TC.set1 (h : TC w wr x0 x1 x2) (v : Value) : TC w (wr.setCell ⟨w.heap.size + 1, 0, none⟩ v) x0 v x2 :=
  ⟨h.b0.set_other _ _ (by dsimp only; omega), h.b1.set 0 v, h.b2.set_other _ _ (by dsimp only; omega), h.b3.set_other _ _ (by dsimp only; omega), h.low.setCell (p := ⟨w.heap.size + 1, 0, none⟩) (by dsimp only; omega) _⟩
theorem TC.set2 (h : TC w wr x0 x1 x2) (v : Value) : TC w (wr.setCell ⟨w.heap.size + 1 + 1, 0, none⟩ v) x0 x1 v :=
  ⟨h.b0.set_other _ _ (by dsimp only; omega), h.b1.set_other _ _ (by dsimp only; omega), h.b2.set 0 v, h.b3.set_other _ _ (by dsimp only; omega), h.low.setCell (p := ⟨w.heap.size + 1 + 1, 0, none⟩) (by dsimp only; omega) _⟩
end
theorem typeIdle (p q r s : Addr) (w : World) :
    CallsD Tryz.prog 10 #[.pointer (some p), .pointer (some q), .pointer (some r), .pointer (some s)] .returning w fun e u' w' => e = .returned (.tuple #[]) ∧ u' = .returning ∧ w' = w := by
  refine callsD_of_wpS Tryz.func10 rfl fun c₀ cs hu => ?_
  apply wpS_seq
  apply wpS_region
  simp [wpOpsS, go_sem, recoverD, hu, Tryz.ntmps10, Exit.thenS]
  refine wpS_cond (t := false) (by simp [Act.eval, Array.replicate]) ?_
  simp only [Bool.false_eq_true, if_false]
  refine wpS_of_wp (wp_skip ?_)
  cases c₀
  simp_all [bodyPostS, results, Tryz.results10]
theorem typeCatch {w w1 : World} {x0 x1 x2 : Value} (h : TC w w1 x0 x1 x2) (ef : Addr) (hF : EFm w ef) :
    CallsD Tryz.prog 10 #[.pointer (some ⟨w.heap.size, 0, none⟩), .pointer (some ⟨w.heap.size + 1, 0, none⟩), .pointer (some ⟨w.heap.size + 1 + 1, 0, none⟩), .pointer (some ⟨w.heap.size + 1 + 1 + 1, 0, none⟩)] (.panicking pnc) w1 fun e u' w' =>
      e = .returned (.tuple #[]) ∧ u' = .panicking [{ v := .iface 9 (.string ⟨#[110, 111, 116, 32, 105, 110, 32, 102, 111, 114, 109]⟩), recovered := true }] ∧ w'.cell? ⟨w.heap.size, 0, none⟩ = some (.string ⟨#[]⟩) ∧ w'.cell? ⟨w.heap.size + 1, 0, none⟩ = some (.string ⟨#[]⟩) ∧ w'.cell? ⟨w.heap.size + 1 + 1, 0, none⟩ = some (.slice none 0 0) ∧ w'.cell? ⟨w.heap.size + 1 + 1 + 1, 0, none⟩ = some (.iface 138 (.pointer (some ef))) ∧ Below w.heap.size w w' := by
  have hF1 : w1.cell? ⟨0, 0, none⟩ = some (.iface 138 (.pointer (some ef))) := (h.low.cell (p := ⟨0, 0, none⟩) hF.low).trans hF.cell
  have k0 := h.set0 (.string ⟨#[]⟩)
  have k1 := k0.set1 (.string ⟨#[]⟩)
  have k2 := k1.set2 (.slice none 0 0)
  have c0 := h.b0.cell 0
  have f0 := h.b0.frozen 0
  have c1 := k0.b1.cell 0
  have f1 := k0.b1.frozen 0
  have c2 := k1.b2.cell 0
  have f2 := k1.b2.frozen 0
  have c3 := k2.b3.cell 0
  have f3 := k2.b3.frozen 0
  have HR : Hid (∀ v, ((((w1.setCell ⟨w.heap.size, 0, none⟩ (.string ⟨#[]⟩)).setCell ⟨w.heap.size + 1, 0, none⟩ (.string ⟨#[]⟩)).setCell ⟨w.heap.size + 1 + 1, 0, none⟩ (.slice none 0 0)).setCell ⟨w.heap.size + 1 + 1 + 1, 0, none⟩ v).cell? ⟨w.heap.size, 0, none⟩ = some (.string ⟨#[]⟩) ∧ ((((w1.setCell ⟨w.heap.size, 0, none⟩ (.string ⟨#[]⟩)).setCell ⟨w.heap.size + 1, 0, none⟩ (.string ⟨#[]⟩)).setCell ⟨w.heap.size + 1 + 1, 0, none⟩ (.slice none 0 0)).setCell ⟨w.heap.size + 1 + 1 + 1, 0, none⟩ v).cell? ⟨w.heap.size + 1, 0, none⟩ = some (.string ⟨#[]⟩) ∧ ((((w1.setCell ⟨w.heap.size, 0, none⟩ (.string ⟨#[]⟩)).setCell ⟨w.heap.size + 1, 0, none⟩ (.string ⟨#[]⟩)).setCell ⟨w.heap.size + 1 + 1, 0, none⟩ (.slice none 0 0)).setCell ⟨w.heap.size + 1 + 1 + 1, 0, none⟩ v).cell? ⟨w.heap.size + 1 + 1, 0, none⟩ = some (.slice none 0 0) ∧ ((((w1.setCell ⟨w.heap.size, 0, none⟩ (.string ⟨#[]⟩)).setCell ⟨w.heap.size + 1, 0, none⟩ (.string ⟨#[]⟩)).setCell ⟨w.heap.size + 1 + 1, 0, none⟩ (.slice none 0 0)).setCell ⟨w.heap.size + 1 + 1 + 1, 0, none⟩ v).cell? ⟨w.heap.size + 1 + 1 + 1, 0, none⟩ = some v ∧ Below w.heap.size w ((((w1.setCell ⟨w.heap.size, 0, none⟩ (.string ⟨#[]⟩)).setCell ⟨w.heap.size + 1, 0, none⟩ (.string ⟨#[]⟩)).setCell ⟨w.heap.size + 1 + 1, 0, none⟩ (.slice none 0 0)).setCell ⟨w.heap.size + 1 + 1 + 1, 0, none⟩ v)) := fun v =>
    ⟨(k2.b0.set_other _ _ (by dsimp only; omega)).cell 0, (k2.b1.set_other _ _ (by dsimp only; omega)).cell 0, (k2.b2.set_other _ _ (by dsimp only; omega)).cell 0, (k2.b3.set 0 v).cell 0, k2.low.setCell (p := ⟨w.heap.size + 1 + 1 + 1, 0, none⟩) (by dsimp only; omega) _⟩
  clear k0 k1 k2 h
  refine callsD_of_wpS Tryz.func10 rfl fun c₀ cs hu => ?_
  apply wpS_seq
  apply wpS_region
  simp [wpOpsS, go_sem, recoverD, hu, Tryz.ntmps10, Exit.thenS, pnc]
  refine wpS_cond (t := true) (by simp [Act.eval, Array.replicate]) ?_
  simp only [if_true]
  apply wpS_region
  have hR := HR.out (.iface 138 (.pointer (some ef)))
  clear HR
  simp [wpOpsS, go_sem, c0, f0, c1, f1, c2, f2, c3, f3, hF1, bodyPostS, results, Tryz.results10]
  exact hR.2.2.2.2
end Go.Proofs.YtfebohfmpikoeabGreatDoor
