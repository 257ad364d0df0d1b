/- Package post: an act: what is asked, what is done. -/
import Derived.Test.YtdbmaobjikjifaaGreatDoorRU30
import Derived.Deep.Cut
import Derived.Deep.CutRange
import Derived.Laws.Rows
import Derived.Laws.EntriesVeiled
set_option linter.unusedVariables false
set_option linter.unusedSimpArgs false
namespace Go.Proofs.YtdbmaobjikjifaaGreatDoorR
open Go.RowKit Go.Shelf
/-- The actor whose names are the names that they are. -/
def nmd (p : PA) : PA := { p with a := { p.a with name := nmP p.a.name, dst := nmP p.a.dst } }
set_option maxRecDepth 20000 in
set_option maxHeartbeats 16000000 in
/-- An act of no kind. -/
theorem pact_none {w0 w : World} {X : Nat} {p : PA} {ea : Nat → Addr} (h : AS w0 w X p) (hE : Errs w0 ea) (hk : dmL (.pointer (some ⟨X, 0, none⟩)) p.a.kind = .tuple #[.agg #[.nilFunc, .nilFunc], .bool false]) :
    Calls Tryz.prog 14 #[.pointer (some ⟨X, 0, none⟩)] w fun e w' => e = .returned (erV ea 2) ∧ AS w0 w' X p := by
  have hXl : X < w.heap.size := h.blk.lt
  have HK5 : w.cell? ⟨X, 5, none⟩ = some (.int .i64 p.a.kind) := h.blk.cell 5
  have HBL : Below w.heap.size w w.drew := (Below.refl _ _).drew
  go_enter Tryz.func14, Tryz.ntmps14
  go_upto_region 1 with fail
  go_cut [3, 4] from 6 (fun v3 v4 wq => v4 = .bool false ∧ ∃ Dn, v3 = .pointer (some ⟨Dn, 0, none⟩) ∧ Hid (AS w0 wq X p) ∧ Hid (Blk wq Dn #[.nilFunc, .nilFunc] 75))
  case first =>
    refine regionL 12 (fun W => W.cell? ⟨X, 5, none⟩ = some (.int .i64 p.a.kind)) (by kernel_rfl) ?_
    have HT0 : w.drew.cell? ⟨X, 5, none⟩ = some (.int .i64 p.a.kind) := h.blk.cell 5
    refine takeW (i := 0) (v := .pointer (some ⟨X, 0, none⟩)) rfl (by kernel_rfl) (by kernel_rfl) (by kernel_rfl) rfl (fun _ _ _ h => h) (fun _ => HT0) (Or.inl ⟨by rfl, fun W _ => by go_simp⟩) ?_
    try simp only [Act.put, List.getElem_toArray, List.getElem_cons_succ, List.getElem_cons_zero, List.setIfInBounds_toArray, List.set_cons_zero, List.set_cons_succ]
    refine takeW (i := 2) (v := .pointer (some ⟨X, 0, none⟩)) rfl (by kernel_rfl) (by kernel_rfl) (by kernel_rfl) rfl (fun _ _ _ h => h) (fun _ => HT0) (Or.inl ⟨by rfl, fun W _ => by go_simp⟩) ?_
    try simp only [Act.put, List.getElem_toArray, List.getElem_cons_succ, List.getElem_cons_zero, List.setIfInBounds_toArray, List.set_cons_zero, List.set_cons_succ]
    refine takeW (i := 3) (v := .pointer (some ⟨X, 0, none⟩)) rfl (by kernel_rfl) (by kernel_rfl) (by kernel_rfl) rfl (fun _ _ _ h => h) (fun _ => HT0) (Or.inl ⟨by rfl, fun W _ => by go_simp⟩) ?_
    try simp only [Act.put, List.getElem_toArray, List.getElem_cons_succ, List.getElem_cons_zero, List.setIfInBounds_toArray, List.set_cons_zero, List.set_cons_succ]
    refine takeW (i := 4) (v := .pointer (some ⟨X, 5, none⟩)) rfl (by kernel_rfl) (by kernel_rfl) (by kernel_rfl) rfl (fun _ _ _ h => h) (fun _ => HT0) (Or.inl ⟨by rfl, fun W _ => by go_simp⟩) ?_
    try simp only [Act.put, List.getElem_toArray, List.getElem_cons_succ, List.getElem_cons_zero, List.setIfInBounds_toArray, List.set_cons_zero, List.set_cons_succ]
    refine takeW (i := 5) (v := .pointer (some ⟨X, 5, none⟩)) rfl (by kernel_rfl) (by kernel_rfl) (by kernel_rfl) rfl (fun _ _ _ h => h) (fun _ => HT0) (Or.inl ⟨by rfl, fun W _ => by go_simp⟩) ?_
    try simp only [Act.put, List.getElem_toArray, List.getElem_cons_succ, List.getElem_cons_zero, List.setIfInBounds_toArray, List.set_cons_zero, List.set_cons_succ]
    refine takeL (i := 6) (v := .int .i64 p.a.kind) rfl (by kernel_rfl) (by kernel_rfl) (by kernel_rfl) (by kernel_rfl) (by kernel_rfl) (fun _ _ _ h => h) HT0 (Or.inl ⟨by rfl, fun W hW => by have t0 := hW; go_simp⟩) ?_
    try simp only [Act.put, List.getElem_toArray, List.getElem_cons_succ, List.getElem_cons_zero, List.setIfInBounds_toArray, List.set_cons_zero, List.set_cons_succ]
    refine readyL (rs := [1, 11]) (by kernel_rfl) (by simp) ?_
    refine AllL.cons rfl (fun K hK => ?_) (AllL.cons rfl (fun K hK => ?_) AllL.nil)
    · skip
      try simp only [List.getElem_toArray, List.getElem_cons_succ, List.getElem_cons_zero]
      go_simp
      refine (pdeeds_any _ _).mono ?_
      rintro e w2 ⟨rfl, rfl⟩
      replace HBL := HBL.alloc HBL.size (.map (dmE (.pointer (some ⟨X, 0, none⟩))) 13)
      have HT1 : (w.drew.alloc (.map (dmE (.pointer (some ⟨X, 0, none⟩))) 13)).cell? ⟨X, 5, none⟩ = some (.int .i64 p.a.kind) := (HBL.cell (p := ⟨X, 5, none⟩) hXl).trans HK5
      refine hK.out _ _ (fun _ => HT1) (fun _ => ?_)
      clear hK K HT0
      have HT0 := HT1
      clear HT1
      try simp only [Act.put, List.getElem_toArray, List.getElem_cons_succ, List.getElem_cons_zero, List.setIfInBounds_toArray, List.set_cons_zero, List.set_cons_succ]
      refine readyL (rs := [7, 11]) (by kernel_rfl) (by simp) ?_
      refine AllL.cons rfl (fun K hK => ?_) (AllL.cons rfl (fun K hK => ?_) AllL.nil)
      · skip
        try simp only [List.getElem_toArray, List.getElem_cons_succ, List.getElem_cons_zero]
        have hlk := look_deed (x := .pointer (some ⟨X, 0, none⟩)) (W := ((w.alloc (.map (dmE (.pointer (some ⟨X, 0, none⟩))) 13)).drew)) (r := w.heap.size) p.a.kind (heap_alloc_new w _)
        rw [hk] at hlk
        go_simp
        refine hK.out _ _ (fun _ => HT0) (fun _ => ?_)
        clear hK K hlk
        try simp only [Act.put, List.getElem_toArray, List.getElem_cons_succ, List.getElem_cons_zero, List.setIfInBounds_toArray, List.set_cons_zero, List.set_cons_succ]
        refine takeW (i := 8) (v := .tuple #[.agg #[.nilFunc, .nilFunc], .bool false]) rfl (by kernel_rfl) (by kernel_rfl) (by kernel_rfl) rfl (fun _ _ _ h => h) (fun _ => HT0) (Or.inl ⟨by rfl, fun W _ => by go_simp⟩) ?_
        try simp only [Act.put, List.getElem_toArray, List.getElem_cons_succ, List.getElem_cons_zero, List.setIfInBounds_toArray, List.set_cons_zero, List.set_cons_succ]
        refine takeW (i := 9) (v := .agg #[.nilFunc, .nilFunc]) rfl (by kernel_rfl) (by kernel_rfl) (by kernel_rfl) rfl (fun _ _ _ h => h) (fun _ => HT0) (Or.inl ⟨by rfl, fun W _ => by go_simp⟩) ?_
        try simp only [Act.put, List.getElem_toArray, List.getElem_cons_succ, List.getElem_cons_zero, List.setIfInBounds_toArray, List.set_cons_zero, List.set_cons_succ]
        refine takeW (i := 10) (v := .bool false) rfl (by kernel_rfl) (by kernel_rfl) (by kernel_rfl) rfl (fun _ _ _ h => h) (fun _ => HT0) (Or.inl ⟨by rfl, fun W _ => by go_simp⟩) ?_
        try simp only [Act.put, List.getElem_toArray, List.getElem_cons_succ, List.getElem_cons_zero, List.setIfInBounds_toArray, List.set_cons_zero, List.set_cons_succ]
        refine readyL (rs := [11]) (by kernel_rfl) (by simp) ?_
        refine AllL.cons rfl (fun K hK => ?_) AllL.nil
        try simp only [List.getElem_toArray, List.getElem_cons_succ, List.getElem_cons_zero]
        go_simp
        replace HBL := HBL.alloc HBL.size (.cells #[.nilFunc, .nilFunc] 75)
        have HT1 : ((w.drew.alloc (.map (dmE (.pointer (some ⟨X, 0, none⟩))) 13)).alloc (.cells #[.nilFunc, .nilFunc] 75)).cell? ⟨X, 5, none⟩ = some (.int .i64 p.a.kind) := (HBL.cell (p := ⟨X, 5, none⟩) hXl).trans HK5
        refine hK.out _ _ (fun _ => HT1) (fun _ => ?_)
        clear hK K HT0
        have HT0 := HT1
        clear HT1
        try simp only [Act.put, List.getElem_toArray, List.getElem_cons_succ, List.getElem_cons_zero, List.setIfInBounds_toArray, List.set_cons_zero, List.set_cons_succ]
        have HDz : Blk ((((w.alloc (.map (dmE (.pointer (some ⟨X, 0, none⟩))) 13)).alloc (.cells #[.nilFunc, .nilFunc] 75)).drew)) (w.heap.size + 1) #[.nilFunc, .nilFunc] 75 := Blk.new1 w _ _ _
        have HBz : Below w.heap.size w ((((w.alloc (.map (dmE (.pointer (some ⟨X, 0, none⟩))) 13)).alloc (.cells #[.nilFunc, .nilFunc] 75)).drew)) := HBL
        change anyL _ _ _ _ _ _ _ _ _ ((((w.alloc (.map (dmE (.pointer (some ⟨X, 0, none⟩))) 13)).alloc (.cells #[.nilFunc, .nilFunc] 75)).drew))
        generalize ((((w.alloc (.map (dmE (.pointer (some ⟨X, 0, none⟩))) 13)).alloc (.cells #[.nilFunc, .nilFunc] 75)).drew)) = Wz at HDz HBz ⊢
        have d0 : Wz.cell? ⟨w.heap.size + 1, 0, none⟩ = some .nilFunc := HDz.cell 0
        have d1 : Wz.cell? ⟨w.heap.size + 1, 1, none⟩ = some .nilFunc := HDz.cell 1
        have y0 := HDz.frozen 0
        have y1 := HDz.frozen 1
        refine readyL (rs := [12]) (by kernel_rfl) (by simp) ?_
        refine AllL.cons rfl (fun K hK => ?_) AllL.nil
        try simp only [List.getElem_toArray, List.getElem_cons_succ, List.getElem_cons_zero]
        go_simp
        refine hK.out _ _ (vac (by kernel_rfl)) (fun _ => ?_)
        clear hK K HT0
        try simp only [Act.put, List.getElem_toArray, List.getElem_cons_succ, List.getElem_cons_zero, List.setIfInBounds_toArray, List.set_cons_zero, List.set_cons_succ]
        refine takeW (i := 13) (v := .bool false) rfl (by kernel_rfl) (by kernel_rfl) (by kernel_rfl) rfl (fun _ _ _ h => h) (vac (by kernel_rfl)) (Or.inl ⟨by rfl, fun W _ => by go_simp⟩) ?_
        try simp only [Act.put, List.getElem_toArray, List.getElem_cons_succ, List.getElem_cons_zero, List.setIfInBounds_toArray, List.set_cons_zero, List.set_cons_succ]
        refine doneL (by kernel_rfl) ?_ _
        have HDf : Blk ((Wz.setCell ⟨w.heap.size + 1, 0, none⟩ .nilFunc).setCell ⟨w.heap.size + 1, 1, none⟩ .nilFunc) (w.heap.size + 1) #[.nilFunc, .nilFunc] 75 := (HDz.set 0 .nilFunc).set 1 .nilFunc
        have HBf : Below w.heap.size w ((Wz.setCell ⟨w.heap.size + 1, 0, none⟩ .nilFunc).setCell ⟨w.heap.size + 1, 1, none⟩ .nilFunc) := (HBz.setCell (p := ⟨w.heap.size + 1, 0, none⟩) (by show w.heap.size ≤ w.heap.size + 1; omega) .nilFunc).setCell (p := ⟨w.heap.size + 1, 1, none⟩) (by show w.heap.size ≤ w.heap.size + 1; omega) .nilFunc
        go_wp2
        go_meet
        case rel => exact ⟨rfl, _, rfl, h.below HBf, HDf⟩
      · skip
        try simp only [List.getElem_toArray, List.getElem_cons_succ, List.getElem_cons_zero]
        go_simp
        replace HBL := HBL.alloc HBL.size (.cells #[.nilFunc, .nilFunc] 75)
        have HT1 : ((w.drew.alloc (.map (dmE (.pointer (some ⟨X, 0, none⟩))) 13)).alloc (.cells #[.nilFunc, .nilFunc] 75)).cell? ⟨X, 5, none⟩ = some (.int .i64 p.a.kind) := (HBL.cell (p := ⟨X, 5, none⟩) hXl).trans HK5
        refine hK.out _ _ (fun _ => HT1) (fun _ => ?_)
        clear hK K HT0
        have HT0 := HT1
        clear HT1
        try simp only [Act.put, List.getElem_toArray, List.getElem_cons_succ, List.getElem_cons_zero, List.setIfInBounds_toArray, List.set_cons_zero, List.set_cons_succ]
        refine readyL (rs := [7]) (by kernel_rfl) (by simp) ?_
        refine AllL.cons rfl (fun K hK => ?_) AllL.nil
        try simp only [List.getElem_toArray, List.getElem_cons_succ, List.getElem_cons_zero]
        have hlk := look_deed (x := .pointer (some ⟨X, 0, none⟩)) (W := (((w.alloc (.map (dmE (.pointer (some ⟨X, 0, none⟩))) 13)).alloc (.cells #[.nilFunc, .nilFunc] 75)).drew)) (r := w.heap.size) p.a.kind ((Below.heap_alloc (w.alloc (.map (dmE (.pointer (some ⟨X, 0, none⟩))) 13)) _ _ (by simp)).trans (heap_alloc_new w _))
        rw [hk] at hlk
        go_simp
        refine hK.out _ _ (fun _ => HT0) (fun _ => ?_)
        clear hK K hlk
        try simp only [Act.put, List.getElem_toArray, List.getElem_cons_succ, List.getElem_cons_zero, List.setIfInBounds_toArray, List.set_cons_zero, List.set_cons_succ]
        refine takeW (i := 8) (v := .tuple #[.agg #[.nilFunc, .nilFunc], .bool false]) rfl (by kernel_rfl) (by kernel_rfl) (by kernel_rfl) rfl (fun _ _ _ h => h) (fun _ => HT0) (Or.inl ⟨by rfl, fun W _ => by go_simp⟩) ?_
        try simp only [Act.put, List.getElem_toArray, List.getElem_cons_succ, List.getElem_cons_zero, List.setIfInBounds_toArray, List.set_cons_zero, List.set_cons_succ]
        refine takeW (i := 9) (v := .agg #[.nilFunc, .nilFunc]) rfl (by kernel_rfl) (by kernel_rfl) (by kernel_rfl) rfl (fun _ _ _ h => h) (fun _ => HT0) (Or.inl ⟨by rfl, fun W _ => by go_simp⟩) ?_
        try simp only [Act.put, List.getElem_toArray, List.getElem_cons_succ, List.getElem_cons_zero, List.setIfInBounds_toArray, List.set_cons_zero, List.set_cons_succ]
        refine takeW (i := 10) (v := .bool false) rfl (by kernel_rfl) (by kernel_rfl) (by kernel_rfl) rfl (fun _ _ _ h => h) (fun _ => HT0) (Or.inl ⟨by rfl, fun W _ => by go_simp⟩) ?_
        try simp only [Act.put, List.getElem_toArray, List.getElem_cons_succ, List.getElem_cons_zero, List.setIfInBounds_toArray, List.set_cons_zero, List.set_cons_succ]
        have HDz : Blk ((((w.alloc (.map (dmE (.pointer (some ⟨X, 0, none⟩))) 13)).alloc (.cells #[.nilFunc, .nilFunc] 75)).drew)) (w.heap.size + 1) #[.nilFunc, .nilFunc] 75 := Blk.new1 w _ _ _
        have HBz : Below w.heap.size w ((((w.alloc (.map (dmE (.pointer (some ⟨X, 0, none⟩))) 13)).alloc (.cells #[.nilFunc, .nilFunc] 75)).drew)) := HBL
        change anyL _ _ _ _ _ _ _ _ _ ((((w.alloc (.map (dmE (.pointer (some ⟨X, 0, none⟩))) 13)).alloc (.cells #[.nilFunc, .nilFunc] 75)).drew))
        generalize ((((w.alloc (.map (dmE (.pointer (some ⟨X, 0, none⟩))) 13)).alloc (.cells #[.nilFunc, .nilFunc] 75)).drew)) = Wz at HDz HBz ⊢
        have d0 : Wz.cell? ⟨w.heap.size + 1, 0, none⟩ = some .nilFunc := HDz.cell 0
        have d1 : Wz.cell? ⟨w.heap.size + 1, 1, none⟩ = some .nilFunc := HDz.cell 1
        have y0 := HDz.frozen 0
        have y1 := HDz.frozen 1
        refine readyL (rs := [12]) (by kernel_rfl) (by simp) ?_
        refine AllL.cons rfl (fun K hK => ?_) AllL.nil
        try simp only [List.getElem_toArray, List.getElem_cons_succ, List.getElem_cons_zero]
        go_simp
        refine hK.out _ _ (vac (by kernel_rfl)) (fun _ => ?_)
        clear hK K HT0
        try simp only [Act.put, List.getElem_toArray, List.getElem_cons_succ, List.getElem_cons_zero, List.setIfInBounds_toArray, List.set_cons_zero, List.set_cons_succ]
        refine takeW (i := 13) (v := .bool false) rfl (by kernel_rfl) (by kernel_rfl) (by kernel_rfl) rfl (fun _ _ _ h => h) (vac (by kernel_rfl)) (Or.inl ⟨by rfl, fun W _ => by go_simp⟩) ?_
        try simp only [Act.put, List.getElem_toArray, List.getElem_cons_succ, List.getElem_cons_zero, List.setIfInBounds_toArray, List.set_cons_zero, List.set_cons_succ]
        refine doneL (by kernel_rfl) ?_ _
        have HDf : Blk ((Wz.setCell ⟨w.heap.size + 1, 0, none⟩ .nilFunc).setCell ⟨w.heap.size + 1, 1, none⟩ .nilFunc) (w.heap.size + 1) #[.nilFunc, .nilFunc] 75 := (HDz.set 0 .nilFunc).set 1 .nilFunc
        have HBf : Below w.heap.size w ((Wz.setCell ⟨w.heap.size + 1, 0, none⟩ .nilFunc).setCell ⟨w.heap.size + 1, 1, none⟩ .nilFunc) := (HBz.setCell (p := ⟨w.heap.size + 1, 0, none⟩) (by show w.heap.size ≤ w.heap.size + 1; omega) .nilFunc).setCell (p := ⟨w.heap.size + 1, 1, none⟩) (by show w.heap.size ≤ w.heap.size + 1; omega) .nilFunc
        go_wp2
        go_meet
        case rel => exact ⟨rfl, _, rfl, h.below HBf, HDf⟩
    · skip
      try simp only [List.getElem_toArray, List.getElem_cons_succ, List.getElem_cons_zero]
      go_simp
      replace HBL := HBL.alloc HBL.size (.cells #[.nilFunc, .nilFunc] 75)
      have HT1 : (w.drew.alloc (.cells #[.nilFunc, .nilFunc] 75)).cell? ⟨X, 5, none⟩ = some (.int .i64 p.a.kind) := (HBL.cell (p := ⟨X, 5, none⟩) hXl).trans HK5
      refine hK.out _ _ (fun _ => HT1) (fun _ => ?_)
      clear hK K HT0
      have HT0 := HT1
      clear HT1
      try simp only [Act.put, List.getElem_toArray, List.getElem_cons_succ, List.getElem_cons_zero, List.setIfInBounds_toArray, List.set_cons_zero, List.set_cons_succ]
      refine readyL (rs := [1]) (by kernel_rfl) (by simp) ?_
      refine AllL.cons rfl (fun K hK => ?_) AllL.nil
      try simp only [List.getElem_toArray, List.getElem_cons_succ, List.getElem_cons_zero]
      go_simp
      refine (pdeeds_any _ _).mono ?_
      rintro e w2 ⟨rfl, rfl⟩
      replace HBL := HBL.alloc HBL.size (.map (dmE (.pointer (some ⟨X, 0, none⟩))) 13)
      have HT1 : ((w.drew.alloc (.cells #[.nilFunc, .nilFunc] 75)).alloc (.map (dmE (.pointer (some ⟨X, 0, none⟩))) 13)).cell? ⟨X, 5, none⟩ = some (.int .i64 p.a.kind) := (HBL.cell (p := ⟨X, 5, none⟩) hXl).trans HK5
      refine hK.out _ _ (fun _ => HT1) (fun _ => ?_)
      clear hK K HT0
      have HT0 := HT1
      clear HT1
      try simp only [Act.put, List.getElem_toArray, List.getElem_cons_succ, List.getElem_cons_zero, List.setIfInBounds_toArray, List.set_cons_zero, List.set_cons_succ]
      refine readyL (rs := [7]) (by kernel_rfl) (by simp) ?_
      refine AllL.cons rfl (fun K hK => ?_) AllL.nil
      try simp only [List.getElem_toArray, List.getElem_cons_succ, List.getElem_cons_zero]
      have hlk := look_deed (x := .pointer (some ⟨X, 0, none⟩)) (W := (((w.alloc (.cells #[.nilFunc, .nilFunc] 75)).alloc (.map (dmE (.pointer (some ⟨X, 0, none⟩))) 13)).drew)) (r := w.heap.size + 1) p.a.kind (heap_alloc2_new w _ _)
      rw [hk] at hlk
      go_simp
      refine hK.out _ _ (fun _ => HT0) (fun _ => ?_)
      clear hK K hlk
      try simp only [Act.put, List.getElem_toArray, List.getElem_cons_succ, List.getElem_cons_zero, List.setIfInBounds_toArray, List.set_cons_zero, List.set_cons_succ]
      refine takeW (i := 8) (v := .tuple #[.agg #[.nilFunc, .nilFunc], .bool false]) rfl (by kernel_rfl) (by kernel_rfl) (by kernel_rfl) rfl (fun _ _ _ h => h) (fun _ => HT0) (Or.inl ⟨by rfl, fun W _ => by go_simp⟩) ?_
      try simp only [Act.put, List.getElem_toArray, List.getElem_cons_succ, List.getElem_cons_zero, List.setIfInBounds_toArray, List.set_cons_zero, List.set_cons_succ]
      refine takeW (i := 9) (v := .agg #[.nilFunc, .nilFunc]) rfl (by kernel_rfl) (by kernel_rfl) (by kernel_rfl) rfl (fun _ _ _ h => h) (fun _ => HT0) (Or.inl ⟨by rfl, fun W _ => by go_simp⟩) ?_
      try simp only [Act.put, List.getElem_toArray, List.getElem_cons_succ, List.getElem_cons_zero, List.setIfInBounds_toArray, List.set_cons_zero, List.set_cons_succ]
      refine takeW (i := 10) (v := .bool false) rfl (by kernel_rfl) (by kernel_rfl) (by kernel_rfl) rfl (fun _ _ _ h => h) (fun _ => HT0) (Or.inl ⟨by rfl, fun W _ => by go_simp⟩) ?_
      try simp only [Act.put, List.getElem_toArray, List.getElem_cons_succ, List.getElem_cons_zero, List.setIfInBounds_toArray, List.set_cons_zero, List.set_cons_succ]
      have HDz : Blk ((((w.alloc (.cells #[.nilFunc, .nilFunc] 75)).alloc (.map (dmE (.pointer (some ⟨X, 0, none⟩))) 13)).drew)) (w.heap.size) #[.nilFunc, .nilFunc] 75 := (Blk.new w _ _).alloc _
      have HBz : Below w.heap.size w ((((w.alloc (.cells #[.nilFunc, .nilFunc] 75)).alloc (.map (dmE (.pointer (some ⟨X, 0, none⟩))) 13)).drew)) := HBL
      change anyL _ _ _ _ _ _ _ _ _ ((((w.alloc (.cells #[.nilFunc, .nilFunc] 75)).alloc (.map (dmE (.pointer (some ⟨X, 0, none⟩))) 13)).drew))
      generalize ((((w.alloc (.cells #[.nilFunc, .nilFunc] 75)).alloc (.map (dmE (.pointer (some ⟨X, 0, none⟩))) 13)).drew)) = Wz at HDz HBz ⊢
      have d0 : Wz.cell? ⟨w.heap.size, 0, none⟩ = some .nilFunc := HDz.cell 0
      have d1 : Wz.cell? ⟨w.heap.size, 1, none⟩ = some .nilFunc := HDz.cell 1
      have y0 := HDz.frozen 0
      have y1 := HDz.frozen 1
      refine readyL (rs := [12]) (by kernel_rfl) (by simp) ?_
      refine AllL.cons rfl (fun K hK => ?_) AllL.nil
      try simp only [List.getElem_toArray, List.getElem_cons_succ, List.getElem_cons_zero]
      go_simp
      refine hK.out _ _ (vac (by kernel_rfl)) (fun _ => ?_)
      clear hK K HT0
      try simp only [Act.put, List.getElem_toArray, List.getElem_cons_succ, List.getElem_cons_zero, List.setIfInBounds_toArray, List.set_cons_zero, List.set_cons_succ]
      refine takeW (i := 13) (v := .bool false) rfl (by kernel_rfl) (by kernel_rfl) (by kernel_rfl) rfl (fun _ _ _ h => h) (vac (by kernel_rfl)) (Or.inl ⟨by rfl, fun W _ => by go_simp⟩) ?_
      try simp only [Act.put, List.getElem_toArray, List.getElem_cons_succ, List.getElem_cons_zero, List.setIfInBounds_toArray, List.set_cons_zero, List.set_cons_succ]
      refine doneL (by kernel_rfl) ?_ _
      have HDf : Blk ((Wz.setCell ⟨w.heap.size, 0, none⟩ .nilFunc).setCell ⟨w.heap.size, 1, none⟩ .nilFunc) (w.heap.size) #[.nilFunc, .nilFunc] 75 := (HDz.set 0 .nilFunc).set 1 .nilFunc
      have HBf : Below w.heap.size w ((Wz.setCell ⟨w.heap.size, 0, none⟩ .nilFunc).setCell ⟨w.heap.size, 1, none⟩ .nilFunc) := (HBz.setCell (p := ⟨w.heap.size, 0, none⟩) (by show w.heap.size ≤ w.heap.size; omega) .nilFunc).setCell (p := ⟨w.heap.size, 1, none⟩) (by show w.heap.size ≤ w.heap.size; omega) .nilFunc
      go_wp2
      go_meet
      case rel => exact ⟨rfl, _, rfl, h.below HBf, HDf⟩
  case rest =>
    obtain ⟨rfl, Dn, rfl, HS, HD⟩ := hcut
    have c1 : wc.cell? ⟨1, 0, none⟩ = some (.iface 216 (.pointer (some (ea 1)))) := (hE.below HS.out.bel).cell 1 (by omega)
    go_wp2
    go_ret
    exact ⟨rfl, HS.out⟩
set_option maxRecDepth 20000 in
set_option maxHeartbeats 16000000 in
/-- What is asked refuses it. -/
theorem pact_no {w0 w : World} {X : Nat} {p : PA} {ea : Nat → Addr} {fa fd : Nat} (h : AS w0 w X p) (hE : Errs w0 ea) (hn : p.a.name.length ≤ 1000000) (hd : p.a.dst.length ≤ 1000000) (hk : dmL (.pointer (some ⟨X, 0, none⟩)) p.a.kind = .tuple #[.agg #[(.func (.func fa) #[.pointer (some ⟨X, 0, none⟩)] #[]), (.func (.func fd) #[.pointer (some ⟨X, 0, none⟩)] #[])], .bool true]) (ega : ∀ args w, (callFunc fa args).run Tryz.prog w = .ok (.enter fa args) w) {i : Nat}
    (HA : ∀ W, AS w0 W X (nmd p) → Calls Tryz.prog fa #[.pointer (some ⟨X, 0, none⟩)] W fun e w' => e = .returned (erV ea i) ∧ AS w0 w' X (nmd p)) :
    Calls Tryz.prog 14 #[.pointer (some ⟨X, 0, none⟩)] w fun e w' => e = .returned (erV ea i) ∧ AS w0 w' X (nmd p) := by
  replace HA := hide HA
  unfold erV at HA ⊢
  have hXl : X < w.heap.size := h.blk.lt
  have HK5 : w.cell? ⟨X, 5, none⟩ = some (.int .i64 p.a.kind) := h.blk.cell 5
  have HBL : Below w.heap.size w w.drew := (Below.refl _ _).drew
  go_enter Tryz.func14, Tryz.ntmps14
  go_upto_region 1 with fail
  go_cut [3, 4] from 6 (fun v3 v4 wq => v4 = .bool true ∧ ∃ Dn, v3 = .pointer (some ⟨Dn, 0, none⟩) ∧ Hid (AS w0 wq X p) ∧ Hid (Blk wq Dn #[(.func (.func fa) #[.pointer (some ⟨X, 0, none⟩)] #[]), (.func (.func fd) #[.pointer (some ⟨X, 0, none⟩)] #[])] 75))
  case first =>
    refine regionL 12 (fun W => W.cell? ⟨X, 5, none⟩ = some (.int .i64 p.a.kind)) (by kernel_rfl) ?_
    have HT0 : w.drew.cell? ⟨X, 5, none⟩ = some (.int .i64 p.a.kind) := h.blk.cell 5
    refine takeW (i := 0) (v := .pointer (some ⟨X, 0, none⟩)) rfl (by kernel_rfl) (by kernel_rfl) (by kernel_rfl) rfl (fun _ _ _ h => h) (fun _ => HT0) (Or.inl ⟨by rfl, fun W _ => by go_simp⟩) ?_
    try simp only [Act.put, List.getElem_toArray, List.getElem_cons_succ, List.getElem_cons_zero, List.setIfInBounds_toArray, List.set_cons_zero, List.set_cons_succ]
    refine takeW (i := 2) (v := .pointer (some ⟨X, 0, none⟩)) rfl (by kernel_rfl) (by kernel_rfl) (by kernel_rfl) rfl (fun _ _ _ h => h) (fun _ => HT0) (Or.inl ⟨by rfl, fun W _ => by go_simp⟩) ?_
    try simp only [Act.put, List.getElem_toArray, List.getElem_cons_succ, List.getElem_cons_zero, List.setIfInBounds_toArray, List.set_cons_zero, List.set_cons_succ]
    refine takeW (i := 3) (v := .pointer (some ⟨X, 0, none⟩)) rfl (by kernel_rfl) (by kernel_rfl) (by kernel_rfl) rfl (fun _ _ _ h => h) (fun _ => HT0) (Or.inl ⟨by rfl, fun W _ => by go_simp⟩) ?_
    try simp only [Act.put, List.getElem_toArray, List.getElem_cons_succ, List.getElem_cons_zero, List.setIfInBounds_toArray, List.set_cons_zero, List.set_cons_succ]
    refine takeW (i := 4) (v := .pointer (some ⟨X, 5, none⟩)) rfl (by kernel_rfl) (by kernel_rfl) (by kernel_rfl) rfl (fun _ _ _ h => h) (fun _ => HT0) (Or.inl ⟨by rfl, fun W _ => by go_simp⟩) ?_
    try simp only [Act.put, List.getElem_toArray, List.getElem_cons_succ, List.getElem_cons_zero, List.setIfInBounds_toArray, List.set_cons_zero, List.set_cons_succ]
    refine takeW (i := 5) (v := .pointer (some ⟨X, 5, none⟩)) rfl (by kernel_rfl) (by kernel_rfl) (by kernel_rfl) rfl (fun _ _ _ h => h) (fun _ => HT0) (Or.inl ⟨by rfl, fun W _ => by go_simp⟩) ?_
    try simp only [Act.put, List.getElem_toArray, List.getElem_cons_succ, List.getElem_cons_zero, List.setIfInBounds_toArray, List.set_cons_zero, List.set_cons_succ]
    refine takeL (i := 6) (v := .int .i64 p.a.kind) rfl (by kernel_rfl) (by kernel_rfl) (by kernel_rfl) (by kernel_rfl) (by kernel_rfl) (fun _ _ _ h => h) HT0 (Or.inl ⟨by rfl, fun W hW => by have t0 := hW; go_simp⟩) ?_
    try simp only [Act.put, List.getElem_toArray, List.getElem_cons_succ, List.getElem_cons_zero, List.setIfInBounds_toArray, List.set_cons_zero, List.set_cons_succ]
    refine readyL (rs := [1, 11]) (by kernel_rfl) (by simp) ?_
    refine AllL.cons rfl (fun K hK => ?_) (AllL.cons rfl (fun K hK => ?_) AllL.nil)
    · skip
      try simp only [List.getElem_toArray, List.getElem_cons_succ, List.getElem_cons_zero]
      go_simp
      refine (pdeeds_any _ _).mono ?_
      rintro e w2 ⟨rfl, rfl⟩
      replace HBL := HBL.alloc HBL.size (.map (dmE (.pointer (some ⟨X, 0, none⟩))) 13)
      have HT1 : (w.drew.alloc (.map (dmE (.pointer (some ⟨X, 0, none⟩))) 13)).cell? ⟨X, 5, none⟩ = some (.int .i64 p.a.kind) := (HBL.cell (p := ⟨X, 5, none⟩) hXl).trans HK5
      refine hK.out _ _ (fun _ => HT1) (fun _ => ?_)
      clear hK K HT0
      have HT0 := HT1
      clear HT1
      try simp only [Act.put, List.getElem_toArray, List.getElem_cons_succ, List.getElem_cons_zero, List.setIfInBounds_toArray, List.set_cons_zero, List.set_cons_succ]
      refine readyL (rs := [7, 11]) (by kernel_rfl) (by simp) ?_
      refine AllL.cons rfl (fun K hK => ?_) (AllL.cons rfl (fun K hK => ?_) AllL.nil)
      · skip
        try simp only [List.getElem_toArray, List.getElem_cons_succ, List.getElem_cons_zero]
        have hlk := look_deed (x := .pointer (some ⟨X, 0, none⟩)) (W := ((w.alloc (.map (dmE (.pointer (some ⟨X, 0, none⟩))) 13)).drew)) (r := w.heap.size) p.a.kind (heap_alloc_new w _)
        rw [hk] at hlk
        go_simp
        refine hK.out _ _ (fun _ => HT0) (fun _ => ?_)
        clear hK K hlk
        try simp only [Act.put, List.getElem_toArray, List.getElem_cons_succ, List.getElem_cons_zero, List.setIfInBounds_toArray, List.set_cons_zero, List.set_cons_succ]
        refine takeW (i := 8) (v := .tuple #[.agg #[(.func (.func fa) #[.pointer (some ⟨X, 0, none⟩)] #[]), (.func (.func fd) #[.pointer (some ⟨X, 0, none⟩)] #[])], .bool true]) rfl (by kernel_rfl) (by kernel_rfl) (by kernel_rfl) rfl (fun _ _ _ h => h) (fun _ => HT0) (Or.inl ⟨by rfl, fun W _ => by go_simp⟩) ?_
        try simp only [Act.put, List.getElem_toArray, List.getElem_cons_succ, List.getElem_cons_zero, List.setIfInBounds_toArray, List.set_cons_zero, List.set_cons_succ]
        refine takeW (i := 9) (v := .agg #[(.func (.func fa) #[.pointer (some ⟨X, 0, none⟩)] #[]), (.func (.func fd) #[.pointer (some ⟨X, 0, none⟩)] #[])]) rfl (by kernel_rfl) (by kernel_rfl) (by kernel_rfl) rfl (fun _ _ _ h => h) (fun _ => HT0) (Or.inl ⟨by rfl, fun W _ => by go_simp⟩) ?_
        try simp only [Act.put, List.getElem_toArray, List.getElem_cons_succ, List.getElem_cons_zero, List.setIfInBounds_toArray, List.set_cons_zero, List.set_cons_succ]
        refine takeW (i := 10) (v := .bool true) rfl (by kernel_rfl) (by kernel_rfl) (by kernel_rfl) rfl (fun _ _ _ h => h) (fun _ => HT0) (Or.inl ⟨by rfl, fun W _ => by go_simp⟩) ?_
        try simp only [Act.put, List.getElem_toArray, List.getElem_cons_succ, List.getElem_cons_zero, List.setIfInBounds_toArray, List.set_cons_zero, List.set_cons_succ]
        refine readyL (rs := [11]) (by kernel_rfl) (by simp) ?_
        refine AllL.cons rfl (fun K hK => ?_) AllL.nil
        try simp only [List.getElem_toArray, List.getElem_cons_succ, List.getElem_cons_zero]
        go_simp
        replace HBL := HBL.alloc HBL.size (.cells #[.nilFunc, .nilFunc] 75)
        have HT1 : ((w.drew.alloc (.map (dmE (.pointer (some ⟨X, 0, none⟩))) 13)).alloc (.cells #[.nilFunc, .nilFunc] 75)).cell? ⟨X, 5, none⟩ = some (.int .i64 p.a.kind) := (HBL.cell (p := ⟨X, 5, none⟩) hXl).trans HK5
        refine hK.out _ _ (fun _ => HT1) (fun _ => ?_)
        clear hK K HT0
        have HT0 := HT1
        clear HT1
        try simp only [Act.put, List.getElem_toArray, List.getElem_cons_succ, List.getElem_cons_zero, List.setIfInBounds_toArray, List.set_cons_zero, List.set_cons_succ]
        have HDz : Blk ((((w.alloc (.map (dmE (.pointer (some ⟨X, 0, none⟩))) 13)).alloc (.cells #[.nilFunc, .nilFunc] 75)).drew)) (w.heap.size + 1) #[.nilFunc, .nilFunc] 75 := Blk.new1 w _ _ _
        have HBz : Below w.heap.size w ((((w.alloc (.map (dmE (.pointer (some ⟨X, 0, none⟩))) 13)).alloc (.cells #[.nilFunc, .nilFunc] 75)).drew)) := HBL
        change anyL _ _ _ _ _ _ _ _ _ ((((w.alloc (.map (dmE (.pointer (some ⟨X, 0, none⟩))) 13)).alloc (.cells #[.nilFunc, .nilFunc] 75)).drew))
        generalize ((((w.alloc (.map (dmE (.pointer (some ⟨X, 0, none⟩))) 13)).alloc (.cells #[.nilFunc, .nilFunc] 75)).drew)) = Wz at HDz HBz ⊢
        have d0 : Wz.cell? ⟨w.heap.size + 1, 0, none⟩ = some .nilFunc := HDz.cell 0
        have d1 : Wz.cell? ⟨w.heap.size + 1, 1, none⟩ = some .nilFunc := HDz.cell 1
        have y0 := HDz.frozen 0
        have y1 := HDz.frozen 1
        refine readyL (rs := [12]) (by kernel_rfl) (by simp) ?_
        refine AllL.cons rfl (fun K hK => ?_) AllL.nil
        try simp only [List.getElem_toArray, List.getElem_cons_succ, List.getElem_cons_zero]
        go_simp
        refine hK.out _ _ (vac (by kernel_rfl)) (fun _ => ?_)
        clear hK K HT0
        try simp only [Act.put, List.getElem_toArray, List.getElem_cons_succ, List.getElem_cons_zero, List.setIfInBounds_toArray, List.set_cons_zero, List.set_cons_succ]
        refine takeW (i := 13) (v := .bool true) rfl (by kernel_rfl) (by kernel_rfl) (by kernel_rfl) rfl (fun _ _ _ h => h) (vac (by kernel_rfl)) (Or.inl ⟨by rfl, fun W _ => by go_simp⟩) ?_
        try simp only [Act.put, List.getElem_toArray, List.getElem_cons_succ, List.getElem_cons_zero, List.setIfInBounds_toArray, List.set_cons_zero, List.set_cons_succ]
        refine doneL (by kernel_rfl) ?_ _
        have HDf : Blk ((Wz.setCell ⟨w.heap.size + 1, 0, none⟩ (.func (.func fa) #[.pointer (some ⟨X, 0, none⟩)] #[])).setCell ⟨w.heap.size + 1, 1, none⟩ (.func (.func fd) #[.pointer (some ⟨X, 0, none⟩)] #[])) (w.heap.size + 1) #[(.func (.func fa) #[.pointer (some ⟨X, 0, none⟩)] #[]), (.func (.func fd) #[.pointer (some ⟨X, 0, none⟩)] #[])] 75 := (HDz.set 0 (.func (.func fa) #[.pointer (some ⟨X, 0, none⟩)] #[])).set 1 (.func (.func fd) #[.pointer (some ⟨X, 0, none⟩)] #[])
        have HBf : Below w.heap.size w ((Wz.setCell ⟨w.heap.size + 1, 0, none⟩ (.func (.func fa) #[.pointer (some ⟨X, 0, none⟩)] #[])).setCell ⟨w.heap.size + 1, 1, none⟩ (.func (.func fd) #[.pointer (some ⟨X, 0, none⟩)] #[])) := (HBz.setCell (p := ⟨w.heap.size + 1, 0, none⟩) (by show w.heap.size ≤ w.heap.size + 1; omega) (.func (.func fa) #[.pointer (some ⟨X, 0, none⟩)] #[])).setCell (p := ⟨w.heap.size + 1, 1, none⟩) (by show w.heap.size ≤ w.heap.size + 1; omega) (.func (.func fd) #[.pointer (some ⟨X, 0, none⟩)] #[])
        go_wp2
        go_meet
        case rel => exact ⟨rfl, _, rfl, h.below HBf, HDf⟩
      · skip
        try simp only [List.getElem_toArray, List.getElem_cons_succ, List.getElem_cons_zero]
        go_simp
        replace HBL := HBL.alloc HBL.size (.cells #[.nilFunc, .nilFunc] 75)
        have HT1 : ((w.drew.alloc (.map (dmE (.pointer (some ⟨X, 0, none⟩))) 13)).alloc (.cells #[.nilFunc, .nilFunc] 75)).cell? ⟨X, 5, none⟩ = some (.int .i64 p.a.kind) := (HBL.cell (p := ⟨X, 5, none⟩) hXl).trans HK5
        refine hK.out _ _ (fun _ => HT1) (fun _ => ?_)
        clear hK K HT0
        have HT0 := HT1
        clear HT1
        try simp only [Act.put, List.getElem_toArray, List.getElem_cons_succ, List.getElem_cons_zero, List.setIfInBounds_toArray, List.set_cons_zero, List.set_cons_succ]
        refine readyL (rs := [7]) (by kernel_rfl) (by simp) ?_
        refine AllL.cons rfl (fun K hK => ?_) AllL.nil
        try simp only [List.getElem_toArray, List.getElem_cons_succ, List.getElem_cons_zero]
        have hlk := look_deed (x := .pointer (some ⟨X, 0, none⟩)) (W := (((w.alloc (.map (dmE (.pointer (some ⟨X, 0, none⟩))) 13)).alloc (.cells #[.nilFunc, .nilFunc] 75)).drew)) (r := w.heap.size) p.a.kind ((Below.heap_alloc (w.alloc (.map (dmE (.pointer (some ⟨X, 0, none⟩))) 13)) _ _ (by simp)).trans (heap_alloc_new w _))
        rw [hk] at hlk
        go_simp
        refine hK.out _ _ (fun _ => HT0) (fun _ => ?_)
        clear hK K hlk
        try simp only [Act.put, List.getElem_toArray, List.getElem_cons_succ, List.getElem_cons_zero, List.setIfInBounds_toArray, List.set_cons_zero, List.set_cons_succ]
        refine takeW (i := 8) (v := .tuple #[.agg #[(.func (.func fa) #[.pointer (some ⟨X, 0, none⟩)] #[]), (.func (.func fd) #[.pointer (some ⟨X, 0, none⟩)] #[])], .bool true]) rfl (by kernel_rfl) (by kernel_rfl) (by kernel_rfl) rfl (fun _ _ _ h => h) (fun _ => HT0) (Or.inl ⟨by rfl, fun W _ => by go_simp⟩) ?_
        try simp only [Act.put, List.getElem_toArray, List.getElem_cons_succ, List.getElem_cons_zero, List.setIfInBounds_toArray, List.set_cons_zero, List.set_cons_succ]
        refine takeW (i := 9) (v := .agg #[(.func (.func fa) #[.pointer (some ⟨X, 0, none⟩)] #[]), (.func (.func fd) #[.pointer (some ⟨X, 0, none⟩)] #[])]) rfl (by kernel_rfl) (by kernel_rfl) (by kernel_rfl) rfl (fun _ _ _ h => h) (fun _ => HT0) (Or.inl ⟨by rfl, fun W _ => by go_simp⟩) ?_
        try simp only [Act.put, List.getElem_toArray, List.getElem_cons_succ, List.getElem_cons_zero, List.setIfInBounds_toArray, List.set_cons_zero, List.set_cons_succ]
        refine takeW (i := 10) (v := .bool true) rfl (by kernel_rfl) (by kernel_rfl) (by kernel_rfl) rfl (fun _ _ _ h => h) (fun _ => HT0) (Or.inl ⟨by rfl, fun W _ => by go_simp⟩) ?_
        try simp only [Act.put, List.getElem_toArray, List.getElem_cons_succ, List.getElem_cons_zero, List.setIfInBounds_toArray, List.set_cons_zero, List.set_cons_succ]
        have HDz : Blk ((((w.alloc (.map (dmE (.pointer (some ⟨X, 0, none⟩))) 13)).alloc (.cells #[.nilFunc, .nilFunc] 75)).drew)) (w.heap.size + 1) #[.nilFunc, .nilFunc] 75 := Blk.new1 w _ _ _
        have HBz : Below w.heap.size w ((((w.alloc (.map (dmE (.pointer (some ⟨X, 0, none⟩))) 13)).alloc (.cells #[.nilFunc, .nilFunc] 75)).drew)) := HBL
        change anyL _ _ _ _ _ _ _ _ _ ((((w.alloc (.map (dmE (.pointer (some ⟨X, 0, none⟩))) 13)).alloc (.cells #[.nilFunc, .nilFunc] 75)).drew))
        generalize ((((w.alloc (.map (dmE (.pointer (some ⟨X, 0, none⟩))) 13)).alloc (.cells #[.nilFunc, .nilFunc] 75)).drew)) = Wz at HDz HBz ⊢
        have d0 : Wz.cell? ⟨w.heap.size + 1, 0, none⟩ = some .nilFunc := HDz.cell 0
        have d1 : Wz.cell? ⟨w.heap.size + 1, 1, none⟩ = some .nilFunc := HDz.cell 1
        have y0 := HDz.frozen 0
        have y1 := HDz.frozen 1
        refine readyL (rs := [12]) (by kernel_rfl) (by simp) ?_
        refine AllL.cons rfl (fun K hK => ?_) AllL.nil
        try simp only [List.getElem_toArray, List.getElem_cons_succ, List.getElem_cons_zero]
        go_simp
        refine hK.out _ _ (vac (by kernel_rfl)) (fun _ => ?_)
        clear hK K HT0
        try simp only [Act.put, List.getElem_toArray, List.getElem_cons_succ, List.getElem_cons_zero, List.setIfInBounds_toArray, List.set_cons_zero, List.set_cons_succ]
        refine takeW (i := 13) (v := .bool true) rfl (by kernel_rfl) (by kernel_rfl) (by kernel_rfl) rfl (fun _ _ _ h => h) (vac (by kernel_rfl)) (Or.inl ⟨by rfl, fun W _ => by go_simp⟩) ?_
        try simp only [Act.put, List.getElem_toArray, List.getElem_cons_succ, List.getElem_cons_zero, List.setIfInBounds_toArray, List.set_cons_zero, List.set_cons_succ]
        refine doneL (by kernel_rfl) ?_ _
        have HDf : Blk ((Wz.setCell ⟨w.heap.size + 1, 0, none⟩ (.func (.func fa) #[.pointer (some ⟨X, 0, none⟩)] #[])).setCell ⟨w.heap.size + 1, 1, none⟩ (.func (.func fd) #[.pointer (some ⟨X, 0, none⟩)] #[])) (w.heap.size + 1) #[(.func (.func fa) #[.pointer (some ⟨X, 0, none⟩)] #[]), (.func (.func fd) #[.pointer (some ⟨X, 0, none⟩)] #[])] 75 := (HDz.set 0 (.func (.func fa) #[.pointer (some ⟨X, 0, none⟩)] #[])).set 1 (.func (.func fd) #[.pointer (some ⟨X, 0, none⟩)] #[])
        have HBf : Below w.heap.size w ((Wz.setCell ⟨w.heap.size + 1, 0, none⟩ (.func (.func fa) #[.pointer (some ⟨X, 0, none⟩)] #[])).setCell ⟨w.heap.size + 1, 1, none⟩ (.func (.func fd) #[.pointer (some ⟨X, 0, none⟩)] #[])) := (HBz.setCell (p := ⟨w.heap.size + 1, 0, none⟩) (by show w.heap.size ≤ w.heap.size + 1; omega) (.func (.func fa) #[.pointer (some ⟨X, 0, none⟩)] #[])).setCell (p := ⟨w.heap.size + 1, 1, none⟩) (by show w.heap.size ≤ w.heap.size + 1; omega) (.func (.func fd) #[.pointer (some ⟨X, 0, none⟩)] #[])
        go_wp2
        go_meet
        case rel => exact ⟨rfl, _, rfl, h.below HBf, HDf⟩
    · skip
      try simp only [List.getElem_toArray, List.getElem_cons_succ, List.getElem_cons_zero]
      go_simp
      replace HBL := HBL.alloc HBL.size (.cells #[.nilFunc, .nilFunc] 75)
      have HT1 : (w.drew.alloc (.cells #[.nilFunc, .nilFunc] 75)).cell? ⟨X, 5, none⟩ = some (.int .i64 p.a.kind) := (HBL.cell (p := ⟨X, 5, none⟩) hXl).trans HK5
      refine hK.out _ _ (fun _ => HT1) (fun _ => ?_)
      clear hK K HT0
      have HT0 := HT1
      clear HT1
      try simp only [Act.put, List.getElem_toArray, List.getElem_cons_succ, List.getElem_cons_zero, List.setIfInBounds_toArray, List.set_cons_zero, List.set_cons_succ]
      refine readyL (rs := [1]) (by kernel_rfl) (by simp) ?_
      refine AllL.cons rfl (fun K hK => ?_) AllL.nil
      try simp only [List.getElem_toArray, List.getElem_cons_succ, List.getElem_cons_zero]
      go_simp
      refine (pdeeds_any _ _).mono ?_
      rintro e w2 ⟨rfl, rfl⟩
      replace HBL := HBL.alloc HBL.size (.map (dmE (.pointer (some ⟨X, 0, none⟩))) 13)
      have HT1 : ((w.drew.alloc (.cells #[.nilFunc, .nilFunc] 75)).alloc (.map (dmE (.pointer (some ⟨X, 0, none⟩))) 13)).cell? ⟨X, 5, none⟩ = some (.int .i64 p.a.kind) := (HBL.cell (p := ⟨X, 5, none⟩) hXl).trans HK5
      refine hK.out _ _ (fun _ => HT1) (fun _ => ?_)
      clear hK K HT0
      have HT0 := HT1
      clear HT1
      try simp only [Act.put, List.getElem_toArray, List.getElem_cons_succ, List.getElem_cons_zero, List.setIfInBounds_toArray, List.set_cons_zero, List.set_cons_succ]
      refine readyL (rs := [7]) (by kernel_rfl) (by simp) ?_
      refine AllL.cons rfl (fun K hK => ?_) AllL.nil
      try simp only [List.getElem_toArray, List.getElem_cons_succ, List.getElem_cons_zero]
      have hlk := look_deed (x := .pointer (some ⟨X, 0, none⟩)) (W := (((w.alloc (.cells #[.nilFunc, .nilFunc] 75)).alloc (.map (dmE (.pointer (some ⟨X, 0, none⟩))) 13)).drew)) (r := w.heap.size + 1) p.a.kind (heap_alloc2_new w _ _)
      rw [hk] at hlk
      go_simp
      refine hK.out _ _ (fun _ => HT0) (fun _ => ?_)
      clear hK K hlk
      try simp only [Act.put, List.getElem_toArray, List.getElem_cons_succ, List.getElem_cons_zero, List.setIfInBounds_toArray, List.set_cons_zero, List.set_cons_succ]
      refine takeW (i := 8) (v := .tuple #[.agg #[(.func (.func fa) #[.pointer (some ⟨X, 0, none⟩)] #[]), (.func (.func fd) #[.pointer (some ⟨X, 0, none⟩)] #[])], .bool true]) rfl (by kernel_rfl) (by kernel_rfl) (by kernel_rfl) rfl (fun _ _ _ h => h) (fun _ => HT0) (Or.inl ⟨by rfl, fun W _ => by go_simp⟩) ?_
      try simp only [Act.put, List.getElem_toArray, List.getElem_cons_succ, List.getElem_cons_zero, List.setIfInBounds_toArray, List.set_cons_zero, List.set_cons_succ]
      refine takeW (i := 9) (v := .agg #[(.func (.func fa) #[.pointer (some ⟨X, 0, none⟩)] #[]), (.func (.func fd) #[.pointer (some ⟨X, 0, none⟩)] #[])]) rfl (by kernel_rfl) (by kernel_rfl) (by kernel_rfl) rfl (fun _ _ _ h => h) (fun _ => HT0) (Or.inl ⟨by rfl, fun W _ => by go_simp⟩) ?_
      try simp only [Act.put, List.getElem_toArray, List.getElem_cons_succ, List.getElem_cons_zero, List.setIfInBounds_toArray, List.set_cons_zero, List.set_cons_succ]
      refine takeW (i := 10) (v := .bool true) rfl (by kernel_rfl) (by kernel_rfl) (by kernel_rfl) rfl (fun _ _ _ h => h) (fun _ => HT0) (Or.inl ⟨by rfl, fun W _ => by go_simp⟩) ?_
      try simp only [Act.put, List.getElem_toArray, List.getElem_cons_succ, List.getElem_cons_zero, List.setIfInBounds_toArray, List.set_cons_zero, List.set_cons_succ]
      have HDz : Blk ((((w.alloc (.cells #[.nilFunc, .nilFunc] 75)).alloc (.map (dmE (.pointer (some ⟨X, 0, none⟩))) 13)).drew)) (w.heap.size) #[.nilFunc, .nilFunc] 75 := (Blk.new w _ _).alloc _
      have HBz : Below w.heap.size w ((((w.alloc (.cells #[.nilFunc, .nilFunc] 75)).alloc (.map (dmE (.pointer (some ⟨X, 0, none⟩))) 13)).drew)) := HBL
      change anyL _ _ _ _ _ _ _ _ _ ((((w.alloc (.cells #[.nilFunc, .nilFunc] 75)).alloc (.map (dmE (.pointer (some ⟨X, 0, none⟩))) 13)).drew))
      generalize ((((w.alloc (.cells #[.nilFunc, .nilFunc] 75)).alloc (.map (dmE (.pointer (some ⟨X, 0, none⟩))) 13)).drew)) = Wz at HDz HBz ⊢
      have d0 : Wz.cell? ⟨w.heap.size, 0, none⟩ = some .nilFunc := HDz.cell 0
      have d1 : Wz.cell? ⟨w.heap.size, 1, none⟩ = some .nilFunc := HDz.cell 1
      have y0 := HDz.frozen 0
      have y1 := HDz.frozen 1
      refine readyL (rs := [12]) (by kernel_rfl) (by simp) ?_
      refine AllL.cons rfl (fun K hK => ?_) AllL.nil
      try simp only [List.getElem_toArray, List.getElem_cons_succ, List.getElem_cons_zero]
      go_simp
      refine hK.out _ _ (vac (by kernel_rfl)) (fun _ => ?_)
      clear hK K HT0
      try simp only [Act.put, List.getElem_toArray, List.getElem_cons_succ, List.getElem_cons_zero, List.setIfInBounds_toArray, List.set_cons_zero, List.set_cons_succ]
      refine takeW (i := 13) (v := .bool true) rfl (by kernel_rfl) (by kernel_rfl) (by kernel_rfl) rfl (fun _ _ _ h => h) (vac (by kernel_rfl)) (Or.inl ⟨by rfl, fun W _ => by go_simp⟩) ?_
      try simp only [Act.put, List.getElem_toArray, List.getElem_cons_succ, List.getElem_cons_zero, List.setIfInBounds_toArray, List.set_cons_zero, List.set_cons_succ]
      refine doneL (by kernel_rfl) ?_ _
      have HDf : Blk ((Wz.setCell ⟨w.heap.size, 0, none⟩ (.func (.func fa) #[.pointer (some ⟨X, 0, none⟩)] #[])).setCell ⟨w.heap.size, 1, none⟩ (.func (.func fd) #[.pointer (some ⟨X, 0, none⟩)] #[])) (w.heap.size) #[(.func (.func fa) #[.pointer (some ⟨X, 0, none⟩)] #[]), (.func (.func fd) #[.pointer (some ⟨X, 0, none⟩)] #[])] 75 := (HDz.set 0 (.func (.func fa) #[.pointer (some ⟨X, 0, none⟩)] #[])).set 1 (.func (.func fd) #[.pointer (some ⟨X, 0, none⟩)] #[])
      have HBf : Below w.heap.size w ((Wz.setCell ⟨w.heap.size, 0, none⟩ (.func (.func fa) #[.pointer (some ⟨X, 0, none⟩)] #[])).setCell ⟨w.heap.size, 1, none⟩ (.func (.func fd) #[.pointer (some ⟨X, 0, none⟩)] #[])) := (HBz.setCell (p := ⟨w.heap.size, 0, none⟩) (by show w.heap.size ≤ w.heap.size; omega) (.func (.func fa) #[.pointer (some ⟨X, 0, none⟩)] #[])).setCell (p := ⟨w.heap.size, 1, none⟩) (by show w.heap.size ≤ w.heap.size; omega) (.func (.func fd) #[.pointer (some ⟨X, 0, none⟩)] #[])
      go_wp2
      go_meet
      case rel => exact ⟨rfl, _, rfl, h.below HBf, HDf⟩
  case rest =>
    obtain ⟨rfl, Dn, rfl, HS, HD⟩ := hcut
    have HE : Hid (∀ W, Below w0.heap.size w0 W → EN W (ea 3)) := fun W hW => (hE.below hW).name
    have hDX : Hid (∀ W : World, Blk W X p.cells 59 → Blk W Dn #[(.func (.func fa) #[.pointer (some ⟨X, 0, none⟩)] #[]), (.func (.func fd) #[.pointer (some ⟨X, 0, none⟩)] #[])] 75 → ¬ Dn = X) := fun W h1 h2 e => by
      subst e
      unfold Blk at h1 h2
      rw [h1] at h2
      injection h2 with h2
      injection h2 with h2
      have := congrArg Array.size h2
      simp [PA.cells] at this
    go_upto_region 4 with fail
    refine regionL 17 (fun W => W.cell? ⟨X, 11, none⟩ = some (.string ⟨p.a.name.toArray⟩) ∧ W.cell? ⟨X, 12, none⟩ = some (.string ⟨p.a.dst.toArray⟩)) (by kernel_rfl) ?_
    have HT0 : wc.drew.cell? ⟨X, 11, none⟩ = some (.string ⟨p.a.name.toArray⟩) ∧ wc.drew.cell? ⟨X, 12, none⟩ = some (.string ⟨p.a.dst.toArray⟩) := ⟨HS.out.blk.cell 11, HS.out.blk.cell 12⟩
    refine takeW (i := 0) (v := .pointer (some ⟨X, 0, none⟩)) rfl (by kernel_rfl) (by kernel_rfl) (by kernel_rfl) rfl (fun _ _ _ h => h) (fun _ => HT0) (Or.inl ⟨by rfl, fun W _ => by go_simp⟩) ?_
    try simp only [Act.put, List.getElem_toArray, List.getElem_cons_succ, List.getElem_cons_zero, List.setIfInBounds_toArray, List.set_cons_zero, List.set_cons_succ]
    refine takeW (i := 1) (v := .pointer (some ⟨X, 0, none⟩)) rfl (by kernel_rfl) (by kernel_rfl) (by kernel_rfl) rfl (fun _ _ _ h => h) (fun _ => HT0) (Or.inl ⟨by rfl, fun W _ => by go_simp⟩) ?_
    try simp only [Act.put, List.getElem_toArray, List.getElem_cons_succ, List.getElem_cons_zero, List.setIfInBounds_toArray, List.set_cons_zero, List.set_cons_succ]
    refine takeW (i := 2) (v := .pointer (some ⟨X, 0, none⟩)) rfl (by kernel_rfl) (by kernel_rfl) (by kernel_rfl) rfl (fun _ _ _ h => h) (fun _ => HT0) (Or.inl ⟨by rfl, fun W _ => by go_simp⟩) ?_
    try simp only [Act.put, List.getElem_toArray, List.getElem_cons_succ, List.getElem_cons_zero, List.setIfInBounds_toArray, List.set_cons_zero, List.set_cons_succ]
    refine takeW (i := 3) (v := .pointer (some ⟨X, 0, none⟩)) rfl (by kernel_rfl) (by kernel_rfl) (by kernel_rfl) rfl (fun _ _ _ h => h) (fun _ => HT0) (Or.inl ⟨by rfl, fun W _ => by go_simp⟩) ?_
    try simp only [Act.put, List.getElem_toArray, List.getElem_cons_succ, List.getElem_cons_zero, List.setIfInBounds_toArray, List.set_cons_zero, List.set_cons_succ]
    refine takeW (i := 4) (v := .pointer (some ⟨X, 5, none⟩)) rfl (by kernel_rfl) (by kernel_rfl) (by kernel_rfl) rfl (fun _ _ _ h => h) (fun _ => HT0) (Or.inl ⟨by rfl, fun W _ => by go_simp⟩) ?_
    try simp only [Act.put, List.getElem_toArray, List.getElem_cons_succ, List.getElem_cons_zero, List.setIfInBounds_toArray, List.set_cons_zero, List.set_cons_succ]
    refine takeW (i := 5) (v := .pointer (some ⟨X, 11, none⟩)) rfl (by kernel_rfl) (by kernel_rfl) (by kernel_rfl) rfl (fun _ _ _ h => h) (fun _ => HT0) (Or.inl ⟨by rfl, fun W _ => by go_simp⟩) ?_
    try simp only [Act.put, List.getElem_toArray, List.getElem_cons_succ, List.getElem_cons_zero, List.setIfInBounds_toArray, List.set_cons_zero, List.set_cons_succ]
    refine takeL (i := 6) (v := .string ⟨p.a.name.toArray⟩) rfl (by kernel_rfl) (by kernel_rfl) (by kernel_rfl) (by kernel_rfl) (by kernel_rfl) (fun _ _ _ h => h) HT0 (Or.inl ⟨by rfl, fun W hW => by obtain ⟨t0, t1⟩ := hW; go_simp⟩) ?_
    try simp only [Act.put, List.getElem_toArray, List.getElem_cons_succ, List.getElem_cons_zero, List.setIfInBounds_toArray, List.set_cons_zero, List.set_cons_succ]
    refine takeW (i := 8) (v := .pointer (some ⟨X, 0, none⟩)) rfl (by kernel_rfl) (by kernel_rfl) (by kernel_rfl) rfl (fun _ _ _ h => h) (fun _ => HT0) (Or.inl ⟨by rfl, fun W _ => by go_simp⟩) ?_
    try simp only [Act.put, List.getElem_toArray, List.getElem_cons_succ, List.getElem_cons_zero, List.setIfInBounds_toArray, List.set_cons_zero, List.set_cons_succ]
    refine takeW (i := 9) (v := .pointer (some ⟨X, 0, none⟩)) rfl (by kernel_rfl) (by kernel_rfl) (by kernel_rfl) rfl (fun _ _ _ h => h) (fun _ => HT0) (Or.inl ⟨by rfl, fun W _ => by go_simp⟩) ?_
    try simp only [Act.put, List.getElem_toArray, List.getElem_cons_succ, List.getElem_cons_zero, List.setIfInBounds_toArray, List.set_cons_zero, List.set_cons_succ]
    refine takeW (i := 10) (v := .pointer (some ⟨X, 5, none⟩)) rfl (by kernel_rfl) (by kernel_rfl) (by kernel_rfl) rfl (fun _ _ _ h => h) (fun _ => HT0) (Or.inl ⟨by rfl, fun W _ => by go_simp⟩) ?_
    try simp only [Act.put, List.getElem_toArray, List.getElem_cons_succ, List.getElem_cons_zero, List.setIfInBounds_toArray, List.set_cons_zero, List.set_cons_succ]
    refine takeW (i := 11) (v := .pointer (some ⟨X, 12, none⟩)) rfl (by kernel_rfl) (by kernel_rfl) (by kernel_rfl) rfl (fun _ _ _ h => h) (fun _ => HT0) (Or.inl ⟨by rfl, fun W _ => by go_simp⟩) ?_
    try simp only [Act.put, List.getElem_toArray, List.getElem_cons_succ, List.getElem_cons_zero, List.setIfInBounds_toArray, List.set_cons_zero, List.set_cons_succ]
    refine takeL (i := 12) (v := .string ⟨p.a.dst.toArray⟩) rfl (by kernel_rfl) (by kernel_rfl) (by kernel_rfl) (by kernel_rfl) (by kernel_rfl) (fun _ _ _ h => h) HT0 (Or.inl ⟨by rfl, fun W hW => by obtain ⟨t0, t1⟩ := hW; go_simp⟩) ?_
    try simp only [Act.put, List.getElem_toArray, List.getElem_cons_succ, List.getElem_cons_zero, List.setIfInBounds_toArray, List.set_cons_zero, List.set_cons_succ]
    refine readyL (rs := [7]) (by kernel_rfl) (by simp) ?_
    refine AllL.cons rfl (fun K hK => ?_) AllL.nil
    try simp only [List.getElem_toArray, List.getElem_cons_succ, List.getElem_cons_zero]
    go_simp
    refine (pnameOf_any p.a.name wc.drew (ea 3) (HE.out _ HS.out.bel.drew) hn).mono ?_
    rintro e w5 ⟨rfl, hb5⟩
    have HS5 := hide (HS.out.below (w' := w5) ⟨hb5.os, hb5.tape, hb5.output, hb5.size, hb5.block⟩)
    have HD5 := hide (HD.out.below (w' := w5) ⟨hb5.os, hb5.tape, hb5.output, hb5.size, hb5.block⟩ HD.out.lt)
    have HT1 : w5.cell? ⟨X, 11, none⟩ = some (.string ⟨p.a.name.toArray⟩) ∧ w5.cell? ⟨X, 12, none⟩ = some (.string ⟨p.a.dst.toArray⟩) := ⟨HS5.out.blk.cell 11, HS5.out.blk.cell 12⟩
    refine hK.out _ _ (fun _ => HT1) (fun _ => ?_)
    clear hK K HT0 hb5
    have HT0 := HT1
    clear HT1
    try simp only [Act.put, List.getElem_toArray, List.getElem_cons_succ, List.getElem_cons_zero, List.setIfInBounds_toArray, List.set_cons_zero, List.set_cons_succ]
    refine readyL (rs := [13]) (by kernel_rfl) (by simp) ?_
    refine AllL.cons rfl (fun K hK => ?_) AllL.nil
    try simp only [List.getElem_toArray, List.getElem_cons_succ, List.getElem_cons_zero]
    go_simp
    refine (pnameOf_any p.a.dst w5 (ea 3) (HE.out _ HS5.out.bel) hd).mono ?_
    rintro e w6 ⟨rfl, hb6⟩
    have HS6 := hide (HS5.out.below hb6)
    have HD6 := hide (HD5.out.below hb6 HD5.out.lt)
    have HT1 : w6.cell? ⟨X, 11, none⟩ = some (.string ⟨p.a.name.toArray⟩) ∧ w6.cell? ⟨X, 12, none⟩ = some (.string ⟨p.a.dst.toArray⟩) := ⟨HS6.out.blk.cell 11, HS6.out.blk.cell 12⟩
    refine hK.out _ _ (fun _ => HT1) (fun _ => ?_)
    clear hK K HT0 hb6 HS5 HD5
    have HT0 := HT1
    clear HT1
    try simp only [Act.put, List.getElem_toArray, List.getElem_cons_succ, List.getElem_cons_zero, List.setIfInBounds_toArray, List.set_cons_zero, List.set_cons_succ]
    refine takeW (i := 14) (v := .pointer (some ⟨X, 0, none⟩)) rfl (by kernel_rfl) (by kernel_rfl) (by kernel_rfl) rfl (fun _ _ _ h => h) (fun _ => HT0) (Or.inl ⟨by rfl, fun W _ => by go_simp⟩) ?_
    try simp only [Act.put, List.getElem_toArray, List.getElem_cons_succ, List.getElem_cons_zero, List.setIfInBounds_toArray, List.set_cons_zero, List.set_cons_succ]
    refine takeW (i := 15) (v := .pointer (some ⟨X, 5, none⟩)) rfl (by kernel_rfl) (by kernel_rfl) (by kernel_rfl) rfl (fun _ _ _ h => h) (fun _ => HT0) (Or.inl ⟨by rfl, fun W _ => by go_simp⟩) ?_
    try simp only [Act.put, List.getElem_toArray, List.getElem_cons_succ, List.getElem_cons_zero, List.setIfInBounds_toArray, List.set_cons_zero, List.set_cons_succ]
    refine takeW (i := 16) (v := .pointer (some ⟨X, 11, none⟩)) rfl (by kernel_rfl) (by kernel_rfl) (by kernel_rfl) rfl (fun _ _ _ h => h) (fun _ => HT0) (Or.inl ⟨by rfl, fun W _ => by go_simp⟩) ?_
    try simp only [Act.put, List.getElem_toArray, List.getElem_cons_succ, List.getElem_cons_zero, List.setIfInBounds_toArray, List.set_cons_zero, List.set_cons_succ]
    have e0 := HT0.1
    have e1 := HS6.out.blk.frozen 11
    refine readyL (rs := [17]) (by kernel_rfl) (by simp) ?_
    refine AllL.cons rfl (fun K hK => ?_) AllL.nil
    try simp only [List.getElem_toArray, List.getElem_cons_succ, List.getElem_cons_zero]
    go_simp
    refine hK.out _ _ (vac (by kernel_rfl)) (fun _ => ?_)
    clear hK K
    try simp only [Act.put, List.getElem_toArray, List.getElem_cons_succ, List.getElem_cons_zero, List.setIfInBounds_toArray, List.set_cons_zero, List.set_cons_succ]
    have HS7 := hide (HS6.out.setX (p' := { p with a := { p.a with name := nmP p.a.name } }) 11 (.string ⟨(nmP p.a.name).toArray⟩) rfl ⟨_, _, _, _, rfl, rfl, rfl⟩)
    have hXD : ¬ Dn = X := hDX.out _ HS6.out.blk HD6.out
    have HD7 := hide (HD6.out.set_other ⟨X, 11, none⟩ (.string ⟨(nmP p.a.name).toArray⟩) (fun e => hXD e.symm))
    refine takeW (i := 18) (v := .pointer (some ⟨X, 0, none⟩)) rfl (by kernel_rfl) (by kernel_rfl) (by kernel_rfl) rfl (fun _ _ _ h => h) (vac (by kernel_rfl)) (Or.inl ⟨by rfl, fun W _ => by go_simp⟩) ?_
    try simp only [Act.put, List.getElem_toArray, List.getElem_cons_succ, List.getElem_cons_zero, List.setIfInBounds_toArray, List.set_cons_zero, List.set_cons_succ]
    refine takeW (i := 19) (v := .pointer (some ⟨X, 5, none⟩)) rfl (by kernel_rfl) (by kernel_rfl) (by kernel_rfl) rfl (fun _ _ _ h => h) (vac (by kernel_rfl)) (Or.inl ⟨by rfl, fun W _ => by go_simp⟩) ?_
    try simp only [Act.put, List.getElem_toArray, List.getElem_cons_succ, List.getElem_cons_zero, List.setIfInBounds_toArray, List.set_cons_zero, List.set_cons_succ]
    refine takeW (i := 20) (v := .pointer (some ⟨X, 12, none⟩)) rfl (by kernel_rfl) (by kernel_rfl) (by kernel_rfl) rfl (fun _ _ _ h => h) (vac (by kernel_rfl)) (Or.inl ⟨by rfl, fun W _ => by go_simp⟩) ?_
    try simp only [Act.put, List.getElem_toArray, List.getElem_cons_succ, List.getElem_cons_zero, List.setIfInBounds_toArray, List.set_cons_zero, List.set_cons_succ]
    clear HT0
    have e2 := HS7.out.blk.cell 12
    have e3 := HS7.out.blk.frozen 12
    refine readyL (rs := [21]) (by kernel_rfl) (by simp) ?_
    refine AllL.cons rfl (fun K hK => ?_) AllL.nil
    try simp only [List.getElem_toArray, List.getElem_cons_succ, List.getElem_cons_zero]
    go_simp
    refine hK.out _ _ (vac (by kernel_rfl)) (fun _ => ?_)
    clear hK K
    try simp only [Act.put, List.getElem_toArray, List.getElem_cons_succ, List.getElem_cons_zero, List.setIfInBounds_toArray, List.set_cons_zero, List.set_cons_succ]
    have HS8 := hide (HS7.out.setX (p' := nmd p) 12 (.string ⟨(nmP p.a.dst).toArray⟩) rfl ⟨_, _, _, _, rfl, rfl, rfl⟩)
    have HD8 := hide (HD7.out.set_other ⟨X, 12, none⟩ (.string ⟨(nmP p.a.dst).toArray⟩) (fun e => hXD e.symm))
    clear HS6 HD6 HS7 HD7 e0 e1 e2 e3
    refine doneL (by kernel_rfl) ?_ _
    generalize (w6.setCell ⟨X, 11, none⟩ (.string ⟨(nmP p.a.name).toArray⟩)).setCell ⟨X, 12, none⟩ (.string ⟨(nmP p.a.dst).toArray⟩) = W8 at *
    have q0 := HD8.out.cell 0
    have q1 := HD8.out.cell 1
    go_wp2_with (go_at_fn fa; refine (HA.out _ HS8.out).mono ?_; rintro e w9 ⟨rfl, h9⟩; replace h9 := hide h9)
    go_ret
    exact ⟨rfl, h9.out⟩
set_option maxRecDepth 20000 in
set_option maxHeartbeats 16000000 in
/-- It is done. -/
theorem pact_yes {w0 w : World} {X : Nat} {p : PA} {ea : Nat → Addr} {fa fd : Nat} (h : AS w0 w X p) (hE : Errs w0 ea) (hn : p.a.name.length ≤ 1000000) (hd : p.a.dst.length ≤ 1000000) (hk : dmL (.pointer (some ⟨X, 0, none⟩)) p.a.kind = .tuple #[.agg #[(.func (.func fa) #[.pointer (some ⟨X, 0, none⟩)] #[]), (.func (.func fd) #[.pointer (some ⟨X, 0, none⟩)] #[])], .bool true]) (ega : ∀ args w, (callFunc fa args).run Tryz.prog w = .ok (.enter fa args) w) (egd : ∀ args w, (callFunc fd args).run Tryz.prog w = .ok (.enter fd args) w) (Q : Value → World → Prop)
    (HA : ∀ W, AS w0 W X (nmd p) → Calls Tryz.prog fa #[.pointer (some ⟨X, 0, none⟩)] W fun e w' => e = .returned .nilIface ∧ Below W.heap.size W w')
    (HDo : ∀ W, AS w0 W X (nmd p) → Calls Tryz.prog fd #[.pointer (some ⟨X, 0, none⟩)] W fun e w' => ∃ v, e = .returned v ∧ Q v w') :
    Calls Tryz.prog 14 #[.pointer (some ⟨X, 0, none⟩)] w fun e w' => ∃ v, e = .returned v ∧ Q v w' := by
  replace HA := hide HA
  replace HDo := hide HDo
  have hXl : X < w.heap.size := h.blk.lt
  have HK5 : w.cell? ⟨X, 5, none⟩ = some (.int .i64 p.a.kind) := h.blk.cell 5
  have HBL : Below w.heap.size w w.drew := (Below.refl _ _).drew
  go_enter Tryz.func14, Tryz.ntmps14
  go_upto_region 1 with fail
  go_cut [3, 4] from 6 (fun v3 v4 wq => v4 = .bool true ∧ ∃ Dn, v3 = .pointer (some ⟨Dn, 0, none⟩) ∧ Hid (AS w0 wq X p) ∧ Hid (Blk wq Dn #[(.func (.func fa) #[.pointer (some ⟨X, 0, none⟩)] #[]), (.func (.func fd) #[.pointer (some ⟨X, 0, none⟩)] #[])] 75))
  case first =>
    refine regionL 12 (fun W => W.cell? ⟨X, 5, none⟩ = some (.int .i64 p.a.kind)) (by kernel_rfl) ?_
    have HT0 : w.drew.cell? ⟨X, 5, none⟩ = some (.int .i64 p.a.kind) := h.blk.cell 5
    refine takeW (i := 0) (v := .pointer (some ⟨X, 0, none⟩)) rfl (by kernel_rfl) (by kernel_rfl) (by kernel_rfl) rfl (fun _ _ _ h => h) (fun _ => HT0) (Or.inl ⟨by rfl, fun W _ => by go_simp⟩) ?_
    try simp only [Act.put, List.getElem_toArray, List.getElem_cons_succ, List.getElem_cons_zero, List.setIfInBounds_toArray, List.set_cons_zero, List.set_cons_succ]
    refine takeW (i := 2) (v := .pointer (some ⟨X, 0, none⟩)) rfl (by kernel_rfl) (by kernel_rfl) (by kernel_rfl) rfl (fun _ _ _ h => h) (fun _ => HT0) (Or.inl ⟨by rfl, fun W _ => by go_simp⟩) ?_
    try simp only [Act.put, List.getElem_toArray, List.getElem_cons_succ, List.getElem_cons_zero, List.setIfInBounds_toArray, List.set_cons_zero, List.set_cons_succ]
    refine takeW (i := 3) (v := .pointer (some ⟨X, 0, none⟩)) rfl (by kernel_rfl) (by kernel_rfl) (by kernel_rfl) rfl (fun _ _ _ h => h) (fun _ => HT0) (Or.inl ⟨by rfl, fun W _ => by go_simp⟩) ?_
    try simp only [Act.put, List.getElem_toArray, List.getElem_cons_succ, List.getElem_cons_zero, List.setIfInBounds_toArray, List.set_cons_zero, List.set_cons_succ]
    refine takeW (i := 4) (v := .pointer (some ⟨X, 5, none⟩)) rfl (by kernel_rfl) (by kernel_rfl) (by kernel_rfl) rfl (fun _ _ _ h => h) (fun _ => HT0) (Or.inl ⟨by rfl, fun W _ => by go_simp⟩) ?_
    try simp only [Act.put, List.getElem_toArray, List.getElem_cons_succ, List.getElem_cons_zero, List.setIfInBounds_toArray, List.set_cons_zero, List.set_cons_succ]
    refine takeW (i := 5) (v := .pointer (some ⟨X, 5, none⟩)) rfl (by kernel_rfl) (by kernel_rfl) (by kernel_rfl) rfl (fun _ _ _ h => h) (fun _ => HT0) (Or.inl ⟨by rfl, fun W _ => by go_simp⟩) ?_
    try simp only [Act.put, List.getElem_toArray, List.getElem_cons_succ, List.getElem_cons_zero, List.setIfInBounds_toArray, List.set_cons_zero, List.set_cons_succ]
    refine takeL (i := 6) (v := .int .i64 p.a.kind) rfl (by kernel_rfl) (by kernel_rfl) (by kernel_rfl) (by kernel_rfl) (by kernel_rfl) (fun _ _ _ h => h) HT0 (Or.inl ⟨by rfl, fun W hW => by have t0 := hW; go_simp⟩) ?_
    try simp only [Act.put, List.getElem_toArray, List.getElem_cons_succ, List.getElem_cons_zero, List.setIfInBounds_toArray, List.set_cons_zero, List.set_cons_succ]
    refine readyL (rs := [1, 11]) (by kernel_rfl) (by simp) ?_
    refine AllL.cons rfl (fun K hK => ?_) (AllL.cons rfl (fun K hK => ?_) AllL.nil)
    · skip
      try simp only [List.getElem_toArray, List.getElem_cons_succ, List.getElem_cons_zero]
      go_simp
      refine (pdeeds_any _ _).mono ?_
      rintro e w2 ⟨rfl, rfl⟩
      replace HBL := HBL.alloc HBL.size (.map (dmE (.pointer (some ⟨X, 0, none⟩))) 13)
      have HT1 : (w.drew.alloc (.map (dmE (.pointer (some ⟨X, 0, none⟩))) 13)).cell? ⟨X, 5, none⟩ = some (.int .i64 p.a.kind) := (HBL.cell (p := ⟨X, 5, none⟩) hXl).trans HK5
      refine hK.out _ _ (fun _ => HT1) (fun _ => ?_)
      clear hK K HT0
      have HT0 := HT1
      clear HT1
      try simp only [Act.put, List.getElem_toArray, List.getElem_cons_succ, List.getElem_cons_zero, List.setIfInBounds_toArray, List.set_cons_zero, List.set_cons_succ]
      refine readyL (rs := [7, 11]) (by kernel_rfl) (by simp) ?_
      refine AllL.cons rfl (fun K hK => ?_) (AllL.cons rfl (fun K hK => ?_) AllL.nil)
      · skip
        try simp only [List.getElem_toArray, List.getElem_cons_succ, List.getElem_cons_zero]
        have hlk := look_deed (x := .pointer (some ⟨X, 0, none⟩)) (W := ((w.alloc (.map (dmE (.pointer (some ⟨X, 0, none⟩))) 13)).drew)) (r := w.heap.size) p.a.kind (heap_alloc_new w _)
        rw [hk] at hlk
        go_simp
        refine hK.out _ _ (fun _ => HT0) (fun _ => ?_)
        clear hK K hlk
        try simp only [Act.put, List.getElem_toArray, List.getElem_cons_succ, List.getElem_cons_zero, List.setIfInBounds_toArray, List.set_cons_zero, List.set_cons_succ]
        refine takeW (i := 8) (v := .tuple #[.agg #[(.func (.func fa) #[.pointer (some ⟨X, 0, none⟩)] #[]), (.func (.func fd) #[.pointer (some ⟨X, 0, none⟩)] #[])], .bool true]) rfl (by kernel_rfl) (by kernel_rfl) (by kernel_rfl) rfl (fun _ _ _ h => h) (fun _ => HT0) (Or.inl ⟨by rfl, fun W _ => by go_simp⟩) ?_
        try simp only [Act.put, List.getElem_toArray, List.getElem_cons_succ, List.getElem_cons_zero, List.setIfInBounds_toArray, List.set_cons_zero, List.set_cons_succ]
        refine takeW (i := 9) (v := .agg #[(.func (.func fa) #[.pointer (some ⟨X, 0, none⟩)] #[]), (.func (.func fd) #[.pointer (some ⟨X, 0, none⟩)] #[])]) rfl (by kernel_rfl) (by kernel_rfl) (by kernel_rfl) rfl (fun _ _ _ h => h) (fun _ => HT0) (Or.inl ⟨by rfl, fun W _ => by go_simp⟩) ?_
        try simp only [Act.put, List.getElem_toArray, List.getElem_cons_succ, List.getElem_cons_zero, List.setIfInBounds_toArray, List.set_cons_zero, List.set_cons_succ]
        refine takeW (i := 10) (v := .bool true) rfl (by kernel_rfl) (by kernel_rfl) (by kernel_rfl) rfl (fun _ _ _ h => h) (fun _ => HT0) (Or.inl ⟨by rfl, fun W _ => by go_simp⟩) ?_
        try simp only [Act.put, List.getElem_toArray, List.getElem_cons_succ, List.getElem_cons_zero, List.setIfInBounds_toArray, List.set_cons_zero, List.set_cons_succ]
        refine readyL (rs := [11]) (by kernel_rfl) (by simp) ?_
        refine AllL.cons rfl (fun K hK => ?_) AllL.nil
        try simp only [List.getElem_toArray, List.getElem_cons_succ, List.getElem_cons_zero]
        go_simp
        replace HBL := HBL.alloc HBL.size (.cells #[.nilFunc, .nilFunc] 75)
        have HT1 : ((w.drew.alloc (.map (dmE (.pointer (some ⟨X, 0, none⟩))) 13)).alloc (.cells #[.nilFunc, .nilFunc] 75)).cell? ⟨X, 5, none⟩ = some (.int .i64 p.a.kind) := (HBL.cell (p := ⟨X, 5, none⟩) hXl).trans HK5
        refine hK.out _ _ (fun _ => HT1) (fun _ => ?_)
        clear hK K HT0
        have HT0 := HT1
        clear HT1
        try simp only [Act.put, List.getElem_toArray, List.getElem_cons_succ, List.getElem_cons_zero, List.setIfInBounds_toArray, List.set_cons_zero, List.set_cons_succ]
        have HDz : Blk ((((w.alloc (.map (dmE (.pointer (some ⟨X, 0, none⟩))) 13)).alloc (.cells #[.nilFunc, .nilFunc] 75)).drew)) (w.heap.size + 1) #[.nilFunc, .nilFunc] 75 := Blk.new1 w _ _ _
        have HBz : Below w.heap.size w ((((w.alloc (.map (dmE (.pointer (some ⟨X, 0, none⟩))) 13)).alloc (.cells #[.nilFunc, .nilFunc] 75)).drew)) := HBL
        change anyL _ _ _ _ _ _ _ _ _ ((((w.alloc (.map (dmE (.pointer (some ⟨X, 0, none⟩))) 13)).alloc (.cells #[.nilFunc, .nilFunc] 75)).drew))
        generalize ((((w.alloc (.map (dmE (.pointer (some ⟨X, 0, none⟩))) 13)).alloc (.cells #[.nilFunc, .nilFunc] 75)).drew)) = Wz at HDz HBz ⊢
        have d0 : Wz.cell? ⟨w.heap.size + 1, 0, none⟩ = some .nilFunc := HDz.cell 0
        have d1 : Wz.cell? ⟨w.heap.size + 1, 1, none⟩ = some .nilFunc := HDz.cell 1
        have y0 := HDz.frozen 0
        have y1 := HDz.frozen 1
        refine readyL (rs := [12]) (by kernel_rfl) (by simp) ?_
        refine AllL.cons rfl (fun K hK => ?_) AllL.nil
        try simp only [List.getElem_toArray, List.getElem_cons_succ, List.getElem_cons_zero]
        go_simp
        refine hK.out _ _ (vac (by kernel_rfl)) (fun _ => ?_)
        clear hK K HT0
        try simp only [Act.put, List.getElem_toArray, List.getElem_cons_succ, List.getElem_cons_zero, List.setIfInBounds_toArray, List.set_cons_zero, List.set_cons_succ]
        refine takeW (i := 13) (v := .bool true) rfl (by kernel_rfl) (by kernel_rfl) (by kernel_rfl) rfl (fun _ _ _ h => h) (vac (by kernel_rfl)) (Or.inl ⟨by rfl, fun W _ => by go_simp⟩) ?_
        try simp only [Act.put, List.getElem_toArray, List.getElem_cons_succ, List.getElem_cons_zero, List.setIfInBounds_toArray, List.set_cons_zero, List.set_cons_succ]
        refine doneL (by kernel_rfl) ?_ _
        have HDf : Blk ((Wz.setCell ⟨w.heap.size + 1, 0, none⟩ (.func (.func fa) #[.pointer (some ⟨X, 0, none⟩)] #[])).setCell ⟨w.heap.size + 1, 1, none⟩ (.func (.func fd) #[.pointer (some ⟨X, 0, none⟩)] #[])) (w.heap.size + 1) #[(.func (.func fa) #[.pointer (some ⟨X, 0, none⟩)] #[]), (.func (.func fd) #[.pointer (some ⟨X, 0, none⟩)] #[])] 75 := (HDz.set 0 (.func (.func fa) #[.pointer (some ⟨X, 0, none⟩)] #[])).set 1 (.func (.func fd) #[.pointer (some ⟨X, 0, none⟩)] #[])
        have HBf : Below w.heap.size w ((Wz.setCell ⟨w.heap.size + 1, 0, none⟩ (.func (.func fa) #[.pointer (some ⟨X, 0, none⟩)] #[])).setCell ⟨w.heap.size + 1, 1, none⟩ (.func (.func fd) #[.pointer (some ⟨X, 0, none⟩)] #[])) := (HBz.setCell (p := ⟨w.heap.size + 1, 0, none⟩) (by show w.heap.size ≤ w.heap.size + 1; omega) (.func (.func fa) #[.pointer (some ⟨X, 0, none⟩)] #[])).setCell (p := ⟨w.heap.size + 1, 1, none⟩) (by show w.heap.size ≤ w.heap.size + 1; omega) (.func (.func fd) #[.pointer (some ⟨X, 0, none⟩)] #[])
        go_wp2
        go_meet
        case rel => exact ⟨rfl, _, rfl, h.below HBf, HDf⟩
      · skip
        try simp only [List.getElem_toArray, List.getElem_cons_succ, List.getElem_cons_zero]
        go_simp
        replace HBL := HBL.alloc HBL.size (.cells #[.nilFunc, .nilFunc] 75)
        have HT1 : ((w.drew.alloc (.map (dmE (.pointer (some ⟨X, 0, none⟩))) 13)).alloc (.cells #[.nilFunc, .nilFunc] 75)).cell? ⟨X, 5, none⟩ = some (.int .i64 p.a.kind) := (HBL.cell (p := ⟨X, 5, none⟩) hXl).trans HK5
        refine hK.out _ _ (fun _ => HT1) (fun _ => ?_)
        clear hK K HT0
        have HT0 := HT1
        clear HT1
        try simp only [Act.put, List.getElem_toArray, List.getElem_cons_succ, List.getElem_cons_zero, List.setIfInBounds_toArray, List.set_cons_zero, List.set_cons_succ]
        refine readyL (rs := [7]) (by kernel_rfl) (by simp) ?_
        refine AllL.cons rfl (fun K hK => ?_) AllL.nil
        try simp only [List.getElem_toArray, List.getElem_cons_succ, List.getElem_cons_zero]
        have hlk := look_deed (x := .pointer (some ⟨X, 0, none⟩)) (W := (((w.alloc (.map (dmE (.pointer (some ⟨X, 0, none⟩))) 13)).alloc (.cells #[.nilFunc, .nilFunc] 75)).drew)) (r := w.heap.size) p.a.kind ((Below.heap_alloc (w.alloc (.map (dmE (.pointer (some ⟨X, 0, none⟩))) 13)) _ _ (by simp)).trans (heap_alloc_new w _))
        rw [hk] at hlk
        go_simp
        refine hK.out _ _ (fun _ => HT0) (fun _ => ?_)
        clear hK K hlk
        try simp only [Act.put, List.getElem_toArray, List.getElem_cons_succ, List.getElem_cons_zero, List.setIfInBounds_toArray, List.set_cons_zero, List.set_cons_succ]
        refine takeW (i := 8) (v := .tuple #[.agg #[(.func (.func fa) #[.pointer (some ⟨X, 0, none⟩)] #[]), (.func (.func fd) #[.pointer (some ⟨X, 0, none⟩)] #[])], .bool true]) rfl (by kernel_rfl) (by kernel_rfl) (by kernel_rfl) rfl (fun _ _ _ h => h) (fun _ => HT0) (Or.inl ⟨by rfl, fun W _ => by go_simp⟩) ?_
        try simp only [Act.put, List.getElem_toArray, List.getElem_cons_succ, List.getElem_cons_zero, List.setIfInBounds_toArray, List.set_cons_zero, List.set_cons_succ]
        refine takeW (i := 9) (v := .agg #[(.func (.func fa) #[.pointer (some ⟨X, 0, none⟩)] #[]), (.func (.func fd) #[.pointer (some ⟨X, 0, none⟩)] #[])]) rfl (by kernel_rfl) (by kernel_rfl) (by kernel_rfl) rfl (fun _ _ _ h => h) (fun _ => HT0) (Or.inl ⟨by rfl, fun W _ => by go_simp⟩) ?_
        try simp only [Act.put, List.getElem_toArray, List.getElem_cons_succ, List.getElem_cons_zero, List.setIfInBounds_toArray, List.set_cons_zero, List.set_cons_succ]
        refine takeW (i := 10) (v := .bool true) rfl (by kernel_rfl) (by kernel_rfl) (by kernel_rfl) rfl (fun _ _ _ h => h) (fun _ => HT0) (Or.inl ⟨by rfl, fun W _ => by go_simp⟩) ?_
        try simp only [Act.put, List.getElem_toArray, List.getElem_cons_succ, List.getElem_cons_zero, List.setIfInBounds_toArray, List.set_cons_zero, List.set_cons_succ]
        have HDz : Blk ((((w.alloc (.map (dmE (.pointer (some ⟨X, 0, none⟩))) 13)).alloc (.cells #[.nilFunc, .nilFunc] 75)).drew)) (w.heap.size + 1) #[.nilFunc, .nilFunc] 75 := Blk.new1 w _ _ _
        have HBz : Below w.heap.size w ((((w.alloc (.map (dmE (.pointer (some ⟨X, 0, none⟩))) 13)).alloc (.cells #[.nilFunc, .nilFunc] 75)).drew)) := HBL
        change anyL _ _ _ _ _ _ _ _ _ ((((w.alloc (.map (dmE (.pointer (some ⟨X, 0, none⟩))) 13)).alloc (.cells #[.nilFunc, .nilFunc] 75)).drew))
        generalize ((((w.alloc (.map (dmE (.pointer (some ⟨X, 0, none⟩))) 13)).alloc (.cells #[.nilFunc, .nilFunc] 75)).drew)) = Wz at HDz HBz ⊢
        have d0 : Wz.cell? ⟨w.heap.size + 1, 0, none⟩ = some .nilFunc := HDz.cell 0
        have d1 : Wz.cell? ⟨w.heap.size + 1, 1, none⟩ = some .nilFunc := HDz.cell 1
        have y0 := HDz.frozen 0
        have y1 := HDz.frozen 1
        refine readyL (rs := [12]) (by kernel_rfl) (by simp) ?_
        refine AllL.cons rfl (fun K hK => ?_) AllL.nil
        try simp only [List.getElem_toArray, List.getElem_cons_succ, List.getElem_cons_zero]
        go_simp
        refine hK.out _ _ (vac (by kernel_rfl)) (fun _ => ?_)
        clear hK K HT0
        try simp only [Act.put, List.getElem_toArray, List.getElem_cons_succ, List.getElem_cons_zero, List.setIfInBounds_toArray, List.set_cons_zero, List.set_cons_succ]
        refine takeW (i := 13) (v := .bool true) rfl (by kernel_rfl) (by kernel_rfl) (by kernel_rfl) rfl (fun _ _ _ h => h) (vac (by kernel_rfl)) (Or.inl ⟨by rfl, fun W _ => by go_simp⟩) ?_
        try simp only [Act.put, List.getElem_toArray, List.getElem_cons_succ, List.getElem_cons_zero, List.setIfInBounds_toArray, List.set_cons_zero, List.set_cons_succ]
        refine doneL (by kernel_rfl) ?_ _
        have HDf : Blk ((Wz.setCell ⟨w.heap.size + 1, 0, none⟩ (.func (.func fa) #[.pointer (some ⟨X, 0, none⟩)] #[])).setCell ⟨w.heap.size + 1, 1, none⟩ (.func (.func fd) #[.pointer (some ⟨X, 0, none⟩)] #[])) (w.heap.size + 1) #[(.func (.func fa) #[.pointer (some ⟨X, 0, none⟩)] #[]), (.func (.func fd) #[.pointer (some ⟨X, 0, none⟩)] #[])] 75 := (HDz.set 0 (.func (.func fa) #[.pointer (some ⟨X, 0, none⟩)] #[])).set 1 (.func (.func fd) #[.pointer (some ⟨X, 0, none⟩)] #[])
        have HBf : Below w.heap.size w ((Wz.setCell ⟨w.heap.size + 1, 0, none⟩ (.func (.func fa) #[.pointer (some ⟨X, 0, none⟩)] #[])).setCell ⟨w.heap.size + 1, 1, none⟩ (.func (.func fd) #[.pointer (some ⟨X, 0, none⟩)] #[])) := (HBz.setCell (p := ⟨w.heap.size + 1, 0, none⟩) (by show w.heap.size ≤ w.heap.size + 1; omega) (.func (.func fa) #[.pointer (some ⟨X, 0, none⟩)] #[])).setCell (p := ⟨w.heap.size + 1, 1, none⟩) (by show w.heap.size ≤ w.heap.size + 1; omega) (.func (.func fd) #[.pointer (some ⟨X, 0, none⟩)] #[])
        go_wp2
        go_meet
        case rel => exact ⟨rfl, _, rfl, h.below HBf, HDf⟩
    · skip
      try simp only [List.getElem_toArray, List.getElem_cons_succ, List.getElem_cons_zero]
      go_simp
      replace HBL := HBL.alloc HBL.size (.cells #[.nilFunc, .nilFunc] 75)
      have HT1 : (w.drew.alloc (.cells #[.nilFunc, .nilFunc] 75)).cell? ⟨X, 5, none⟩ = some (.int .i64 p.a.kind) := (HBL.cell (p := ⟨X, 5, none⟩) hXl).trans HK5
      refine hK.out _ _ (fun _ => HT1) (fun _ => ?_)
      clear hK K HT0
      have HT0 := HT1
      clear HT1
      try simp only [Act.put, List.getElem_toArray, List.getElem_cons_succ, List.getElem_cons_zero, List.setIfInBounds_toArray, List.set_cons_zero, List.set_cons_succ]
      refine readyL (rs := [1]) (by kernel_rfl) (by simp) ?_
      refine AllL.cons rfl (fun K hK => ?_) AllL.nil
      try simp only [List.getElem_toArray, List.getElem_cons_succ, List.getElem_cons_zero]
      go_simp
      refine (pdeeds_any _ _).mono ?_
      rintro e w2 ⟨rfl, rfl⟩
      replace HBL := HBL.alloc HBL.size (.map (dmE (.pointer (some ⟨X, 0, none⟩))) 13)
      have HT1 : ((w.drew.alloc (.cells #[.nilFunc, .nilFunc] 75)).alloc (.map (dmE (.pointer (some ⟨X, 0, none⟩))) 13)).cell? ⟨X, 5, none⟩ = some (.int .i64 p.a.kind) := (HBL.cell (p := ⟨X, 5, none⟩) hXl).trans HK5
      refine hK.out _ _ (fun _ => HT1) (fun _ => ?_)
      clear hK K HT0
      have HT0 := HT1
      clear HT1
      try simp only [Act.put, List.getElem_toArray, List.getElem_cons_succ, List.getElem_cons_zero, List.setIfInBounds_toArray, List.set_cons_zero, List.set_cons_succ]
      refine readyL (rs := [7]) (by kernel_rfl) (by simp) ?_
      refine AllL.cons rfl (fun K hK => ?_) AllL.nil
      try simp only [List.getElem_toArray, List.getElem_cons_succ, List.getElem_cons_zero]
      have hlk := look_deed (x := .pointer (some ⟨X, 0, none⟩)) (W := (((w.alloc (.cells #[.nilFunc, .nilFunc] 75)).alloc (.map (dmE (.pointer (some ⟨X, 0, none⟩))) 13)).drew)) (r := w.heap.size + 1) p.a.kind (heap_alloc2_new w _ _)
      rw [hk] at hlk
      go_simp
      refine hK.out _ _ (fun _ => HT0) (fun _ => ?_)
      clear hK K hlk
      try simp only [Act.put, List.getElem_toArray, List.getElem_cons_succ, List.getElem_cons_zero, List.setIfInBounds_toArray, List.set_cons_zero, List.set_cons_succ]
      refine takeW (i := 8) (v := .tuple #[.agg #[(.func (.func fa) #[.pointer (some ⟨X, 0, none⟩)] #[]), (.func (.func fd) #[.pointer (some ⟨X, 0, none⟩)] #[])], .bool true]) rfl (by kernel_rfl) (by kernel_rfl) (by kernel_rfl) rfl (fun _ _ _ h => h) (fun _ => HT0) (Or.inl ⟨by rfl, fun W _ => by go_simp⟩) ?_
      try simp only [Act.put, List.getElem_toArray, List.getElem_cons_succ, List.getElem_cons_zero, List.setIfInBounds_toArray, List.set_cons_zero, List.set_cons_succ]
      refine takeW (i := 9) (v := .agg #[(.func (.func fa) #[.pointer (some ⟨X, 0, none⟩)] #[]), (.func (.func fd) #[.pointer (some ⟨X, 0, none⟩)] #[])]) rfl (by kernel_rfl) (by kernel_rfl) (by kernel_rfl) rfl (fun _ _ _ h => h) (fun _ => HT0) (Or.inl ⟨by rfl, fun W _ => by go_simp⟩) ?_
      try simp only [Act.put, List.getElem_toArray, List.getElem_cons_succ, List.getElem_cons_zero, List.setIfInBounds_toArray, List.set_cons_zero, List.set_cons_succ]
      refine takeW (i := 10) (v := .bool true) rfl (by kernel_rfl) (by kernel_rfl) (by kernel_rfl) rfl (fun _ _ _ h => h) (fun _ => HT0) (Or.inl ⟨by rfl, fun W _ => by go_simp⟩) ?_
      try simp only [Act.put, List.getElem_toArray, List.getElem_cons_succ, List.getElem_cons_zero, List.setIfInBounds_toArray, List.set_cons_zero, List.set_cons_succ]
      have HDz : Blk ((((w.alloc (.cells #[.nilFunc, .nilFunc] 75)).alloc (.map (dmE (.pointer (some ⟨X, 0, none⟩))) 13)).drew)) (w.heap.size) #[.nilFunc, .nilFunc] 75 := (Blk.new w _ _).alloc _
      have HBz : Below w.heap.size w ((((w.alloc (.cells #[.nilFunc, .nilFunc] 75)).alloc (.map (dmE (.pointer (some ⟨X, 0, none⟩))) 13)).drew)) := HBL
      change anyL _ _ _ _ _ _ _ _ _ ((((w.alloc (.cells #[.nilFunc, .nilFunc] 75)).alloc (.map (dmE (.pointer (some ⟨X, 0, none⟩))) 13)).drew))
      generalize ((((w.alloc (.cells #[.nilFunc, .nilFunc] 75)).alloc (.map (dmE (.pointer (some ⟨X, 0, none⟩))) 13)).drew)) = Wz at HDz HBz ⊢
      have d0 : Wz.cell? ⟨w.heap.size, 0, none⟩ = some .nilFunc := HDz.cell 0
      have d1 : Wz.cell? ⟨w.heap.size, 1, none⟩ = some .nilFunc := HDz.cell 1
      have y0 := HDz.frozen 0
      have y1 := HDz.frozen 1
      refine readyL (rs := [12]) (by kernel_rfl) (by simp) ?_
      refine AllL.cons rfl (fun K hK => ?_) AllL.nil
      try simp only [List.getElem_toArray, List.getElem_cons_succ, List.getElem_cons_zero]
      go_simp
      refine hK.out _ _ (vac (by kernel_rfl)) (fun _ => ?_)
      clear hK K HT0
      try simp only [Act.put, List.getElem_toArray, List.getElem_cons_succ, List.getElem_cons_zero, List.setIfInBounds_toArray, List.set_cons_zero, List.set_cons_succ]
      refine takeW (i := 13) (v := .bool true) rfl (by kernel_rfl) (by kernel_rfl) (by kernel_rfl) rfl (fun _ _ _ h => h) (vac (by kernel_rfl)) (Or.inl ⟨by rfl, fun W _ => by go_simp⟩) ?_
      try simp only [Act.put, List.getElem_toArray, List.getElem_cons_succ, List.getElem_cons_zero, List.setIfInBounds_toArray, List.set_cons_zero, List.set_cons_succ]
      refine doneL (by kernel_rfl) ?_ _
      have HDf : Blk ((Wz.setCell ⟨w.heap.size, 0, none⟩ (.func (.func fa) #[.pointer (some ⟨X, 0, none⟩)] #[])).setCell ⟨w.heap.size, 1, none⟩ (.func (.func fd) #[.pointer (some ⟨X, 0, none⟩)] #[])) (w.heap.size) #[(.func (.func fa) #[.pointer (some ⟨X, 0, none⟩)] #[]), (.func (.func fd) #[.pointer (some ⟨X, 0, none⟩)] #[])] 75 := (HDz.set 0 (.func (.func fa) #[.pointer (some ⟨X, 0, none⟩)] #[])).set 1 (.func (.func fd) #[.pointer (some ⟨X, 0, none⟩)] #[])
      have HBf : Below w.heap.size w ((Wz.setCell ⟨w.heap.size, 0, none⟩ (.func (.func fa) #[.pointer (some ⟨X, 0, none⟩)] #[])).setCell ⟨w.heap.size, 1, none⟩ (.func (.func fd) #[.pointer (some ⟨X, 0, none⟩)] #[])) := (HBz.setCell (p := ⟨w.heap.size, 0, none⟩) (by show w.heap.size ≤ w.heap.size; omega) (.func (.func fa) #[.pointer (some ⟨X, 0, none⟩)] #[])).setCell (p := ⟨w.heap.size, 1, none⟩) (by show w.heap.size ≤ w.heap.size; omega) (.func (.func fd) #[.pointer (some ⟨X, 0, none⟩)] #[])
      go_wp2
      go_meet
      case rel => exact ⟨rfl, _, rfl, h.below HBf, HDf⟩
  case rest =>
    obtain ⟨rfl, Dn, rfl, HS, HD⟩ := hcut
    have HE : Hid (∀ W, Below w0.heap.size w0 W → EN W (ea 3)) := fun W hW => (hE.below hW).name
    have hDX : Hid (∀ W : World, Blk W X p.cells 59 → Blk W Dn #[(.func (.func fa) #[.pointer (some ⟨X, 0, none⟩)] #[]), (.func (.func fd) #[.pointer (some ⟨X, 0, none⟩)] #[])] 75 → ¬ Dn = X) := fun W h1 h2 e => by
      subst e
      unfold Blk at h1 h2
      rw [h1] at h2
      injection h2 with h2
      injection h2 with h2
      have := congrArg Array.size h2
      simp [PA.cells] at this
    go_upto_region 4 with fail
    refine regionL 17 (fun W => W.cell? ⟨X, 11, none⟩ = some (.string ⟨p.a.name.toArray⟩) ∧ W.cell? ⟨X, 12, none⟩ = some (.string ⟨p.a.dst.toArray⟩)) (by kernel_rfl) ?_
    have HT0 : wc.drew.cell? ⟨X, 11, none⟩ = some (.string ⟨p.a.name.toArray⟩) ∧ wc.drew.cell? ⟨X, 12, none⟩ = some (.string ⟨p.a.dst.toArray⟩) := ⟨HS.out.blk.cell 11, HS.out.blk.cell 12⟩
    refine takeW (i := 0) (v := .pointer (some ⟨X, 0, none⟩)) rfl (by kernel_rfl) (by kernel_rfl) (by kernel_rfl) rfl (fun _ _ _ h => h) (fun _ => HT0) (Or.inl ⟨by rfl, fun W _ => by go_simp⟩) ?_
    try simp only [Act.put, List.getElem_toArray, List.getElem_cons_succ, List.getElem_cons_zero, List.setIfInBounds_toArray, List.set_cons_zero, List.set_cons_succ]
    refine takeW (i := 1) (v := .pointer (some ⟨X, 0, none⟩)) rfl (by kernel_rfl) (by kernel_rfl) (by kernel_rfl) rfl (fun _ _ _ h => h) (fun _ => HT0) (Or.inl ⟨by rfl, fun W _ => by go_simp⟩) ?_
    try simp only [Act.put, List.getElem_toArray, List.getElem_cons_succ, List.getElem_cons_zero, List.setIfInBounds_toArray, List.set_cons_zero, List.set_cons_succ]
    refine takeW (i := 2) (v := .pointer (some ⟨X, 0, none⟩)) rfl (by kernel_rfl) (by kernel_rfl) (by kernel_rfl) rfl (fun _ _ _ h => h) (fun _ => HT0) (Or.inl ⟨by rfl, fun W _ => by go_simp⟩) ?_
    try simp only [Act.put, List.getElem_toArray, List.getElem_cons_succ, List.getElem_cons_zero, List.setIfInBounds_toArray, List.set_cons_zero, List.set_cons_succ]
    refine takeW (i := 3) (v := .pointer (some ⟨X, 0, none⟩)) rfl (by kernel_rfl) (by kernel_rfl) (by kernel_rfl) rfl (fun _ _ _ h => h) (fun _ => HT0) (Or.inl ⟨by rfl, fun W _ => by go_simp⟩) ?_
    try simp only [Act.put, List.getElem_toArray, List.getElem_cons_succ, List.getElem_cons_zero, List.setIfInBounds_toArray, List.set_cons_zero, List.set_cons_succ]
    refine takeW (i := 4) (v := .pointer (some ⟨X, 5, none⟩)) rfl (by kernel_rfl) (by kernel_rfl) (by kernel_rfl) rfl (fun _ _ _ h => h) (fun _ => HT0) (Or.inl ⟨by rfl, fun W _ => by go_simp⟩) ?_
    try simp only [Act.put, List.getElem_toArray, List.getElem_cons_succ, List.getElem_cons_zero, List.setIfInBounds_toArray, List.set_cons_zero, List.set_cons_succ]
    refine takeW (i := 5) (v := .pointer (some ⟨X, 11, none⟩)) rfl (by kernel_rfl) (by kernel_rfl) (by kernel_rfl) rfl (fun _ _ _ h => h) (fun _ => HT0) (Or.inl ⟨by rfl, fun W _ => by go_simp⟩) ?_
    try simp only [Act.put, List.getElem_toArray, List.getElem_cons_succ, List.getElem_cons_zero, List.setIfInBounds_toArray, List.set_cons_zero, List.set_cons_succ]
    refine takeL (i := 6) (v := .string ⟨p.a.name.toArray⟩) rfl (by kernel_rfl) (by kernel_rfl) (by kernel_rfl) (by kernel_rfl) (by kernel_rfl) (fun _ _ _ h => h) HT0 (Or.inl ⟨by rfl, fun W hW => by obtain ⟨t0, t1⟩ := hW; go_simp⟩) ?_
    try simp only [Act.put, List.getElem_toArray, List.getElem_cons_succ, List.getElem_cons_zero, List.setIfInBounds_toArray, List.set_cons_zero, List.set_cons_succ]
    refine takeW (i := 8) (v := .pointer (some ⟨X, 0, none⟩)) rfl (by kernel_rfl) (by kernel_rfl) (by kernel_rfl) rfl (fun _ _ _ h => h) (fun _ => HT0) (Or.inl ⟨by rfl, fun W _ => by go_simp⟩) ?_
    try simp only [Act.put, List.getElem_toArray, List.getElem_cons_succ, List.getElem_cons_zero, List.setIfInBounds_toArray, List.set_cons_zero, List.set_cons_succ]
    refine takeW (i := 9) (v := .pointer (some ⟨X, 0, none⟩)) rfl (by kernel_rfl) (by kernel_rfl) (by kernel_rfl) rfl (fun _ _ _ h => h) (fun _ => HT0) (Or.inl ⟨by rfl, fun W _ => by go_simp⟩) ?_
    try simp only [Act.put, List.getElem_toArray, List.getElem_cons_succ, List.getElem_cons_zero, List.setIfInBounds_toArray, List.set_cons_zero, List.set_cons_succ]
    refine takeW (i := 10) (v := .pointer (some ⟨X, 5, none⟩)) rfl (by kernel_rfl) (by kernel_rfl) (by kernel_rfl) rfl (fun _ _ _ h => h) (fun _ => HT0) (Or.inl ⟨by rfl, fun W _ => by go_simp⟩) ?_
    try simp only [Act.put, List.getElem_toArray, List.getElem_cons_succ, List.getElem_cons_zero, List.setIfInBounds_toArray, List.set_cons_zero, List.set_cons_succ]
    refine takeW (i := 11) (v := .pointer (some ⟨X, 12, none⟩)) rfl (by kernel_rfl) (by kernel_rfl) (by kernel_rfl) rfl (fun _ _ _ h => h) (fun _ => HT0) (Or.inl ⟨by rfl, fun W _ => by go_simp⟩) ?_
    try simp only [Act.put, List.getElem_toArray, List.getElem_cons_succ, List.getElem_cons_zero, List.setIfInBounds_toArray, List.set_cons_zero, List.set_cons_succ]
    refine takeL (i := 12) (v := .string ⟨p.a.dst.toArray⟩) rfl (by kernel_rfl) (by kernel_rfl) (by kernel_rfl) (by kernel_rfl) (by kernel_rfl) (fun _ _ _ h => h) HT0 (Or.inl ⟨by rfl, fun W hW => by obtain ⟨t0, t1⟩ := hW; go_simp⟩) ?_
    try simp only [Act.put, List.getElem_toArray, List.getElem_cons_succ, List.getElem_cons_zero, List.setIfInBounds_toArray, List.set_cons_zero, List.set_cons_succ]
    refine readyL (rs := [7]) (by kernel_rfl) (by simp) ?_
    refine AllL.cons rfl (fun K hK => ?_) AllL.nil
    try simp only [List.getElem_toArray, List.getElem_cons_succ, List.getElem_cons_zero]
    go_simp
    refine (pnameOf_any p.a.name wc.drew (ea 3) (HE.out _ HS.out.bel.drew) hn).mono ?_
    rintro e w5 ⟨rfl, hb5⟩
    have HS5 := hide (HS.out.below (w' := w5) ⟨hb5.os, hb5.tape, hb5.output, hb5.size, hb5.block⟩)
    have HD5 := hide (HD.out.below (w' := w5) ⟨hb5.os, hb5.tape, hb5.output, hb5.size, hb5.block⟩ HD.out.lt)
    have HT1 : w5.cell? ⟨X, 11, none⟩ = some (.string ⟨p.a.name.toArray⟩) ∧ w5.cell? ⟨X, 12, none⟩ = some (.string ⟨p.a.dst.toArray⟩) := ⟨HS5.out.blk.cell 11, HS5.out.blk.cell 12⟩
    refine hK.out _ _ (fun _ => HT1) (fun _ => ?_)
    clear hK K HT0 hb5
    have HT0 := HT1
    clear HT1
    try simp only [Act.put, List.getElem_toArray, List.getElem_cons_succ, List.getElem_cons_zero, List.setIfInBounds_toArray, List.set_cons_zero, List.set_cons_succ]
    refine readyL (rs := [13]) (by kernel_rfl) (by simp) ?_
    refine AllL.cons rfl (fun K hK => ?_) AllL.nil
    try simp only [List.getElem_toArray, List.getElem_cons_succ, List.getElem_cons_zero]
    go_simp
    refine (pnameOf_any p.a.dst w5 (ea 3) (HE.out _ HS5.out.bel) hd).mono ?_
    rintro e w6 ⟨rfl, hb6⟩
    have HS6 := hide (HS5.out.below hb6)
    have HD6 := hide (HD5.out.below hb6 HD5.out.lt)
    have HT1 : w6.cell? ⟨X, 11, none⟩ = some (.string ⟨p.a.name.toArray⟩) ∧ w6.cell? ⟨X, 12, none⟩ = some (.string ⟨p.a.dst.toArray⟩) := ⟨HS6.out.blk.cell 11, HS6.out.blk.cell 12⟩
    refine hK.out _ _ (fun _ => HT1) (fun _ => ?_)
    clear hK K HT0 hb6 HS5 HD5
    have HT0 := HT1
    clear HT1
    try simp only [Act.put, List.getElem_toArray, List.getElem_cons_succ, List.getElem_cons_zero, List.setIfInBounds_toArray, List.set_cons_zero, List.set_cons_succ]
    refine takeW (i := 14) (v := .pointer (some ⟨X, 0, none⟩)) rfl (by kernel_rfl) (by kernel_rfl) (by kernel_rfl) rfl (fun _ _ _ h => h) (fun _ => HT0) (Or.inl ⟨by rfl, fun W _ => by go_simp⟩) ?_
    try simp only [Act.put, List.getElem_toArray, List.getElem_cons_succ, List.getElem_cons_zero, List.setIfInBounds_toArray, List.set_cons_zero, List.set_cons_succ]
    refine takeW (i := 15) (v := .pointer (some ⟨X, 5, none⟩)) rfl (by kernel_rfl) (by kernel_rfl) (by kernel_rfl) rfl (fun _ _ _ h => h) (fun _ => HT0) (Or.inl ⟨by rfl, fun W _ => by go_simp⟩) ?_
    try simp only [Act.put, List.getElem_toArray, List.getElem_cons_succ, List.getElem_cons_zero, List.setIfInBounds_toArray, List.set_cons_zero, List.set_cons_succ]
    refine takeW (i := 16) (v := .pointer (some ⟨X, 11, none⟩)) rfl (by kernel_rfl) (by kernel_rfl) (by kernel_rfl) rfl (fun _ _ _ h => h) (fun _ => HT0) (Or.inl ⟨by rfl, fun W _ => by go_simp⟩) ?_
    try simp only [Act.put, List.getElem_toArray, List.getElem_cons_succ, List.getElem_cons_zero, List.setIfInBounds_toArray, List.set_cons_zero, List.set_cons_succ]
    have e0 := HT0.1
    have e1 := HS6.out.blk.frozen 11
    refine readyL (rs := [17]) (by kernel_rfl) (by simp) ?_
    refine AllL.cons rfl (fun K hK => ?_) AllL.nil
    try simp only [List.getElem_toArray, List.getElem_cons_succ, List.getElem_cons_zero]
    go_simp
    refine hK.out _ _ (vac (by kernel_rfl)) (fun _ => ?_)
    clear hK K
    try simp only [Act.put, List.getElem_toArray, List.getElem_cons_succ, List.getElem_cons_zero, List.setIfInBounds_toArray, List.set_cons_zero, List.set_cons_succ]
    have HS7 := hide (HS6.out.setX (p' := { p with a := { p.a with name := nmP p.a.name } }) 11 (.string ⟨(nmP p.a.name).toArray⟩) rfl ⟨_, _, _, _, rfl, rfl, rfl⟩)
    have hXD : ¬ Dn = X := hDX.out _ HS6.out.blk HD6.out
    have HD7 := hide (HD6.out.set_other ⟨X, 11, none⟩ (.string ⟨(nmP p.a.name).toArray⟩) (fun e => hXD e.symm))
    refine takeW (i := 18) (v := .pointer (some ⟨X, 0, none⟩)) rfl (by kernel_rfl) (by kernel_rfl) (by kernel_rfl) rfl (fun _ _ _ h => h) (vac (by kernel_rfl)) (Or.inl ⟨by rfl, fun W _ => by go_simp⟩) ?_
    try simp only [Act.put, List.getElem_toArray, List.getElem_cons_succ, List.getElem_cons_zero, List.setIfInBounds_toArray, List.set_cons_zero, List.set_cons_succ]
    refine takeW (i := 19) (v := .pointer (some ⟨X, 5, none⟩)) rfl (by kernel_rfl) (by kernel_rfl) (by kernel_rfl) rfl (fun _ _ _ h => h) (vac (by kernel_rfl)) (Or.inl ⟨by rfl, fun W _ => by go_simp⟩) ?_
    try simp only [Act.put, List.getElem_toArray, List.getElem_cons_succ, List.getElem_cons_zero, List.setIfInBounds_toArray, List.set_cons_zero, List.set_cons_succ]
    refine takeW (i := 20) (v := .pointer (some ⟨X, 12, none⟩)) rfl (by kernel_rfl) (by kernel_rfl) (by kernel_rfl) rfl (fun _ _ _ h => h) (vac (by kernel_rfl)) (Or.inl ⟨by rfl, fun W _ => by go_simp⟩) ?_
    try simp only [Act.put, List.getElem_toArray, List.getElem_cons_succ, List.getElem_cons_zero, List.setIfInBounds_toArray, List.set_cons_zero, List.set_cons_succ]
    clear HT0
    have e2 := HS7.out.blk.cell 12
    have e3 := HS7.out.blk.frozen 12
    refine readyL (rs := [21]) (by kernel_rfl) (by simp) ?_
    refine AllL.cons rfl (fun K hK => ?_) AllL.nil
    try simp only [List.getElem_toArray, List.getElem_cons_succ, List.getElem_cons_zero]
    go_simp
    refine hK.out _ _ (vac (by kernel_rfl)) (fun _ => ?_)
    clear hK K
    try simp only [Act.put, List.getElem_toArray, List.getElem_cons_succ, List.getElem_cons_zero, List.setIfInBounds_toArray, List.set_cons_zero, List.set_cons_succ]
    have HS8 := hide (HS7.out.setX (p' := nmd p) 12 (.string ⟨(nmP p.a.dst).toArray⟩) rfl ⟨_, _, _, _, rfl, rfl, rfl⟩)
    have HD8 := hide (HD7.out.set_other ⟨X, 12, none⟩ (.string ⟨(nmP p.a.dst).toArray⟩) (fun e => hXD e.symm))
    clear HS6 HD6 HS7 HD7 e0 e1 e2 e3
    refine doneL (by kernel_rfl) ?_ _
    generalize (w6.setCell ⟨X, 11, none⟩ (.string ⟨(nmP p.a.name).toArray⟩)).setCell ⟨X, 12, none⟩ (.string ⟨(nmP p.a.dst).toArray⟩) = W8 at *
    have q0 := HD8.out.cell 0
    go_wp2_with (first
      | (go_at_fn fa; refine (HA.out _ HS8.out).mono ?_; rintro e w9 ⟨rfl, hb9⟩; have q1 := (HD8.out.below hb9 HD8.out.lt).cell 1; have h9 := hide (HS8.out.below hb9); clear hb9)
      | (go_at_fn fd; refine (HDo.out _ h9.out).mono ?_; rintro e w10 ⟨v, rfl, hq⟩; replace hq := hide hq))
    go_ret
    exact ⟨_, rfl, hq.out⟩
end Go.Proofs.YtdbmaobjikjifaaGreatDoorR
