/- Package post: the table of deeds. -/
import Derived.Test.YtdbmaobjikjifaaGreatDoorRU29
import Derived.MapKept
set_option linter.unusedVariables false
set_option linter.unusedSimpArgs false
namespace Go.Proofs.YtdbmaobjikjifaaGreatDoorR
open Go.RowKit
theorem alloc_put (w : World) (o o' : Obj) : { w.alloc o with heap := (w.alloc o).heap.setIfInBounds w.heap.size o' } = w.alloc o' := by
  have h : (w.heap.push o).setIfInBounds w.heap.size o' = w.heap.push o' := by
    apply Array.ext_getElem?
    intro i
    rw [Array.getElem?_setIfInBounds, Array.getElem?_push, Array.getElem?_push, Array.size_push]
    by_cases hi : w.heap.size = i
    · subst hi
      simp
    · rw [if_neg hi, if_neg (Ne.symm hi)]
      rw [if_neg (Ne.symm hi)]
  show ({ (w.alloc o) with heap := (w.heap.push o).setIfInBounds w.heap.size o' } : World) = _
  rw [h]
  rfl
theorem upd_new {w : World} {es : Array MapEntry} {c : Nat} {k : Int} {v : Value} (hf : Instr.findNow (.int .i64) (.int .i64 k) es.toList 0 = some none) :
    (Instr.mapUpdate 77 (.map (some w.heap.size)) (.int .i64 k) v).run Tryz.prog (w.alloc (.map es c)) = .ok () (w.alloc (.map (es.push ⟨.int .i64 k, v, c⟩) (c + 1))) := by
  have hb : (w.alloc (.map es c)).heap[w.heap.size]? = some (.map es c) := heap_alloc_new w _
  have hc : (Instr.checkKey false 10000 3 (.int .i64 k)).run Tryz.prog (w.alloc (.map es c)) = .ok () (w.alloc (.map es c)) := MapKept.run_checkKey (k := .int .i64 k) Tryz.underlying3 (by simp [MapKept.IsKey]) false 9999
  have h := alloc_put w (.map es c) (.map (es.push ⟨.int .i64 k, v, c⟩) (c + 1))
  simp [Instr.mapUpdate, run_underlying Tryz.underlying77, MapKept.run_getObj_map hb, hc, MapKept.run_findKey Tryz.underlying3 hf, MapKept.run_setObj_map _ hb, Result.andThen]
  exact h
/-- The table. -/
def dmE (x : Value) : Array MapEntry := #[⟨.int .i64 1, .agg #[.func (.func 47) #[x] #[], .func (.func 48) #[x] #[]], 0⟩, ⟨.int .i64 2, .agg #[.func (.func 47) #[x] #[], .func (.func 49) #[x] #[]], 1⟩, ⟨.int .i64 3, .agg #[.func (.func 50) #[x] #[], .func (.func 51) #[x] #[]], 2⟩, ⟨.int .i64 4, .agg #[.func (.func 47) #[x] #[], .func (.func 52) #[x] #[]], 3⟩, ⟨.int .i64 5, .agg #[.func (.func 47) #[x] #[], .func (.func 53) #[x] #[]], 4⟩, ⟨.int .i64 6, .agg #[.func (.func 54) #[x] #[], .func (.func 55) #[x] #[]], 5⟩, ⟨.int .i64 7, .agg #[.func (.func 50) #[x] #[], .func (.func 56) #[x] #[]], 6⟩, ⟨.int .i64 8, .agg #[.func (.func 54) #[x] #[], .func (.func 57) #[x] #[]], 7⟩, ⟨.int .i64 9, .agg #[.func (.func 54) #[x] #[], .func (.func 58) #[x] #[]], 8⟩, ⟨.int .i64 10, .agg #[.func (.func 59) #[x] #[], .func (.func 60) #[x] #[]], 9⟩, ⟨.int .i64 11, .agg #[.func (.func 61) #[x] #[], .func (.func 62) #[x] #[]], 10⟩, ⟨.int .i64 12, .agg #[.func (.func 61) #[x] #[], .func (.func 63) #[x] #[]], 11⟩, ⟨.int .i64 13, .agg #[.func (.func 61) #[x] #[], .func (.func 64) #[x] #[]], 12⟩]
set_option maxRecDepth 20000 in
set_option maxHeartbeats 8000000 in
theorem pdeeds_any (x : Value) (w : World) : Calls Tryz.prog 26 #[x] w fun e w' => e = .returned (.map (some w.heap.size)) ∧ w' = w.alloc (.map (dmE x) 13) := by
  have hmm := @run_makeMap Tryz.prog
  have h0 : (Instr.mapUpdate 77 (.map (some w.heap.size)) (.int .i64 1) (.agg #[.func (.func 47) #[x] #[], .func (.func 48) #[x] #[]])).run Tryz.prog (w.alloc (.map #[] 0)) = .ok () (w.alloc (.map #[⟨.int .i64 1, .agg #[.func (.func 47) #[x] #[], .func (.func 48) #[x] #[]], 0⟩] 1)) := upd_new (k := 1) (by rfl)
  have h1 : (Instr.mapUpdate 77 (.map (some w.heap.size)) (.int .i64 2) (.agg #[.func (.func 47) #[x] #[], .func (.func 49) #[x] #[]])).run Tryz.prog (w.alloc (.map #[⟨.int .i64 1, .agg #[.func (.func 47) #[x] #[], .func (.func 48) #[x] #[]], 0⟩] 1)) = .ok () (w.alloc (.map #[⟨.int .i64 1, .agg #[.func (.func 47) #[x] #[], .func (.func 48) #[x] #[]], 0⟩, ⟨.int .i64 2, .agg #[.func (.func 47) #[x] #[], .func (.func 49) #[x] #[]], 1⟩] 2)) := upd_new (k := 2) (by rfl)
  have h2 : (Instr.mapUpdate 77 (.map (some w.heap.size)) (.int .i64 3) (.agg #[.func (.func 50) #[x] #[], .func (.func 51) #[x] #[]])).run Tryz.prog (w.alloc (.map #[⟨.int .i64 1, .agg #[.func (.func 47) #[x] #[], .func (.func 48) #[x] #[]], 0⟩, ⟨.int .i64 2, .agg #[.func (.func 47) #[x] #[], .func (.func 49) #[x] #[]], 1⟩] 2)) = .ok () (w.alloc (.map #[⟨.int .i64 1, .agg #[.func (.func 47) #[x] #[], .func (.func 48) #[x] #[]], 0⟩, ⟨.int .i64 2, .agg #[.func (.func 47) #[x] #[], .func (.func 49) #[x] #[]], 1⟩, ⟨.int .i64 3, .agg #[.func (.func 50) #[x] #[], .func (.func 51) #[x] #[]], 2⟩] 3)) := upd_new (k := 3) (by rfl)
  have h3 : (Instr.mapUpdate 77 (.map (some w.heap.size)) (.int .i64 4) (.agg #[.func (.func 47) #[x] #[], .func (.func 52) #[x] #[]])).run Tryz.prog (w.alloc (.map #[⟨.int .i64 1, .agg #[.func (.func 47) #[x] #[], .func (.func 48) #[x] #[]], 0⟩, ⟨.int .i64 2, .agg #[.func (.func 47) #[x] #[], .func (.func 49) #[x] #[]], 1⟩, ⟨.int .i64 3, .agg #[.func (.func 50) #[x] #[], .func (.func 51) #[x] #[]], 2⟩] 3)) = .ok () (w.alloc (.map #[⟨.int .i64 1, .agg #[.func (.func 47) #[x] #[], .func (.func 48) #[x] #[]], 0⟩, ⟨.int .i64 2, .agg #[.func (.func 47) #[x] #[], .func (.func 49) #[x] #[]], 1⟩, ⟨.int .i64 3, .agg #[.func (.func 50) #[x] #[], .func (.func 51) #[x] #[]], 2⟩, ⟨.int .i64 4, .agg #[.func (.func 47) #[x] #[], .func (.func 52) #[x] #[]], 3⟩] 4)) := upd_new (k := 4) (by rfl)
  have h4 : (Instr.mapUpdate 77 (.map (some w.heap.size)) (.int .i64 5) (.agg #[.func (.func 47) #[x] #[], .func (.func 53) #[x] #[]])).run Tryz.prog (w.alloc (.map #[⟨.int .i64 1, .agg #[.func (.func 47) #[x] #[], .func (.func 48) #[x] #[]], 0⟩, ⟨.int .i64 2, .agg #[.func (.func 47) #[x] #[], .func (.func 49) #[x] #[]], 1⟩, ⟨.int .i64 3, .agg #[.func (.func 50) #[x] #[], .func (.func 51) #[x] #[]], 2⟩, ⟨.int .i64 4, .agg #[.func (.func 47) #[x] #[], .func (.func 52) #[x] #[]], 3⟩] 4)) = .ok () (w.alloc (.map #[⟨.int .i64 1, .agg #[.func (.func 47) #[x] #[], .func (.func 48) #[x] #[]], 0⟩, ⟨.int .i64 2, .agg #[.func (.func 47) #[x] #[], .func (.func 49) #[x] #[]], 1⟩, ⟨.int .i64 3, .agg #[.func (.func 50) #[x] #[], .func (.func 51) #[x] #[]], 2⟩, ⟨.int .i64 4, .agg #[.func (.func 47) #[x] #[], .func (.func 52) #[x] #[]], 3⟩, ⟨.int .i64 5, .agg #[.func (.func 47) #[x] #[], .func (.func 53) #[x] #[]], 4⟩] 5)) := upd_new (k := 5) (by rfl)
  have h5 : (Instr.mapUpdate 77 (.map (some w.heap.size)) (.int .i64 6) (.agg #[.func (.func 54) #[x] #[], .func (.func 55) #[x] #[]])).run Tryz.prog (w.alloc (.map #[⟨.int .i64 1, .agg #[.func (.func 47) #[x] #[], .func (.func 48) #[x] #[]], 0⟩, ⟨.int .i64 2, .agg #[.func (.func 47) #[x] #[], .func (.func 49) #[x] #[]], 1⟩, ⟨.int .i64 3, .agg #[.func (.func 50) #[x] #[], .func (.func 51) #[x] #[]], 2⟩, ⟨.int .i64 4, .agg #[.func (.func 47) #[x] #[], .func (.func 52) #[x] #[]], 3⟩, ⟨.int .i64 5, .agg #[.func (.func 47) #[x] #[], .func (.func 53) #[x] #[]], 4⟩] 5)) = .ok () (w.alloc (.map #[⟨.int .i64 1, .agg #[.func (.func 47) #[x] #[], .func (.func 48) #[x] #[]], 0⟩, ⟨.int .i64 2, .agg #[.func (.func 47) #[x] #[], .func (.func 49) #[x] #[]], 1⟩, ⟨.int .i64 3, .agg #[.func (.func 50) #[x] #[], .func (.func 51) #[x] #[]], 2⟩, ⟨.int .i64 4, .agg #[.func (.func 47) #[x] #[], .func (.func 52) #[x] #[]], 3⟩, ⟨.int .i64 5, .agg #[.func (.func 47) #[x] #[], .func (.func 53) #[x] #[]], 4⟩, ⟨.int .i64 6, .agg #[.func (.func 54) #[x] #[], .func (.func 55) #[x] #[]], 5⟩] 6)) := upd_new (k := 6) (by rfl)
  have h6 : (Instr.mapUpdate 77 (.map (some w.heap.size)) (.int .i64 7) (.agg #[.func (.func 50) #[x] #[], .func (.func 56) #[x] #[]])).run Tryz.prog (w.alloc (.map #[⟨.int .i64 1, .agg #[.func (.func 47) #[x] #[], .func (.func 48) #[x] #[]], 0⟩, ⟨.int .i64 2, .agg #[.func (.func 47) #[x] #[], .func (.func 49) #[x] #[]], 1⟩, ⟨.int .i64 3, .agg #[.func (.func 50) #[x] #[], .func (.func 51) #[x] #[]], 2⟩, ⟨.int .i64 4, .agg #[.func (.func 47) #[x] #[], .func (.func 52) #[x] #[]], 3⟩, ⟨.int .i64 5, .agg #[.func (.func 47) #[x] #[], .func (.func 53) #[x] #[]], 4⟩, ⟨.int .i64 6, .agg #[.func (.func 54) #[x] #[], .func (.func 55) #[x] #[]], 5⟩] 6)) = .ok () (w.alloc (.map #[⟨.int .i64 1, .agg #[.func (.func 47) #[x] #[], .func (.func 48) #[x] #[]], 0⟩, ⟨.int .i64 2, .agg #[.func (.func 47) #[x] #[], .func (.func 49) #[x] #[]], 1⟩, ⟨.int .i64 3, .agg #[.func (.func 50) #[x] #[], .func (.func 51) #[x] #[]], 2⟩, ⟨.int .i64 4, .agg #[.func (.func 47) #[x] #[], .func (.func 52) #[x] #[]], 3⟩, ⟨.int .i64 5, .agg #[.func (.func 47) #[x] #[], .func (.func 53) #[x] #[]], 4⟩, ⟨.int .i64 6, .agg #[.func (.func 54) #[x] #[], .func (.func 55) #[x] #[]], 5⟩, ⟨.int .i64 7, .agg #[.func (.func 50) #[x] #[], .func (.func 56) #[x] #[]], 6⟩] 7)) := upd_new (k := 7) (by rfl)
  have h7 : (Instr.mapUpdate 77 (.map (some w.heap.size)) (.int .i64 8) (.agg #[.func (.func 54) #[x] #[], .func (.func 57) #[x] #[]])).run Tryz.prog (w.alloc (.map #[⟨.int .i64 1, .agg #[.func (.func 47) #[x] #[], .func (.func 48) #[x] #[]], 0⟩, ⟨.int .i64 2, .agg #[.func (.func 47) #[x] #[], .func (.func 49) #[x] #[]], 1⟩, ⟨.int .i64 3, .agg #[.func (.func 50) #[x] #[], .func (.func 51) #[x] #[]], 2⟩, ⟨.int .i64 4, .agg #[.func (.func 47) #[x] #[], .func (.func 52) #[x] #[]], 3⟩, ⟨.int .i64 5, .agg #[.func (.func 47) #[x] #[], .func (.func 53) #[x] #[]], 4⟩, ⟨.int .i64 6, .agg #[.func (.func 54) #[x] #[], .func (.func 55) #[x] #[]], 5⟩, ⟨.int .i64 7, .agg #[.func (.func 50) #[x] #[], .func (.func 56) #[x] #[]], 6⟩] 7)) = .ok () (w.alloc (.map #[⟨.int .i64 1, .agg #[.func (.func 47) #[x] #[], .func (.func 48) #[x] #[]], 0⟩, ⟨.int .i64 2, .agg #[.func (.func 47) #[x] #[], .func (.func 49) #[x] #[]], 1⟩, ⟨.int .i64 3, .agg #[.func (.func 50) #[x] #[], .func (.func 51) #[x] #[]], 2⟩, ⟨.int .i64 4, .agg #[.func (.func 47) #[x] #[], .func (.func 52) #[x] #[]], 3⟩, ⟨.int .i64 5, .agg #[.func (.func 47) #[x] #[], .func (.func 53) #[x] #[]], 4⟩, ⟨.int .i64 6, .agg #[.func (.func 54) #[x] #[], .func (.func 55) #[x] #[]], 5⟩, ⟨.int .i64 7, .agg #[.func (.func 50) #[x] #[], .func (.func 56) #[x] #[]], 6⟩, ⟨.int .i64 8, .agg #[.func (.func 54) #[x] #[], .func (.func 57) #[x] #[]], 7⟩] 8)) := upd_new (k := 8) (by rfl)
  have h8 : (Instr.mapUpdate 77 (.map (some w.heap.size)) (.int .i64 9) (.agg #[.func (.func 54) #[x] #[], .func (.func 58) #[x] #[]])).run Tryz.prog (w.alloc (.map #[⟨.int .i64 1, .agg #[.func (.func 47) #[x] #[], .func (.func 48) #[x] #[]], 0⟩, ⟨.int .i64 2, .agg #[.func (.func 47) #[x] #[], .func (.func 49) #[x] #[]], 1⟩, ⟨.int .i64 3, .agg #[.func (.func 50) #[x] #[], .func (.func 51) #[x] #[]], 2⟩, ⟨.int .i64 4, .agg #[.func (.func 47) #[x] #[], .func (.func 52) #[x] #[]], 3⟩, ⟨.int .i64 5, .agg #[.func (.func 47) #[x] #[], .func (.func 53) #[x] #[]], 4⟩, ⟨.int .i64 6, .agg #[.func (.func 54) #[x] #[], .func (.func 55) #[x] #[]], 5⟩, ⟨.int .i64 7, .agg #[.func (.func 50) #[x] #[], .func (.func 56) #[x] #[]], 6⟩, ⟨.int .i64 8, .agg #[.func (.func 54) #[x] #[], .func (.func 57) #[x] #[]], 7⟩] 8)) = .ok () (w.alloc (.map #[⟨.int .i64 1, .agg #[.func (.func 47) #[x] #[], .func (.func 48) #[x] #[]], 0⟩, ⟨.int .i64 2, .agg #[.func (.func 47) #[x] #[], .func (.func 49) #[x] #[]], 1⟩, ⟨.int .i64 3, .agg #[.func (.func 50) #[x] #[], .func (.func 51) #[x] #[]], 2⟩, ⟨.int .i64 4, .agg #[.func (.func 47) #[x] #[], .func (.func 52) #[x] #[]], 3⟩, ⟨.int .i64 5, .agg #[.func (.func 47) #[x] #[], .func (.func 53) #[x] #[]], 4⟩, ⟨.int .i64 6, .agg #[.func (.func 54) #[x] #[], .func (.func 55) #[x] #[]], 5⟩, ⟨.int .i64 7, .agg #[.func (.func 50) #[x] #[], .func (.func 56) #[x] #[]], 6⟩, ⟨.int .i64 8, .agg #[.func (.func 54) #[x] #[], .func (.func 57) #[x] #[]], 7⟩, ⟨.int .i64 9, .agg #[.func (.func 54) #[x] #[], .func (.func 58) #[x] #[]], 8⟩] 9)) := upd_new (k := 9) (by rfl)
  have h9 : (Instr.mapUpdate 77 (.map (some w.heap.size)) (.int .i64 10) (.agg #[.func (.func 59) #[x] #[], .func (.func 60) #[x] #[]])).run Tryz.prog (w.alloc (.map #[⟨.int .i64 1, .agg #[.func (.func 47) #[x] #[], .func (.func 48) #[x] #[]], 0⟩, ⟨.int .i64 2, .agg #[.func (.func 47) #[x] #[], .func (.func 49) #[x] #[]], 1⟩, ⟨.int .i64 3, .agg #[.func (.func 50) #[x] #[], .func (.func 51) #[x] #[]], 2⟩, ⟨.int .i64 4, .agg #[.func (.func 47) #[x] #[], .func (.func 52) #[x] #[]], 3⟩, ⟨.int .i64 5, .agg #[.func (.func 47) #[x] #[], .func (.func 53) #[x] #[]], 4⟩, ⟨.int .i64 6, .agg #[.func (.func 54) #[x] #[], .func (.func 55) #[x] #[]], 5⟩, ⟨.int .i64 7, .agg #[.func (.func 50) #[x] #[], .func (.func 56) #[x] #[]], 6⟩, ⟨.int .i64 8, .agg #[.func (.func 54) #[x] #[], .func (.func 57) #[x] #[]], 7⟩, ⟨.int .i64 9, .agg #[.func (.func 54) #[x] #[], .func (.func 58) #[x] #[]], 8⟩] 9)) = .ok () (w.alloc (.map #[⟨.int .i64 1, .agg #[.func (.func 47) #[x] #[], .func (.func 48) #[x] #[]], 0⟩, ⟨.int .i64 2, .agg #[.func (.func 47) #[x] #[], .func (.func 49) #[x] #[]], 1⟩, ⟨.int .i64 3, .agg #[.func (.func 50) #[x] #[], .func (.func 51) #[x] #[]], 2⟩, ⟨.int .i64 4, .agg #[.func (.func 47) #[x] #[], .func (.func 52) #[x] #[]], 3⟩, ⟨.int .i64 5, .agg #[.func (.func 47) #[x] #[], .func (.func 53) #[x] #[]], 4⟩, ⟨.int .i64 6, .agg #[.func (.func 54) #[x] #[], .func (.func 55) #[x] #[]], 5⟩, ⟨.int .i64 7, .agg #[.func (.func 50) #[x] #[], .func (.func 56) #[x] #[]], 6⟩, ⟨.int .i64 8, .agg #[.func (.func 54) #[x] #[], .func (.func 57) #[x] #[]], 7⟩, ⟨.int .i64 9, .agg #[.func (.func 54) #[x] #[], .func (.func 58) #[x] #[]], 8⟩, ⟨.int .i64 10, .agg #[.func (.func 59) #[x] #[], .func (.func 60) #[x] #[]], 9⟩] 10)) := upd_new (k := 10) (by rfl)
  have h10 : (Instr.mapUpdate 77 (.map (some w.heap.size)) (.int .i64 11) (.agg #[.func (.func 61) #[x] #[], .func (.func 62) #[x] #[]])).run Tryz.prog (w.alloc (.map #[⟨.int .i64 1, .agg #[.func (.func 47) #[x] #[], .func (.func 48) #[x] #[]], 0⟩, ⟨.int .i64 2, .agg #[.func (.func 47) #[x] #[], .func (.func 49) #[x] #[]], 1⟩, ⟨.int .i64 3, .agg #[.func (.func 50) #[x] #[], .func (.func 51) #[x] #[]], 2⟩, ⟨.int .i64 4, .agg #[.func (.func 47) #[x] #[], .func (.func 52) #[x] #[]], 3⟩, ⟨.int .i64 5, .agg #[.func (.func 47) #[x] #[], .func (.func 53) #[x] #[]], 4⟩, ⟨.int .i64 6, .agg #[.func (.func 54) #[x] #[], .func (.func 55) #[x] #[]], 5⟩, ⟨.int .i64 7, .agg #[.func (.func 50) #[x] #[], .func (.func 56) #[x] #[]], 6⟩, ⟨.int .i64 8, .agg #[.func (.func 54) #[x] #[], .func (.func 57) #[x] #[]], 7⟩, ⟨.int .i64 9, .agg #[.func (.func 54) #[x] #[], .func (.func 58) #[x] #[]], 8⟩, ⟨.int .i64 10, .agg #[.func (.func 59) #[x] #[], .func (.func 60) #[x] #[]], 9⟩] 10)) = .ok () (w.alloc (.map #[⟨.int .i64 1, .agg #[.func (.func 47) #[x] #[], .func (.func 48) #[x] #[]], 0⟩, ⟨.int .i64 2, .agg #[.func (.func 47) #[x] #[], .func (.func 49) #[x] #[]], 1⟩, ⟨.int .i64 3, .agg #[.func (.func 50) #[x] #[], .func (.func 51) #[x] #[]], 2⟩, ⟨.int .i64 4, .agg #[.func (.func 47) #[x] #[], .func (.func 52) #[x] #[]], 3⟩, ⟨.int .i64 5, .agg #[.func (.func 47) #[x] #[], .func (.func 53) #[x] #[]], 4⟩, ⟨.int .i64 6, .agg #[.func (.func 54) #[x] #[], .func (.func 55) #[x] #[]], 5⟩, ⟨.int .i64 7, .agg #[.func (.func 50) #[x] #[], .func (.func 56) #[x] #[]], 6⟩, ⟨.int .i64 8, .agg #[.func (.func 54) #[x] #[], .func (.func 57) #[x] #[]], 7⟩, ⟨.int .i64 9, .agg #[.func (.func 54) #[x] #[], .func (.func 58) #[x] #[]], 8⟩, ⟨.int .i64 10, .agg #[.func (.func 59) #[x] #[], .func (.func 60) #[x] #[]], 9⟩, ⟨.int .i64 11, .agg #[.func (.func 61) #[x] #[], .func (.func 62) #[x] #[]], 10⟩] 11)) := upd_new (k := 11) (by rfl)
  have h11 : (Instr.mapUpdate 77 (.map (some w.heap.size)) (.int .i64 12) (.agg #[.func (.func 61) #[x] #[], .func (.func 63) #[x] #[]])).run Tryz.prog (w.alloc (.map #[⟨.int .i64 1, .agg #[.func (.func 47) #[x] #[], .func (.func 48) #[x] #[]], 0⟩, ⟨.int .i64 2, .agg #[.func (.func 47) #[x] #[], .func (.func 49) #[x] #[]], 1⟩, ⟨.int .i64 3, .agg #[.func (.func 50) #[x] #[], .func (.func 51) #[x] #[]], 2⟩, ⟨.int .i64 4, .agg #[.func (.func 47) #[x] #[], .func (.func 52) #[x] #[]], 3⟩, ⟨.int .i64 5, .agg #[.func (.func 47) #[x] #[], .func (.func 53) #[x] #[]], 4⟩, ⟨.int .i64 6, .agg #[.func (.func 54) #[x] #[], .func (.func 55) #[x] #[]], 5⟩, ⟨.int .i64 7, .agg #[.func (.func 50) #[x] #[], .func (.func 56) #[x] #[]], 6⟩, ⟨.int .i64 8, .agg #[.func (.func 54) #[x] #[], .func (.func 57) #[x] #[]], 7⟩, ⟨.int .i64 9, .agg #[.func (.func 54) #[x] #[], .func (.func 58) #[x] #[]], 8⟩, ⟨.int .i64 10, .agg #[.func (.func 59) #[x] #[], .func (.func 60) #[x] #[]], 9⟩, ⟨.int .i64 11, .agg #[.func (.func 61) #[x] #[], .func (.func 62) #[x] #[]], 10⟩] 11)) = .ok () (w.alloc (.map #[⟨.int .i64 1, .agg #[.func (.func 47) #[x] #[], .func (.func 48) #[x] #[]], 0⟩, ⟨.int .i64 2, .agg #[.func (.func 47) #[x] #[], .func (.func 49) #[x] #[]], 1⟩, ⟨.int .i64 3, .agg #[.func (.func 50) #[x] #[], .func (.func 51) #[x] #[]], 2⟩, ⟨.int .i64 4, .agg #[.func (.func 47) #[x] #[], .func (.func 52) #[x] #[]], 3⟩, ⟨.int .i64 5, .agg #[.func (.func 47) #[x] #[], .func (.func 53) #[x] #[]], 4⟩, ⟨.int .i64 6, .agg #[.func (.func 54) #[x] #[], .func (.func 55) #[x] #[]], 5⟩, ⟨.int .i64 7, .agg #[.func (.func 50) #[x] #[], .func (.func 56) #[x] #[]], 6⟩, ⟨.int .i64 8, .agg #[.func (.func 54) #[x] #[], .func (.func 57) #[x] #[]], 7⟩, ⟨.int .i64 9, .agg #[.func (.func 54) #[x] #[], .func (.func 58) #[x] #[]], 8⟩, ⟨.int .i64 10, .agg #[.func (.func 59) #[x] #[], .func (.func 60) #[x] #[]], 9⟩, ⟨.int .i64 11, .agg #[.func (.func 61) #[x] #[], .func (.func 62) #[x] #[]], 10⟩, ⟨.int .i64 12, .agg #[.func (.func 61) #[x] #[], .func (.func 63) #[x] #[]], 11⟩] 12)) := upd_new (k := 12) (by rfl)
  have h12 : (Instr.mapUpdate 77 (.map (some w.heap.size)) (.int .i64 13) (.agg #[.func (.func 61) #[x] #[], .func (.func 64) #[x] #[]])).run Tryz.prog (w.alloc (.map #[⟨.int .i64 1, .agg #[.func (.func 47) #[x] #[], .func (.func 48) #[x] #[]], 0⟩, ⟨.int .i64 2, .agg #[.func (.func 47) #[x] #[], .func (.func 49) #[x] #[]], 1⟩, ⟨.int .i64 3, .agg #[.func (.func 50) #[x] #[], .func (.func 51) #[x] #[]], 2⟩, ⟨.int .i64 4, .agg #[.func (.func 47) #[x] #[], .func (.func 52) #[x] #[]], 3⟩, ⟨.int .i64 5, .agg #[.func (.func 47) #[x] #[], .func (.func 53) #[x] #[]], 4⟩, ⟨.int .i64 6, .agg #[.func (.func 54) #[x] #[], .func (.func 55) #[x] #[]], 5⟩, ⟨.int .i64 7, .agg #[.func (.func 50) #[x] #[], .func (.func 56) #[x] #[]], 6⟩, ⟨.int .i64 8, .agg #[.func (.func 54) #[x] #[], .func (.func 57) #[x] #[]], 7⟩, ⟨.int .i64 9, .agg #[.func (.func 54) #[x] #[], .func (.func 58) #[x] #[]], 8⟩, ⟨.int .i64 10, .agg #[.func (.func 59) #[x] #[], .func (.func 60) #[x] #[]], 9⟩, ⟨.int .i64 11, .agg #[.func (.func 61) #[x] #[], .func (.func 62) #[x] #[]], 10⟩, ⟨.int .i64 12, .agg #[.func (.func 61) #[x] #[], .func (.func 63) #[x] #[]], 11⟩] 12)) = .ok () (w.alloc (.map #[⟨.int .i64 1, .agg #[.func (.func 47) #[x] #[], .func (.func 48) #[x] #[]], 0⟩, ⟨.int .i64 2, .agg #[.func (.func 47) #[x] #[], .func (.func 49) #[x] #[]], 1⟩, ⟨.int .i64 3, .agg #[.func (.func 50) #[x] #[], .func (.func 51) #[x] #[]], 2⟩, ⟨.int .i64 4, .agg #[.func (.func 47) #[x] #[], .func (.func 52) #[x] #[]], 3⟩, ⟨.int .i64 5, .agg #[.func (.func 47) #[x] #[], .func (.func 53) #[x] #[]], 4⟩, ⟨.int .i64 6, .agg #[.func (.func 54) #[x] #[], .func (.func 55) #[x] #[]], 5⟩, ⟨.int .i64 7, .agg #[.func (.func 50) #[x] #[], .func (.func 56) #[x] #[]], 6⟩, ⟨.int .i64 8, .agg #[.func (.func 54) #[x] #[], .func (.func 57) #[x] #[]], 7⟩, ⟨.int .i64 9, .agg #[.func (.func 54) #[x] #[], .func (.func 58) #[x] #[]], 8⟩, ⟨.int .i64 10, .agg #[.func (.func 59) #[x] #[], .func (.func 60) #[x] #[]], 9⟩, ⟨.int .i64 11, .agg #[.func (.func 61) #[x] #[], .func (.func 62) #[x] #[]], 10⟩, ⟨.int .i64 12, .agg #[.func (.func 61) #[x] #[], .func (.func 63) #[x] #[]], 11⟩, ⟨.int .i64 13, .agg #[.func (.func 61) #[x] #[], .func (.func 64) #[x] #[]], 12⟩] 13)) := upd_new (k := 13) (by rfl)
  unfold dmE
  go_enter Tryz.func26, Tryz.ntmps26
  go_wp2
  go_ret
  exact ⟨rfl, rfl⟩
/-- What the table says of a kind. -/
def dmL (x : Value) (k : Int) : Value :=
  if k = 1 then .tuple #[.agg #[.func (.func 47) #[x] #[], .func (.func 48) #[x] #[]], .bool true]
  else if k = 2 then .tuple #[.agg #[.func (.func 47) #[x] #[], .func (.func 49) #[x] #[]], .bool true]
  else if k = 3 then .tuple #[.agg #[.func (.func 50) #[x] #[], .func (.func 51) #[x] #[]], .bool true]
  else if k = 4 then .tuple #[.agg #[.func (.func 47) #[x] #[], .func (.func 52) #[x] #[]], .bool true]
  else if k = 5 then .tuple #[.agg #[.func (.func 47) #[x] #[], .func (.func 53) #[x] #[]], .bool true]
  else if k = 6 then .tuple #[.agg #[.func (.func 54) #[x] #[], .func (.func 55) #[x] #[]], .bool true]
  else if k = 7 then .tuple #[.agg #[.func (.func 50) #[x] #[], .func (.func 56) #[x] #[]], .bool true]
  else if k = 8 then .tuple #[.agg #[.func (.func 54) #[x] #[], .func (.func 57) #[x] #[]], .bool true]
  else if k = 9 then .tuple #[.agg #[.func (.func 54) #[x] #[], .func (.func 58) #[x] #[]], .bool true]
  else if k = 10 then .tuple #[.agg #[.func (.func 59) #[x] #[], .func (.func 60) #[x] #[]], .bool true]
  else if k = 11 then .tuple #[.agg #[.func (.func 61) #[x] #[], .func (.func 62) #[x] #[]], .bool true]
  else if k = 12 then .tuple #[.agg #[.func (.func 61) #[x] #[], .func (.func 63) #[x] #[]], .bool true]
  else if k = 13 then .tuple #[.agg #[.func (.func 61) #[x] #[], .func (.func 64) #[x] #[]], .bool true]
  else .tuple #[.agg #[.nilFunc, .nilFunc], .bool false]
set_option maxHeartbeats 4000000 in
theorem look_deed {x : Value} {W : World} {r : Nat} (k : Int) (hb : W.heap[r]? = some (.map (dmE x) 13)) : (Instr.lookup 77 (.map (some r)) (.int .i64 k) true).run Tryz.prog W = .ok (dmL x k) W := by
  have hc : (Instr.checkKey false 10000 3 (.int .i64 k)).run Tryz.prog W = .ok () W := MapKept.run_checkKey (k := .int .i64 k) Tryz.underlying3 (by simp [MapKept.IsKey]) false 9999
  have hz : (zeroValue 75).run Tryz.prog W = .ok (.agg #[.nilFunc, .nilFunc]) W := by kernel_rfl
  have hs : (dmE x).isEmpty = false := rfl
  by_cases h0 : k = 1
  · subst h0
    have hf : Instr.findNow (.int .i64) (.int .i64 1) (dmE x).toList 0 = some (some (0, .agg #[.func (.func 47) #[x] #[], .func (.func 48) #[x] #[]])) := by rfl
    simp [Instr.lookup, run_underlying Tryz.underlying77, MapKept.run_getObj_map hb, hs, hc, MapKept.run_findKey Tryz.underlying3 hf, Result.andThen, dmL]
  by_cases h1 : k = 2
  · subst h1
    have hf : Instr.findNow (.int .i64) (.int .i64 2) (dmE x).toList 0 = some (some (1, .agg #[.func (.func 47) #[x] #[], .func (.func 49) #[x] #[]])) := by rfl
    simp [Instr.lookup, run_underlying Tryz.underlying77, MapKept.run_getObj_map hb, hs, hc, MapKept.run_findKey Tryz.underlying3 hf, Result.andThen, dmL]
  by_cases h2 : k = 3
  · subst h2
    have hf : Instr.findNow (.int .i64) (.int .i64 3) (dmE x).toList 0 = some (some (2, .agg #[.func (.func 50) #[x] #[], .func (.func 51) #[x] #[]])) := by rfl
    simp [Instr.lookup, run_underlying Tryz.underlying77, MapKept.run_getObj_map hb, hs, hc, MapKept.run_findKey Tryz.underlying3 hf, Result.andThen, dmL]
  by_cases h3 : k = 4
  · subst h3
    have hf : Instr.findNow (.int .i64) (.int .i64 4) (dmE x).toList 0 = some (some (3, .agg #[.func (.func 47) #[x] #[], .func (.func 52) #[x] #[]])) := by rfl
    simp [Instr.lookup, run_underlying Tryz.underlying77, MapKept.run_getObj_map hb, hs, hc, MapKept.run_findKey Tryz.underlying3 hf, Result.andThen, dmL]
  by_cases h4 : k = 5
  · subst h4
    have hf : Instr.findNow (.int .i64) (.int .i64 5) (dmE x).toList 0 = some (some (4, .agg #[.func (.func 47) #[x] #[], .func (.func 53) #[x] #[]])) := by rfl
    simp [Instr.lookup, run_underlying Tryz.underlying77, MapKept.run_getObj_map hb, hs, hc, MapKept.run_findKey Tryz.underlying3 hf, Result.andThen, dmL]
  by_cases h5 : k = 6
  · subst h5
    have hf : Instr.findNow (.int .i64) (.int .i64 6) (dmE x).toList 0 = some (some (5, .agg #[.func (.func 54) #[x] #[], .func (.func 55) #[x] #[]])) := by rfl
    simp [Instr.lookup, run_underlying Tryz.underlying77, MapKept.run_getObj_map hb, hs, hc, MapKept.run_findKey Tryz.underlying3 hf, Result.andThen, dmL]
  by_cases h6 : k = 7
  · subst h6
    have hf : Instr.findNow (.int .i64) (.int .i64 7) (dmE x).toList 0 = some (some (6, .agg #[.func (.func 50) #[x] #[], .func (.func 56) #[x] #[]])) := by rfl
    simp [Instr.lookup, run_underlying Tryz.underlying77, MapKept.run_getObj_map hb, hs, hc, MapKept.run_findKey Tryz.underlying3 hf, Result.andThen, dmL]
  by_cases h7 : k = 8
  · subst h7
    have hf : Instr.findNow (.int .i64) (.int .i64 8) (dmE x).toList 0 = some (some (7, .agg #[.func (.func 54) #[x] #[], .func (.func 57) #[x] #[]])) := by rfl
    simp [Instr.lookup, run_underlying Tryz.underlying77, MapKept.run_getObj_map hb, hs, hc, MapKept.run_findKey Tryz.underlying3 hf, Result.andThen, dmL]
  by_cases h8 : k = 9
  · subst h8
    have hf : Instr.findNow (.int .i64) (.int .i64 9) (dmE x).toList 0 = some (some (8, .agg #[.func (.func 54) #[x] #[], .func (.func 58) #[x] #[]])) := by rfl
    simp [Instr.lookup, run_underlying Tryz.underlying77, MapKept.run_getObj_map hb, hs, hc, MapKept.run_findKey Tryz.underlying3 hf, Result.andThen, dmL]
  by_cases h9 : k = 10
  · subst h9
    have hf : Instr.findNow (.int .i64) (.int .i64 10) (dmE x).toList 0 = some (some (9, .agg #[.func (.func 59) #[x] #[], .func (.func 60) #[x] #[]])) := by rfl
    simp [Instr.lookup, run_underlying Tryz.underlying77, MapKept.run_getObj_map hb, hs, hc, MapKept.run_findKey Tryz.underlying3 hf, Result.andThen, dmL]
  by_cases h10 : k = 11
  · subst h10
    have hf : Instr.findNow (.int .i64) (.int .i64 11) (dmE x).toList 0 = some (some (10, .agg #[.func (.func 61) #[x] #[], .func (.func 62) #[x] #[]])) := by rfl
    simp [Instr.lookup, run_underlying Tryz.underlying77, MapKept.run_getObj_map hb, hs, hc, MapKept.run_findKey Tryz.underlying3 hf, Result.andThen, dmL]
  by_cases h11 : k = 12
  · subst h11
    have hf : Instr.findNow (.int .i64) (.int .i64 12) (dmE x).toList 0 = some (some (11, .agg #[.func (.func 61) #[x] #[], .func (.func 63) #[x] #[]])) := by rfl
    simp [Instr.lookup, run_underlying Tryz.underlying77, MapKept.run_getObj_map hb, hs, hc, MapKept.run_findKey Tryz.underlying3 hf, Result.andThen, dmL]
  by_cases h12 : k = 13
  · subst h12
    have hf : Instr.findNow (.int .i64) (.int .i64 13) (dmE x).toList 0 = some (some (12, .agg #[.func (.func 61) #[x] #[], .func (.func 64) #[x] #[]])) := by rfl
    simp [Instr.lookup, run_underlying Tryz.underlying77, MapKept.run_getObj_map hb, hs, hc, MapKept.run_findKey Tryz.underlying3 hf, Result.andThen, dmL]
  have b0 : (k == 1) = false := beq_eq_false_iff_ne.2 h0
  have b1 : (k == 2) = false := beq_eq_false_iff_ne.2 h1
  have b2 : (k == 3) = false := beq_eq_false_iff_ne.2 h2
  have b3 : (k == 4) = false := beq_eq_false_iff_ne.2 h3
  have b4 : (k == 5) = false := beq_eq_false_iff_ne.2 h4
  have b5 : (k == 6) = false := beq_eq_false_iff_ne.2 h5
  have b6 : (k == 7) = false := beq_eq_false_iff_ne.2 h6
  have b7 : (k == 8) = false := beq_eq_false_iff_ne.2 h7
  have b8 : (k == 9) = false := beq_eq_false_iff_ne.2 h8
  have b9 : (k == 10) = false := beq_eq_false_iff_ne.2 h9
  have b10 : (k == 11) = false := beq_eq_false_iff_ne.2 h10
  have b11 : (k == 12) = false := beq_eq_false_iff_ne.2 h11
  have b12 : (k == 13) = false := beq_eq_false_iff_ne.2 h12
  have hf : Instr.findNow (.int .i64) (.int .i64 k) (dmE x).toList 0 = some none := by
    simp [dmE, Instr.findNow, Instr.sameNow, b0, b1, b2, b3, b4, b5, b6, b7, b8, b9, b10, b11, b12, h0, h1, h2, h3, h4, h5, h6, h7, h8, h9, h10, h11, h12]
  simp [Instr.lookup, run_underlying Tryz.underlying77, MapKept.run_getObj_map hb, hs, hc, MapKept.run_findKey Tryz.underlying3 hf, Result.andThen, hz, dmL, h0, h1, h2, h3, h4, h5, h6, h7, h8, h9, h10, h11, h12]
end Go.Proofs.YtdbmaobjikjifaaGreatDoorR
