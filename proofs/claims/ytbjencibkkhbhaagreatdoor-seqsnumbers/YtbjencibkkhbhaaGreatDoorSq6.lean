/- Rows of ranges under way; what the document's Set answers. -/
import Derived.Test.YtbjencibkkhbhaaGreatDoorSq5
import Derived.Test.YtbjencibkkhbhaaGreatDoorRws
set_option linter.unusedSimpArgs false
set_option linter.unusedVariables false
namespace Go.Proofs.YtbjencibkkhbhaaGreatDoor
open Go.RowKit Go.Shelf
def rgF (r : Int × Int) : List Value := [.int .i64 r.1, .int .i64 r.2]
theorem rgF_len (r : Int × Int) : (rgF r).length = 2 := rfl
theorem rgInfo : (Tryz.prog.info? 53).map (fun i => (i.zero, i.size, i.bytes)) = some (some (.agg #[.int .i64 0, .int .i64 0]), 2, 16) := by kernel_rfl
/-- A row of ranges, in a block of one's own from B on, or in block b0. -/
def Rs (b0 B : Nat) (w1 wr : World) (v : Value) (rs : List (Int × Int)) : Prop := Mvs (fun k => k = b0) w1 wr ∧ ∃ G, Rw wr 2 v rs.length (rs.flatMap rgF) G ∧ ∀ g, G = some g → (g = b0 ∨ B ≤ g)
theorem Rs.ra {b0 B : Nat} {w1 wr : World} {v : Value} {rs : List (Int × Int)} (h : Rs b0 B w1 wr v rs) : RA wr v rs := by
  obtain ⟨_, G, hr, _⟩ := h
  obtain ⟨A, c, rfl⟩ := hr.form
  refine ⟨A, c, rfl, fun i hi => ?_⟩
  rcases hr.2 with ⟨_, h0, _⟩ | ⟨g, o, cap, _, e, _, _, h3, h4, _⟩
  · omega
  · have f0 := flat_at rgF_len rs i hi 0 (by omega)
    have f1 := flat_at rgF_len rs i hi 1 (by omega)
    refine ⟨g, o, by cases e; rfl, h3, ?_, ?_⟩
    · have := h4 (i * 2 + 0) _ (f0.trans rfl)
      simpa using this
    · have := h4 (i * 2 + 1) _ (f1.trans rfl)
      rw [Nat.add_assoc]
      exact this
theorem Rs.below {b0 B : Nat} {w1 wr wq : World} {v : Value} {rs : List (Int × Int)} (h : Rs b0 B w1 wr v rs) (hb : Below wr.heap.size wr wq) : Rs b0 B w1 wq v rs := by
  obtain ⟨h1, G, hr, hg⟩ := h
  exact ⟨h1.then hb, G, hr.keep (S := fun _ => False) (Mvs.of_below hb) (fun _ _ c => c), hg⟩
theorem src_rg {w : World} (x y : Int) {c : Nat} : Src Tryz.prog 2 23 (.slice (some ⟨w.heap.size, 0, none⟩) 1 c) 1 (rgF (x, y)) (w.alloc (.cells #[.int .i64 x, .int .i64 y] 53)) :=
  Src.ofSlice _ Tryz.underlying23 ⟨w.heap.size, 0, none⟩ 1 c (rgF (x, y)) rfl (fun j u hu => by
    rw [Go.WideShapes.add_plain, Nat.zero_add]
    match j, hu with
    | 0, hu => cases hu; exact (Blk.new w #[.int .i64 x, .int .i64 y] 53).cell 0
    | 1, hu => cases hu; exact (Blk.new w #[.int .i64 x, .int .i64 y] 53).cell 1) (fun u hu => by
    simp [rgF] at hu
    rcases hu with rfl | rfl <;> rfl)
theorem Rs.grow {b0 B : Nat} {w1 wr w9 : World} {v9 : Value} {rs : List (Int × Int)} {x y : Int} {G G9 : Option Nat} {o : Obj} (hm1 : Mvs (fun k => k = b0) w1 wr) (hB : B ≤ w1.heap.size) (hw : b0 < w1.heap.size) (hG : ∀ g, G = some g → (g = b0 ∨ B ≤ g)) (hBw : B = w1.heap.size)
    (hr9 : Rw w9 2 v9 (rs.length + 1) (rs.flatMap rgF ++ rgF (x, y)) G9) (hm9 : Mvs (fun k => some k = G) (wr.drew.alloc o) w9) (hG9 : G9 = G ∨ G9 = some (wr.drew.alloc o).heap.size) : Rs b0 B w1 w9 v9 (rs ++ [(x, y)]) := by
  have hs := hm1.size
  refine ⟨?_, G9, ?_, ?_⟩
  · refine (hm1.drew.alloc o).trans' hm9 (fun k hk e => ?_)
    rcases hG k e.symm with h | h
    · exact h
    · omega
  · rw [List.length_append, List.flatMap_append]
    simpa using hr9
  · intro g e
    rcases hG9 with h | h
    · exact hG g (h ▸ e)
    · rw [h] at e
      cases e
      right
      simp
      omega
def natR (r : Nat × Nat) : Int × Int := (r.1, r.2)
/-- What the document's Set answers. -/
def SetOut (w : World) (o : Option (List (Nat × Nat))) (e : Ending) (w' : World) : Prop := Below w.heap.size w w' ∧ match o with
  | some set => ∃ v, e = .returned (.tuple #[v, .bool true]) ∧ RA w' v (set.map natR)
  | none => e = .returned (.tuple #[.slice none 0 0, .bool false])
end Go.Proofs.YtbjencibkkhbhaaGreatDoor
