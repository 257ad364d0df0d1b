/- mime.Same, case by case (second half). -/
import Derived.Test.YtegplihhbdmnbaaGreatDoorU35
set_option linter.unusedSimpArgs false
set_option linter.unusedVariables false
namespace Go.Proofs.YtegplihhbdmnbaaGreatDoor
open Go.RowKit Go.Shelf
set_option maxRecDepth 20000 in
set_option maxHeartbeats 1000000 in
theorem psame_6 (d e i s t : List UInt8) (a a' b b' l l' n n' : Int) (np np' nk nk' : Nat) (Ap Ap' A A' : Option Addr) (cp cp' c c' : Nat) (w : World) (HEq : ∀ W, Below w.heap.size w W → Calls Tryz.prog 38 #[.slice Ap np cp, .slice Ap' np' cp'] W fun e w' => e = .returned (.bool true) ∧ Below W.heap.size W w')  (hne : (a == a') = false) (hne2 : ¬ a = a') :
    Calls Tryz.prog 16 #[.agg #[.string ⟨t.toArray⟩, .string ⟨s.toArray⟩, .slice Ap np cp, .string ⟨i.toArray⟩, .string ⟨d.toArray⟩, .string ⟨e.toArray⟩, .int .i64 a, .int .i64 b, .int .i64 n, .int .i64 l, .slice A nk c], .agg #[.string ⟨t.toArray⟩, .string ⟨s.toArray⟩, .slice Ap' np' cp', .string ⟨i.toArray⟩, .string ⟨d.toArray⟩, .string ⟨e.toArray⟩, .int .i64 a', .int .i64 b', .int .i64 n', .int .i64 l', .slice A' nk' c']] w fun e w' => e = .returned (.bool false) ∧ Below w.heap.size w w' := by
  have hA1 := (Below.refl w.heap.size w).alloc (Nat.le_refl _) (.cells #[.string ⟨t.toArray⟩, .string ⟨s.toArray⟩, .slice Ap np cp, .string ⟨i.toArray⟩, .string ⟨d.toArray⟩, .string ⟨e.toArray⟩, .int .i64 a, .int .i64 b, .int .i64 n, .int .i64 l, .slice A nk c] 40)
  have hA2 := hA1.alloc hA1.size (.cells #[.string ⟨t.toArray⟩, .string ⟨s.toArray⟩, .slice Ap' np' cp', .string ⟨i.toArray⟩, .string ⟨d.toArray⟩, .string ⟨e.toArray⟩, .int .i64 a', .int .i64 b', .int .i64 n', .int .i64 l', .slice A' nk' c'] 40)
  have hK1 := (Blk.new w #[.string ⟨t.toArray⟩, .string ⟨s.toArray⟩, .slice Ap np cp, .string ⟨i.toArray⟩, .string ⟨d.toArray⟩, .string ⟨e.toArray⟩, .int .i64 a, .int .i64 b, .int .i64 n, .int .i64 l, .slice A nk c] 40).alloc (.cells #[.string ⟨t.toArray⟩, .string ⟨s.toArray⟩, .slice Ap' np' cp', .string ⟨i.toArray⟩, .string ⟨d.toArray⟩, .string ⟨e.toArray⟩, .int .i64 a', .int .i64 b', .int .i64 n', .int .i64 l', .slice A' nk' c'] 40)
  have hK2 := Blk.new (w.alloc (.cells #[.string ⟨t.toArray⟩, .string ⟨s.toArray⟩, .slice Ap np cp, .string ⟨i.toArray⟩, .string ⟨d.toArray⟩, .string ⟨e.toArray⟩, .int .i64 a, .int .i64 b, .int .i64 n, .int .i64 l, .slice A nk c] 40)) #[.string ⟨t.toArray⟩, .string ⟨s.toArray⟩, .slice Ap' np' cp', .string ⟨i.toArray⟩, .string ⟨d.toArray⟩, .string ⟨e.toArray⟩, .int .i64 a', .int .i64 b', .int .i64 n', .int .i64 l', .slice A' nk' c'] 40
  have hz : (w.alloc (.cells #[.string ⟨t.toArray⟩, .string ⟨s.toArray⟩, .slice Ap np cp, .string ⟨i.toArray⟩, .string ⟨d.toArray⟩, .string ⟨e.toArray⟩, .int .i64 a, .int .i64 b, .int .i64 n, .int .i64 l, .slice A nk c] 40)).heap.size = w.heap.size + 1 := World.size_alloc _ _
  rw [hz] at hK2
  have HE := hide (HEq _ hA2)
  obtain ⟨W2, hW2⟩ : ∃ W2, (w.alloc (.cells #[.string ⟨t.toArray⟩, .string ⟨s.toArray⟩, .slice Ap np cp, .string ⟨i.toArray⟩, .string ⟨d.toArray⟩, .string ⟨e.toArray⟩, .int .i64 a, .int .i64 b, .int .i64 n, .int .i64 l, .slice A nk c] 40)).alloc (.cells #[.string ⟨t.toArray⟩, .string ⟨s.toArray⟩, .slice Ap' np' cp', .string ⟨i.toArray⟩, .string ⟨d.toArray⟩, .string ⟨e.toArray⟩, .int .i64 a', .int .i64 b', .int .i64 n', .int .i64 l', .slice A' nk' c'] 40) = W2 := ⟨_, rfl⟩
  rw [hW2] at hA2 hK1 hK2 HE
  have c0 : W2.cell? ⟨w.heap.size, 0, none⟩ = some (.string ⟨t.toArray⟩) := hK1.cell 0
  have c1 : W2.cell? ⟨w.heap.size, 1, none⟩ = some (.string ⟨s.toArray⟩) := hK1.cell 1
  have c2 : W2.cell? ⟨w.heap.size, 2, none⟩ = some (.slice Ap np cp) := hK1.cell 2
  have d0 : W2.cell? ⟨w.heap.size + 1, 0, none⟩ = some (.string ⟨t.toArray⟩) := hK2.cell 0
  have d1 : W2.cell? ⟨w.heap.size + 1, 1, none⟩ = some (.string ⟨s.toArray⟩) := hK2.cell 1
  have d2 : W2.cell? ⟨w.heap.size + 1, 2, none⟩ = some (.slice Ap' np' cp') := hK2.cell 2
  have HK1 := hide hK1
  have HK2 := hide hK2
  have HA2 := hide hA2
  clear hA1 hA2 hK1 hK2 hz HEq
  go_enter Tryz.func16, Tryz.ntmps16
  go_wp2_with fail
  refine HE.out.mono ?_
  rintro e w3 ⟨rfl, hb3⟩
  have q1 := HK1.out.below hb3 HK1.out.lt
  have q2 := HK2.out.below hb3 HK2.out.lt
  have f3 : w3.cell? ⟨w.heap.size, 3, none⟩ = some (.string ⟨i.toArray⟩) := q1.cell 3
  have g3 : w3.cell? ⟨w.heap.size + 1, 3, none⟩ = some (.string ⟨i.toArray⟩) := q2.cell 3
  have f4 : w3.cell? ⟨w.heap.size, 4, none⟩ = some (.string ⟨d.toArray⟩) := q1.cell 4
  have g4 : w3.cell? ⟨w.heap.size + 1, 4, none⟩ = some (.string ⟨d.toArray⟩) := q2.cell 4
  have f5 : w3.cell? ⟨w.heap.size, 5, none⟩ = some (.string ⟨e.toArray⟩) := q1.cell 5
  have g5 : w3.cell? ⟨w.heap.size + 1, 5, none⟩ = some (.string ⟨e.toArray⟩) := q2.cell 5
  have f6 : w3.cell? ⟨w.heap.size, 6, none⟩ = some (.int .i64 a) := q1.cell 6
  have g6 : w3.cell? ⟨w.heap.size + 1, 6, none⟩ = some (.int .i64 a') := q2.cell 6
  have f7 : w3.cell? ⟨w.heap.size, 7, none⟩ = some (.int .i64 b) := q1.cell 7
  have g7 : w3.cell? ⟨w.heap.size + 1, 7, none⟩ = some (.int .i64 b') := q2.cell 7
  have f8 : w3.cell? ⟨w.heap.size, 8, none⟩ = some (.int .i64 n) := q1.cell 8
  have g8 : w3.cell? ⟨w.heap.size + 1, 8, none⟩ = some (.int .i64 n') := q2.cell 8
  have f9 : w3.cell? ⟨w.heap.size, 9, none⟩ = some (.int .i64 l) := q1.cell 9
  have g9 : w3.cell? ⟨w.heap.size + 1, 9, none⟩ = some (.int .i64 l') := q2.cell 9
  have f10 : w3.cell? ⟨w.heap.size, 10, none⟩ = some (.slice A nk c) := q1.cell 10
  have g10 : w3.cell? ⟨w.heap.size + 1, 10, none⟩ = some (.slice A' nk' c') := q2.cell 10
  have HB3 := hide (HA2.out.trans (hb3.mono HA2.out.size))
  clear q1 q2 hb3 HE HA2 hW2 c0 c1 c2 d0 d1 d2
  go_wp2
  go_ret
  exact ⟨rfl, HB3.out⟩
set_option maxRecDepth 20000 in
set_option maxHeartbeats 1000000 in
theorem psame_7 (d e i s t : List UInt8) (a b b' l l' n n' : Int) (np np' nk nk' : Nat) (Ap Ap' A A' : Option Addr) (cp cp' c c' : Nat) (w : World) (HEq : ∀ W, Below w.heap.size w W → Calls Tryz.prog 38 #[.slice Ap np cp, .slice Ap' np' cp'] W fun e w' => e = .returned (.bool true) ∧ Below W.heap.size W w')  (hne : (b == b') = false) (hne2 : ¬ b = b') :
    Calls Tryz.prog 16 #[.agg #[.string ⟨t.toArray⟩, .string ⟨s.toArray⟩, .slice Ap np cp, .string ⟨i.toArray⟩, .string ⟨d.toArray⟩, .string ⟨e.toArray⟩, .int .i64 a, .int .i64 b, .int .i64 n, .int .i64 l, .slice A nk c], .agg #[.string ⟨t.toArray⟩, .string ⟨s.toArray⟩, .slice Ap' np' cp', .string ⟨i.toArray⟩, .string ⟨d.toArray⟩, .string ⟨e.toArray⟩, .int .i64 a, .int .i64 b', .int .i64 n', .int .i64 l', .slice A' nk' c']] w fun e w' => e = .returned (.bool false) ∧ Below w.heap.size w w' := by
  have hA1 := (Below.refl w.heap.size w).alloc (Nat.le_refl _) (.cells #[.string ⟨t.toArray⟩, .string ⟨s.toArray⟩, .slice Ap np cp, .string ⟨i.toArray⟩, .string ⟨d.toArray⟩, .string ⟨e.toArray⟩, .int .i64 a, .int .i64 b, .int .i64 n, .int .i64 l, .slice A nk c] 40)
  have hA2 := hA1.alloc hA1.size (.cells #[.string ⟨t.toArray⟩, .string ⟨s.toArray⟩, .slice Ap' np' cp', .string ⟨i.toArray⟩, .string ⟨d.toArray⟩, .string ⟨e.toArray⟩, .int .i64 a, .int .i64 b', .int .i64 n', .int .i64 l', .slice A' nk' c'] 40)
  have hK1 := (Blk.new w #[.string ⟨t.toArray⟩, .string ⟨s.toArray⟩, .slice Ap np cp, .string ⟨i.toArray⟩, .string ⟨d.toArray⟩, .string ⟨e.toArray⟩, .int .i64 a, .int .i64 b, .int .i64 n, .int .i64 l, .slice A nk c] 40).alloc (.cells #[.string ⟨t.toArray⟩, .string ⟨s.toArray⟩, .slice Ap' np' cp', .string ⟨i.toArray⟩, .string ⟨d.toArray⟩, .string ⟨e.toArray⟩, .int .i64 a, .int .i64 b', .int .i64 n', .int .i64 l', .slice A' nk' c'] 40)
  have hK2 := Blk.new (w.alloc (.cells #[.string ⟨t.toArray⟩, .string ⟨s.toArray⟩, .slice Ap np cp, .string ⟨i.toArray⟩, .string ⟨d.toArray⟩, .string ⟨e.toArray⟩, .int .i64 a, .int .i64 b, .int .i64 n, .int .i64 l, .slice A nk c] 40)) #[.string ⟨t.toArray⟩, .string ⟨s.toArray⟩, .slice Ap' np' cp', .string ⟨i.toArray⟩, .string ⟨d.toArray⟩, .string ⟨e.toArray⟩, .int .i64 a, .int .i64 b', .int .i64 n', .int .i64 l', .slice A' nk' c'] 40
  have hz : (w.alloc (.cells #[.string ⟨t.toArray⟩, .string ⟨s.toArray⟩, .slice Ap np cp, .string ⟨i.toArray⟩, .string ⟨d.toArray⟩, .string ⟨e.toArray⟩, .int .i64 a, .int .i64 b, .int .i64 n, .int .i64 l, .slice A nk c] 40)).heap.size = w.heap.size + 1 := World.size_alloc _ _
  rw [hz] at hK2
  have HE := hide (HEq _ hA2)
  obtain ⟨W2, hW2⟩ : ∃ W2, (w.alloc (.cells #[.string ⟨t.toArray⟩, .string ⟨s.toArray⟩, .slice Ap np cp, .string ⟨i.toArray⟩, .string ⟨d.toArray⟩, .string ⟨e.toArray⟩, .int .i64 a, .int .i64 b, .int .i64 n, .int .i64 l, .slice A nk c] 40)).alloc (.cells #[.string ⟨t.toArray⟩, .string ⟨s.toArray⟩, .slice Ap' np' cp', .string ⟨i.toArray⟩, .string ⟨d.toArray⟩, .string ⟨e.toArray⟩, .int .i64 a, .int .i64 b', .int .i64 n', .int .i64 l', .slice A' nk' c'] 40) = W2 := ⟨_, rfl⟩
  rw [hW2] at hA2 hK1 hK2 HE
  have c0 : W2.cell? ⟨w.heap.size, 0, none⟩ = some (.string ⟨t.toArray⟩) := hK1.cell 0
  have c1 : W2.cell? ⟨w.heap.size, 1, none⟩ = some (.string ⟨s.toArray⟩) := hK1.cell 1
  have c2 : W2.cell? ⟨w.heap.size, 2, none⟩ = some (.slice Ap np cp) := hK1.cell 2
  have d0 : W2.cell? ⟨w.heap.size + 1, 0, none⟩ = some (.string ⟨t.toArray⟩) := hK2.cell 0
  have d1 : W2.cell? ⟨w.heap.size + 1, 1, none⟩ = some (.string ⟨s.toArray⟩) := hK2.cell 1
  have d2 : W2.cell? ⟨w.heap.size + 1, 2, none⟩ = some (.slice Ap' np' cp') := hK2.cell 2
  have HK1 := hide hK1
  have HK2 := hide hK2
  have HA2 := hide hA2
  clear hA1 hA2 hK1 hK2 hz HEq
  go_enter Tryz.func16, Tryz.ntmps16
  go_wp2_with fail
  refine HE.out.mono ?_
  rintro e w3 ⟨rfl, hb3⟩
  have q1 := HK1.out.below hb3 HK1.out.lt
  have q2 := HK2.out.below hb3 HK2.out.lt
  have f3 : w3.cell? ⟨w.heap.size, 3, none⟩ = some (.string ⟨i.toArray⟩) := q1.cell 3
  have g3 : w3.cell? ⟨w.heap.size + 1, 3, none⟩ = some (.string ⟨i.toArray⟩) := q2.cell 3
  have f4 : w3.cell? ⟨w.heap.size, 4, none⟩ = some (.string ⟨d.toArray⟩) := q1.cell 4
  have g4 : w3.cell? ⟨w.heap.size + 1, 4, none⟩ = some (.string ⟨d.toArray⟩) := q2.cell 4
  have f5 : w3.cell? ⟨w.heap.size, 5, none⟩ = some (.string ⟨e.toArray⟩) := q1.cell 5
  have g5 : w3.cell? ⟨w.heap.size + 1, 5, none⟩ = some (.string ⟨e.toArray⟩) := q2.cell 5
  have f6 : w3.cell? ⟨w.heap.size, 6, none⟩ = some (.int .i64 a) := q1.cell 6
  have g6 : w3.cell? ⟨w.heap.size + 1, 6, none⟩ = some (.int .i64 a) := q2.cell 6
  have f7 : w3.cell? ⟨w.heap.size, 7, none⟩ = some (.int .i64 b) := q1.cell 7
  have g7 : w3.cell? ⟨w.heap.size + 1, 7, none⟩ = some (.int .i64 b') := q2.cell 7
  have f8 : w3.cell? ⟨w.heap.size, 8, none⟩ = some (.int .i64 n) := q1.cell 8
  have g8 : w3.cell? ⟨w.heap.size + 1, 8, none⟩ = some (.int .i64 n') := q2.cell 8
  have f9 : w3.cell? ⟨w.heap.size, 9, none⟩ = some (.int .i64 l) := q1.cell 9
  have g9 : w3.cell? ⟨w.heap.size + 1, 9, none⟩ = some (.int .i64 l') := q2.cell 9
  have f10 : w3.cell? ⟨w.heap.size, 10, none⟩ = some (.slice A nk c) := q1.cell 10
  have g10 : w3.cell? ⟨w.heap.size + 1, 10, none⟩ = some (.slice A' nk' c') := q2.cell 10
  have HB3 := hide (HA2.out.trans (hb3.mono HA2.out.size))
  clear q1 q2 hb3 HE HA2 hW2 c0 c1 c2 d0 d1 d2
  go_wp2
  go_ret
  exact ⟨rfl, HB3.out⟩
set_option maxRecDepth 20000 in
set_option maxHeartbeats 1000000 in
theorem psame_8 (d e i s t : List UInt8) (a b l l' n n' : Int) (np np' nk nk' : Nat) (Ap Ap' A A' : Option Addr) (cp cp' c c' : Nat) (w : World) (HEq : ∀ W, Below w.heap.size w W → Calls Tryz.prog 38 #[.slice Ap np cp, .slice Ap' np' cp'] W fun e w' => e = .returned (.bool true) ∧ Below W.heap.size W w')  (hne : (n == n') = false) (hne2 : ¬ n = n') :
    Calls Tryz.prog 16 #[.agg #[.string ⟨t.toArray⟩, .string ⟨s.toArray⟩, .slice Ap np cp, .string ⟨i.toArray⟩, .string ⟨d.toArray⟩, .string ⟨e.toArray⟩, .int .i64 a, .int .i64 b, .int .i64 n, .int .i64 l, .slice A nk c], .agg #[.string ⟨t.toArray⟩, .string ⟨s.toArray⟩, .slice Ap' np' cp', .string ⟨i.toArray⟩, .string ⟨d.toArray⟩, .string ⟨e.toArray⟩, .int .i64 a, .int .i64 b, .int .i64 n', .int .i64 l', .slice A' nk' c']] w fun e w' => e = .returned (.bool false) ∧ Below w.heap.size w w' := by
  have hA1 := (Below.refl w.heap.size w).alloc (Nat.le_refl _) (.cells #[.string ⟨t.toArray⟩, .string ⟨s.toArray⟩, .slice Ap np cp, .string ⟨i.toArray⟩, .string ⟨d.toArray⟩, .string ⟨e.toArray⟩, .int .i64 a, .int .i64 b, .int .i64 n, .int .i64 l, .slice A nk c] 40)
  have hA2 := hA1.alloc hA1.size (.cells #[.string ⟨t.toArray⟩, .string ⟨s.toArray⟩, .slice Ap' np' cp', .string ⟨i.toArray⟩, .string ⟨d.toArray⟩, .string ⟨e.toArray⟩, .int .i64 a, .int .i64 b, .int .i64 n', .int .i64 l', .slice A' nk' c'] 40)
  have hK1 := (Blk.new w #[.string ⟨t.toArray⟩, .string ⟨s.toArray⟩, .slice Ap np cp, .string ⟨i.toArray⟩, .string ⟨d.toArray⟩, .string ⟨e.toArray⟩, .int .i64 a, .int .i64 b, .int .i64 n, .int .i64 l, .slice A nk c] 40).alloc (.cells #[.string ⟨t.toArray⟩, .string ⟨s.toArray⟩, .slice Ap' np' cp', .string ⟨i.toArray⟩, .string ⟨d.toArray⟩, .string ⟨e.toArray⟩, .int .i64 a, .int .i64 b, .int .i64 n', .int .i64 l', .slice A' nk' c'] 40)
  have hK2 := Blk.new (w.alloc (.cells #[.string ⟨t.toArray⟩, .string ⟨s.toArray⟩, .slice Ap np cp, .string ⟨i.toArray⟩, .string ⟨d.toArray⟩, .string ⟨e.toArray⟩, .int .i64 a, .int .i64 b, .int .i64 n, .int .i64 l, .slice A nk c] 40)) #[.string ⟨t.toArray⟩, .string ⟨s.toArray⟩, .slice Ap' np' cp', .string ⟨i.toArray⟩, .string ⟨d.toArray⟩, .string ⟨e.toArray⟩, .int .i64 a, .int .i64 b, .int .i64 n', .int .i64 l', .slice A' nk' c'] 40
  have hz : (w.alloc (.cells #[.string ⟨t.toArray⟩, .string ⟨s.toArray⟩, .slice Ap np cp, .string ⟨i.toArray⟩, .string ⟨d.toArray⟩, .string ⟨e.toArray⟩, .int .i64 a, .int .i64 b, .int .i64 n, .int .i64 l, .slice A nk c] 40)).heap.size = w.heap.size + 1 := World.size_alloc _ _
  rw [hz] at hK2
  have HE := hide (HEq _ hA2)
  obtain ⟨W2, hW2⟩ : ∃ W2, (w.alloc (.cells #[.string ⟨t.toArray⟩, .string ⟨s.toArray⟩, .slice Ap np cp, .string ⟨i.toArray⟩, .string ⟨d.toArray⟩, .string ⟨e.toArray⟩, .int .i64 a, .int .i64 b, .int .i64 n, .int .i64 l, .slice A nk c] 40)).alloc (.cells #[.string ⟨t.toArray⟩, .string ⟨s.toArray⟩, .slice Ap' np' cp', .string ⟨i.toArray⟩, .string ⟨d.toArray⟩, .string ⟨e.toArray⟩, .int .i64 a, .int .i64 b, .int .i64 n', .int .i64 l', .slice A' nk' c'] 40) = W2 := ⟨_, rfl⟩
  rw [hW2] at hA2 hK1 hK2 HE
  have c0 : W2.cell? ⟨w.heap.size, 0, none⟩ = some (.string ⟨t.toArray⟩) := hK1.cell 0
  have c1 : W2.cell? ⟨w.heap.size, 1, none⟩ = some (.string ⟨s.toArray⟩) := hK1.cell 1
  have c2 : W2.cell? ⟨w.heap.size, 2, none⟩ = some (.slice Ap np cp) := hK1.cell 2
  have d0 : W2.cell? ⟨w.heap.size + 1, 0, none⟩ = some (.string ⟨t.toArray⟩) := hK2.cell 0
  have d1 : W2.cell? ⟨w.heap.size + 1, 1, none⟩ = some (.string ⟨s.toArray⟩) := hK2.cell 1
  have d2 : W2.cell? ⟨w.heap.size + 1, 2, none⟩ = some (.slice Ap' np' cp') := hK2.cell 2
  have HK1 := hide hK1
  have HK2 := hide hK2
  have HA2 := hide hA2
  clear hA1 hA2 hK1 hK2 hz HEq
  go_enter Tryz.func16, Tryz.ntmps16
  go_wp2_with fail
  refine HE.out.mono ?_
  rintro e w3 ⟨rfl, hb3⟩
  have q1 := HK1.out.below hb3 HK1.out.lt
  have q2 := HK2.out.below hb3 HK2.out.lt
  have f3 : w3.cell? ⟨w.heap.size, 3, none⟩ = some (.string ⟨i.toArray⟩) := q1.cell 3
  have g3 : w3.cell? ⟨w.heap.size + 1, 3, none⟩ = some (.string ⟨i.toArray⟩) := q2.cell 3
  have f4 : w3.cell? ⟨w.heap.size, 4, none⟩ = some (.string ⟨d.toArray⟩) := q1.cell 4
  have g4 : w3.cell? ⟨w.heap.size + 1, 4, none⟩ = some (.string ⟨d.toArray⟩) := q2.cell 4
  have f5 : w3.cell? ⟨w.heap.size, 5, none⟩ = some (.string ⟨e.toArray⟩) := q1.cell 5
  have g5 : w3.cell? ⟨w.heap.size + 1, 5, none⟩ = some (.string ⟨e.toArray⟩) := q2.cell 5
  have f6 : w3.cell? ⟨w.heap.size, 6, none⟩ = some (.int .i64 a) := q1.cell 6
  have g6 : w3.cell? ⟨w.heap.size + 1, 6, none⟩ = some (.int .i64 a) := q2.cell 6
  have f7 : w3.cell? ⟨w.heap.size, 7, none⟩ = some (.int .i64 b) := q1.cell 7
  have g7 : w3.cell? ⟨w.heap.size + 1, 7, none⟩ = some (.int .i64 b) := q2.cell 7
  have f8 : w3.cell? ⟨w.heap.size, 8, none⟩ = some (.int .i64 n) := q1.cell 8
  have g8 : w3.cell? ⟨w.heap.size + 1, 8, none⟩ = some (.int .i64 n') := q2.cell 8
  have f9 : w3.cell? ⟨w.heap.size, 9, none⟩ = some (.int .i64 l) := q1.cell 9
  have g9 : w3.cell? ⟨w.heap.size + 1, 9, none⟩ = some (.int .i64 l') := q2.cell 9
  have f10 : w3.cell? ⟨w.heap.size, 10, none⟩ = some (.slice A nk c) := q1.cell 10
  have g10 : w3.cell? ⟨w.heap.size + 1, 10, none⟩ = some (.slice A' nk' c') := q2.cell 10
  have HB3 := hide (HA2.out.trans (hb3.mono HA2.out.size))
  clear q1 q2 hb3 HE HA2 hW2 c0 c1 c2 d0 d1 d2
  go_wp2
  go_ret
  exact ⟨rfl, HB3.out⟩
set_option maxRecDepth 20000 in
set_option maxHeartbeats 1000000 in
theorem psame_9 (d e i s t : List UInt8) (a b l l' n : Int) (np np' nk nk' : Nat) (Ap Ap' A A' : Option Addr) (cp cp' c c' : Nat) (w : World) (HEq : ∀ W, Below w.heap.size w W → Calls Tryz.prog 38 #[.slice Ap np cp, .slice Ap' np' cp'] W fun e w' => e = .returned (.bool true) ∧ Below W.heap.size W w')  (hne : (l == l') = false) (hne2 : ¬ l = l') :
    Calls Tryz.prog 16 #[.agg #[.string ⟨t.toArray⟩, .string ⟨s.toArray⟩, .slice Ap np cp, .string ⟨i.toArray⟩, .string ⟨d.toArray⟩, .string ⟨e.toArray⟩, .int .i64 a, .int .i64 b, .int .i64 n, .int .i64 l, .slice A nk c], .agg #[.string ⟨t.toArray⟩, .string ⟨s.toArray⟩, .slice Ap' np' cp', .string ⟨i.toArray⟩, .string ⟨d.toArray⟩, .string ⟨e.toArray⟩, .int .i64 a, .int .i64 b, .int .i64 n, .int .i64 l', .slice A' nk' c']] w fun e w' => e = .returned (.bool false) ∧ Below w.heap.size w w' := by
  have hA1 := (Below.refl w.heap.size w).alloc (Nat.le_refl _) (.cells #[.string ⟨t.toArray⟩, .string ⟨s.toArray⟩, .slice Ap np cp, .string ⟨i.toArray⟩, .string ⟨d.toArray⟩, .string ⟨e.toArray⟩, .int .i64 a, .int .i64 b, .int .i64 n, .int .i64 l, .slice A nk c] 40)
  have hA2 := hA1.alloc hA1.size (.cells #[.string ⟨t.toArray⟩, .string ⟨s.toArray⟩, .slice Ap' np' cp', .string ⟨i.toArray⟩, .string ⟨d.toArray⟩, .string ⟨e.toArray⟩, .int .i64 a, .int .i64 b, .int .i64 n, .int .i64 l', .slice A' nk' c'] 40)
  have hK1 := (Blk.new w #[.string ⟨t.toArray⟩, .string ⟨s.toArray⟩, .slice Ap np cp, .string ⟨i.toArray⟩, .string ⟨d.toArray⟩, .string ⟨e.toArray⟩, .int .i64 a, .int .i64 b, .int .i64 n, .int .i64 l, .slice A nk c] 40).alloc (.cells #[.string ⟨t.toArray⟩, .string ⟨s.toArray⟩, .slice Ap' np' cp', .string ⟨i.toArray⟩, .string ⟨d.toArray⟩, .string ⟨e.toArray⟩, .int .i64 a, .int .i64 b, .int .i64 n, .int .i64 l', .slice A' nk' c'] 40)
  have hK2 := Blk.new (w.alloc (.cells #[.string ⟨t.toArray⟩, .string ⟨s.toArray⟩, .slice Ap np cp, .string ⟨i.toArray⟩, .string ⟨d.toArray⟩, .string ⟨e.toArray⟩, .int .i64 a, .int .i64 b, .int .i64 n, .int .i64 l, .slice A nk c] 40)) #[.string ⟨t.toArray⟩, .string ⟨s.toArray⟩, .slice Ap' np' cp', .string ⟨i.toArray⟩, .string ⟨d.toArray⟩, .string ⟨e.toArray⟩, .int .i64 a, .int .i64 b, .int .i64 n, .int .i64 l', .slice A' nk' c'] 40
  have hz : (w.alloc (.cells #[.string ⟨t.toArray⟩, .string ⟨s.toArray⟩, .slice Ap np cp, .string ⟨i.toArray⟩, .string ⟨d.toArray⟩, .string ⟨e.toArray⟩, .int .i64 a, .int .i64 b, .int .i64 n, .int .i64 l, .slice A nk c] 40)).heap.size = w.heap.size + 1 := World.size_alloc _ _
  rw [hz] at hK2
  have HE := hide (HEq _ hA2)
  obtain ⟨W2, hW2⟩ : ∃ W2, (w.alloc (.cells #[.string ⟨t.toArray⟩, .string ⟨s.toArray⟩, .slice Ap np cp, .string ⟨i.toArray⟩, .string ⟨d.toArray⟩, .string ⟨e.toArray⟩, .int .i64 a, .int .i64 b, .int .i64 n, .int .i64 l, .slice A nk c] 40)).alloc (.cells #[.string ⟨t.toArray⟩, .string ⟨s.toArray⟩, .slice Ap' np' cp', .string ⟨i.toArray⟩, .string ⟨d.toArray⟩, .string ⟨e.toArray⟩, .int .i64 a, .int .i64 b, .int .i64 n, .int .i64 l', .slice A' nk' c'] 40) = W2 := ⟨_, rfl⟩
  rw [hW2] at hA2 hK1 hK2 HE
  have c0 : W2.cell? ⟨w.heap.size, 0, none⟩ = some (.string ⟨t.toArray⟩) := hK1.cell 0
  have c1 : W2.cell? ⟨w.heap.size, 1, none⟩ = some (.string ⟨s.toArray⟩) := hK1.cell 1
  have c2 : W2.cell? ⟨w.heap.size, 2, none⟩ = some (.slice Ap np cp) := hK1.cell 2
  have d0 : W2.cell? ⟨w.heap.size + 1, 0, none⟩ = some (.string ⟨t.toArray⟩) := hK2.cell 0
  have d1 : W2.cell? ⟨w.heap.size + 1, 1, none⟩ = some (.string ⟨s.toArray⟩) := hK2.cell 1
  have d2 : W2.cell? ⟨w.heap.size + 1, 2, none⟩ = some (.slice Ap' np' cp') := hK2.cell 2
  have HK1 := hide hK1
  have HK2 := hide hK2
  have HA2 := hide hA2
  clear hA1 hA2 hK1 hK2 hz HEq
  go_enter Tryz.func16, Tryz.ntmps16
  go_wp2_with fail
  refine HE.out.mono ?_
  rintro e w3 ⟨rfl, hb3⟩
  have q1 := HK1.out.below hb3 HK1.out.lt
  have q2 := HK2.out.below hb3 HK2.out.lt
  have f3 : w3.cell? ⟨w.heap.size, 3, none⟩ = some (.string ⟨i.toArray⟩) := q1.cell 3
  have g3 : w3.cell? ⟨w.heap.size + 1, 3, none⟩ = some (.string ⟨i.toArray⟩) := q2.cell 3
  have f4 : w3.cell? ⟨w.heap.size, 4, none⟩ = some (.string ⟨d.toArray⟩) := q1.cell 4
  have g4 : w3.cell? ⟨w.heap.size + 1, 4, none⟩ = some (.string ⟨d.toArray⟩) := q2.cell 4
  have f5 : w3.cell? ⟨w.heap.size, 5, none⟩ = some (.string ⟨e.toArray⟩) := q1.cell 5
  have g5 : w3.cell? ⟨w.heap.size + 1, 5, none⟩ = some (.string ⟨e.toArray⟩) := q2.cell 5
  have f6 : w3.cell? ⟨w.heap.size, 6, none⟩ = some (.int .i64 a) := q1.cell 6
  have g6 : w3.cell? ⟨w.heap.size + 1, 6, none⟩ = some (.int .i64 a) := q2.cell 6
  have f7 : w3.cell? ⟨w.heap.size, 7, none⟩ = some (.int .i64 b) := q1.cell 7
  have g7 : w3.cell? ⟨w.heap.size + 1, 7, none⟩ = some (.int .i64 b) := q2.cell 7
  have f8 : w3.cell? ⟨w.heap.size, 8, none⟩ = some (.int .i64 n) := q1.cell 8
  have g8 : w3.cell? ⟨w.heap.size + 1, 8, none⟩ = some (.int .i64 n) := q2.cell 8
  have f9 : w3.cell? ⟨w.heap.size, 9, none⟩ = some (.int .i64 l) := q1.cell 9
  have g9 : w3.cell? ⟨w.heap.size + 1, 9, none⟩ = some (.int .i64 l') := q2.cell 9
  have f10 : w3.cell? ⟨w.heap.size, 10, none⟩ = some (.slice A nk c) := q1.cell 10
  have g10 : w3.cell? ⟨w.heap.size + 1, 10, none⟩ = some (.slice A' nk' c') := q2.cell 10
  have HB3 := hide (HA2.out.trans (hb3.mono HA2.out.size))
  clear q1 q2 hb3 HE HA2 hW2 c0 c1 c2 d0 d1 d2
  go_wp2
  go_ret
  exact ⟨rfl, HB3.out⟩
set_option maxRecDepth 20000 in
set_option maxHeartbeats 1000000 in
theorem psame_10 (d e i s t : List UInt8) (a b l n : Int) (np np' nk nk' : Nat) (Ap Ap' A A' : Option Addr) (cp cp' c c' : Nat) (w : World) (HEq : ∀ W, Below w.heap.size w W → Calls Tryz.prog 38 #[.slice Ap np cp, .slice Ap' np' cp'] W fun e w' => e = .returned (.bool true) ∧ Below W.heap.size W w') (sb : Bool) (HFn : ∀ W, Below w.heap.size w W → Calls Tryz.prog 39 #[.slice A nk c, .slice A' nk' c', .func (.func 16) #[] #[]] W fun e w' => e = .returned (.bool sb) ∧ Below W.heap.size W w')  :
    Calls Tryz.prog 16 #[.agg #[.string ⟨t.toArray⟩, .string ⟨s.toArray⟩, .slice Ap np cp, .string ⟨i.toArray⟩, .string ⟨d.toArray⟩, .string ⟨e.toArray⟩, .int .i64 a, .int .i64 b, .int .i64 n, .int .i64 l, .slice A nk c], .agg #[.string ⟨t.toArray⟩, .string ⟨s.toArray⟩, .slice Ap' np' cp', .string ⟨i.toArray⟩, .string ⟨d.toArray⟩, .string ⟨e.toArray⟩, .int .i64 a, .int .i64 b, .int .i64 n, .int .i64 l, .slice A' nk' c']] w fun e w' => e = .returned (.bool sb) ∧ Below w.heap.size w w' := by
  have hA1 := (Below.refl w.heap.size w).alloc (Nat.le_refl _) (.cells #[.string ⟨t.toArray⟩, .string ⟨s.toArray⟩, .slice Ap np cp, .string ⟨i.toArray⟩, .string ⟨d.toArray⟩, .string ⟨e.toArray⟩, .int .i64 a, .int .i64 b, .int .i64 n, .int .i64 l, .slice A nk c] 40)
  have hA2 := hA1.alloc hA1.size (.cells #[.string ⟨t.toArray⟩, .string ⟨s.toArray⟩, .slice Ap' np' cp', .string ⟨i.toArray⟩, .string ⟨d.toArray⟩, .string ⟨e.toArray⟩, .int .i64 a, .int .i64 b, .int .i64 n, .int .i64 l, .slice A' nk' c'] 40)
  have hK1 := (Blk.new w #[.string ⟨t.toArray⟩, .string ⟨s.toArray⟩, .slice Ap np cp, .string ⟨i.toArray⟩, .string ⟨d.toArray⟩, .string ⟨e.toArray⟩, .int .i64 a, .int .i64 b, .int .i64 n, .int .i64 l, .slice A nk c] 40).alloc (.cells #[.string ⟨t.toArray⟩, .string ⟨s.toArray⟩, .slice Ap' np' cp', .string ⟨i.toArray⟩, .string ⟨d.toArray⟩, .string ⟨e.toArray⟩, .int .i64 a, .int .i64 b, .int .i64 n, .int .i64 l, .slice A' nk' c'] 40)
  have hK2 := Blk.new (w.alloc (.cells #[.string ⟨t.toArray⟩, .string ⟨s.toArray⟩, .slice Ap np cp, .string ⟨i.toArray⟩, .string ⟨d.toArray⟩, .string ⟨e.toArray⟩, .int .i64 a, .int .i64 b, .int .i64 n, .int .i64 l, .slice A nk c] 40)) #[.string ⟨t.toArray⟩, .string ⟨s.toArray⟩, .slice Ap' np' cp', .string ⟨i.toArray⟩, .string ⟨d.toArray⟩, .string ⟨e.toArray⟩, .int .i64 a, .int .i64 b, .int .i64 n, .int .i64 l, .slice A' nk' c'] 40
  have hz : (w.alloc (.cells #[.string ⟨t.toArray⟩, .string ⟨s.toArray⟩, .slice Ap np cp, .string ⟨i.toArray⟩, .string ⟨d.toArray⟩, .string ⟨e.toArray⟩, .int .i64 a, .int .i64 b, .int .i64 n, .int .i64 l, .slice A nk c] 40)).heap.size = w.heap.size + 1 := World.size_alloc _ _
  rw [hz] at hK2
  have HE := hide (HEq _ hA2)
  obtain ⟨W2, hW2⟩ : ∃ W2, (w.alloc (.cells #[.string ⟨t.toArray⟩, .string ⟨s.toArray⟩, .slice Ap np cp, .string ⟨i.toArray⟩, .string ⟨d.toArray⟩, .string ⟨e.toArray⟩, .int .i64 a, .int .i64 b, .int .i64 n, .int .i64 l, .slice A nk c] 40)).alloc (.cells #[.string ⟨t.toArray⟩, .string ⟨s.toArray⟩, .slice Ap' np' cp', .string ⟨i.toArray⟩, .string ⟨d.toArray⟩, .string ⟨e.toArray⟩, .int .i64 a, .int .i64 b, .int .i64 n, .int .i64 l, .slice A' nk' c'] 40) = W2 := ⟨_, rfl⟩
  rw [hW2] at hA2 hK1 hK2 HE
  have c0 : W2.cell? ⟨w.heap.size, 0, none⟩ = some (.string ⟨t.toArray⟩) := hK1.cell 0
  have c1 : W2.cell? ⟨w.heap.size, 1, none⟩ = some (.string ⟨s.toArray⟩) := hK1.cell 1
  have c2 : W2.cell? ⟨w.heap.size, 2, none⟩ = some (.slice Ap np cp) := hK1.cell 2
  have d0 : W2.cell? ⟨w.heap.size + 1, 0, none⟩ = some (.string ⟨t.toArray⟩) := hK2.cell 0
  have d1 : W2.cell? ⟨w.heap.size + 1, 1, none⟩ = some (.string ⟨s.toArray⟩) := hK2.cell 1
  have d2 : W2.cell? ⟨w.heap.size + 1, 2, none⟩ = some (.slice Ap' np' cp') := hK2.cell 2
  have HK1 := hide hK1
  have HK2 := hide hK2
  have HA2 := hide hA2
  have HFf := hide HFn
  clear hA1 hA2 hK1 hK2 hz HEq HFn
  go_enter Tryz.func16, Tryz.ntmps16
  go_wp2_with fail
  refine HE.out.mono ?_
  rintro e w3 ⟨rfl, hb3⟩
  have q1 := HK1.out.below hb3 HK1.out.lt
  have q2 := HK2.out.below hb3 HK2.out.lt
  have f3 : w3.cell? ⟨w.heap.size, 3, none⟩ = some (.string ⟨i.toArray⟩) := q1.cell 3
  have g3 : w3.cell? ⟨w.heap.size + 1, 3, none⟩ = some (.string ⟨i.toArray⟩) := q2.cell 3
  have f4 : w3.cell? ⟨w.heap.size, 4, none⟩ = some (.string ⟨d.toArray⟩) := q1.cell 4
  have g4 : w3.cell? ⟨w.heap.size + 1, 4, none⟩ = some (.string ⟨d.toArray⟩) := q2.cell 4
  have f5 : w3.cell? ⟨w.heap.size, 5, none⟩ = some (.string ⟨e.toArray⟩) := q1.cell 5
  have g5 : w3.cell? ⟨w.heap.size + 1, 5, none⟩ = some (.string ⟨e.toArray⟩) := q2.cell 5
  have f6 : w3.cell? ⟨w.heap.size, 6, none⟩ = some (.int .i64 a) := q1.cell 6
  have g6 : w3.cell? ⟨w.heap.size + 1, 6, none⟩ = some (.int .i64 a) := q2.cell 6
  have f7 : w3.cell? ⟨w.heap.size, 7, none⟩ = some (.int .i64 b) := q1.cell 7
  have g7 : w3.cell? ⟨w.heap.size + 1, 7, none⟩ = some (.int .i64 b) := q2.cell 7
  have f8 : w3.cell? ⟨w.heap.size, 8, none⟩ = some (.int .i64 n) := q1.cell 8
  have g8 : w3.cell? ⟨w.heap.size + 1, 8, none⟩ = some (.int .i64 n) := q2.cell 8
  have f9 : w3.cell? ⟨w.heap.size, 9, none⟩ = some (.int .i64 l) := q1.cell 9
  have g9 : w3.cell? ⟨w.heap.size + 1, 9, none⟩ = some (.int .i64 l) := q2.cell 9
  have f10 : w3.cell? ⟨w.heap.size, 10, none⟩ = some (.slice A nk c) := q1.cell 10
  have g10 : w3.cell? ⟨w.heap.size + 1, 10, none⟩ = some (.slice A' nk' c') := q2.cell 10
  have HB3 := hide (HA2.out.trans (hb3.mono HA2.out.size))
  clear q1 q2 hb3 HE HA2 hW2 c0 c1 c2 d0 d1 d2
  go_wp2_with fail
  refine (HFf.out _ HB3.out).mono ?_
  rintro e w4 ⟨rfl, hb4⟩
  have HB4 := hide (HB3.out.trans (hb4.mono HB3.out.size))
  clear hb4
  go_wp2
  go_ret
  exact ⟨rfl, HB4.out⟩
end Go.Proofs.YtegplihhbdmnbaaGreatDoor
