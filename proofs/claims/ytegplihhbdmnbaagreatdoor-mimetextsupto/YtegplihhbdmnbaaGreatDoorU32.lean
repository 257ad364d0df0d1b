/- The document's Same, of two parts that differ at the top. -/
import Derived.Test.YtegplihhbdmnbaaGreatDoorU30
import Derived.Test.YtegplihhbdmnbaaGreatDoorU31
set_option linter.unusedSimpArgs false
set_option linter.unusedVariables false
namespace Go.Proofs.YtegplihhbdmnbaaGreatDoor
open Go.RowKit Go.Shelf
theorem beq_no {α : Type} [BEq α] [LawfulBEq α] {a b : α} (h : a ≠ b) : (a == b) = false := by simpa using h
/-- What is looked at ahead of the lists. -/
def topD (h h' : PH) (np np' nk nk' : Nat) : Prop := h.type ≠ h'.type ∨ h.sub ≠ h'.sub ∨ h.id ≠ h'.id ∨ h.desc ≠ h'.desc ∨ h.enc ≠ h'.enc ∨ h.at' ≠ h'.at' ∨ h.body ≠ h'.body ∨ h.end' ≠ h'.end' ∨ h.lines ≠ h'.lines ∨ np ≠ np' ∨ nk ≠ nk'
instance (h h' : PH) (np np' nk nk' : Nat) : Decidable (topD h h' np np' nk nk') := by unfold topD; exact inferInstance
set_option maxRecDepth 20000 in
set_option maxHeartbeats 1000000 in
theorem rsameV_no0 (d d' e e' i i' s s' t t' : List UInt8) (a a' b b' l l' n n' : Int) (k k' p p' : Nat) (Ap Ap' A A' : Option Addr) (cp cp' c c' : Nat) (w : World) (hbk : k ≤ 140737488355328) (hbk' : k' ≤ 140737488355328) (hbp : p ≤ 140737488355328) (hbp' : p' ≤ 140737488355328) (hne : (t == t') = false) :
    Calls Tryz.prog 17 #[.agg #[.string ⟨t.toArray⟩, .string ⟨s.toArray⟩, .slice Ap p cp, .string ⟨i.toArray⟩, .string ⟨d.toArray⟩, .string ⟨e.toArray⟩, .int .i64 a, .int .i64 b, .int .i64 n, .int .i64 l, .slice A k c], .agg #[.string ⟨t'.toArray⟩, .string ⟨s'.toArray⟩, .slice Ap' p' cp', .string ⟨i'.toArray⟩, .string ⟨d'.toArray⟩, .string ⟨e'.toArray⟩, .int .i64 a', .int .i64 b', .int .i64 n', .int .i64 l', .slice A' k' c']] w fun e w' => e = .returned (.bool false) ∧ Below w.heap.size w w' := by
  have hA1 := (Below.refl w.heap.size w).alloc (Nat.le_refl _) (.cells #[.string ⟨t.toArray⟩, .string ⟨s.toArray⟩, .slice Ap p cp, .string ⟨i.toArray⟩, .string ⟨d.toArray⟩, .string ⟨e.toArray⟩, .int .i64 a, .int .i64 b, .int .i64 n, .int .i64 l, .slice A k c] 40)
  have hA2 := hA1.alloc hA1.size (.cells #[.string ⟨t'.toArray⟩, .string ⟨s'.toArray⟩, .slice Ap' p' cp', .string ⟨i'.toArray⟩, .string ⟨d'.toArray⟩, .string ⟨e'.toArray⟩, .int .i64 a', .int .i64 b', .int .i64 n', .int .i64 l', .slice A' k' c'] 40)
  have HA2 := hide hA2
  clear hA1 hA2
  go_enter Tryz.func17, Tryz.ntmps17
  go_wp2
  go_ret
  exact ⟨rfl, HA2.out⟩
set_option maxRecDepth 20000 in
set_option maxHeartbeats 1000000 in
theorem rsameV_no1 (d d' e e' i i' s s' t : List UInt8) (a a' b b' l l' n n' : Int) (k k' p p' : Nat) (Ap Ap' A A' : Option Addr) (cp cp' c c' : Nat) (w : World) (hbk : k ≤ 140737488355328) (hbk' : k' ≤ 140737488355328) (hbp : p ≤ 140737488355328) (hbp' : p' ≤ 140737488355328) (hne : (s == s') = false) :
    Calls Tryz.prog 17 #[.agg #[.string ⟨t.toArray⟩, .string ⟨s.toArray⟩, .slice Ap p cp, .string ⟨i.toArray⟩, .string ⟨d.toArray⟩, .string ⟨e.toArray⟩, .int .i64 a, .int .i64 b, .int .i64 n, .int .i64 l, .slice A k c], .agg #[.string ⟨t.toArray⟩, .string ⟨s'.toArray⟩, .slice Ap' p' cp', .string ⟨i'.toArray⟩, .string ⟨d'.toArray⟩, .string ⟨e'.toArray⟩, .int .i64 a', .int .i64 b', .int .i64 n', .int .i64 l', .slice A' k' c']] w fun e w' => e = .returned (.bool false) ∧ Below w.heap.size w w' := by
  have hA1 := (Below.refl w.heap.size w).alloc (Nat.le_refl _) (.cells #[.string ⟨t.toArray⟩, .string ⟨s.toArray⟩, .slice Ap p cp, .string ⟨i.toArray⟩, .string ⟨d.toArray⟩, .string ⟨e.toArray⟩, .int .i64 a, .int .i64 b, .int .i64 n, .int .i64 l, .slice A k c] 40)
  have hA2 := hA1.alloc hA1.size (.cells #[.string ⟨t.toArray⟩, .string ⟨s'.toArray⟩, .slice Ap' p' cp', .string ⟨i'.toArray⟩, .string ⟨d'.toArray⟩, .string ⟨e'.toArray⟩, .int .i64 a', .int .i64 b', .int .i64 n', .int .i64 l', .slice A' k' c'] 40)
  have HA2 := hide hA2
  clear hA1 hA2
  go_enter Tryz.func17, Tryz.ntmps17
  go_wp2
  go_ret
  exact ⟨rfl, HA2.out⟩
set_option maxRecDepth 20000 in
set_option maxHeartbeats 1000000 in
theorem rsameV_no2 (d d' e e' i i' s t : List UInt8) (a a' b b' l l' n n' : Int) (k k' p p' : Nat) (Ap Ap' A A' : Option Addr) (cp cp' c c' : Nat) (w : World) (hbk : k ≤ 140737488355328) (hbk' : k' ≤ 140737488355328) (hbp : p ≤ 140737488355328) (hbp' : p' ≤ 140737488355328) (hne : (i == i') = false) :
    Calls Tryz.prog 17 #[.agg #[.string ⟨t.toArray⟩, .string ⟨s.toArray⟩, .slice Ap p cp, .string ⟨i.toArray⟩, .string ⟨d.toArray⟩, .string ⟨e.toArray⟩, .int .i64 a, .int .i64 b, .int .i64 n, .int .i64 l, .slice A k c], .agg #[.string ⟨t.toArray⟩, .string ⟨s.toArray⟩, .slice Ap' p' cp', .string ⟨i'.toArray⟩, .string ⟨d'.toArray⟩, .string ⟨e'.toArray⟩, .int .i64 a', .int .i64 b', .int .i64 n', .int .i64 l', .slice A' k' c']] w fun e w' => e = .returned (.bool false) ∧ Below w.heap.size w w' := by
  have hA1 := (Below.refl w.heap.size w).alloc (Nat.le_refl _) (.cells #[.string ⟨t.toArray⟩, .string ⟨s.toArray⟩, .slice Ap p cp, .string ⟨i.toArray⟩, .string ⟨d.toArray⟩, .string ⟨e.toArray⟩, .int .i64 a, .int .i64 b, .int .i64 n, .int .i64 l, .slice A k c] 40)
  have hA2 := hA1.alloc hA1.size (.cells #[.string ⟨t.toArray⟩, .string ⟨s.toArray⟩, .slice Ap' p' cp', .string ⟨i'.toArray⟩, .string ⟨d'.toArray⟩, .string ⟨e'.toArray⟩, .int .i64 a', .int .i64 b', .int .i64 n', .int .i64 l', .slice A' k' c'] 40)
  have HA2 := hide hA2
  clear hA1 hA2
  go_enter Tryz.func17, Tryz.ntmps17
  go_wp2
  go_ret
  exact ⟨rfl, HA2.out⟩
set_option maxRecDepth 20000 in
set_option maxHeartbeats 1000000 in
theorem rsameV_no3 (d d' e e' i s t : List UInt8) (a a' b b' l l' n n' : Int) (k k' p p' : Nat) (Ap Ap' A A' : Option Addr) (cp cp' c c' : Nat) (w : World) (hbk : k ≤ 140737488355328) (hbk' : k' ≤ 140737488355328) (hbp : p ≤ 140737488355328) (hbp' : p' ≤ 140737488355328) (hne : (d == d') = false) :
    Calls Tryz.prog 17 #[.agg #[.string ⟨t.toArray⟩, .string ⟨s.toArray⟩, .slice Ap p cp, .string ⟨i.toArray⟩, .string ⟨d.toArray⟩, .string ⟨e.toArray⟩, .int .i64 a, .int .i64 b, .int .i64 n, .int .i64 l, .slice A k c], .agg #[.string ⟨t.toArray⟩, .string ⟨s.toArray⟩, .slice Ap' p' cp', .string ⟨i.toArray⟩, .string ⟨d'.toArray⟩, .string ⟨e'.toArray⟩, .int .i64 a', .int .i64 b', .int .i64 n', .int .i64 l', .slice A' k' c']] w fun e w' => e = .returned (.bool false) ∧ Below w.heap.size w w' := by
  have hA1 := (Below.refl w.heap.size w).alloc (Nat.le_refl _) (.cells #[.string ⟨t.toArray⟩, .string ⟨s.toArray⟩, .slice Ap p cp, .string ⟨i.toArray⟩, .string ⟨d.toArray⟩, .string ⟨e.toArray⟩, .int .i64 a, .int .i64 b, .int .i64 n, .int .i64 l, .slice A k c] 40)
  have hA2 := hA1.alloc hA1.size (.cells #[.string ⟨t.toArray⟩, .string ⟨s.toArray⟩, .slice Ap' p' cp', .string ⟨i.toArray⟩, .string ⟨d'.toArray⟩, .string ⟨e'.toArray⟩, .int .i64 a', .int .i64 b', .int .i64 n', .int .i64 l', .slice A' k' c'] 40)
  have HA2 := hide hA2
  clear hA1 hA2
  go_enter Tryz.func17, Tryz.ntmps17
  go_wp2
  go_ret
  exact ⟨rfl, HA2.out⟩
set_option maxRecDepth 20000 in
set_option maxHeartbeats 1000000 in
theorem rsameV_no4 (d e e' i s t : List UInt8) (a a' b b' l l' n n' : Int) (k k' p p' : Nat) (Ap Ap' A A' : Option Addr) (cp cp' c c' : Nat) (w : World) (hbk : k ≤ 140737488355328) (hbk' : k' ≤ 140737488355328) (hbp : p ≤ 140737488355328) (hbp' : p' ≤ 140737488355328) (hne : (e == e') = false) :
    Calls Tryz.prog 17 #[.agg #[.string ⟨t.toArray⟩, .string ⟨s.toArray⟩, .slice Ap p cp, .string ⟨i.toArray⟩, .string ⟨d.toArray⟩, .string ⟨e.toArray⟩, .int .i64 a, .int .i64 b, .int .i64 n, .int .i64 l, .slice A k c], .agg #[.string ⟨t.toArray⟩, .string ⟨s.toArray⟩, .slice Ap' p' cp', .string ⟨i.toArray⟩, .string ⟨d.toArray⟩, .string ⟨e'.toArray⟩, .int .i64 a', .int .i64 b', .int .i64 n', .int .i64 l', .slice A' k' c']] w fun e w' => e = .returned (.bool false) ∧ Below w.heap.size w w' := by
  have hA1 := (Below.refl w.heap.size w).alloc (Nat.le_refl _) (.cells #[.string ⟨t.toArray⟩, .string ⟨s.toArray⟩, .slice Ap p cp, .string ⟨i.toArray⟩, .string ⟨d.toArray⟩, .string ⟨e.toArray⟩, .int .i64 a, .int .i64 b, .int .i64 n, .int .i64 l, .slice A k c] 40)
  have hA2 := hA1.alloc hA1.size (.cells #[.string ⟨t.toArray⟩, .string ⟨s.toArray⟩, .slice Ap' p' cp', .string ⟨i.toArray⟩, .string ⟨d.toArray⟩, .string ⟨e'.toArray⟩, .int .i64 a', .int .i64 b', .int .i64 n', .int .i64 l', .slice A' k' c'] 40)
  have HA2 := hide hA2
  clear hA1 hA2
  go_enter Tryz.func17, Tryz.ntmps17
  go_wp2
  go_ret
  exact ⟨rfl, HA2.out⟩
set_option maxRecDepth 20000 in
set_option maxHeartbeats 1000000 in
theorem rsameV_no5 (d e i s t : List UInt8) (a a' b b' l l' n n' : Int) (k k' p p' : Nat) (Ap Ap' A A' : Option Addr) (cp cp' c c' : Nat) (w : World) (hbk : k ≤ 140737488355328) (hbk' : k' ≤ 140737488355328) (hbp : p ≤ 140737488355328) (hbp' : p' ≤ 140737488355328) (hne : (a == a') = false) (hne2 : ¬ a = a') :
    Calls Tryz.prog 17 #[.agg #[.string ⟨t.toArray⟩, .string ⟨s.toArray⟩, .slice Ap p cp, .string ⟨i.toArray⟩, .string ⟨d.toArray⟩, .string ⟨e.toArray⟩, .int .i64 a, .int .i64 b, .int .i64 n, .int .i64 l, .slice A k c], .agg #[.string ⟨t.toArray⟩, .string ⟨s.toArray⟩, .slice Ap' p' cp', .string ⟨i.toArray⟩, .string ⟨d.toArray⟩, .string ⟨e.toArray⟩, .int .i64 a', .int .i64 b', .int .i64 n', .int .i64 l', .slice A' k' c']] w fun e w' => e = .returned (.bool false) ∧ Below w.heap.size w w' := by
  have hA1 := (Below.refl w.heap.size w).alloc (Nat.le_refl _) (.cells #[.string ⟨t.toArray⟩, .string ⟨s.toArray⟩, .slice Ap p cp, .string ⟨i.toArray⟩, .string ⟨d.toArray⟩, .string ⟨e.toArray⟩, .int .i64 a, .int .i64 b, .int .i64 n, .int .i64 l, .slice A k c] 40)
  have hA2 := hA1.alloc hA1.size (.cells #[.string ⟨t.toArray⟩, .string ⟨s.toArray⟩, .slice Ap' p' cp', .string ⟨i.toArray⟩, .string ⟨d.toArray⟩, .string ⟨e.toArray⟩, .int .i64 a', .int .i64 b', .int .i64 n', .int .i64 l', .slice A' k' c'] 40)
  have HA2 := hide hA2
  clear hA1 hA2
  go_enter Tryz.func17, Tryz.ntmps17
  go_wp2
  go_ret
  exact ⟨rfl, HA2.out⟩
set_option maxRecDepth 20000 in
set_option maxHeartbeats 1000000 in
theorem rsameV_no6 (d e i s t : List UInt8) (a b b' l l' n n' : Int) (k k' p p' : Nat) (Ap Ap' A A' : Option Addr) (cp cp' c c' : Nat) (w : World) (hbk : k ≤ 140737488355328) (hbk' : k' ≤ 140737488355328) (hbp : p ≤ 140737488355328) (hbp' : p' ≤ 140737488355328) (hne : (b == b') = false) (hne2 : ¬ b = b') :
    Calls Tryz.prog 17 #[.agg #[.string ⟨t.toArray⟩, .string ⟨s.toArray⟩, .slice Ap p cp, .string ⟨i.toArray⟩, .string ⟨d.toArray⟩, .string ⟨e.toArray⟩, .int .i64 a, .int .i64 b, .int .i64 n, .int .i64 l, .slice A k c], .agg #[.string ⟨t.toArray⟩, .string ⟨s.toArray⟩, .slice Ap' p' cp', .string ⟨i.toArray⟩, .string ⟨d.toArray⟩, .string ⟨e.toArray⟩, .int .i64 a, .int .i64 b', .int .i64 n', .int .i64 l', .slice A' k' c']] w fun e w' => e = .returned (.bool false) ∧ Below w.heap.size w w' := by
  have hA1 := (Below.refl w.heap.size w).alloc (Nat.le_refl _) (.cells #[.string ⟨t.toArray⟩, .string ⟨s.toArray⟩, .slice Ap p cp, .string ⟨i.toArray⟩, .string ⟨d.toArray⟩, .string ⟨e.toArray⟩, .int .i64 a, .int .i64 b, .int .i64 n, .int .i64 l, .slice A k c] 40)
  have hA2 := hA1.alloc hA1.size (.cells #[.string ⟨t.toArray⟩, .string ⟨s.toArray⟩, .slice Ap' p' cp', .string ⟨i.toArray⟩, .string ⟨d.toArray⟩, .string ⟨e.toArray⟩, .int .i64 a, .int .i64 b', .int .i64 n', .int .i64 l', .slice A' k' c'] 40)
  have HA2 := hide hA2
  clear hA1 hA2
  go_enter Tryz.func17, Tryz.ntmps17
  go_wp2
  go_ret
  exact ⟨rfl, HA2.out⟩
set_option maxRecDepth 20000 in
set_option maxHeartbeats 1000000 in
theorem rsameV_no7 (d e i s t : List UInt8) (a b l l' n n' : Int) (k k' p p' : Nat) (Ap Ap' A A' : Option Addr) (cp cp' c c' : Nat) (w : World) (hbk : k ≤ 140737488355328) (hbk' : k' ≤ 140737488355328) (hbp : p ≤ 140737488355328) (hbp' : p' ≤ 140737488355328) (hne : (n == n') = false) (hne2 : ¬ n = n') :
    Calls Tryz.prog 17 #[.agg #[.string ⟨t.toArray⟩, .string ⟨s.toArray⟩, .slice Ap p cp, .string ⟨i.toArray⟩, .string ⟨d.toArray⟩, .string ⟨e.toArray⟩, .int .i64 a, .int .i64 b, .int .i64 n, .int .i64 l, .slice A k c], .agg #[.string ⟨t.toArray⟩, .string ⟨s.toArray⟩, .slice Ap' p' cp', .string ⟨i.toArray⟩, .string ⟨d.toArray⟩, .string ⟨e.toArray⟩, .int .i64 a, .int .i64 b, .int .i64 n', .int .i64 l', .slice A' k' c']] w fun e w' => e = .returned (.bool false) ∧ Below w.heap.size w w' := by
  have hA1 := (Below.refl w.heap.size w).alloc (Nat.le_refl _) (.cells #[.string ⟨t.toArray⟩, .string ⟨s.toArray⟩, .slice Ap p cp, .string ⟨i.toArray⟩, .string ⟨d.toArray⟩, .string ⟨e.toArray⟩, .int .i64 a, .int .i64 b, .int .i64 n, .int .i64 l, .slice A k c] 40)
  have hA2 := hA1.alloc hA1.size (.cells #[.string ⟨t.toArray⟩, .string ⟨s.toArray⟩, .slice Ap' p' cp', .string ⟨i.toArray⟩, .string ⟨d.toArray⟩, .string ⟨e.toArray⟩, .int .i64 a, .int .i64 b, .int .i64 n', .int .i64 l', .slice A' k' c'] 40)
  have HA2 := hide hA2
  clear hA1 hA2
  go_enter Tryz.func17, Tryz.ntmps17
  go_wp2
  go_ret
  exact ⟨rfl, HA2.out⟩
set_option maxRecDepth 20000 in
set_option maxHeartbeats 1000000 in
theorem rsameV_no8 (d e i s t : List UInt8) (a b l l' n : Int) (k k' p p' : Nat) (Ap Ap' A A' : Option Addr) (cp cp' c c' : Nat) (w : World) (hbk : k ≤ 140737488355328) (hbk' : k' ≤ 140737488355328) (hbp : p ≤ 140737488355328) (hbp' : p' ≤ 140737488355328) (hne : (l == l') = false) (hne2 : ¬ l = l') :
    Calls Tryz.prog 17 #[.agg #[.string ⟨t.toArray⟩, .string ⟨s.toArray⟩, .slice Ap p cp, .string ⟨i.toArray⟩, .string ⟨d.toArray⟩, .string ⟨e.toArray⟩, .int .i64 a, .int .i64 b, .int .i64 n, .int .i64 l, .slice A k c], .agg #[.string ⟨t.toArray⟩, .string ⟨s.toArray⟩, .slice Ap' p' cp', .string ⟨i.toArray⟩, .string ⟨d.toArray⟩, .string ⟨e.toArray⟩, .int .i64 a, .int .i64 b, .int .i64 n, .int .i64 l', .slice A' k' c']] w fun e w' => e = .returned (.bool false) ∧ Below w.heap.size w w' := by
  have hA1 := (Below.refl w.heap.size w).alloc (Nat.le_refl _) (.cells #[.string ⟨t.toArray⟩, .string ⟨s.toArray⟩, .slice Ap p cp, .string ⟨i.toArray⟩, .string ⟨d.toArray⟩, .string ⟨e.toArray⟩, .int .i64 a, .int .i64 b, .int .i64 n, .int .i64 l, .slice A k c] 40)
  have hA2 := hA1.alloc hA1.size (.cells #[.string ⟨t.toArray⟩, .string ⟨s.toArray⟩, .slice Ap' p' cp', .string ⟨i.toArray⟩, .string ⟨d.toArray⟩, .string ⟨e.toArray⟩, .int .i64 a, .int .i64 b, .int .i64 n, .int .i64 l', .slice A' k' c'] 40)
  have HA2 := hide hA2
  clear hA1 hA2
  go_enter Tryz.func17, Tryz.ntmps17
  go_wp2
  go_ret
  exact ⟨rfl, HA2.out⟩
set_option maxRecDepth 20000 in
set_option maxHeartbeats 1000000 in
theorem rsameV_no9 (d e i s t : List UInt8) (a b l n : Int) (k k' p p' : Nat) (Ap Ap' A A' : Option Addr) (cp cp' c c' : Nat) (w : World) (hbk : k ≤ 140737488355328) (hbk' : k' ≤ 140737488355328) (hbp : p ≤ 140737488355328) (hbp' : p' ≤ 140737488355328) (hne : (((p : Nat) : Int) == ((p' : Nat) : Int)) = false) (hne2 : ¬ p = p') :
    Calls Tryz.prog 17 #[.agg #[.string ⟨t.toArray⟩, .string ⟨s.toArray⟩, .slice Ap p cp, .string ⟨i.toArray⟩, .string ⟨d.toArray⟩, .string ⟨e.toArray⟩, .int .i64 a, .int .i64 b, .int .i64 n, .int .i64 l, .slice A k c], .agg #[.string ⟨t.toArray⟩, .string ⟨s.toArray⟩, .slice Ap' p' cp', .string ⟨i.toArray⟩, .string ⟨d.toArray⟩, .string ⟨e.toArray⟩, .int .i64 a, .int .i64 b, .int .i64 n, .int .i64 l, .slice A' k' c']] w fun e w' => e = .returned (.bool false) ∧ Below w.heap.size w w' := by
  have hA1 := (Below.refl w.heap.size w).alloc (Nat.le_refl _) (.cells #[.string ⟨t.toArray⟩, .string ⟨s.toArray⟩, .slice Ap p cp, .string ⟨i.toArray⟩, .string ⟨d.toArray⟩, .string ⟨e.toArray⟩, .int .i64 a, .int .i64 b, .int .i64 n, .int .i64 l, .slice A k c] 40)
  have hA2 := hA1.alloc hA1.size (.cells #[.string ⟨t.toArray⟩, .string ⟨s.toArray⟩, .slice Ap' p' cp', .string ⟨i.toArray⟩, .string ⟨d.toArray⟩, .string ⟨e.toArray⟩, .int .i64 a, .int .i64 b, .int .i64 n, .int .i64 l, .slice A' k' c'] 40)
  have HA2 := hide hA2
  clear hA1 hA2
  go_enter Tryz.func17, Tryz.ntmps17
  go_wp2
  go_ret
  exact ⟨rfl, HA2.out⟩
set_option maxRecDepth 20000 in
set_option maxHeartbeats 1000000 in
theorem rsameV_no10 (d e i s t : List UInt8) (a b l n : Int) (k k' p : Nat) (Ap Ap' A A' : Option Addr) (cp cp' c c' : Nat) (w : World) (hbk : k ≤ 140737488355328) (hbk' : k' ≤ 140737488355328) (hbp : p ≤ 140737488355328) (hne : (((k : Nat) : Int) == ((k' : Nat) : Int)) = false) (hne2 : ¬ k = k') :
    Calls Tryz.prog 17 #[.agg #[.string ⟨t.toArray⟩, .string ⟨s.toArray⟩, .slice Ap p cp, .string ⟨i.toArray⟩, .string ⟨d.toArray⟩, .string ⟨e.toArray⟩, .int .i64 a, .int .i64 b, .int .i64 n, .int .i64 l, .slice A k c], .agg #[.string ⟨t.toArray⟩, .string ⟨s.toArray⟩, .slice Ap' p cp', .string ⟨i.toArray⟩, .string ⟨d.toArray⟩, .string ⟨e.toArray⟩, .int .i64 a, .int .i64 b, .int .i64 n, .int .i64 l, .slice A' k' c']] w fun e w' => e = .returned (.bool false) ∧ Below w.heap.size w w' := by
  have hA1 := (Below.refl w.heap.size w).alloc (Nat.le_refl _) (.cells #[.string ⟨t.toArray⟩, .string ⟨s.toArray⟩, .slice Ap p cp, .string ⟨i.toArray⟩, .string ⟨d.toArray⟩, .string ⟨e.toArray⟩, .int .i64 a, .int .i64 b, .int .i64 n, .int .i64 l, .slice A k c] 40)
  have hA2 := hA1.alloc hA1.size (.cells #[.string ⟨t.toArray⟩, .string ⟨s.toArray⟩, .slice Ap' p cp', .string ⟨i.toArray⟩, .string ⟨d.toArray⟩, .string ⟨e.toArray⟩, .int .i64 a, .int .i64 b, .int .i64 n, .int .i64 l, .slice A' k' c'] 40)
  have HA2 := hide hA2
  clear hA1 hA2
  go_enter Tryz.func17, Tryz.ntmps17
  go_wp2
  go_ret
  exact ⟨rfl, HA2.out⟩
end Go.Proofs.YtegplihhbdmnbaaGreatDoor
