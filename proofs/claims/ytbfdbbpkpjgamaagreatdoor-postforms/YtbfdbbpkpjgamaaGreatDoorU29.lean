/- The numbers of errors: postbagnum.Num at nil and at each of package api's thirteen values. -/
import Derived.Test.YtbfdbbpkpjgamaaGreatDoorU28
namespace Go.Proofs.YtbfdbbpkpjgamaaGreatDoor
open Go.RowKit

/-- The package-level variables that hold the thirteen errors, in the document's order. -/
def gno (i : Nat) : Nat := ([1, 0, 2, 3, 4, 5, 6, 7, 8, 9, 10, 11, 12] : List Nat).getD i 0

/-- A world in which the thirteen variables hold thirteen errors, at different places. -/
structure Errs (w : World) (a : Nat → Addr) : Prop where
  cell : ∀ i, i < 13 → w.cell? ⟨gno i, 0, none⟩ = some (.iface 252 (.pointer (some (a i))))
  low : ∀ i, i < 13 → gno i < w.heap.size
  ne : ∀ i j, i < 13 → j < 13 → i ≠ j → a i ≠ a j
  blk : ∀ i, i < 13 → ∃ c t, w.heap[(a i).block]? = some (.cells c t (0, 0))

theorem blk_lt {w : World} {k : Nat} {o : Obj} (h : w.heap[k]? = some o) : k < w.heap.size := (Array.getElem?_eq_some_iff.1 h).1

theorem Errs.below {w w' : World} {a : Nat → Addr} (h : Errs w a) (hb : Below w.heap.size w w') : Errs w' a where
  cell := fun i hi => by rw [hb.cell (p := ⟨gno i, 0, none⟩) (h.low i hi)]; exact h.cell i hi
  low := fun i hi => Nat.lt_of_lt_of_le (h.low i hi) hb.size
  ne := h.ne
  blk := fun i hi => by
    obtain ⟨c, t, k⟩ := h.blk i hi
    exact ⟨c, t, by rw [hb.block _ (blk_lt k)]; exact k⟩

theorem num_nil (w : World) :
    Calls Tryz.prog 11 #[.nilIface] w fun e w' => e = .returned (.int .i64 0) ∧ w' = w := by
  go_enter Tryz.func11, Tryz.ntmps11
  go_wp2
  go_ret
  exact ⟨rfl, rfl⟩

def errV (a : Nat → Addr) (i : Nat) : Value := .iface 252 (.pointer (some (a i)))

set_option maxHeartbeats 2000000 in
theorem num_err (k : Nat) (hk : k < 13) (w : World) (a : Nat → Addr) (hE : Errs w a) :
    Calls Tryz.prog 11 #[.iface 252 (.pointer (some (a k)))] w fun e w' => e = .returned (.int .i64 (k + 1)) ∧ Below w.heap.size w w' := by
  have c0 : w.cell? ⟨1, 0, none⟩ = some (.iface 252 (.pointer (some (a 0)))) := hE.cell 0 (by decide)
  have c1 : w.cell? ⟨0, 0, none⟩ = some (.iface 252 (.pointer (some (a 1)))) := hE.cell 1 (by decide)
  have c2 : w.cell? ⟨2, 0, none⟩ = some (.iface 252 (.pointer (some (a 2)))) := hE.cell 2 (by decide)
  have c3 : w.cell? ⟨3, 0, none⟩ = some (.iface 252 (.pointer (some (a 3)))) := hE.cell 3 (by decide)
  have c4 : w.cell? ⟨4, 0, none⟩ = some (.iface 252 (.pointer (some (a 4)))) := hE.cell 4 (by decide)
  have c5 : w.cell? ⟨5, 0, none⟩ = some (.iface 252 (.pointer (some (a 5)))) := hE.cell 5 (by decide)
  have c6 : w.cell? ⟨6, 0, none⟩ = some (.iface 252 (.pointer (some (a 6)))) := hE.cell 6 (by decide)
  have c7 : w.cell? ⟨7, 0, none⟩ = some (.iface 252 (.pointer (some (a 7)))) := hE.cell 7 (by decide)
  have c8 : w.cell? ⟨8, 0, none⟩ = some (.iface 252 (.pointer (some (a 8)))) := hE.cell 8 (by decide)
  have c9 : w.cell? ⟨9, 0, none⟩ = some (.iface 252 (.pointer (some (a 9)))) := hE.cell 9 (by decide)
  have c10 : w.cell? ⟨10, 0, none⟩ = some (.iface 252 (.pointer (some (a 10)))) := hE.cell 10 (by decide)
  have c11 : w.cell? ⟨11, 0, none⟩ = some (.iface 252 (.pointer (some (a 11)))) := hE.cell 11 (by decide)
  have c12 : w.cell? ⟨12, 0, none⟩ = some (.iface 252 (.pointer (some (a 12)))) := hE.cell 12 (by decide)
  have hb : Below w.heap.size w (w.alloc (.cells #[.iface 252 (.pointer (some (a 0))), .iface 252 (.pointer (some (a 1))), .iface 252 (.pointer (some (a 2))), .iface 252 (.pointer (some (a 3))), .iface 252 (.pointer (some (a 4))), .iface 252 (.pointer (some (a 5))), .iface 252 (.pointer (some (a 6))), .iface 252 (.pointer (some (a 7))), .iface 252 (.pointer (some (a 8))), .iface 252 (.pointer (some (a 9))), .iface 252 (.pointer (some (a 10))), .iface 252 (.pointer (some (a 11))), .iface 252 (.pointer (some (a 12)))] 32)) := (Below.refl _ _).alloc (Nat.le_refl _) _
  have HE : Hid (Errs (w.alloc (.cells #[.iface 252 (.pointer (some (a 0))), .iface 252 (.pointer (some (a 1))), .iface 252 (.pointer (some (a 2))), .iface 252 (.pointer (some (a 3))), .iface 252 (.pointer (some (a 4))), .iface 252 (.pointer (some (a 5))), .iface 252 (.pointer (some (a 6))), .iface 252 (.pointer (some (a 7))), .iface 252 (.pointer (some (a 8))), .iface 252 (.pointer (some (a 9))), .iface 252 (.pointer (some (a 10))), .iface 252 (.pointer (some (a 11))), .iface 252 (.pointer (some (a 12)))] 32)) a) := hE.below hb
  have HB : Hid (Below w.heap.size w (w.alloc (.cells #[.iface 252 (.pointer (some (a 0))), .iface 252 (.pointer (some (a 1))), .iface 252 (.pointer (some (a 2))), .iface 252 (.pointer (some (a 3))), .iface 252 (.pointer (some (a 4))), .iface 252 (.pointer (some (a 5))), .iface 252 (.pointer (some (a 6))), .iface 252 (.pointer (some (a 7))), .iface 252 (.pointer (some (a 8))), .iface 252 (.pointer (some (a 9))), .iface 252 (.pointer (some (a 10))), .iface 252 (.pointer (some (a 11))), .iface 252 (.pointer (some (a 12)))] 32))) := hb
  have HC : Hid (∀ n, n < 13 → (w.alloc (.cells #[.iface 252 (.pointer (some (a 0))), .iface 252 (.pointer (some (a 1))), .iface 252 (.pointer (some (a 2))), .iface 252 (.pointer (some (a 3))), .iface 252 (.pointer (some (a 4))), .iface 252 (.pointer (some (a 5))), .iface 252 (.pointer (some (a 6))), .iface 252 (.pointer (some (a 7))), .iface 252 (.pointer (some (a 8))), .iface 252 (.pointer (some (a 9))), .iface 252 (.pointer (some (a 10))), .iface 252 (.pointer (some (a 11))), .iface 252 (.pointer (some (a 12)))] 32)).cell? ⟨w.heap.size, n, none⟩ = some (.iface 252 (.pointer (some (a n))))) := by
    intro n hn
    have h : n = 0 ∨ n = 1 ∨ n = 2 ∨ n = 3 ∨ n = 4 ∨ n = 5 ∨ n = 6 ∨ n = 7 ∨ n = 8 ∨ n = 9 ∨ n = 10 ∨ n = 11 ∨ n = 12 := by omega
    rcases h with rfl | rfl | rfl | rfl | rfl | rfl | rfl | rfl | rfl | rfl | rfl | rfl | rfl <;> simp
  clear hE hb
  go_enter Tryz.func11, Tryz.ntmps11
  go_wp2_with fail
  generalize w.alloc (.cells #[.iface 252 (.pointer (some (a 0))), .iface 252 (.pointer (some (a 1))), .iface 252 (.pointer (some (a 2))), .iface 252 (.pointer (some (a 3))), .iface 252 (.pointer (some (a 4))), .iface 252 (.pointer (some (a 5))), .iface 252 (.pointer (some (a 6))), .iface 252 (.pointer (some (a 7))), .iface 252 (.pointer (some (a 8))), .iface 252 (.pointer (some (a 9))), .iface 252 (.pointer (some (a 10))), .iface 252 (.pointer (some (a 11))), .iface 252 (.pointer (some (a 12)))] 32) = W at *
  clear c0 c1 c2 c3 c4 c5 c6 c7 c8 c9 c10 c11 c12
  go_loop [24] (fun i => ∃ n : Nat, n ≤ k ∧ i = .int .i64 n) (fun i => 13 - (intOf i).toNat)
  case atStart => exact ⟨0, Nat.zero_le _, rfl⟩
  case round =>
    obtain ⟨n, hn, rfl⟩ := hrel
    have hn13 : n < 13 := by omega
    have hc := HC.out n hn13
    by_cases he : n = k
    · subst he
      go_wp2_with (go_at_call 28; refine (is_same _ _).mono ?_; rintro e w' ⟨rfl, rfl⟩)
      go_ret
      exact ⟨rfl, HB.out⟩
    · have hne := HE.out.ne k n hk hn13 (by omega)
      obtain ⟨ck, tk, bk⟩ := HE.out.blk k hk
      obtain ⟨cn, tn, bn⟩ := HE.out.blk n hn13
      have HX : Hid (∀ w' : World, w' = W → Calls Tryz.prog 28 #[.iface 252 (.pointer (some (a k))), .iface 252 (.pointer (some (a n)))] w' fun e w'' => e = .returned (.bool false) ∧ w'' = w') :=
        fun w' h => by subst h; exact is_other _ _ ck cn tk tn _ hne bk bn
      clear hne bk bn
      go_wp2_with (go_at_call 28; refine (HX.out _ rfl).mono ?_; rintro e w' ⟨rfl, rfl⟩)
      go_round
      case rel => exact ⟨n + 1, by omega, by go_num⟩
      case measure => simp [intOf]; omega
end Go.Proofs.YtbfdbbpkpjgamaaGreatDoor
