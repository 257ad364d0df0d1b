/- The law SeqsBack, wherever package seqs answers as told. -/
import Derived.Test.YtbjencibkkhbhabGreatDoorSl2
set_option linter.unusedSimpArgs false
set_option linter.unusedVariables false
namespace Go.Proofs.YtbjencibkkhbhabGreatDoor
open Go.RowKit Go.Shelf
theorem and31 (x : Int) : ∃ f : Nat, f < 32 ∧ bits .and .i64 x 31 = (f : Int) := by
  refine ⟨(BitVec.ofInt 64 x).toNat % 32, Nat.mod_lt _ (by decide), ?_⟩
  have h : ((BitVec.ofInt 64 x) &&& (BitVec.ofInt 64 31)).toNat = (BitVec.ofInt 64 x).toNat % 32 := by
    rw [BitVec.toNat_and, show (BitVec.ofInt 64 31).toNat = 2 ^ 5 - 1 from by decide, Nat.and_two_pow_sub_one_eq_mod]
  show IntKind.i64.wrap (((BitVec.ofInt 64 x) &&& (BitVec.ofInt 64 31)).toNat : Nat) = _
  rw [h, IntKind.wrap_i64]
  have := Nat.mod_lt (BitVec.ofInt 64 x).toNat (show 0 < 32 by decide)
  omega
def apF (f how g : Nat) : Nat := if how = 0 then g else if how = 1 then f ||| g else f &&& (31 - g)
theorem ap_and : ∀ f, f < 32 → ∀ g, g < 32 → bits .and .i64 ((apF f 1 g : Nat) : Int) (g : Nat) = ((g : Nat) : Int) := by decide +kernel
theorem ap_not : ∀ f, f < 32 → ∀ g, g < 32 → bits .andNot .i64 ((apF f 1 g : Nat) : Int) (g : Nat) = ((apF f 2 g : Nat) : Int) ∧ bits .andNot .i64 ((f : Nat) : Int) (g : Nat) = ((apF f 2 g : Nat) : Int) ∧ apF (apF f 1 g) 2 g = apF f 2 g ∧ apF f 1 g < 32 := by decide +kernel
def CApply (w : World) : Prop := ∀ (W : World) (f how g : Nat), f < 32 → how < 3 → g < 32 → Below w.heap.size w W → Calls Tryz.prog 9 #[.int .i64 ((f : Nat) : Int), .int .i64 ((how : Nat) : Int), .int .i64 ((g : Nat) : Int)] W fun e w' => e = .returned (.int .i64 ((apF f how g : Nat) : Int)) ∧ Below W.heap.size W w'
theorem flT_len : ∀ f, f < 32 → (flT f).length ≤ 100000 := by decide +kernel
set_option maxRecDepth 20000 in
set_option maxHeartbeats 2000000 in
theorem seqsBack_walk {w : World} {ea : Nat → Addr} (hA : CAlive w) (hF : CFlags w ea) (hT : CFlagsText w) (hP : CApply w) (x y : Int) :
    Calls Tryz.prog 3 #[.int .i64 x, .int .i64 y] w fun e w' => e = .returned (.bool true) ∧ Below w.heap.size w w' := by
  have HA : Hid (Calls Tryz.prog 6 #[] w fun e w' => e = .returned (.bool true) ∧ Below w.heap.size w w') := hA
  obtain ⟨f, hf, ef⟩ := and31 x
  obtain ⟨g, hg, eg⟩ := and31 y
  have k1 := ap_and f hf g hg
  obtain ⟨k2, k3, k4, k5⟩ := ap_not f hf g hg
  have HT : Hid (∀ W, Below w.heap.size w W → Calls Tryz.prog 8 #[.int .i64 ((f : Nat) : Int)] W fun e w' => e = .returned (.string ⟨(flT f).toArray⟩) ∧ Below w.heap.size w w') := fun W hW => (hT W f hf hW).mono fun e w' h => ⟨h.1, hW.trans (h.2.mono hW.size)⟩
  have HF : Hid (∀ W, Below w.heap.size w W → Calls Tryz.prog 7 #[.string ⟨(flT f).toArray⟩] W fun e w' => e = .returned (.tuple #[.int .i64 ((f : Nat) : Int), .nilIface]) ∧ Below w.heap.size w w') := fun W hW => (hF (flT f) W (flT_len f hf) hW).mono fun e w' h => by
    obtain ⟨hb, ⟨f', h1, he⟩ | ⟨h1, _⟩⟩ := h
    · rw [fl_back f hf] at h1; cases h1; exact ⟨he, hW.trans (hb.mono hW.size)⟩
    · rw [fl_back f hf] at h1; cases h1
  have HP1 : Hid (∀ W, Below w.heap.size w W → Calls Tryz.prog 9 #[.int .i64 ((f : Nat) : Int), .int .i64 1, .int .i64 ((g : Nat) : Int)] W fun e w' => e = .returned (.int .i64 ((apF f 1 g : Nat) : Int)) ∧ Below w.heap.size w w') := fun W hW => (hP W f 1 g hf (by decide) hg hW).mono fun e w' h => ⟨h.1, hW.trans (h.2.mono hW.size)⟩
  have HP2 : Hid (∀ W, Below w.heap.size w W → Calls Tryz.prog 9 #[.int .i64 ((apF f 1 g : Nat) : Int), .int .i64 2, .int .i64 ((g : Nat) : Int)] W fun e w' => e = .returned (.int .i64 ((apF f 2 g : Nat) : Int)) ∧ Below w.heap.size w w') := fun W hW => (hP W (apF f 1 g) 2 g k5 (by decide) hg hW).mono fun e w' h => ⟨by rw [k4] at h; exact h.1, hW.trans (h.2.mono hW.size)⟩
  have HP0 : Hid (∀ W, Below w.heap.size w W → Calls Tryz.prog 9 #[.int .i64 ((f : Nat) : Int), .int .i64 0, .int .i64 ((g : Nat) : Int)] W fun e w' => e = .returned (.int .i64 ((g : Nat) : Int)) ∧ Below w.heap.size w w') := fun W hW => (hP W f 0 g hf (by decide) hg hW).mono fun e w' h => ⟨h.1, hW.trans (h.2.mono hW.size)⟩
  clear hA hF hT hP k4 k5
  generalize apF f 1 g = p at *
  generalize apF f 2 g = q at *
  generalize (flT f).toArray = t at *
  go_enter Tryz.func3, Tryz.ntmps3
  go_wp2_with (go_at_call 6; refine HA.out.mono ?_; rintro e w1 ⟨rfl, hb1⟩; replace hb1 := hide hb1)
  refine (HT.out _ hb1.out).mono ?_
  rintro e w2 ⟨rfl, hb2⟩
  replace hb2 := hide hb2
  go_wp2_with (go_at_call 7; refine (HF.out _ hb2.out).mono ?_; rintro e w3 ⟨rfl, hb3⟩; replace hb3 := hide hb3)
  refine (HP1.out _ hb3.out).mono ?_
  rintro e w4 ⟨rfl, hb4⟩
  replace hb4 := hide hb4
  go_wp2_with fail
  refine (HP2.out _ hb4.out).mono ?_
  rintro e w5 ⟨rfl, hb5⟩
  replace hb5 := hide hb5
  go_wp2_with fail
  refine (HP0.out _ hb5.out).mono ?_
  rintro e w6 ⟨rfl, hb6⟩
  replace hb6 := hide hb6
  go_wp2
  go_ret
  exact ⟨rfl, hb6.out⟩
end Go.Proofs.YtbjencibkkhbhabGreatDoor
