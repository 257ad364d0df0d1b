/- The law BoxesNames. -/
import Derived.Test.YtelpjiiladbigaaDoorBn3
import Derived.Test.YtelpjiiladbigaaDoorNum
set_option linter.unusedSimpArgs false
set_option linter.unusedVariables false
namespace Go.Proofs.YtelpjiiladbigaaDoor
open Go.RowKit Go.Shelf
theorem EN.of {w : World} {a : Nat → Addr} (h : Errs w a) : EN w (a 3) := ⟨h.cell 3 (by decide), h.low 3 (by decide)⟩
set_option maxRecDepth 20000 in
set_option maxHeartbeats 2000000 in
theorem boxesNames_walk {B : Nat} {w : World} (hM : MX B w) (hB : B ≤ w.heap.size) (ea : Nat → Addr) (hE : Errs w ea) (s : List UInt8) :
    Calls Tryd.prog 3 #[.string ⟨s.toArray⟩] w fun e w' => e = .returned (.bool true) ∧ Below w.heap.size w w' := by
  have HA := hide (alive13 hM hB)
  have hsz := size_lit s
  clear hM
  have HN : Hid (∀ W, s.length ≤ 1000 → Below w.heap.size w W → Calls Tryd.prog 10 #[.string ⟨s.toArray⟩] W fun e w' => e = boxV (boxO s) (ea 3) ∧ Below w.heap.size w w') := fun W hl hW => (name_any s W (ea 3) (fun _ => EN.of (hE.below hW)) (by omega)).mono fun e w' h => ⟨h.1, hW.trans (h.2.mono hW.size)⟩
  have HR : Hid (∀ W, s.length ≤ 1000 → Below w.heap.size w W → Calls Tryd.prog 11 #[.string ⟨s.toArray⟩] W fun e w' => e = movV (boxO s) ∧ Below w.heap.size w w') := fun W hl hW => (rname_any s W (by omega)).mono fun e w' h => ⟨h.1, hW.trans (h.2.mono hW.size)⟩
  have HP : Hid (∀ W, s.length ≤ 1000 → Below w.heap.size w W → Calls Tryd.prog 13 #[.string ⟨s.toArray⟩] W fun e w' => e = .returned (.bool (patB s)) ∧ Below w.heap.size w w') := fun W hl hW => (pattern_any s W (by omega)).mono fun e w' h => ⟨h.1, hW.trans (h.2.mono hW.size)⟩
  have HQ : Hid (∀ W, s.length ≤ 1000 → Calls Tryd.prog 14 #[.string ⟨s.toArray⟩] W fun e w' => e = .returned (.bool (patB s)) ∧ w' = W) := fun W hl => rpattern_any s W (by omega)
  have HNu : Hid (∀ W, Below w.heap.size w W → Calls Tryd.prog 12 #[.iface 134 (.pointer (some (ea 3)))] W fun e w' => e = .returned (.int .i64 4) ∧ Below w.heap.size w w') := fun W hW => (num_err 3 (by decide) W ea (hE.below hW)).mono fun e w' h => ⟨h.1, hW.trans (h.2.mono hW.size)⟩
  clear hE
  by_cases h1 : s.length ≤ 1000
  case neg =>
    have h1' : (1000 : Int) < s.length := by omega
    go_enter Tryd.func3, Tryd.ntmps3
    go_wp2_with (go_at_call 9; refine HA.out.mono ?_; rintro e w1 ⟨rfl, hb1⟩)
    go_ret
    exact ⟨rfl, hb1⟩
  have h1' : ¬ (1000 : Int) < s.length := by omega
  generalize patB s = pb at *
  cases ho : boxO s with
  | none =>
    rw [ho] at HN HR
    have HN2 : Hid (∀ W, Below w.heap.size w W → Calls Tryd.prog 10 #[.string ⟨s.toArray⟩] W fun e w' => e = .returned (.tuple #[.string ⟨#[]⟩, .iface 134 (.pointer (some (ea 3)))]) ∧ Below w.heap.size w w') := fun W hW => HN.out W h1 hW
    have HR2 : Hid (∀ W, Below w.heap.size w W → Calls Tryd.prog 11 #[.string ⟨s.toArray⟩] W fun e w' => e = .returned (.tuple #[.string ⟨#[]⟩, .bool false]) ∧ Below w.heap.size w w') := fun W hW => HR.out W h1 hW
    clear HN HR ho
    go_enter Tryd.func3, Tryd.ntmps3
    go_wp2_with (first
      | (go_at_call 9; refine HA.out.mono ?_; rintro e w1 ⟨rfl, hb1⟩; replace hb1 := hide hb1)
      | (go_at_call 10; refine (HN2.out _ hb1.out).mono ?_; rintro e w2 ⟨rfl, hb2⟩; replace hb2 := hide hb2)
      | (go_at_call 11; refine (HR2.out _ hb2.out).mono ?_; rintro e w3 ⟨rfl, hb3⟩; replace hb3 := hide hb3)
      | (go_at_call 12; refine (HNu.out _ hb3.out).mono ?_; rintro e w4 ⟨rfl, hb4⟩; replace hb4 := hide hb4)
      | (go_at_call 13; refine (HP.out _ h1 hb4.out).mono ?_; rintro e w5 ⟨rfl, hb5⟩; replace hb5 := hide hb5)
      | (go_at_call 14; refine (HQ.out _ h1).mono ?_; rintro e w6 ⟨rfl, hw6⟩; subst hw6))
    go_ret
    exact ⟨by simp, hb5.out⟩
  | some n =>
    rw [ho] at HN HR
    have HN2 : Hid (∀ W, Below w.heap.size w W → Calls Tryd.prog 10 #[.string ⟨s.toArray⟩] W fun e w' => e = .returned (.tuple #[.string ⟨n.toArray⟩, .nilIface]) ∧ Below w.heap.size w w') := fun W hW => HN.out W h1 hW
    have HR2 : Hid (∀ W, Below w.heap.size w W → Calls Tryd.prog 11 #[.string ⟨s.toArray⟩] W fun e w' => e = .returned (.tuple #[.string ⟨n.toArray⟩, .bool true]) ∧ Below w.heap.size w w') := fun W hW => HR.out W h1 hW
    clear HN HR ho
    go_enter Tryd.func3, Tryd.ntmps3
    go_wp2_with (first
      | (go_at_call 9; refine HA.out.mono ?_; rintro e w1 ⟨rfl, hb1⟩; replace hb1 := hide hb1)
      | (go_at_call 10; refine (HN2.out _ hb1.out).mono ?_; rintro e w2 ⟨rfl, hb2⟩; replace hb2 := hide hb2)
      | (go_at_call 11; refine (HR2.out _ hb2.out).mono ?_; rintro e w3 ⟨rfl, hb3⟩; replace hb3 := hide hb3)
      | (go_at_call 13; refine (HP.out _ h1 hb3.out).mono ?_; rintro e w5 ⟨rfl, hb5⟩; replace hb5 := hide hb5)
      | (go_at_call 14; refine (HQ.out _ h1).mono ?_; rintro e w6 ⟨rfl, hw6⟩; subst hw6))
    go_ret
    exact ⟨by simp, hb5.out⟩
end Go.Proofs.YtelpjiiladbigaaDoor
