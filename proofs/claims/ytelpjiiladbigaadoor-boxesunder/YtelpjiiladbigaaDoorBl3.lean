/- The law BoxesUnder. -/
import Derived.Test.YtelpjiiladbigaaDoorBn2
set_option linter.unusedSimpArgs false
set_option linter.unusedVariables false
namespace Go.Proofs.YtelpjiiladbigaaDoor
open Go.RowKit Go.Shelf
set_option maxRecDepth 20000 in
set_option maxHeartbeats 2000000 in
theorem boxesUnder_walk {B : Nat} {w : World} (hM : MX B w) (hB : B ≤ w.heap.size) (ea : Addr) (hE : EN w ea) (s : List UInt8) :
    Calls Tryd.prog 8 #[.string ⟨s.toArray⟩] w fun e w' => e = .returned (.bool true) ∧ Below w.heap.size w w' := by
  have HA := hide (alive13 hM hB)
  have hsz := size_lit s
  clear hM
  have HN : Hid (∀ W, s.length ≤ 200 → Below w.heap.size w W → Calls Tryd.prog 10 #[.string ⟨s.toArray⟩] W fun e w' => e = boxV (boxO s) ea ∧ Below w.heap.size w w') := fun W hl hW => (name_any s W ea (fun _ => hE.below hW) (by omega)).mono fun e w' h => ⟨h.1, hW.trans (h.2.mono hW.size)⟩
  clear hE
  by_cases h1 : s.length ≤ 200
  case neg =>
    have h1' : (200 : Int) < s.length := by omega
    go_enter Tryd.func8, Tryd.ntmps8
    go_wp2_with (go_at_call 9; refine HA.out.mono ?_; rintro e w1 ⟨rfl, hb1⟩)
    go_ret
    exact ⟨rfl, hb1⟩
  have h1' : ¬ (200 : Int) < s.length := by omega
  cases ho : boxO s with
  | none =>
    rw [ho] at HN
    have HN2 : Hid (∀ W, Below w.heap.size w W → Calls Tryd.prog 10 #[.string ⟨s.toArray⟩] W fun e w' => e = .returned (.tuple #[.string ⟨#[]⟩, .iface 134 (.pointer (some ea))]) ∧ Below w.heap.size w w') := fun W hW => HN.out W h1 hW
    clear HN ho
    go_enter Tryd.func8, Tryd.ntmps8
    go_wp2_with (first
      | (go_at_call 9; refine HA.out.mono ?_; rintro e w1 ⟨rfl, hb1⟩; replace hb1 := hide hb1)
      | (go_at_call 10; refine (HN2.out _ hb1.out).mono ?_; rintro e w2 ⟨rfl, hb2⟩; replace hb2 := hide hb2))
    go_ret
    exact ⟨rfl, hb2.out⟩
  | some n =>
    rw [ho] at HN
    have HN2 : Hid (∀ W, Below w.heap.size w W → Calls Tryd.prog 10 #[.string ⟨s.toArray⟩] W fun e w' => e = .returned (.tuple #[.string ⟨n.toArray⟩, .nilIface]) ∧ Below w.heap.size w w') := fun W hW => HN.out W h1 hW
    have HBx : Hid (boxB s = true) := by
      show _ = _
      unfold boxO at ho
      split at ho
      · assumption
      · cases ho
    have HAb : Hid (∀ W, Below w.heap.size w W → Calls Tryd.prog 21 #[.string ⟨s.toArray⟩] W fun e w' => ∃ A c, e = .returned (.slice A (abvL s).length c) ∧ Below w.heap.size w w' ∧ TX w' (.slice A (abvL s).length c) (abvL s)) := fun W hW => (above_any s W (by omega)).mono fun e w' h => by
      obtain ⟨v, he, ht⟩ := h
      obtain ⟨A, c, rfl, _⟩ := id ht.tx
      exact ⟨A, c, he, hW.trans (ht.1.mono hW.size), ht.tx⟩
    have hal := abvK_len s s.length
    rw [abvK_end] at hal
    have HUs : Hid (∀ w, Calls Tryd.prog 19 #[.string ⟨s.toArray⟩, .string ⟨s.toArray⟩] w fun e w' => e = .returned (.bool false) ∧ w' = w) := fun w => by
      have := under_any s s w (by omega)
      rwa [und_self] at this
    clear HN ho
    go_enter Tryd.func8, Tryd.ntmps8
    go_wp2_with (first
      | (go_at_call 9; refine HA.out.mono ?_; rintro e w1 ⟨rfl, hb1⟩; replace hb1 := hide hb1)
      | (go_at_call 10; refine (HN2.out _ hb1.out).mono ?_; rintro e w2 ⟨rfl, hb2⟩; replace hb2 := hide hb2)
      | (go_at_call 21; refine (HAb.out _ hb2.out).mono ?_; rintro e w3 ⟨A, c, rfl, hb3, ht3⟩; replace hb3 := hide hb3; replace ht3 := hide ht3))
    go_loopw [26] (fun v26 wr => ∃ k : Nat, v26 = .int .i64 k ∧ k ≤ (abvL s).length ∧ w3 = wr) (fun v26 _ => (abvL s).length - (intOf v26).toNat)
    case atStart => exact ⟨0, rfl, Nat.zero_le _, rfl⟩
    case round =>
      obtain ⟨k, rfl, hk, rfl⟩ := hrel
      by_cases hlt : k < (abvL s).length
      · have hlt' : (k : Int) < (abvL s).length := by omega
        obtain ⟨A', c', e', hcs⟩ := ht3.out
        cases e'
        obtain ⟨g, o, rfl, _, hcell⟩ := hcs k hlt
        obtain ⟨i, hi, hai⟩ := abv_mem (List.getElem_mem hlt)
        have hil := box_last HBx.out hi
        have hal1 : ((abvL s)[k]).length = i := by rw [hai, List.length_take]; omega
        have hM1 := moved_any s ((abvL s)[k]) [122, 122]
        have hM2 := moved_any ([122, 122] ++ s.drop i) [122, 122] ((abvL s)[k])
        have hU1 := under_any s ((abvL s)[k])
        rw [hai] at hM1 hM2 hU1
        rw [mov_at hil hi] at hM1
        rw [mov_back hil hi] at hM2
        rw [und_at hil hi] at hU1
        rw [hai] at hcell hal1
        have htl : (s.take i).length ≤ 1000000 := by omega
        have hdl : ([122, 122] ++ s.drop i).length = s.length - i + 2 := by simp
        have hdl2 : ((([122, 122] ++ s.drop i).length : Nat) : Int) = (s.length : Int) - i + 2 := by omega
        have hHM1 : Hid (∀ w, Calls Tryd.prog 17 #[.string ⟨s.toArray⟩, .string ⟨(s.take i).toArray⟩, .string ⟨#[122, 122]⟩] w fun e w' => e = .returned (.tuple #[.string ⟨([122, 122] ++ s.drop i).toArray⟩, .bool true]) ∧ w' = w) := fun w => hM1 w (by omega) (by omega) (by simp)
        have hHM2 : Hid (∀ w, Calls Tryd.prog 17 #[.string ⟨([122, 122] ++ s.drop i).toArray⟩, .string ⟨#[122, 122]⟩, .string ⟨(s.take i).toArray⟩] w fun e w' => e = .returned (.tuple #[.string ⟨s.toArray⟩, .bool true]) ∧ w' = w) := fun w => hM2 w (by omega) (by simp) (by omega)
        have hHU1 : Hid (∀ w, Calls Tryd.prog 19 #[.string ⟨s.toArray⟩, .string ⟨(s.take i).toArray⟩] w fun e w' => e = .returned (.bool true) ∧ w' = w) := fun w => hU1 w (by omega)
        clear hM1 hM2 hU1 hai hcs hi
        have hz1 := size_lit (s.take i)
        have hz2 := size_lit ([122, 122] ++ s.drop i)
        generalize ([122, 122] ++ s.drop i) = q at *
        generalize s.take i = a at *
        go_wp2_with fail
        refine (hHM1.out _).mono ?_
        rintro e w' ⟨rfl, hw'⟩
        subst hw'
        go_wp2_with fail
        refine (hHM2.out _).mono ?_
        rintro e w' ⟨rfl, hw'⟩
        subst hw'
        go_wp2_with fail
        refine (hHU1.out _).mono ?_
        rintro e w' ⟨rfl, hw'⟩
        subst hw'
        go_wp2_with fail
        go_roundw
        case rel => exact ⟨k + 1, by go_num, by omega, trivial⟩
        case measure => simp [intOf] <;> omega
      · obtain rfl : k = (abvL s).length := by omega
        go_wp2_with (go_at_call 19; refine (HUs.out _).mono ?_; rintro e w' ⟨rfl, hw'⟩; subst hw')
        go_ret
        exact ⟨rfl, hb3.out⟩
end Go.Proofs.YtelpjiiladbigaaDoor
