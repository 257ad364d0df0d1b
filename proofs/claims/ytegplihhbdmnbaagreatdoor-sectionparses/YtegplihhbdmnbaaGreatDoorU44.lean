/- Partial, alive of package section; SectionPartial. -/
/- alive of section's statements. -/
import Derived.Test.YtegplihhbdmnbaaGreatDoorU40
section
set_option linter.unusedVariables false
namespace Go.Proofs.YtegplihhbdmnbaaGreatDoor
open Go.RowKit Go.Shelf
/-- A piece of a text. -/
def parV (s : List UInt8) (f m : Int) : List UInt8 := if f < 0 then [] else (s.drop f.toNat).take m.toNat
set_option maxHeartbeats 1000000 in
theorem partial_any (s : List UInt8) (f m : Int) (w : World) (hs : s.length ≤ 1000000) :
    Calls Tryz.prog 18 #[.string ⟨s.toArray⟩, .int .i64 f, .int .i64 m] w fun e w' => e = .returned (.string ⟨(parV s f m).toArray⟩) ∧ w' = w := by
  have hsz := size_lit s
  by_cases h1 : f < 0
  · have HV : Hid (parV s f m = []) := by show _ = _; unfold parV; rw [if_pos h1]
    rw [HV.out]
    go_enter Tryz.func18, Tryz.ntmps18
    go_wp2
    go_ret
    exact ⟨rfl, rfl⟩
  · obtain ⟨k, rfl⟩ : ∃ k : Nat, f = k := ⟨f.toNat, by omega⟩
    by_cases h2 : (s.length : Int) ≤ k
    · have HV : Hid (parV s k m = []) := by
        show _ = _
        unfold parV
        rw [if_neg h1, List.drop_of_length_le (by omega)]
        simp
      have h2' : (k : Int) ≥ s.length := h2
      rw [HV.out]
      go_enter Tryz.func18, Tryz.ntmps18
      go_wp2
      go_ret
      exact ⟨rfl, rfl⟩
    · have h2' : ¬ (k : Int) ≥ s.length := h2
      by_cases h3 : m < 0
      · have HV : Hid (parV s k m = []) := by
          show _ = _
          unfold parV
          rw [if_neg h1, show m.toNat = 0 by omega]
          simp
        rw [HV.out]
        go_enter Tryz.func18, Tryz.ntmps18
        go_wp2
        go_ret
        exact ⟨rfl, rfl⟩
      · obtain ⟨j, rfl⟩ : ∃ j : Nat, m = j := ⟨m.toNat, by omega⟩
        have e1 : (⟨s.toArray⟩ : ByteArray).extract k s.length = ⟨(s.drop k).toArray⟩ := ext_drop s k
        have hdl : (s.drop k).length = s.length - k := List.length_drop
        have hdz := size_lit (s.drop k)
        rw [hdl] at hdz
        have HV : Hid (parV s k j = (s.drop k).take j) := by
          show _ = _
          unfold parV
          rw [if_neg h1]
          simp
        rw [HV.out]
        by_cases h4 : (j : Int) ≤ (s.length : Int) - k
        · have hmin : min (j : Int) ((s.length : Int) - k) = j := by omega
          have e2 : (⟨(s.drop k).toArray⟩ : ByteArray).extract 0 j = ⟨((s.drop k).take j).toArray⟩ := ext_take _ _
          generalize s.drop k = d at *
          clear HV hdl
          have hj : j ≤ s.length - k := by omega
          go_enter Tryz.func18, Tryz.ntmps18
          go_wp2
          go_ret
          exact ⟨rfl, rfl⟩
        · have hmin : min (j : Int) ((s.length : Int) - k) = (s.length : Int) - k := by omega
          have e2 : (⟨(s.drop k).toArray⟩ : ByteArray).extract 0 (s.length - k) = ⟨(s.drop k).toArray⟩ := by
            rw [ext_take, List.take_of_length_le (by omega)]
          have e3 : (s.drop k).take j = s.drop k := List.take_of_length_le (by omega)
          have e4 : ((s.length : Int) - k).toNat = s.length - k := by omega
          rw [e3]
          generalize s.drop k = d at *
          clear HV hdl e3
          go_enter Tryz.func18, Tryz.ntmps18
          go_wp2
          go_ret
          exact ⟨rfl, rfl⟩
end Go.Proofs.YtegplihhbdmnbaaGreatDoor

end
section
set_option linter.unusedVariables false
namespace Go.Proofs.YtegplihhbdmnbaaGreatDoor
open Go.RowKit Go.Shelf
theorem ex_prg : prgO [49, 46, 50, 46, 109, 105, 109, 101] = some ⟨[1, 2], [77, 73, 77, 69], []⟩ := by kernel_rfl
set_option maxHeartbeats 1000000 in
theorem alive12 (w : World) : Calls Tryz.prog 5 #[] w fun e w' => e = .returned (.bool true) ∧ Below w.heap.size w w' := by
  have HP := hide (fun W => secParse_any [49, 46, 50, 46, 109, 105, 109, 101] W ⟨0, 0, none⟩ (by simp) (fun h => by rw [ex_prg] at h; cases h))
  rw [ex_prg] at HP
  have HQ := hide (fun W => partial_any [97, 98, 99] 1 5 W (by simp))
  have hv : parV [97, 98, 99] 1 5 = [98, 99] := by decide
  rw [hv] at HQ
  clear hv
  go_enter Tryz.func5, Tryz.ntmps5
  go_wp2_with (first
    | (go_at_call 6; refine (HP.out _).mono ?_; rintro e w1 ⟨pv, nv, rfl, hs, hb1⟩; obtain ⟨A, c, rfl⟩ := hs.path.form; obtain ⟨A2, c2, rfl⟩ := hs.names.form; clear hs; unfold spV; simp only [List.length_cons, List.length_nil]; replace hb1 := hide hb1)
    | (go_at_call 18; refine (HQ.out _).mono ?_; rintro e w2 ⟨rfl, rfl⟩))
  go_ret
  exact ⟨rfl, hb1.out.alloc hb1.out.size _⟩
end Go.Proofs.YtegplihhbdmnbaaGreatDoor

end
