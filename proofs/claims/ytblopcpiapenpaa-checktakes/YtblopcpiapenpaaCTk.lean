/- The law CheckTakes. -/
import Derived.Test.YtblopcpiapenpaaCT
import Derived.Test.YtblopcpiapenpaaCW
import Derived.Test.YtblopcpiapenpaaCK
import Derived.Test.YtblopcpiapenpaaC3
namespace Go.Proofs.Ytblopcpiapenpaa
open Go.RowKit
theorem whole_parts {bs : List UInt8} {n : Nat} (h : wholeN bs = some n) : ¬ bs.length < 8 ∧ n ≤ 400000 ∧ n ≤ bs.length - 8 := by
  unfold wholeN at h
  split at h
  · cases h
  · next h8 =>
    split at h
    · next hh =>
      cases h
      exact ⟨h8, hh.1, hh.2.1⟩
    · cases h
theorem Copied.below {w w' : World} {g o cap : Nat} {bs : List UInt8} (h : Copied w g o cap bs) (hb : Below w.heap.size w w') : Copied w' g o cap bs := Rw.keep (S := fun _ => False) h (Mvs.of_below hb) (fun _ _ c => c)
set_option maxRecDepth 20000 in
set_option maxHeartbeats 4000000 in
theorem takes_long (bs : List UInt8) (v : Value) (w : World) (h : BR w v bs) (hb : ¬ bs.length ≤ 20000) :
    Calls Try.prog 5 #[v] w fun e w' => e = .returned (.bool true) ∧ Below w.heap.size w w' := by
  obtain ⟨A, c, rfl, hl, hm, _⟩ := BR.form h
  clear h
  have hb' : (20000 : Int) < bs.length := by omega
  go_enter Try.func5, Try.ntmps5
  go_wp2_with (go_at_call 7; refine (alive_yes _).mono ?_; rintro e w1 ⟨rfl, hw1⟩; replace hw1 := hide hw1)
  go_ret
  exact ⟨rfl, hw1.out⟩
set_option maxRecDepth 20000 in
set_option maxHeartbeats 4000000 in
theorem takes_no (bs : List UInt8) (v : Value) (w : World) (h : BR w v bs) (hb : bs.length ≤ 20000) (hn : wholeN bs = none) :
    Calls Try.prog 5 #[v] w fun e w' => e = .returned (.bool true) ∧ Below w.heap.size w w' := by
  obtain ⟨A, c, rfl, hl, hm, _⟩ := BR.form h
  have HB : Hid (∀ (w' : World), Below w.heap.size w w' → BR w' (.slice A bs.length c) bs) := fun w' hb => h.below hb
  have HW : Hid (∀ (w' : World), Below w.heap.size w w' → Calls Try.prog 14 #[.slice A bs.length c] w' fun e w'' => e = .returned (.int .i64 (-1)) ∧ ∃ m, w'' = w'.drewN m) := fun w' hb' => by
    have := whole_any bs _ w' (HB.out w' hb')
    rwa [wholeI_no hn] at this
  clear h
  have hb' : ¬ (20000 : Int) < bs.length := by omega
  replace hn := hide hn
  go_enter Try.func5, Try.ntmps5
  go_wp2_with (go_at_call 7; refine (alive_yes _).mono ?_; rintro e w1 ⟨rfl, hw1⟩; replace hw1 := hide hw1)
  refine (bytes_any _ bs _ (HB.out _ hw1.out) hb).mono ?_
  rintro e w2 ⟨g, o, cap, rfl, hc2, hg2, hb2⟩
  have hw2 := hide (hw1.out.trans (hb2.mono hw1.out.size))
  have hk2 := hide hc2.row.br
  replace hc2 := hide hc2
  clear hb2 hg2
  go_wp2_with fail
  refine (take_no bs _ _ hk2.out hn.out).mono ?_
  rintro e w3 ⟨rfl, hb3⟩
  have hw3 := hide (hw2.out.trans (hb3.mono hw2.out.size))
  replace hc2 := hide (hc2.out.below hb3)
  clear hb3
  go_wp2_with fail
  refine (HW.out _ hw3.out).mono ?_
  rintro e w4 ⟨rfl, m, rfl⟩
  replace hw3 := hide (hw3.out.trans ((below_drewN _ m).mono hw3.out.size))
  replace hc2 := hide (hc2.out.below (below_drewN _ m))
  go_wp2_with fail
  refine (kept_any g o cap bs _ _ hc2.out (HB.out _ hw3.out) hb).mono ?_
  rintro e w5 ⟨rfl, hb5⟩
  have hw5 := hide (hw3.out.trans (hb5.mono hw3.out.size))
  clear hb5
  go_wp2
  go_ret
  exact ⟨rfl, hw5.out⟩
set_option maxRecDepth 20000 in
set_option maxHeartbeats 4000000 in
theorem takes_yes (bs : List UInt8) (v : Value) (w : World) (h : BR w v bs) (hb : bs.length ≤ 20000) (n : Nat) (hn : wholeN bs = some n) :
    Calls Try.prog 5 #[v] w fun e w' => e = .returned (.bool true) ∧ Below w.heap.size w w' := by
  obtain ⟨h8, h400, hL⟩ := whole_parts hn
  obtain ⟨A, c, rfl, hl, hm, _⟩ := BR.form h
  obtain ⟨g0, o0, rfl, _, _, _⟩ := h.at (List.ne_nil_of_length_pos (by omega))
  have HB : Hid (∀ (w' : World), Below w.heap.size w w' → BR w' (.slice (some ⟨g0, o0, none⟩) bs.length c) bs) := fun w' hb => h.below hb
  have HW : Hid (∀ (w' : World), Below w.heap.size w w' → Calls Try.prog 14 #[.slice (some ⟨g0, o0, none⟩) bs.length c] w' fun e w'' => e = .returned (.int .i64 n) ∧ ∃ m, w'' = w'.drewN m) := fun w' hb' => by
    have := whole_any bs _ w' (HB.out w' hb')
    rwa [wholeI_yes hn] at this
  clear h
  have hb' : ¬ (20000 : Int) < bs.length := by omega
  have hn20 : n ≤ 20000 := by omega
  replace hn := hide hn
  go_enter Try.func5, Try.ntmps5
  go_wp2_with (go_at_call 7; refine (alive_yes _).mono ?_; rintro e w1 ⟨rfl, hw1⟩; replace hw1 := hide hw1)
  refine (bytes_any _ bs _ (HB.out _ hw1.out) hb).mono ?_
  rintro e w2 ⟨g, o, cap, rfl, hc2, hg2, hb2⟩
  have hw2 := hide (hw1.out.trans (hb2.mono hw1.out.size))
  have hk2 := hide hc2.row.br
  replace hc2 := hide hc2
  clear hb2 hg2
  go_wp2_with fail
  refine (take_yes bs _ _ hk2.out (by omega) n hn.out).mono ?_
  rintro e w3 ⟨v1, v2, rfl, hr1, hr2, hb3⟩
  have hw3 := hide (hw2.out.trans (hb3.mono hw2.out.size))
  replace hc2 := hide (hc2.out.below hb3)
  clear hb3
  replace hr1 := hide hr1
  replace hr2 := hide hr2
  go_wp2_with fail
  refine (HW.out _ hw3.out).mono ?_
  rintro e w4 ⟨rfl, m, rfl⟩
  replace hw3 := hide (hw3.out.trans ((below_drewN _ m).mono hw3.out.size))
  replace hc2 := hide (hc2.out.below (below_drewN _ m))
  replace hr1 := hide (hr1.out.drewN m)
  replace hr2 := hide (hr2.out.drewN m)
  go_wp2_with fail
  refine (kept_any g o cap bs _ _ hc2.out (HB.out _ hw3.out) hb).mono ?_
  rintro e w5 ⟨rfl, hb5⟩
  have hw5 := hide (hw3.out.trans (hb5.mono hw3.out.size))
  replace hr1 := hide (hr1.out.below hb5)
  replace hr2 := hide (hr2.out.below hb5)
  have hbb := hide (HB.out _ hw5.out)
  clear hb5
  have e1 : ¬ (n : Int) < 0 := by omega
  have e2 : (8 : Int) ≤ 8 + n := by omega
  have e3 : (8 : Int) + n ≤ c := by omega
  have e4 : (8 : Int) + n ≤ bs.length := by omega
  by_cases hc8 : c = 8
  · have n0 : n = 0 := by omega
    subst n0 hc8
    have hq2 := hide (hbb.out.from0 (by omega))
    have hq1 : Hid (BR w5 (.slice (some ⟨g0, o0, none⟩) 0 0) ((bs.drop 8).take 0)) := by
      have := hq2.out
      rw [List.drop_eq_nil_of_le (by omega)] at this
      exact this
    clear hn20 h400
    go_wp2_with fail
    refine (sameBytes_yes _ _ _ _ hr1.out hq1.out).mono ?_
    rintro e w6 ⟨rfl, rfl⟩
    go_wp2_with fail
    refine (sameBytes_yes _ _ _ _ hr2.out hq2.out).mono ?_
    rintro e w7 ⟨rfl, rfl⟩
    go_wp2
    go_ret
    exact ⟨rfl, hw5.out⟩
  · have hq8 := hide (hbb.out.from 8 (by omega) hc8)
    have hq1 : Hid (BR w5 (.slice (some ⟨g0, o0 + 8, none⟩) n (c - 8)) ((bs.drop 8).take n)) := BR.to (bs := bs.drop 8) (by have := hq8.out; rw [← List.length_drop] at this; exact this) n (by rw [List.length_drop]; omega)
    by_cases hcN : c = 8 + n
    · have hq2 := hide (hbb.out.from0 (by omega))
      rw [hcN] at hq2 hq1
      rw [show 8 + n - 8 = n by omega] at hq1
      have e5 : bs.length - (8 + n) = 0 := by omega
      go_wp2_with fail
      refine (sameBytes_yes _ _ _ _ hr1.out hq1.out).mono ?_
      rintro e w6 ⟨rfl, rfl⟩
      go_wp2_with fail
      refine (sameBytes_yes _ _ _ _ hr2.out hq2.out).mono ?_
      rintro e w7 ⟨rfl, rfl⟩
      go_wp2
      go_ret
      exact ⟨rfl, hw5.out⟩
    · have hq2 := hide (hbb.out.from (8 + n) (by omega) hcN)
      go_wp2_with fail
      refine (sameBytes_yes _ _ _ _ hr1.out hq1.out).mono ?_
      rintro e w6 ⟨rfl, rfl⟩
      go_wp2_with fail
      refine (sameBytes_yes _ _ _ _ hr2.out hq2.out).mono ?_
      rintro e w7 ⟨rfl, rfl⟩
      go_wp2
      go_ret
      exact ⟨rfl, hw5.out⟩
theorem takes_walk (bs : List UInt8) (v : Value) (w : World) (h : BR w v bs) :
    Calls Try.prog 5 #[v] w fun e w' => e = .returned (.bool true) ∧ Below w.heap.size w w' := by
  by_cases hb : bs.length ≤ 20000
  · cases hn : wholeN bs with
    | none => exact takes_no bs v w h hb hn
    | some n => exact takes_yes bs v w h hb n hn
  · exact takes_long bs v w h hb
end Go.Proofs.Ytblopcpiapenpaa
