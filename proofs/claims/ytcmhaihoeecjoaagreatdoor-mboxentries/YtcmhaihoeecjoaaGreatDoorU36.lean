/- MboxEntries: the walk. -/
import Derived.Test.YtcmhaihoeecjoaaGreatDoorU35
import Derived.Test.YtcmhaihoeecjoaaGreatDoorU18
namespace Go.Proofs.YtcmhaihoeecjoaaGreatDoor
open Go.RowKit Go.Shelf
theorem head_slice (X Y Z : List UInt8) (hZ : X ++ Y = Z) (w : World) : (Instr.slice 9 (.string ⟨Z.toArray⟩) none (some (.int .i64 ((Z.length : Int) - (Y.length : Int)))) none).run Tryz.prog w = .ok (.string ⟨X.toArray⟩) w := by
  have hl : (Z.length : Int) - (Y.length : Int) = (X.length : Nat) := by rw [← hZ, List.length_append]; omega
  have := run_slice_string_h (P := Tryz.prog) w 9 ⟨Z.toArray⟩ Tryz.underlying9 .i64 ((X.length : Nat) : Int) (by omega) (by rw [size_lit, ← hZ, List.length_append]; omega)
  rw [hl, this, Int.toNat_natCast, ext_take, ← hZ, List.take_left' rfl]
set_option maxRecDepth 8000 in
set_option maxHeartbeats 1000000 in
theorem entries_walk (s : List UInt8) (t : Int) (m : List UInt8) (w : World) (a : Nat → Addr) (hE : Errs w a) (ht : Da.Tab w) (hs : s.length ≤ maxLen) (hm : m.length ≤ maxLen) :
    Calls Tryz.prog 3 #[.string ⟨s.toArray⟩, .int .i64 t, .string ⟨m.toArray⟩] w fun x w' => x = .returned (.bool true) ∧ Below w.heap.size w w' := by
  have hsz := size_lit s
  have hsm := size_lit m
  unfold maxLen at hs hm
  have HT := hide ht
  have HE := hide hE
  clear ht hE
  by_cases hg : 1000 < s.length ∨ (¬ 1000 < s.length ∧ 20000 < m.length)
  · rcases hg with h1 | ⟨h1, h2⟩
    · have h1' : (1000 : Int) < s.length := by omega
      go_enter Tryz.func3, Tryz.ntmps3
      go_wp2_with (first
        | (go_at_call 6; refine (alive7 _ HT.out).mono ?_; rintro e w1 ⟨rfl, hb1⟩; replace hb1 := hide hb1))
      go_ret
      exact ⟨rfl, hb1.out⟩
    · have h1' : ¬ (1000 : Int) < s.length := by omega
      have h2' : (20000 : Int) < m.length := by omega
      go_enter Tryz.func3, Tryz.ntmps3
      go_wp2_with (first
        | (go_at_call 6; refine (alive7 _ HT.out).mono ?_; rintro e w1 ⟨rfl, hb1⟩; replace hb1 := hide hb1))
      go_ret
      exact ⟨rfl, hb1.out⟩
  · have h1 : ¬ 1000 < s.length := fun h => hg (.inl h)
    have h2 : ¬ 20000 < m.length := fun h => hg (.inr ⟨h1, h⟩)
    have h1' : ¬ (1000 : Int) < s.length := by omega
    have h2' : ¬ (20000 : Int) < m.length := by omega
    clear hg
    have HSd := hide (fun w => sender_any s w (by omega))
    cases hr : rightS s with
    | false =>
      rw [hr] at HSd
      have HEn := hide (fun w hE => entry_no s t m w (a 3) (sepOf_name s t w a hE hr (by omega)))
      clear hr
      go_enter Tryz.func3, Tryz.ntmps3
      go_wp2_with (first
        | (go_at_call 6; refine (alive7 _ HT.out).mono ?_; rintro e w1 ⟨rfl, hb1⟩; have HE1 := hide (HE.out.below hb1); replace hb1 := hide hb1)
        | (go_at_call 7; refine (HEn.out _ HE1.out).mono ?_; rintro e w2 ⟨rfl, hb2⟩; have HE2 := hide (HE1.out.below hb2); replace hb2 := hide hb2)
        | (go_at_call 8; refine (HSd.out _).mono ?_; rintro e w3 ⟨rfl, rfl⟩)
        | (go_at_call 9; refine (num_err 3 (by decide) _ a HE2.out).mono ?_; rintro e w4 ⟨rfl, hb4⟩; replace hb4 := hide hb4))
      go_ret
      have b2 := hb1.out.trans (hb2.out.mono hb1.out.size)
      exact ⟨by simp, b2.trans (hb4.out.mono b2.size)⟩
    | true =>
      rw [hr] at HSd
      by_cases hrg : t < 0 ∨ 4102444799 < t
      · have HEn := hide (fun w hE => entry_no s t m w (a 0) (sepOf_range s t w a hE hr hrg))
        clear hr
        have key : t < 0 ∨ (¬ t < 0 ∧ 4102444799 < t) := by omega
        clear hrg
        rcases key with g0 | ⟨g0, g1⟩
        all_goals
          go_enter Tryz.func3, Tryz.ntmps3
          go_wp2_with (first
            | (go_at_call 6; refine (alive7 _ HT.out).mono ?_; rintro e w1 ⟨rfl, hb1⟩; have HE1 := hide (HE.out.below hb1); replace hb1 := hide hb1)
            | (go_at_call 7; refine (HEn.out _ HE1.out).mono ?_; rintro e w2 ⟨rfl, hb2⟩; have HE2 := hide (HE1.out.below hb2); replace hb2 := hide hb2)
            | (go_at_call 8; refine (HSd.out _).mono ?_; rintro e w3 ⟨rfl, rfl⟩)
            | (go_at_call 9; refine (num_err 0 (by decide) _ a HE2.out).mono ?_; rintro e w4 ⟨rfl, hb4⟩; replace hb4 := hide hb4))
          go_ret
          have b2 := hb1.out.trans (hb2.out.mono hb1.out.size)
          exact ⟨by simp, b2.trans (hb4.out.mono b2.size)⟩
      · have g0 : ¬ t < 0 := fun h => hrg (.inl h)
        have g1 : ¬ 4102444799 < t := fun h => hrg (.inr h)
        have HEn := hide (fun w ht => entry_yes s t m w hr (by omega) (by omega) (by omega) ht)
        have HRe := hide (fun w => rentry_any s t m w (by omega) (by omega) (by omega) (by omega))
        have HEc := hide (fun w => rencode_any m w (by omega))
        have HSe := hide (fun w hE ht => sep_exact s t w a hE ht hr (by omega) (by omega))
        have hxl := sepT_len t hr
        have hyl := enc_bound m
        obtain ⟨Z, hZ⟩ : ∃ Z, sepT s t ++ encL m = Z := ⟨_, rfl⟩
        have hhs := head_slice (sepT s t) (encL m) Z hZ
        have hzl : Z.length ≤ 50000 := by rw [← hZ, List.length_append]; omega
        rw [hZ] at HEn HRe
        generalize sepT s t = X at *
        generalize encL m = Y at *
        clear hr hrg hZ
        go_enter Tryz.func3, Tryz.ntmps3
        go_wp2_with (first
          | (go_at_call 6; refine (alive7 _ HT.out).mono ?_; rintro e w1 ⟨rfl, hb1⟩; have HE1 := hide (HE.out.below hb1); have HT1 := hide (HT.out.below hb1); replace hb1 := hide hb1)
          | (go_at_call 7; refine (HEn.out _ HT1.out).mono ?_; rintro e w2 ⟨rfl, hb2⟩; have HE2 := hide (HE1.out.below hb2); have HT2 := hide (HT1.out.below hb2); replace hb2 := hide hb2)
          | (go_at_call 8; refine (HSd.out _).mono ?_; rintro e w3 ⟨rfl, rfl⟩)
          | (go_at_call 10; refine (HRe.out _).mono ?_; rintro e w4 ⟨rfl, hb4⟩; have HE4 := hide (HE2.out.below hb4); have HT4 := hide (HT2.out.below hb4); replace hb4 := hide hb4)
          | (go_at_call 12; refine (HEc.out _).mono ?_; rintro e w5 ⟨rfl, hb5⟩; have HE5 := hide (HE4.out.below hb5); have HT5 := hide (HT4.out.below hb5); replace hb5 := hide hb5)
          | (go_at_call 11; refine (HSe.out _ HE5.out HT5.out).mono ?_; rintro e w6 ⟨rfl, hb6⟩; replace hb6 := hide hb6))
        go_ret
        have b2 := hb1.out.trans (hb2.out.mono hb1.out.size)
        have b3 := b2.trans (hb4.out.mono b2.size)
        have b4 := b3.trans (hb5.out.mono b3.size)
        exact ⟨by simp, b4.trans (hb6.out.mono b4.size)⟩
end Go.Proofs.YtcmhaihoeecjoaaGreatDoor
