/- QuoteBack, QuoteTexts: the walks. -/
import Derived.Test.YtbelaalpigiaeaaDoorQ11
import Derived.Test.YtbelaalpigiaeaaDoorNum
namespace Go.Proofs.YtbelaalpigiaeaaDoor
open Go.RowKit
theorem dec_enc (s : List UInt8) : decV (encL s) = some s := by
  obtain ⟨m, hm⟩ := enc_end s
  unfold decV
  rw [if_pos ⟨by rw [hm]; simp, enc_noSep s⟩, enc_back, List.dropLast_concat]
theorem decode_enc (s : List UInt8) (w : World) (hs : (encL s).length ≤ 1000000) : Calls Tryd.prog 16 #[.string ⟨(encL s).toArray⟩] w fun e w' => e = .returned (.tuple #[.string ⟨s.toArray⟩, .nilIface]) ∧ Below w.heap.size w w' := by
  have := decode_any (encL s) w ⟨0, 0, none⟩ hs (fun h => by rw [dec_enc] at h; cases h)
  unfold decT at this
  rw [dec_enc] at this
  exact this
set_option maxRecDepth 8000 in
set_option maxHeartbeats 1000000 in
theorem back_walk (s : List UInt8) (w : World) (hs : s.length ≤ maxLen) : Calls Tryd.prog 6 #[.string ⟨s.toArray⟩] w fun e w' => e = .returned (.bool true) ∧ Below w.heap.size w w' := by
  unfold maxLen at hs
  by_cases hl : 20000 < s.length
  · go_enter Tryd.func6, Tryd.ntmps6
    go_wp2_with (first
      | (go_at_call 8; refine (alive_yes _).mono ?_; rintro e w1 ⟨rfl, hb1⟩; replace hb1 := hide hb1))
    go_ret
    exact ⟨rfl, hb1.out⟩
  · have hl' : ¬ (20000 : Int) < s.length := by omega
    have hel := enc_len s
    have hcl := cnt_le (splitS s)
    have hsl := splitS_len s
    unfold cnt at hcl
    have HE := hide (fun w => encode_any s w (by omega))
    have HD := hide (fun w => decode_enc s w (by omega))
    have HB := hide (enc_begins s)
    have hul : (encL s).length ≤ 60000 := by omega
    have hug : ¬ ((encL s).length : Int) < (s.length : Int) + 1 := by omega
    clear hel hcl hsl
    generalize encL s = u at HE HD HB hul hug
    go_enter Tryd.func6, Tryd.ntmps6
    go_wp2_with (first
      | (go_at_call 8; refine (alive_yes _).mono ?_; rintro e w1 ⟨rfl, hb1⟩; replace hb1 := hide hb1)
      | (go_at_call 14; refine (HE.out _).mono ?_; rintro e w2 ⟨rfl, hb2⟩; replace hb2 := hide hb2)
      | (go_at_call 16; refine (HD.out _).mono ?_; rintro e w3 ⟨rfl, hb3⟩; replace hb3 := hide hb3))
    have b2 := hide (hb1.out.trans (hb2.out.mono hb1.out.size))
    have b3 := hide (b2.out.trans (hb3.out.mono b2.out.size))
    clear hb1 hb2 hb3 b2
    go_loop [38] (fun i => ∃ k : Nat, k ≤ u.length ∧ i = .int .i64 k) (fun i => u.length - (intOf i).toNat)
    case atStart => exact ⟨0, Nat.zero_le _, rfl⟩
    case round =>
      obtain ⟨k, hk, rfl⟩ := hrel
      by_cases hlt : k < u.length
      · by_cases hbg : k = 0 ∨ u[k - 1]? = some 10
        · have HL := hide (looks_any (u.drop k))
          rw [HB.out k hbg] at HL
          have e1 := ext_drop u k
          have hk1 : k ≤ u.length := hk
          by_cases hz : k = 0
          · subst hz
            rw [List.drop_zero] at HL e1
            go_wp2_with (first
              | (go_at_call 10; refine (HL.out _).mono ?_; rintro e w' ⟨rfl, rfl⟩))
            go_round
            case rel => exact ⟨1, by omega, rfl⟩
            case measure => simp [intOf]; omega
          · obtain ⟨j, rfl⟩ : ∃ j, k = j + 1 := ⟨k - 1, by omega⟩
            have hj : ((j + 1 : Nat) : Int) - 1 = (j : Int) := by omega
            have hgt : (0 : Int) < ((j + 1 : Nat) : Int) := by omega
            have hjl : j < u.length := by omega
            have hbyte : ((⟨u.toArray⟩ : ByteArray)[j]'(by rwa [size_lit])) = u[j] := rfl
            have h10 : u[j] = 10 := by
              rcases hbg with h | h
              · omega
              · rw [show j + 1 - 1 = j from rfl, List.getElem?_eq_getElem hjl] at h
                exact Option.some.inj h
            have hcc : ((((⟨u.toArray⟩ : ByteArray)[j]'(by rwa [size_lit])).toNat : Int) != 10) = false := by rw [hbyte, h10]; rfl
            clear hbyte h10 hbg hz
            generalize u.drop (j + 1) = y at HL e1
            go_wp2_with (first
              | (go_at_call 10; refine (HL.out _).mono ?_; rintro e w' ⟨rfl, rfl⟩))
            go_round
            case rel => exact ⟨j + 1 + 1, by omega, by go_num⟩
            case measure => simp [intOf]; omega
        · have hz : k ≠ 0 := fun h => hbg (.inl h)
          obtain ⟨j, rfl⟩ : ∃ j, k = j + 1 := ⟨k - 1, by omega⟩
          have hj : ((j + 1 : Nat) : Int) - 1 = (j : Int) := by omega
          have hgt : (0 : Int) < ((j + 1 : Nat) : Int) := by omega
          have hjl : j < u.length := by omega
          have hbyte : ((⟨u.toArray⟩ : ByteArray)[j]'(by rwa [size_lit])) = u[j] := rfl
          have h10 : u[j] ≠ 10 := by
            intro h
            refine hbg (.inr ?_)
            rw [show j + 1 - 1 = j from rfl, List.getElem?_eq_getElem hjl, h]
          have hcc : ((((⟨u.toArray⟩ : ByteArray)[j]'(by rwa [size_lit])).toNat : Int) != 10) = true := by
            rw [hbyte, bne_iff_ne]
            intro h
            exact h10 (UInt8.toNat_inj.1 (show u[j].toNat = 10 by omega))
          clear hbyte h10 hbg hz
          go_wp2
          go_round
          case rel => exact ⟨j + 1 + 1, by omega, by go_num⟩
          case measure => simp [intOf]; omega
      · go_wp2
        go_ret
        exact ⟨rfl, b3.out⟩
end Go.Proofs.YtbelaalpigiaeaaDoor
