/- The chapter's own case: alive. QuoteLines, QuoteMessages. -/
import Derived.Test.YtbelaalpigiaeaaDoorQ6
import Derived.Test.YtbelaalpigiaeaaDoorQ9
namespace Go.Proofs.YtbelaalpigiaeaaDoor
open Go.RowKit
theorem len_of (x : ByteArray) (h : x.size ≤ maxLen) : x.data.toList.length ≤ maxLen := by
  rw [Array.length_toList]
  exact h
theorem alive_dec : decT [120, 10, 10] (.iface 92 (.pointer (some ⟨0, 0, none⟩))) = .tuple #[.string ⟨#[120, 10]⟩, .nilIface] := by rfl
theorem alive_enc : encL [70, 114, 111, 109, 32, 97, 10, 62, 70, 114, 111, 109, 32, 98] = [62, 70, 114, 111, 109, 32, 97, 10, 62, 62, 70, 114, 111, 109, 32, 98, 10] := by rfl
theorem alive_decode (w : World) : Calls Tryd.prog 16 #[.string ⟨#[120, 10, 10]⟩] w fun e w' => e = .returned (.tuple #[.string ⟨#[120, 10]⟩, .nilIface]) ∧ Below w.heap.size w w' := by
  have := decode_any [120, 10, 10] w ⟨0, 0, none⟩ (by simp) (fun h => by cases h)
  rw [alive_dec] at this
  exact this
theorem alive_encode (w : World) : Calls Tryd.prog 14 #[.string ⟨#[70, 114, 111, 109, 32, 97, 10, 62, 70, 114, 111, 109, 32, 98]⟩] w fun e w' => e = .returned (.string ⟨#[62, 70, 114, 111, 109, 32, 97, 10, 62, 62, 70, 114, 111, 109, 32, 98, 10]⟩) ∧ Below w.heap.size w w' := by
  have := encode_any [70, 114, 111, 109, 32, 97, 10, 62, 70, 114, 111, 109, 32, 98] w (by simp)
  rw [alive_enc] at this
  exact this
set_option maxRecDepth 8000 in
set_option maxHeartbeats 1000000 in
theorem alive_yes (w : World) : Calls Tryd.prog 8 #[] w fun e w' => e = .returned (.bool true) ∧ Below w.heap.size w w' := by
  go_enter Tryd.func8, Tryd.ntmps8
  go_wp2_with (first
    | (go_at_call 16; refine (alive_decode _).mono ?_; rintro e w1 ⟨rfl, hb1⟩; replace hb1 := hide hb1)
    | (go_at_call 14; refine (alive_encode _).mono ?_; rintro e w2 ⟨rfl, hb2⟩; replace hb2 := hide hb2))
  go_ret
  exact ⟨rfl, hb1.out.trans (hb2.out.mono hb1.out.size)⟩
set_option maxRecDepth 8000 in
set_option maxHeartbeats 1000000 in
theorem messages_walk (s : List UInt8) (w : World) (hs : s.length ≤ maxLen) : Calls Tryd.prog 4 #[.string ⟨s.toArray⟩] w fun e w' => e = .returned (.bool true) ∧ Below w.heap.size w w' := by
  unfold maxLen at hs
  by_cases hl : 20000 < s.length
  · go_enter Tryd.func4, Tryd.ntmps4
    go_wp2_with (first
      | (go_at_call 8; refine (alive_yes _).mono ?_; rintro e w1 ⟨rfl, hb1⟩; replace hb1 := hide hb1))
    go_ret
    exact ⟨rfl, hb1.out⟩
  · have HE := hide (fun w => encode_any s w (by omega))
    have HR := hide (fun w => rencode_any s w (by omega))
    have hel := enc_len s
    have HS := hide (fun w => size_calls (s := s) (m := (encL s).length) (by omega) (by rw [hel]; rfl) w)
    clear hel
    generalize encL s = u at HE HR HS
    go_enter Tryd.func4, Tryd.ntmps4
    go_wp2_with (first
      | (go_at_call 8; refine (alive_yes _).mono ?_; rintro e w1 ⟨rfl, hb1⟩; replace hb1 := hide hb1)
      | (go_at_call 13; refine (HR.out _).mono ?_; rintro e w2 ⟨rfl, hb2⟩; replace hb2 := hide hb2)
      | (go_at_call 14; refine (HE.out _).mono ?_; rintro e w3 ⟨rfl, hb3⟩; replace hb3 := hide hb3)
      | (go_at_call 15; refine (HS.out _).mono ?_; rintro e w4 ⟨rfl, hb4⟩; replace hb4 := hide hb4))
    go_ret
    have b2 := hb1.out.trans (hb2.out.mono hb1.out.size)
    have b3 := b2.trans (hb3.out.mono b2.size)
    exact ⟨by simp, b3.trans (hb4.out.mono b3.size)⟩
end Go.Proofs.YtbelaalpigiaeaaDoor
