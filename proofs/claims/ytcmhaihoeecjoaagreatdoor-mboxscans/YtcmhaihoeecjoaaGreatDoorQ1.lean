/- Looks, needsMark, Quote, Unquote of package quote. -/
import Derived.Test.YtcmhaihoeecjoaaGreatDoorQMath
import Derived.Test.YtcmhaihoeecjoaaGreatDoorMem
import Derived.Test.YtcmhaihoeecjoaaGreatDoorShelf
import Derived.Test.YtcmhaihoeecjoaaGreatDoorChecked
namespace Go.Proofs.YtcmhaihoeecjoaaGreatDoor
open Go.RowKit
theorem hide {p : Prop} (h : p) : Hid p := h
def str (l : List UInt8) : Value := .string ⟨l.toArray⟩
theorem size_lit (l : List UInt8) : (⟨l.toArray⟩ : ByteArray).size = l.length := by simp [ByteArray.size]
theorem cat_lit (a b : List UInt8) : (⟨a.toArray⟩ : ByteArray) ++ ⟨b.toArray⟩ = ⟨(a ++ b).toArray⟩ := by
  apply ByteArray.ext
  simp [ByteArray.data_append]
theorem trim_calls (l : List UInt8) (w : World) : Calls Tryz.prog 89 #[.string ⟨l.toArray⟩, .string ⟨#[62]⟩] w fun e w' => e = .returned (.string ⟨(Lib.trimLeftB l 62).toArray⟩) ∧ w' = w :=
  Tryz.strings_TrimLeft_one ⟨l.toArray⟩ 62 (by decide) w
theorem pre_calls (l : List UInt8) (w : World) : Calls Tryz.prog 90 #[.string ⟨l.toArray⟩, .string ⟨#[70, 114, 111, 109, 32]⟩] w fun e w' => e = .returned (.bool (Lib.hasPrefix l fromS)) ∧ w' = w :=
  Tryz.strings_HasPrefix ⟨l.toArray⟩ ⟨#[70, 114, 111, 109, 32]⟩ w
set_option maxHeartbeats 400000 in
theorem looks_any (l : List UInt8) (w : World) :
    Calls Tryz.prog 52 #[.string ⟨l.toArray⟩] w fun e w' => e = .returned (.tuple #[.bool (sepB l), .bool (quoB l)]) ∧ w' = w := by
  have ht := nm_trim l
  have hle := trim_le l
  cases hn : nm l with
  | false =>
    have hs : sepB l = false := by
      cases h : sepB l with
      | true => rw [nm_sep h] at hn; cases hn
      | false => rfl
    have hq : quoB l = false := by
      cases h : quoB l with
      | true => rw [nm_quo h] at hn; cases hn
      | false => rfl
    rw [hn] at ht
    rw [hs, hq]
    clear hs hq hn
    generalize hg : Lib.trimLeftB l 62 = t at ht hle
    have HG := hide hg
    clear hg
    go_enter Tryz.func52, Tryz.ntmps52
    go_wp2_with (first | (go_at_call 89; refine (trim_calls l _).mono ?_; rintro e w' ⟨rfl, rfl⟩; rw [HG.out]) | (go_at_call 90; refine (pre_calls t _).mono ?_; rintro e w' ⟨rfl, rfl⟩))
    go_ret2
    exact ⟨rfl, rfl⟩
  | true =>
    have hs := sep_trim hn
    rw [quo_not_sep hn]
    rw [hn] at ht
    clear hn
    have HS := hide hs
    clear hs
    generalize hg : Lib.trimLeftB l 62 = t at ht hle HS
    have HG := hide hg
    clear hg
    by_cases he : t.length = l.length
    · have hb : ((t.length : Int) == (l.length : Int)) = true := by simp [he]
      have hs : sepB l = true := by rw [HS.out]; simpa using he
      rw [hs]
      clear he hs
      go_enter Tryz.func52, Tryz.ntmps52
      go_wp2_with (first | (go_at_call 89; refine (trim_calls l _).mono ?_; rintro e w' ⟨rfl, rfl⟩; rw [HG.out]) | (go_at_call 90; refine (pre_calls t _).mono ?_; rintro e w' ⟨rfl, rfl⟩))
      go_ret2
      exact ⟨by simp, rfl⟩
    · have hb : ((t.length : Int) == (l.length : Int)) = false := by simp; omega
      have hs : sepB l = false := by rw [HS.out]; simpa using he
      rw [hs]
      clear he hs
      go_enter Tryz.func52, Tryz.ntmps52
      go_wp2_with (first | (go_at_call 89; refine (trim_calls l _).mono ?_; rintro e w' ⟨rfl, rfl⟩; rw [HG.out]) | (go_at_call 90; refine (pre_calls t _).mono ?_; rintro e w' ⟨rfl, rfl⟩))
      go_ret2
      exact ⟨by simp, rfl⟩
set_option maxHeartbeats 400000 in
theorem needs_any (l : List UInt8) (w : World) :
    Calls Tryz.prog 72 #[.string ⟨l.toArray⟩] w fun e w' => e = .returned (.bool (nm l)) ∧ w' = w := by
  have HN := hide (nm_or l)
  have HL := hide (looks_any l w)
  cases hs : sepB l <;> rw [hs] at HN HL
  all_goals
    clear hs
    go_enter Tryz.func72, Tryz.ntmps72
    go_wp2_with (go_at_call 52; refine HL.out.mono ?_; rintro e w' ⟨rfl, rfl⟩)
    go_ret
    exact ⟨by rw [HN.out]; simp, rfl⟩
set_option maxHeartbeats 400000 in
theorem quote_any (l : List UInt8) (w : World) (hl : l.length ≤ 4611686018427387904) :
    Calls Tryz.prog 38 #[.string ⟨l.toArray⟩] w fun e w' => e = .returned (.string ⟨(quoteL l).toArray⟩) ∧ w' = w := by
  have HL := hide (needs_any l w)
  unfold quoteL
  cases hs : nm l <;> rw [hs] at HL
  all_goals
    clear hs
    go_enter Tryz.func38, Tryz.ntmps38
    go_wp2_with (go_at_call 72; refine HL.out.mono ?_; rintro e w' ⟨rfl, rfl⟩)
    go_ret
    exact ⟨by first | (rw [cat_lit [62] l]; rfl) | simp, rfl⟩
set_option maxHeartbeats 400000 in
theorem unquote_any (l : List UInt8) (w : World) (hl : l.length ≤ 4611686018427387904) :
    Calls Tryz.prog 55 #[.string ⟨l.toArray⟩] w fun e w' => e = .returned (.string ⟨(unquoteL l).toArray⟩) ∧ w' = w := by
  have HL := hide (looks_any l w)
  unfold unquoteL
  cases hs : quoB l <;> rw [hs] at HL
  · clear hs
    go_enter Tryz.func55, Tryz.ntmps55
    go_wp2_with (go_at_call 52; refine HL.out.mono ?_; rintro e w' ⟨rfl, rfl⟩)
    go_ret
    exact ⟨by simp, rfl⟩
  · obtain ⟨r, rfl, _⟩ := quo_form hs
    clear hs
    have e1 := ext_drop (62 :: r) 1
    simp only [List.length_cons] at e1 hl
    go_enter Tryz.func55, Tryz.ntmps55
    go_wp2_with (go_at_call 52; refine HL.out.mono ?_; rintro e w' ⟨rfl, rfl⟩)
    go_ret
    exact ⟨by simp, rfl⟩
end Go.Proofs.YtcmhaihoeecjoaaGreatDoor
