/- whatOf and namesOf of package section. -/
import Derived.Test.YtegplihhbdmnbaaGreatDoorU25
import Derived.Shelf.Strings.SplitCore
import Derived.Lib.IndexBytes
import Derived.Lib.SplitLaws
namespace Go.Proofs.YtegplihhbdmnbaaGreatDoor
open Go.RowKit Go.Shelf
def whatV (w : List UInt8) : List UInt8 × Bool := match whatO w with
  | some x => (x, true)
  | none => ([], false)
theorem same_what {w x : List UInt8} (hx : x.map upB = x) : sameT w x = decide (w.map upB = x) := same_up hx
theorem whatV_yes {w x : List UInt8} (h : w.map upB = x) (hx : x ∈ whatL) : whatV w = (x, true) := by
  unfold whatV whatO
  rw [h, if_pos hx]
theorem whatV_no {w : List UInt8} (h : ∀ x ∈ whatL, w.map upB ≠ x) : whatV w = ([], false) := by
  unfold whatV whatO
  rw [if_neg (fun hm => h _ hm rfl)]
theorem ix6_0 (W : World) : (Instr.index 80 (.agg #[.string ⟨#[]⟩, .string ⟨#[77, 73, 77, 69]⟩, .string ⟨#[72, 69, 65, 68, 69, 82]⟩, .string ⟨#[84, 69, 88, 84]⟩, .string ⟨#[72, 69, 65, 68, 69, 82, 46, 70, 73, 69, 76, 68, 83]⟩, .string ⟨#[72, 69, 65, 68, 69, 82, 46, 70, 73, 69, 76, 68, 83, 46, 78, 79, 84]⟩]) (.int .i64 0)).run Tryz.prog W = .ok (.string ⟨#[]⟩) W := by
  simp [Instr.index, run_underlying Tryz.underlying80, asIntOf, go_sem]
theorem ix6_1 (W : World) : (Instr.index 80 (.agg #[.string ⟨#[]⟩, .string ⟨#[77, 73, 77, 69]⟩, .string ⟨#[72, 69, 65, 68, 69, 82]⟩, .string ⟨#[84, 69, 88, 84]⟩, .string ⟨#[72, 69, 65, 68, 69, 82, 46, 70, 73, 69, 76, 68, 83]⟩, .string ⟨#[72, 69, 65, 68, 69, 82, 46, 70, 73, 69, 76, 68, 83, 46, 78, 79, 84]⟩]) (.int .i64 1)).run Tryz.prog W = .ok (.string ⟨#[77, 73, 77, 69]⟩) W := by
  simp [Instr.index, run_underlying Tryz.underlying80, asIntOf, go_sem]
theorem ix6_2 (W : World) : (Instr.index 80 (.agg #[.string ⟨#[]⟩, .string ⟨#[77, 73, 77, 69]⟩, .string ⟨#[72, 69, 65, 68, 69, 82]⟩, .string ⟨#[84, 69, 88, 84]⟩, .string ⟨#[72, 69, 65, 68, 69, 82, 46, 70, 73, 69, 76, 68, 83]⟩, .string ⟨#[72, 69, 65, 68, 69, 82, 46, 70, 73, 69, 76, 68, 83, 46, 78, 79, 84]⟩]) (.int .i64 2)).run Tryz.prog W = .ok (.string ⟨#[72, 69, 65, 68, 69, 82]⟩) W := by
  simp [Instr.index, run_underlying Tryz.underlying80, asIntOf, go_sem]
theorem ix6_3 (W : World) : (Instr.index 80 (.agg #[.string ⟨#[]⟩, .string ⟨#[77, 73, 77, 69]⟩, .string ⟨#[72, 69, 65, 68, 69, 82]⟩, .string ⟨#[84, 69, 88, 84]⟩, .string ⟨#[72, 69, 65, 68, 69, 82, 46, 70, 73, 69, 76, 68, 83]⟩, .string ⟨#[72, 69, 65, 68, 69, 82, 46, 70, 73, 69, 76, 68, 83, 46, 78, 79, 84]⟩]) (.int .i64 3)).run Tryz.prog W = .ok (.string ⟨#[84, 69, 88, 84]⟩) W := by
  simp [Instr.index, run_underlying Tryz.underlying80, asIntOf, go_sem]
theorem ix6_4 (W : World) : (Instr.index 80 (.agg #[.string ⟨#[]⟩, .string ⟨#[77, 73, 77, 69]⟩, .string ⟨#[72, 69, 65, 68, 69, 82]⟩, .string ⟨#[84, 69, 88, 84]⟩, .string ⟨#[72, 69, 65, 68, 69, 82, 46, 70, 73, 69, 76, 68, 83]⟩, .string ⟨#[72, 69, 65, 68, 69, 82, 46, 70, 73, 69, 76, 68, 83, 46, 78, 79, 84]⟩]) (.int .i64 4)).run Tryz.prog W = .ok (.string ⟨#[72, 69, 65, 68, 69, 82, 46, 70, 73, 69, 76, 68, 83]⟩) W := by
  simp [Instr.index, run_underlying Tryz.underlying80, asIntOf, go_sem]
theorem ix6_5 (W : World) : (Instr.index 80 (.agg #[.string ⟨#[]⟩, .string ⟨#[77, 73, 77, 69]⟩, .string ⟨#[72, 69, 65, 68, 69, 82]⟩, .string ⟨#[84, 69, 88, 84]⟩, .string ⟨#[72, 69, 65, 68, 69, 82, 46, 70, 73, 69, 76, 68, 83]⟩, .string ⟨#[72, 69, 65, 68, 69, 82, 46, 70, 73, 69, 76, 68, 83, 46, 78, 79, 84]⟩]) (.int .i64 5)).run Tryz.prog W = .ok (.string ⟨#[72, 69, 65, 68, 69, 82, 46, 70, 73, 69, 76, 68, 83, 46, 78, 79, 84]⟩) W := by
  simp [Instr.index, run_underlying Tryz.underlying80, asIntOf, go_sem]
def noW (w : List UInt8) (k : Nat) : Prop := ∀ x ∈ whatL.take k, w.map upB ≠ x
theorem noW_next {w : List UInt8} {k : Nat} (h : noW w k) {x : List UInt8} (hx : whatL.take (k + 1) = whatL.take k ++ [x]) (hn : w.map upB ≠ x) : noW w (k + 1) := by
  intro y hy
  rw [hx, List.mem_append, List.mem_singleton] at hy
  rcases hy with hy | rfl
  · exact h y hy
  · exact hn
set_option maxRecDepth 20000 in
set_option maxHeartbeats 2000000 in
theorem whatOf_any (l : List UInt8) (w : World) (hl : l.length ≤ 1000000) :
    Calls Tryz.prog 21 #[.string ⟨l.toArray⟩] w fun e w' => e = .returned (.tuple #[.string ⟨(whatV l).1.toArray⟩, .bool (whatV l).2]) ∧ Below w.heap.size w w' := by
  have HS : Hid (∀ (x : List UInt8) (W : World), x.length ≤ 1000000 → Calls Tryz.prog 42 #[.string ⟨l.toArray⟩, .string ⟨x.toArray⟩] W fun e w' => e = .returned (.bool (sameT l x)) ∧ Below W.heap.size W w') := fun x W hx => hsame_any l x W hl hx
  go_enter Tryz.func21, Tryz.ntmps21
  go_wp2
  go_loopw [7] (fun u wr => ∃ k : Nat, k ≤ 6 ∧ u = .int .i64 k ∧ Hid (noW l k) ∧ Hid (Below w.heap.size w wr)) (fun u _ => 6 - (intOf u).toNat)
  case atStart => exact ⟨0, by omega, rfl, (fun x hx => by simp at hx), Below.refl _ _⟩
  case round =>
    obtain ⟨k, hk, rfl, HN, HB⟩ := hrel
    match k, hk, HN with
    | 0, hk, HN =>
      have hix := ix6_0
      cases hq : sameT l [] with
      | true =>
        have HV : Hid (whatV l = ([], true)) := whatV_yes (by rw [same_what (by decide)] at hq; simpa using hq) (by decide)
        have HC := hide (HS.out [] wr (by simp))
        rw [hq] at HC
        clear hq
        go_wp2_with (first
          | (go_at_call 42; refine HC.out.mono ?_; rintro e w2 ⟨rfl, hb2⟩; replace hb2 := hide hb2))
        exact bodyPost_ret (v := .tuple #[.string ⟨([] : List UInt8).toArray⟩, .bool true]) (by simp [results, Tryz.results21, go_sem]) rfl ⟨by rw [HV.out], HB.out.trans (hb2.out.mono HB.out.size)⟩
      | false =>
        have HX := hide (noW_next (x := []) HN.out rfl (by rw [same_what (by decide)] at hq; simpa using hq))
        have HC := hide (HS.out [] wr (by simp))
        rw [hq] at HC
        clear hq
        go_wp2_with (first
          | (go_at_call 42; refine HC.out.mono ?_; rintro e w2 ⟨rfl, hb2⟩; replace hb2 := hide hb2))
        go_roundw
        case rel => exact ⟨1, by omega, rfl, HX, HB.out.trans (hb2.out.mono HB.out.size)⟩
        case measure => simp [intOf]
    | 1, hk, HN =>
      have hix := ix6_1
      cases hq : sameT l [77, 73, 77, 69] with
      | true =>
        have HV : Hid (whatV l = ([77, 73, 77, 69], true)) := whatV_yes (by rw [same_what (by decide)] at hq; simpa using hq) (by decide)
        have HC := hide (HS.out [77, 73, 77, 69] wr (by simp))
        rw [hq] at HC
        clear hq
        go_wp2_with (first
          | (go_at_call 42; refine HC.out.mono ?_; rintro e w2 ⟨rfl, hb2⟩; replace hb2 := hide hb2))
        exact bodyPost_ret (v := .tuple #[.string ⟨([77, 73, 77, 69] : List UInt8).toArray⟩, .bool true]) (by simp [results, Tryz.results21, go_sem]) rfl ⟨by rw [HV.out], HB.out.trans (hb2.out.mono HB.out.size)⟩
      | false =>
        have HX := hide (noW_next (x := [77, 73, 77, 69]) HN.out rfl (by rw [same_what (by decide)] at hq; simpa using hq))
        have HC := hide (HS.out [77, 73, 77, 69] wr (by simp))
        rw [hq] at HC
        clear hq
        go_wp2_with (first
          | (go_at_call 42; refine HC.out.mono ?_; rintro e w2 ⟨rfl, hb2⟩; replace hb2 := hide hb2))
        go_roundw
        case rel => exact ⟨2, by omega, rfl, HX, HB.out.trans (hb2.out.mono HB.out.size)⟩
        case measure => simp [intOf]
    | 2, hk, HN =>
      have hix := ix6_2
      cases hq : sameT l [72, 69, 65, 68, 69, 82] with
      | true =>
        have HV : Hid (whatV l = ([72, 69, 65, 68, 69, 82], true)) := whatV_yes (by rw [same_what (by decide)] at hq; simpa using hq) (by decide)
        have HC := hide (HS.out [72, 69, 65, 68, 69, 82] wr (by simp))
        rw [hq] at HC
        clear hq
        go_wp2_with (first
          | (go_at_call 42; refine HC.out.mono ?_; rintro e w2 ⟨rfl, hb2⟩; replace hb2 := hide hb2))
        exact bodyPost_ret (v := .tuple #[.string ⟨([72, 69, 65, 68, 69, 82] : List UInt8).toArray⟩, .bool true]) (by simp [results, Tryz.results21, go_sem]) rfl ⟨by rw [HV.out], HB.out.trans (hb2.out.mono HB.out.size)⟩
      | false =>
        have HX := hide (noW_next (x := [72, 69, 65, 68, 69, 82]) HN.out rfl (by rw [same_what (by decide)] at hq; simpa using hq))
        have HC := hide (HS.out [72, 69, 65, 68, 69, 82] wr (by simp))
        rw [hq] at HC
        clear hq
        go_wp2_with (first
          | (go_at_call 42; refine HC.out.mono ?_; rintro e w2 ⟨rfl, hb2⟩; replace hb2 := hide hb2))
        go_roundw
        case rel => exact ⟨3, by omega, rfl, HX, HB.out.trans (hb2.out.mono HB.out.size)⟩
        case measure => simp [intOf]
    | 3, hk, HN =>
      have hix := ix6_3
      cases hq : sameT l [84, 69, 88, 84] with
      | true =>
        have HV : Hid (whatV l = ([84, 69, 88, 84], true)) := whatV_yes (by rw [same_what (by decide)] at hq; simpa using hq) (by decide)
        have HC := hide (HS.out [84, 69, 88, 84] wr (by simp))
        rw [hq] at HC
        clear hq
        go_wp2_with (first
          | (go_at_call 42; refine HC.out.mono ?_; rintro e w2 ⟨rfl, hb2⟩; replace hb2 := hide hb2))
        exact bodyPost_ret (v := .tuple #[.string ⟨([84, 69, 88, 84] : List UInt8).toArray⟩, .bool true]) (by simp [results, Tryz.results21, go_sem]) rfl ⟨by rw [HV.out], HB.out.trans (hb2.out.mono HB.out.size)⟩
      | false =>
        have HX := hide (noW_next (x := [84, 69, 88, 84]) HN.out rfl (by rw [same_what (by decide)] at hq; simpa using hq))
        have HC := hide (HS.out [84, 69, 88, 84] wr (by simp))
        rw [hq] at HC
        clear hq
        go_wp2_with (first
          | (go_at_call 42; refine HC.out.mono ?_; rintro e w2 ⟨rfl, hb2⟩; replace hb2 := hide hb2))
        go_roundw
        case rel => exact ⟨4, by omega, rfl, HX, HB.out.trans (hb2.out.mono HB.out.size)⟩
        case measure => simp [intOf]
    | 4, hk, HN =>
      have hix := ix6_4
      cases hq : sameT l [72, 69, 65, 68, 69, 82, 46, 70, 73, 69, 76, 68, 83] with
      | true =>
        have HV : Hid (whatV l = ([72, 69, 65, 68, 69, 82, 46, 70, 73, 69, 76, 68, 83], true)) := whatV_yes (by rw [same_what (by decide)] at hq; simpa using hq) (by decide)
        have HC := hide (HS.out [72, 69, 65, 68, 69, 82, 46, 70, 73, 69, 76, 68, 83] wr (by simp))
        rw [hq] at HC
        clear hq
        go_wp2_with (first
          | (go_at_call 42; refine HC.out.mono ?_; rintro e w2 ⟨rfl, hb2⟩; replace hb2 := hide hb2))
        exact bodyPost_ret (v := .tuple #[.string ⟨([72, 69, 65, 68, 69, 82, 46, 70, 73, 69, 76, 68, 83] : List UInt8).toArray⟩, .bool true]) (by simp [results, Tryz.results21, go_sem]) rfl ⟨by rw [HV.out], HB.out.trans (hb2.out.mono HB.out.size)⟩
      | false =>
        have HX := hide (noW_next (x := [72, 69, 65, 68, 69, 82, 46, 70, 73, 69, 76, 68, 83]) HN.out rfl (by rw [same_what (by decide)] at hq; simpa using hq))
        have HC := hide (HS.out [72, 69, 65, 68, 69, 82, 46, 70, 73, 69, 76, 68, 83] wr (by simp))
        rw [hq] at HC
        clear hq
        go_wp2_with (first
          | (go_at_call 42; refine HC.out.mono ?_; rintro e w2 ⟨rfl, hb2⟩; replace hb2 := hide hb2))
        go_roundw
        case rel => exact ⟨5, by omega, rfl, HX, HB.out.trans (hb2.out.mono HB.out.size)⟩
        case measure => simp [intOf]
    | 5, hk, HN =>
      have hix := ix6_5
      cases hq : sameT l [72, 69, 65, 68, 69, 82, 46, 70, 73, 69, 76, 68, 83, 46, 78, 79, 84] with
      | true =>
        have HV : Hid (whatV l = ([72, 69, 65, 68, 69, 82, 46, 70, 73, 69, 76, 68, 83, 46, 78, 79, 84], true)) := whatV_yes (by rw [same_what (by decide)] at hq; simpa using hq) (by decide)
        have HC := hide (HS.out [72, 69, 65, 68, 69, 82, 46, 70, 73, 69, 76, 68, 83, 46, 78, 79, 84] wr (by simp))
        rw [hq] at HC
        clear hq
        go_wp2_with (first
          | (go_at_call 42; refine HC.out.mono ?_; rintro e w2 ⟨rfl, hb2⟩; replace hb2 := hide hb2))
        exact bodyPost_ret (v := .tuple #[.string ⟨([72, 69, 65, 68, 69, 82, 46, 70, 73, 69, 76, 68, 83, 46, 78, 79, 84] : List UInt8).toArray⟩, .bool true]) (by simp [results, Tryz.results21, go_sem]) rfl ⟨by rw [HV.out], HB.out.trans (hb2.out.mono HB.out.size)⟩
      | false =>
        have HX := hide (noW_next (x := [72, 69, 65, 68, 69, 82, 46, 70, 73, 69, 76, 68, 83, 46, 78, 79, 84]) HN.out rfl (by rw [same_what (by decide)] at hq; simpa using hq))
        have HC := hide (HS.out [72, 69, 65, 68, 69, 82, 46, 70, 73, 69, 76, 68, 83, 46, 78, 79, 84] wr (by simp))
        rw [hq] at HC
        clear hq
        go_wp2_with (first
          | (go_at_call 42; refine HC.out.mono ?_; rintro e w2 ⟨rfl, hb2⟩; replace hb2 := hide hb2))
        go_roundw
        case rel => exact ⟨6, by omega, rfl, HX, HB.out.trans (hb2.out.mono HB.out.size)⟩
        case measure => simp [intOf]
    | 6, hk, HN =>
      have HV : Hid (whatV l = ([], false)) := whatV_no HN.out
      go_wp2
      exact bodyPost_ret (v := .tuple #[.string ⟨#[]⟩, .bool false]) (by simp [results, Tryz.results21, go_sem]) rfl ⟨by rw [HV.out], HB.out⟩
    | n + 7, hk, HN => omega
end Go.Proofs.YtegplihhbdmnbaaGreatDoor
