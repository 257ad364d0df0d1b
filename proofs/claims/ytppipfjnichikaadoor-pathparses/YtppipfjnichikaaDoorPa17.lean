/- PathParses. -/
import Derived.Test.YtppipfjnichikaaDoorPa16
namespace Go.Proofs.YtppipfjnichikaaDoor
open Go.RowKit Go.Shelf
theorem preV_true {s : List UInt8} (h : (preV s).2 = true) : s = 60 :: (preV s).1 := by
  cases s with
  | nil => cases h
  | cons c t =>
    simp only [preV] at h ⊢
    split at h
    · rename_i hc
      simp [hc]
    · cases h
theorem cutV_true {b : UInt8} {l : List UInt8} (h : (cutV b l).2.2 = true) : l = (cutV b l).1 ++ b :: (cutV b l).2.1 := by
  by_cases hb : b ∈ l
  · obtain ⟨p, q, rfl, hp⟩ := split_at_byte l hb
    rw [cutV_in q hp]
  · rw [cutV_out hb] at h
    cases h
theorem take_shape {s l d r : List UInt8} (h : takeO s = some (l, d, r)) : ∃ bare, s = 60 :: bare ++ 62 :: r := by
  unfold takeO at h
  split at h
  · rename_i hc
    simp only [Bool.and_eq_true] at hc
    have h1 := preV_true hc.1.1
    have h2 := cutV_true hc.1.2
    simp only [Option.some.injEq, Prod.mk.injEq] at h
    refine ⟨(cutV 62 (preV s).1).1, ?_⟩
    rw [h.2.2] at h2
    rw [List.cons_append, ← h2]
    exact h1
  · cases h
theorem parse_from (w : World) (s : List UInt8) (a : Nat → Addr) (hs : s.length ≤ 1000000) (hE : Errs w a) (w' : World) (hb : Below w.heap.size w w') : Calls Tryd.prog 9 #[.string ⟨s.toArray⟩] w' fun e w'' => e = .returned (parseV a (parseO s)) ∧ Below w'.heap.size w' w'' :=
  parse_any s w' a hs (fun _ => hE.below hb)
theorem take_from (w : World) (s : List UInt8) (a : Nat → Addr) (hs : s.length ≤ 1000000) (hE : Errs w a) (w' : World) (hb : Below w.heap.size w w') : Calls Tryd.prog 10 #[.string ⟨s.toArray⟩] w' fun e w'' => e = .returned (takeV a (takeO s)) ∧ Below w'.heap.size w' w'' :=
  take_any s w' a hs (fun _ => hE.below hb)
/-- What stands in the three blocks. -/
def Cs (w : World) (b : Nat) (x y : List UInt8) : Prop := Blk w b #[.string ⟨x.toArray⟩, .string ⟨y.toArray⟩] 24
set_option maxRecDepth 20000 in
set_option maxHeartbeats 8000000 in
theorem parses_walk (s : List UInt8) (w : World) (a : Nat → Addr) (hE : Errs w a) : Calls Tryd.prog 3 #[.string ⟨s.toArray⟩] w fun e w' => e = .returned (.bool true) ∧ Below w.heap.size w w' := by
  have HA := hide alive_any
  by_cases h : 2000 < s.length
  · have g : 2000 < (s.length : Int) := by omega
    go_enter Tryd.func3, Tryd.ntmps3
    go_wp2_with (first
      | (go_at_call 8; refine (HA.out _).mono ?_; rintro e w1 ⟨rfl, hb1⟩; replace hb1 := hide hb1))
    go_ret
    exact ⟨rfl, hb1.out⟩
  have g : ¬ 2000 < (s.length : Int) := by omega
  have hs : s.length ≤ 2000 := by omega
  have HP := hide (parse_from w s a (by omega) hE)
  have HT := hide (take_from w s a (by omega) hE)
  have HD := hide (fun w => rtake_any s w hs)
  have HN := hide (fun w' (hb : Below w.heap.size w w') => num_err 1 (by decide) w' a (hE.below hb))
  clear hE h
  cases ht : takeO s with
  | none =>
    have hp : parseO s = none := by unfold parseO; rw [ht]
    rw [hp] at HP
    rw [ht] at HT HD
    unfold parseV errV at HP
    unfold takeV errV at HT
    unfold rtakeV at HD
    clear hp ht
    go_enter Tryd.func3, Tryd.ntmps3
    go_wp2_with (first
      | (go_at_call 8; refine (HA.out _).mono ?_; rintro e w1 ⟨rfl, hb1⟩; have HB := hide hb1; clear hb1)
      | (go_at_call 9; refine (HP.out _ HB.out).mono ?_; rintro e w2 ⟨rfl, hb2⟩
         replace HB := hide ((HB.out.trans (hb2.mono HB.out.size)).alloc (Nat.le_trans HB.out.size hb2.size) (.cells #[.string ⟨#[]⟩, .string ⟨#[]⟩] 24))
         have HC2 := hide (Blk.new w2 #[.string ⟨#[]⟩, .string ⟨#[]⟩] 24)
         clear hb2)
      | (go_at_call 10; refine (HT.out _ HB.out).mono ?_; rintro e w3 ⟨rfl, hb3⟩
         replace HB := hide ((HB.out.trans (hb3.mono HB.out.size)).alloc (Nat.le_trans HB.out.size hb3.size) (.cells #[.string ⟨#[]⟩, .string ⟨#[]⟩] 24))
         replace HC2 := hide ((HC2.out.below hb3 HC2.out.lt).alloc (.cells #[.string ⟨#[]⟩, .string ⟨#[]⟩] 24))
         have HC3 := hide (Blk.new w3 #[.string ⟨#[]⟩, .string ⟨#[]⟩] 24)
         clear hb3)
      | (go_at_call 11; refine (HD.out _).mono ?_; rintro e w4 ⟨rfl, hb4⟩
         replace HC2 := hide (HC2.out.below hb4 HC2.out.lt)
         replace HC3 := hide (HC3.out.below hb4 HC3.out.lt)
         replace HB := hide ((HB.out.trans (hb4.mono HB.out.size)).alloc (Nat.le_trans HB.out.size hb4.size) (.cells #[.string ⟨#[]⟩, .string ⟨#[]⟩] 24))
         have hl2 := HC2.out.lt
         have hl3 := HC3.out.lt
         have hc2 := HC2.out.cell
         have hc3 := HC3.out.cell
         clear hb4)
      | (go_at_call 12; refine (HN.out _ HB.out).mono ?_; rintro e w5 ⟨rfl, hb5⟩; replace HB := hide (HB.out.trans (hb5.mono HB.out.size)); clear hb5))
    go_ret
    exact ⟨by simp, HB.out⟩
  | some x =>
    obtain ⟨l, d, r⟩ := x
    obtain ⟨bare, hsh⟩ := take_shape ht
    obtain ⟨N, hN⟩ : ∃ N, bare.length + 2 = N := ⟨_, rfl⟩
    have hlen : s.length = N + r.length := by rw [hsh, ← hN]; simp; omega
    have hNi : (s.length : Int) - (r.length : Int) = (N : Int) := by omega
    have x1 : (⟨s.toArray⟩ : ByteArray).extract N s.length = ⟨r.toArray⟩ := by
      rw [ext_drop, hsh, ← hN]
      simp
    have n0 : ¬ (N : Int) = 0 := by omega
    have n0' : ((N : Int) == 0) = false := by rw [beq_eq_false_iff_ne]; exact n0
    have hNs : N ≤ s.length := by omega
    rw [ht] at HT HD
    unfold takeV at HT
    unfold rtakeV at HD
    simp only at HT HD
    rw [hNi] at HD
    have hp : ∀ l d r, takeO s = some (l, d, r) → parseO s = if r.isEmpty then some (l, d) else none := fun l d r h => by
      unfold parseO
      rw [h]
      cases r <;> rfl
    rw [hp l d r ht] at HP
    clear hp ht hsh hN hNi
    cases r with
    | nil =>
      rw [show (if ([] : List UInt8).isEmpty = true then some (l, d) else none) = some (l, d) from rfl] at HP
      have gN : ¬ (N : Int) < s.length := by simp at hlen; omega
      unfold parseV at HP
      clear hlen
      go_enter Tryd.func3, Tryd.ntmps3
      go_wp2_with (first
        | (go_at_call 8; refine (HA.out _).mono ?_; rintro e w1 ⟨rfl, hb1⟩; have HB := hide hb1; clear hb1)
        | (go_at_call 9; refine (HP.out _ HB.out).mono ?_; rintro e w2 ⟨rfl, hb2⟩
           replace HB := hide ((HB.out.trans (hb2.mono HB.out.size)).alloc (Nat.le_trans HB.out.size hb2.size) (.cells #[.string ⟨l.toArray⟩, .string ⟨d.toArray⟩] 24))
           have HC2 := hide (Blk.new w2 #[.string ⟨l.toArray⟩, .string ⟨d.toArray⟩] 24)
           clear hb2)
        | (go_at_call 10; refine (HT.out _ HB.out).mono ?_; rintro e w3 ⟨rfl, hb3⟩
           replace HB := hide ((HB.out.trans (hb3.mono HB.out.size)).alloc (Nat.le_trans HB.out.size hb3.size) (.cells #[.string ⟨l.toArray⟩, .string ⟨d.toArray⟩] 24))
           replace HC2 := hide ((HC2.out.below hb3 HC2.out.lt).alloc (.cells #[.string ⟨l.toArray⟩, .string ⟨d.toArray⟩] 24))
           have HC3 := hide (Blk.new w3 #[.string ⟨l.toArray⟩, .string ⟨d.toArray⟩] 24)
           clear hb3)
        | (go_at_call 11; refine (HD.out _).mono ?_; rintro e w4 ⟨rfl, hb4⟩
           replace HC2 := hide (HC2.out.below hb4 HC2.out.lt)
           replace HC3 := hide (HC3.out.below hb4 HC3.out.lt)
           replace HB := hide ((HB.out.trans (hb4.mono HB.out.size)).alloc (Nat.le_trans HB.out.size hb4.size) (.cells #[.string ⟨l.toArray⟩, .string ⟨d.toArray⟩] 24))
           have hl2 := HC2.out.lt
           have hl3 := HC3.out.lt
           have hc2 := HC2.out.cell
           have hc3 := HC3.out.cell
           clear hb4)
        | (go_at_call 12; refine (HN.out _ HB.out).mono ?_; rintro e w5 ⟨rfl, hb5⟩; replace HB := hide (HB.out.trans (hb5.mono HB.out.size)); clear hb5))
      go_ret
      exact ⟨by simp, HB.out⟩
    | cons c r =>
      rw [show (if (c :: r).isEmpty = true then some (l, d) else none) = none from rfl] at HP
      have gN : (N : Int) < s.length := by simp at hlen; omega
      unfold parseV errV at HP
      clear hlen
      go_enter Tryd.func3, Tryd.ntmps3
      go_wp2_with (first
        | (go_at_call 8; refine (HA.out _).mono ?_; rintro e w1 ⟨rfl, hb1⟩; have HB := hide hb1; clear hb1)
        | (go_at_call 9; refine (HP.out _ HB.out).mono ?_; rintro e w2 ⟨rfl, hb2⟩
           replace HB := hide ((HB.out.trans (hb2.mono HB.out.size)).alloc (Nat.le_trans HB.out.size hb2.size) (.cells #[.string ⟨#[]⟩, .string ⟨#[]⟩] 24))
           have HC2 := hide (Blk.new w2 #[.string ⟨#[]⟩, .string ⟨#[]⟩] 24)
           clear hb2)
        | (go_at_call 10; refine (HT.out _ HB.out).mono ?_; rintro e w3 ⟨rfl, hb3⟩
           replace HB := hide ((HB.out.trans (hb3.mono HB.out.size)).alloc (Nat.le_trans HB.out.size hb3.size) (.cells #[.string ⟨l.toArray⟩, .string ⟨d.toArray⟩] 24))
           replace HC2 := hide ((HC2.out.below hb3 HC2.out.lt).alloc (.cells #[.string ⟨l.toArray⟩, .string ⟨d.toArray⟩] 24))
           have HC3 := hide (Blk.new w3 #[.string ⟨l.toArray⟩, .string ⟨d.toArray⟩] 24)
           clear hb3)
        | (go_at_call 11; refine (HD.out _).mono ?_; rintro e w4 ⟨rfl, hb4⟩
           replace HC2 := hide (HC2.out.below hb4 HC2.out.lt)
           replace HC3 := hide (HC3.out.below hb4 HC3.out.lt)
           replace HB := hide ((HB.out.trans (hb4.mono HB.out.size)).alloc (Nat.le_trans HB.out.size hb4.size) (.cells #[.string ⟨l.toArray⟩, .string ⟨d.toArray⟩] 24))
           have hl2 := HC2.out.lt
           have hl3 := HC3.out.lt
           have hc2 := HC2.out.cell
           have hc3 := HC3.out.cell
           clear hb4)
        | (go_at_call 12; refine (HN.out _ HB.out).mono ?_; rintro e w5 ⟨rfl, hb5⟩; replace HB := hide (HB.out.trans (hb5.mono HB.out.size)); clear hb5))
      go_ret
      exact ⟨by simp, HB.out⟩
end Go.Proofs.YtppipfjnichikaaDoor
