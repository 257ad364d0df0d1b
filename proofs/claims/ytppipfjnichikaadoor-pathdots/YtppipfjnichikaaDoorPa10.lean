/- PathDots. -/
import Derived.Test.YtppipfjnichikaaDoorPa9
namespace Go.Proofs.YtppipfjnichikaaDoor
open Go.RowKit Go.Shelf
theorem dom_from (w : World) (l : List UInt8) (w' : World) (hs : l.length ≤ 1000000) (hb : Below w.heap.size w w') : Calls Tryd.prog 18 #[.string ⟨l.toArray⟩] w' fun e w'' => e = .returned (.bool (domB l)) ∧ Below w.heap.size w w'' :=
  (dom_any l w' hs).mono (by rintro e w'' ⟨rfl, h⟩; exact ⟨rfl, hb.trans (h.mono hb.size)⟩)
theorem local_from (w : World) (l : List UInt8) (w' : World) (hs : l.length ≤ 1000000) (hb : Below w.heap.size w w') : Calls Tryd.prog 16 #[.string ⟨l.toArray⟩] w' fun e w'' => e = .returned (.bool (localB l)) ∧ Below w.heap.size w w'' :=
  (local_any l w' hs).mono (by rintro e w'' ⟨rfl, h⟩; exact ⟨rfl, hb.trans (h.mono hb.size)⟩)
theorem cat3 (a b : List UInt8) : a ++ [46] ++ b = a ++ 46 :: b := by simp
theorem dots_d {a b : List UInt8} (x1 : domB a = true) (x2 : domB b = true) : domB (a ++ 46 :: b) = decide ((a.length : Int) + (b.length : Int) + 1 ≤ 100) := by
  rw [domB_app x1 x2, Bool.eq_iff_iff, decide_eq_true_iff, decide_eq_true_iff]
  omega
theorem dots_l {a b : List UInt8} (x1 : localB a = true) (x2 : localB b = true) : localB (a ++ 46 :: b) = decide ((a.length : Int) + (b.length : Int) + 1 ≤ 64) := by
  rw [localB_app x1 x2, Bool.eq_iff_iff, decide_eq_true_iff, decide_eq_true_iff]
  omega
set_option maxHeartbeats 4000000 in
theorem dots_walk (a b : List UInt8) (w : World) : Calls Tryd.prog 7 #[.string ⟨a.toArray⟩, .string ⟨b.toArray⟩] w fun e w' => e = .returned (.bool true) ∧ Below w.heap.size w w' := by
  have HA := hide alive_any
  by_cases h : 500 < a.length
  · have g : 500 < (a.length : Int) := by omega
    go_enter Tryd.func7, Tryd.ntmps7
    go_wp2_with (first
      | (go_at_call 8; refine (HA.out _).mono ?_; rintro e w1 ⟨rfl, hb1⟩; replace hb1 := hide hb1))
    go_ret
    exact ⟨rfl, hb1.out⟩
  have g : ¬ 500 < (a.length : Int) := by omega
  have g' : decide (500 < (a.length : Int)) = false := decide_eq_false g
  by_cases h2 : 500 < b.length
  · have g2 : 500 < (b.length : Int) := by omega
    go_enter Tryd.func7, Tryd.ntmps7
    go_wp2_with (first
      | (go_at_call 8; refine (HA.out _).mono ?_; rintro e w1 ⟨rfl, hb1⟩; replace hb1 := hide hb1))
    go_ret
    exact ⟨rfl, hb1.out⟩
  have g2 : ¬ 500 < (b.length : Int) := by omega
  have g2' : decide (500 < (b.length : Int)) = false := decide_eq_false g2
  have HD := hide (dom_from w)
  have HL := hide (local_from w)
  have hcat := cat_lit
  have hc3 := cat3 a b
  have k1 := domB_end a
  have k2 := domB_begin b
  have k3 := localB_end a
  have k4 := localB_begin b
  have k5 := domB_nil
  have k6 := localB_nil
  cases d1 : domB a with
  | false =>
    cases l1 : localB a with
    | false =>
      go_enter Tryd.func7, Tryd.ntmps7
      go_wp2_with (first
        | (go_at_call 8; refine (HA.out _).mono ?_; rintro e w1 ⟨rfl, hb⟩; have HB := hide hb; clear hb)
        | (go_at_call 18; refine (HD.out _ _ (by first | omega | (simp; done) | (simp; omega)) HB.out).mono ?_; rintro e w1 ⟨rfl, hb⟩; replace HB := hide hb; clear hb)
        | (go_at_call 16; refine (HL.out _ _ (by first | omega | (simp; done) | (simp; omega)) HB.out).mono ?_; rintro e w1 ⟨rfl, hb⟩; replace HB := hide hb; clear hb))
      go_ret
      exact ⟨by simp, HB.out⟩
    | true =>
      cases l2 : localB b with
      | false =>
        go_enter Tryd.func7, Tryd.ntmps7
        go_wp2_with (first
          | (go_at_call 8; refine (HA.out _).mono ?_; rintro e w1 ⟨rfl, hb⟩; have HB := hide hb; clear hb)
          | (go_at_call 18; refine (HD.out _ _ (by first | omega | (simp; done) | (simp; omega)) HB.out).mono ?_; rintro e w1 ⟨rfl, hb⟩; replace HB := hide hb; clear hb)
          | (go_at_call 16; refine (HL.out _ _ (by first | omega | (simp; done) | (simp; omega)) HB.out).mono ?_; rintro e w1 ⟨rfl, hb⟩; replace HB := hide hb; clear hb))
        go_ret
        exact ⟨by simp, HB.out⟩
      | true =>
        have l3 := dots_l l1 l2
        go_enter Tryd.func7, Tryd.ntmps7
        go_wp2_with (first
          | (go_at_call 8; refine (HA.out _).mono ?_; rintro e w1 ⟨rfl, hb⟩; have HB := hide hb; clear hb)
          | (go_at_call 18; refine (HD.out _ _ (by first | omega | (simp; done) | (simp; omega)) HB.out).mono ?_; rintro e w1 ⟨rfl, hb⟩; replace HB := hide hb; clear hb)
          | (go_at_call 16; refine (HL.out _ _ (by first | omega | (simp; done) | (simp; omega)) HB.out).mono ?_; rintro e w1 ⟨rfl, hb⟩; replace HB := hide hb; clear hb))
        go_ret
        exact ⟨by simp, HB.out⟩
  | true =>
    cases d2 : domB b with
    | false =>
      cases l1 : localB a with
      | false =>
        go_enter Tryd.func7, Tryd.ntmps7
        go_wp2_with (first
          | (go_at_call 8; refine (HA.out _).mono ?_; rintro e w1 ⟨rfl, hb⟩; have HB := hide hb; clear hb)
          | (go_at_call 18; refine (HD.out _ _ (by first | omega | (simp; done) | (simp; omega)) HB.out).mono ?_; rintro e w1 ⟨rfl, hb⟩; replace HB := hide hb; clear hb)
          | (go_at_call 16; refine (HL.out _ _ (by first | omega | (simp; done) | (simp; omega)) HB.out).mono ?_; rintro e w1 ⟨rfl, hb⟩; replace HB := hide hb; clear hb))
        go_ret
        exact ⟨by simp, HB.out⟩
      | true =>
        cases l2 : localB b with
        | false =>
          go_enter Tryd.func7, Tryd.ntmps7
          go_wp2_with (first
            | (go_at_call 8; refine (HA.out _).mono ?_; rintro e w1 ⟨rfl, hb⟩; have HB := hide hb; clear hb)
            | (go_at_call 18; refine (HD.out _ _ (by first | omega | (simp; done) | (simp; omega)) HB.out).mono ?_; rintro e w1 ⟨rfl, hb⟩; replace HB := hide hb; clear hb)
            | (go_at_call 16; refine (HL.out _ _ (by first | omega | (simp; done) | (simp; omega)) HB.out).mono ?_; rintro e w1 ⟨rfl, hb⟩; replace HB := hide hb; clear hb))
          go_ret
          exact ⟨by simp, HB.out⟩
        | true =>
          have l3 := dots_l l1 l2
          go_enter Tryd.func7, Tryd.ntmps7
          go_wp2_with (first
            | (go_at_call 8; refine (HA.out _).mono ?_; rintro e w1 ⟨rfl, hb⟩; have HB := hide hb; clear hb)
            | (go_at_call 18; refine (HD.out _ _ (by first | omega | (simp; done) | (simp; omega)) HB.out).mono ?_; rintro e w1 ⟨rfl, hb⟩; replace HB := hide hb; clear hb)
            | (go_at_call 16; refine (HL.out _ _ (by first | omega | (simp; done) | (simp; omega)) HB.out).mono ?_; rintro e w1 ⟨rfl, hb⟩; replace HB := hide hb; clear hb))
          go_ret
          exact ⟨by simp, HB.out⟩
    | true =>
      have d3 := dots_d d1 d2
      cases l1 : localB a with
      | false =>
        go_enter Tryd.func7, Tryd.ntmps7
        go_wp2_with (first
          | (go_at_call 8; refine (HA.out _).mono ?_; rintro e w1 ⟨rfl, hb⟩; have HB := hide hb; clear hb)
          | (go_at_call 18; refine (HD.out _ _ (by first | omega | (simp; done) | (simp; omega)) HB.out).mono ?_; rintro e w1 ⟨rfl, hb⟩; replace HB := hide hb; clear hb)
          | (go_at_call 16; refine (HL.out _ _ (by first | omega | (simp; done) | (simp; omega)) HB.out).mono ?_; rintro e w1 ⟨rfl, hb⟩; replace HB := hide hb; clear hb))
        go_ret
        exact ⟨by simp, HB.out⟩
      | true =>
        cases l2 : localB b with
        | false =>
          go_enter Tryd.func7, Tryd.ntmps7
          go_wp2_with (first
            | (go_at_call 8; refine (HA.out _).mono ?_; rintro e w1 ⟨rfl, hb⟩; have HB := hide hb; clear hb)
            | (go_at_call 18; refine (HD.out _ _ (by first | omega | (simp; done) | (simp; omega)) HB.out).mono ?_; rintro e w1 ⟨rfl, hb⟩; replace HB := hide hb; clear hb)
            | (go_at_call 16; refine (HL.out _ _ (by first | omega | (simp; done) | (simp; omega)) HB.out).mono ?_; rintro e w1 ⟨rfl, hb⟩; replace HB := hide hb; clear hb))
          go_ret
          exact ⟨by simp, HB.out⟩
        | true =>
          have l3 := dots_l l1 l2
          go_enter Tryd.func7, Tryd.ntmps7
          go_wp2_with (first
            | (go_at_call 8; refine (HA.out _).mono ?_; rintro e w1 ⟨rfl, hb⟩; have HB := hide hb; clear hb)
            | (go_at_call 18; refine (HD.out _ _ (by first | omega | (simp; done) | (simp; omega)) HB.out).mono ?_; rintro e w1 ⟨rfl, hb⟩; replace HB := hide hb; clear hb)
            | (go_at_call 16; refine (HL.out _ _ (by first | omega | (simp; done) | (simp; omega)) HB.out).mono ?_; rintro e w1 ⟨rfl, hb⟩; replace HB := hide hb; clear hb))
          go_ret
          exact ⟨by simp, HB.out⟩
end Go.Proofs.YtppipfjnichikaaDoor
