/- The document's Scan: plain lists; Same and Count. -/
import Derived.Test.YtcmhaihoeecjoaaGreatDoorM5
import Derived.Test.YtcmhaihoeecjoaaGreatDoorQ9
import Derived.Test.YtcmhaihoeecjoaaGreatDoorLRS
import Derived.BigQuiet
import Derived.Deep.QuietTactic
namespace Go.Proofs.YtcmhaihoeecjoaaGreatDoor
open Go.RowKit Go.Shelf
theorem restV_non {a : Nat} {x : List UInt8} {r : List (List UInt8)} (hx : sepB x = false) : restV a (x :: r) = none := by
  unfold restV
  rw [grp_non hx, if_neg (by simp)]
theorem restV_sep {a : Nat} {x : List UInt8} {c r2 : List (List UInt8)} (hx : sepB x = true) (hc : ∀ y ∈ c, sepB y = false) (hr : (grp r2).1 = []) :
    restV a (x :: (c ++ r2)) = if c.flatten.getLast? = some 10 then (restV (a + x.length + c.flatten.length) r2).map (⟨a, a + x.length, a + x.length + c.flatten.length⟩ :: ·) else none := by
  have eg : grp (x :: (c ++ r2)) = ([], (x, c) :: (grp r2).2) := by rw [grp_sep hx, grp_run c r2 hc, hr, List.append_nil]
  have eo : okG ((x, c) :: (grp r2).2) = (c.flatten.getLast? == some 10 && okG (grp r2).2) := rfl
  unfold restV
  rw [eg, hr]
  dsimp only
  rw [eo]
  by_cases h1 : c.flatten.getLast? = some 10
  · rw [if_pos h1]
    by_cases h2 : okG (grp r2).2 = true
    · rw [if_pos ⟨rfl, by rw [h1, h2]; rfl⟩, if_pos ⟨rfl, h2⟩]
      rfl
    · rw [if_neg (fun h => h2 (Bool.and_eq_true_iff.1 h.2).2), if_neg (fun h => h2 h.2)]
      rfl
  · rw [if_neg h1, if_neg (fun h => h1 (by simpa using (Bool.and_eq_true_iff.1 h.2).1))]
theorem lead_nil {r : List (List UInt8)} (h : ∀ x t, r = x :: t → sepB x = true) : (grp r).1 = [] := by
  cases r with
  | nil => rfl
  | cons x t => rw [grp_sep (h x t rfl)]
theorem term_last {x : List UInt8} (h : Term x) : x.getLast? = some 10 := by
  obtain ⟨p, rfl, _⟩ := h
  simp
theorem restV_open {a : Nat} {x : List UInt8} {r : List (List UInt8)} (hl : LOK (x :: r)) (hx : sepB x = true) (h10 : x.getLast? ≠ some 10) : restV a (x :: r) = none := by
  have hr : r = [] := by
    rcases hl.1 with h | h
    · exact absurd (term_last h) h10
    · exact h.1
  subst hr
  have := restV_sep (a := a) (c := []) (r2 := []) hx (by simp) rfl
  rw [List.append_nil] at this
  rw [this, if_neg (by simp)]
theorem decD_body {c : List (List UInt8)} (h : LOK c) (hn : ∀ x ∈ c, sepB x = false) : decD c.flatten = none ↔ ¬ c.flatten.getLast? = some 10 := by
  unfold decD
  rw [noSep_flat h hn]
  by_cases h1 : c.flatten.getLast? = some 10
  · simp [h1]
  · simp [h1]
theorem decV_body {c : List (List UInt8)} (h : LOK c) (hn : ∀ x ∈ c, sepB x = false) (h1 : c.flatten.getLast? = some 10) : ∃ m, decV c.flatten = some m := by
  unfold decV
  rw [noSep_flat h hn, if_pos ⟨h1, rfl⟩]
  exact ⟨_, rfl⟩
/-- What stands behind a line, as the file has it. -/
theorem cut_lines {s : List UInt8} {pre c r2 : List (List UInt8)} {x : List UInt8} (h : pre ++ x :: (c ++ r2) = splitS s) : (s.drop (pre.flatten.length + x.length)).take c.flatten.length = c.flatten ∧ pre.flatten.length + x.length + c.flatten.length ≤ s.length := by
  have e : s = (pre.flatten ++ x) ++ (c.flatten ++ r2.flatten) := by
    rw [← splitS_flat s, ← h]
    simp
  constructor
  · rw [e, List.drop_left' (by simp), List.take_left' rfl]
  · rw [e]
    simp
    omega
theorem Sps.len {B : Nat} {w : World} {v : Value} {xs : List Sp} (h : Sps B w v xs) : ∃ A c, v = .slice A xs.length c := by
  obtain ⟨G, hr, _⟩ := h
  exact hr.form
theorem marks0 {s : List UInt8} {m : Int} (hs : s.length ≤ 1000000) (hm : marksN s = m) (w : World) :
    Calls Tryz.prog 28 #[.string ⟨s.toArray⟩, .int .i64 0] w fun e w' => e = .returned (.int .i64 m) ∧ w' = w := by
  have := marks_any s 0 w (Nat.zero_le _) hs
  rw [List.drop_zero, hm] at this
  exact this
set_option maxHeartbeats 1000000 in
theorem count_any (s : List UInt8) (w : World) (a : Nat → Addr) (hs : s.length ≤ 1000000) (hE : scanV s = none → Errs w a) :
    Calls Tryz.prog 15 #[.string ⟨s.toArray⟩] w fun e w' => Below w.heap.size w w' ∧ match scanV s with
      | some xs => e = .returned (.int .i64 (xs.length : Nat))
      | none => e = .returned (.int .i64 (-1)) := by
  have HS := hide (scan_any s w a hs hE)
  cases hv : scanV s with
  | some xs =>
    have HV := hide hv
    clear hE hv
    go_enter Tryz.func15, Tryz.ntmps15
    go_wp2_with (first
      | (go_at_call 13; refine HS.out.mono ?_; rintro e w1 ⟨hb1, hm⟩; rw [HV.out] at hm; obtain ⟨v, rfl, hsp⟩ := hm; obtain ⟨A, c, rfl⟩ := hsp.len; replace hb1 := hide hb1; clear hsp))
    go_ret
    exact ⟨hb1.out, rfl⟩
  | none =>
    have HV := hide hv
    clear hE hv
    go_enter Tryz.func15, Tryz.ntmps15
    go_wp2_with (first
      | (go_at_call 13; refine HS.out.mono ?_; rintro e w1 ⟨hb1, hm⟩; rw [HV.out] at hm; obtain rfl := hm; unfold errV; replace hb1 := hide hb1))
    go_ret
    exact ⟨hb1.out, rfl⟩
set_option maxHeartbeats 1000000 in
theorem same_yes (B1 B2 : Nat) (v1 v2 : Value) (xs : List Sp) (w : World) (h1 : Sps B1 w v1 xs) (h2 : Sps B2 w v2 xs) (hl : xs.length ≤ 1000000) :
    Calls Tryz.prog 16 #[v1, v2] w fun e w' => e = .returned (.bool true) ∧ ∃ n, w' = w.drewN n := by
  obtain ⟨A1, c1, rfl⟩ := h1.len
  obtain ⟨A2, c2, rfl⟩ := h2.len
  have H1 := hide h1
  have H2 := hide h2
  clear h1 h2
  go_enter Tryz.func16, Tryz.ntmps16
  go_wp2
  go_loopw [13] (fun i wr => ∃ k : Nat, k ≤ xs.length ∧ i = .int .i64 k ∧ ∃ n, wr = w.drewN n) (fun i _ => xs.length - (intOf i).toNat)
  case atStart => exact ⟨0, Nat.zero_le _, rfl, 0, rfl⟩
  case round =>
    obtain ⟨k, hk, rfl, n, rfl⟩ := hrel
    by_cases hlt : k < xs.length
    · obtain ⟨g, o, cap, ev, q1, q2, q3, q4, q5, q6, q7, _⟩ := H1.out.read k hlt
      obtain ⟨rfl, rfl⟩ : A1 = some ⟨g, o, none⟩ ∧ c1 = cap := by cases ev; exact ⟨rfl, rfl⟩
      obtain ⟨g2, o2, cap2, ev2, r1, r2, r3, r4, r5, r6, r7, _⟩ := H2.out.read k hlt
      obtain ⟨rfl, rfl⟩ : A2 = some ⟨g2, o2, none⟩ ∧ c2 = cap2 := by cases ev2; exact ⟨rfl, rfl⟩
      have hlt' : (k : Int) < xs.length := by omega
      generalize xs[k] = p at *
      clear ev ev2
      go_wp2
      go_quiet (fail)
      go_wp2
      go_roundw
      case rel => exact ⟨k + 1, by omega, by go_num, n + nq, by simp⟩
      case measure => simp [intOf]; omega
    · obtain rfl : k = xs.length := by omega
      go_wp2
      go_ret
      exact ⟨rfl, n, rfl⟩
end Go.Proofs.YtcmhaihoeecjoaaGreatDoor
