/- The reader of package dates: numbers of so many digits. -/
import Derived.Test.YtjddeaeanomdhabDoorRd1
namespace Go.Proofs.YtjddeaeanomdhabDoor
open Go.RowKit

def val (p : List Nat) : Nat := p.foldl (fun x n => x * 10 + n) 0
theorem val_snoc (p : List Nat) (n : Nat) : val (p ++ [n]) = val p * 10 + n := by simp [val, List.foldl_append]
theorem val_bound : ∀ (q p : List Nat), (∀ n ∈ q, n < 10) → val p < 10 ^ p.length → val (p ++ q) < 10 ^ (p ++ q).length
  | [], p, _, h => by simpa using h
  | n :: q, p, hq, h => by
    have e : p ++ n :: q = (p ++ [n]) ++ q := by simp
    rw [e]
    refine val_bound q (p ++ [n]) (fun x hx => hq x (by simp [hx])) ?_
    rw [val_snoc, List.length_append, List.length_singleton, Nat.pow_succ]
    have := hq n (by simp)
    omega

set_option maxRecDepth 20000 in
set_option maxHeartbeats 1000000 in
theorem digits_ok (ns : List Nat) (hns : ∀ n ∈ ns, n < 10) (h4 : ns.length ≤ 4) (b : Nat) (r : List UInt8) (y m d h mi s wk a : Int) (w : World) (k : Rd w b (ns.map dg ++ r) y m d h mi s wk a) (hl : r.length ≤ 900) :
    Calls Tryd.prog 68 #[.pointer (some ⟨b, 0, none⟩), .int .i64 ns.length] w fun e w' => e = .returned (.int .i64 (val ns)) ∧ Mv b w w' ∧ Rd w' b r y m d h mi s wk a := by
  have K : Hid (Rd w b (ns.map dg ++ r) y m d h mi s wk a) := k
  clear k
  have HN : Hid (∀ n ∈ ns, n < 10) := hns
  clear hns
  go_enter Tryd.func68, Tryd.ntmps68
  go_wp2
  go_loopw [5, 7] (fun v i wr => ∃ p q : List Nat, Hid (ns = p ++ q) ∧ i = .int .i64 p.length ∧ v = .int .i64 (val p) ∧ p.length ≤ 4 ∧ Hid (Mv b w wr) ∧ Hid (Rd wr b (q.map dg ++ r) y m d h mi s wk a)) (fun _ i _ => ns.length - (intOf i).toNat)
  case atStart => exact ⟨[], ns, by show ns = _; simp, rfl, rfl, by simp, Mv.refl _ _, K⟩
  case round =>
    obtain ⟨p, q, HE, rfl, rfl, hp, HM, HR⟩ := hrel
    have hv : val p < 10 ^ p.length := by
      have := val_bound p [] (fun n hn => HN.out n (by rw [HE.out]; simp [hn])) (by simp [val])
      simpa using this
    have hv4 : val p < 10000 := Nat.lt_of_lt_of_le hv (Nat.le_trans (Nat.pow_le_pow_right (by omega) hp) (by omega))
    clear hv
    cases q with
    | nil =>
      have hlen : ns.length = p.length := by rw [HE.out]; simp
      have HL : Hid (ns = p) := by show ns = p; rw [HE.out]; simp
      have hlt : ¬ (p.length : Int) < (ns.length : Int) := by omega
      clear hlen
      go_wp2
      go_ret
      exact ⟨by rw [HL.out]; rfl, HM.out, by have := HR.out; simpa using this⟩
    | cons n q =>
      have hlt : (p.length : Int) < (ns.length : Int) := by rw [HE.out]; simp; omega
      have hn : n < 10 := HN.out n (by rw [HE.out]; simp)
      have hql : q.length ≤ 4 := by have := HE.out; rw [this] at h4; simp at h4; omega
      go_wp2_with (go_at_call 66; refine (digit_ok b (q.map dg ++ r) y m d h mi s wk a _ n hn HR.out (by simp; omega)).mono ?_; rintro e w1 ⟨rfl, hm1, hr1⟩)
      go_roundw
      case rel => exact ⟨p ++ [n], q, by show ns = _; rw [HE.out]; simp, by simp, by rw [val_snoc]; go_num, by have := HE.out; rw [this] at h4; simp at h4 ⊢; omega, HM.out.trans hm1, hr1⟩
      case measure => simp [intOf]; omega
end Go.Proofs.YtjddeaeanomdhabDoor
