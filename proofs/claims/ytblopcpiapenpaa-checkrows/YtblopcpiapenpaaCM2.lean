/- Sum and Start, and the document's More. -/
import Derived.Test.YtblopcpiapenpaaCM1
namespace Go.Proofs.Ytblopcpiapenpaa
open Go.RowKit
theorem u32_lo {z : Int} (h : (Lit.int .u32 z).wf = true) : 0 ≤ z := by
  simp [Lit.wf, IntKind.min, IntKind.max, IntKind.signed, IntKind.bits] at h
  omega
theorem u32_hi {z : Int} (h : (Lit.int .u32 z).wf = true) : z < 4294967296 := by
  simp [Lit.wf, IntKind.min, IntKind.max, IntKind.signed, IntKind.bits] at h
  omega
theorem u8_of {z : Int} (h : (Lit.int .u8 z).wf = true) : ∃ x : UInt8, Value.int .u8 z = bv x := by
  simp [Lit.wf, IntKind.min, IntKind.max, IntKind.signed, IntKind.bits] at h
  refine ⟨UInt8.ofNat z.toNat, ?_⟩
  unfold bv
  rw [UInt8.toNat_ofNat']
  congr 1
  omega
theorem start_any (w : World) : Calls Try.prog 11 #[] w fun e w' => e = .returned (.int .u32 1) ∧ w' = w := by
  go_enter Try.func11, Try.ntmps11
  go_wp2
  go_ret
  exact ⟨rfl, rfl⟩
set_option maxHeartbeats 1000000 in
theorem sum_any (bs : List UInt8) (v : Value) (w : World) (h : BR w v bs) :
    Calls Try.prog 10 #[v] w fun e w' => e = .returned (.int .u32 (sumN 1 bs)) ∧ w' = w := by
  have HM : Hid (∀ s : Int, s = ((1 : Nat) : Int) → Calls Try.prog 8 #[.int .u32 s, v] w fun e w' => e = .returned (.int .u32 (sumN 1 bs)) ∧ w' = w) := by
    rintro s rfl
    exact more_any 1 (by omega) bs v w h
  clear h
  go_enter Try.func10, Try.ntmps10
  go_wp2_with (first | (go_at_call 11; refine (start_any _).mono ?_; rintro e w' ⟨rfl, rfl⟩) | (go_at_call 8; refine (HM.out _ rfl).mono ?_; rintro e w' ⟨rfl, rfl⟩))
  go_ret
  exact ⟨rfl, rfl⟩

theorem mul_lt_of {a b : Nat} (ha : a < 65521) (hb : b < 65521) : a * b < 4293001441 := by
  have := Nat.mul_le_mul (Nat.le_of_lt_succ (show a < 65520 + 1 from ha)) (Nat.le_of_lt_succ (show b < 65520 + 1 from hb))
  omega
theorem wrap_nat (n : Nat) (h : n < 9000000000000000000) : wrap64 (n : Int) = n := by
  unfold wrap64
  omega
theorem wrap_mul {a b : Nat} (ha : a < 65521) (hb : b < 65521) : wrap64 ((a : Int) * (b : Int)) = ((a * b : Nat) : Int) := by
  have := mul_lt_of ha hb
  rw [← Int.natCast_mul]
  exact wrap_nat _ (by omega)
set_option maxRecDepth 20000 in
set_option maxHeartbeats 1000000 in
theorem rmore_any (s : Nat) (hs : s < 4294967296) (bs : List UInt8) (v : Value) (w : World) (h : BR w v bs) :
    Calls Try.prog 9 #[.int .u32 s, v] w fun e w' => e = .returned (.int .u32 (sumN s bs)) ∧ w' = w := by
  obtain ⟨A, c, rfl, hl, hm, hn⟩ := BR.form h
  unfold maxLen at hm
  have hand := and_ffff s (by omega) (by omega)
  have hp0 := sumP_nil s
  have HB := hide h
  have hm0 : s % 65536 % 65521 < 65521 := Nat.mod_lt _ (by decide)
  have hm1 : s / 65536 % 65521 < 65521 := Nat.mod_lt _ (by decide)
  obtain ⟨P, hP, hP2, hw0⟩ : ∃ P : Nat, P < 4293001441 ∧ Hid (P = s % 65536 % 65521 * (bs.length % 65521)) ∧ wrap64 ((s : Int) % 65536 % 65521 * ((bs.length : Int) % 65521)) = (P : Int) :=
    ⟨_, mul_lt_of hm0 (Nat.mod_lt _ (by decide)), rfl, wrap_mul hm0 (Nat.mod_lt _ (by decide))⟩
  have HD : Hid ((s / 65536 % 65521 + P) % 65521 = docH (sumP s []) bs.length) := by
    show _ = _
    rw [hP2.out, ← docH_start, hp0]
  clear h hp0 hP2
  go_enter Try.func9, Try.ntmps9
  go_wp2
  go_loop [5, 6, 29] (fun l h i => ∃ k : Nat, k ≤ bs.length ∧ i = .int .i64 k ∧ l = .int .i64 ((sumP s (bs.take k)).1 : Nat) ∧ h = .int .i64 (docH (sumP s (bs.take k)) (bs.length - k) : Nat)) (fun _ _ i => bs.length - (intOf i).toNat)
  case atStart => exact ⟨0, Nat.zero_le _, rfl, by simp [sumP_nil], by rw [List.take_zero, Nat.sub_zero, ← HD.out]; simp⟩
  case round =>
    obtain ⟨k, hk, rfl, rfl, rfl⟩ := hrel
    have hb := (sumP_lt s (bs.take k)).1
    have hd := docH_lt (sumP s (bs.take k)) (bs.length - k)
    clear hw0 HD hand
    by_cases hlt : k < bs.length
    · have HS := hide (sumP_take s bs k hlt)
      have HD := hide (docH_step (sumP s (bs.take k)) bs[k] (bs.length - (k + 1)))
      rw [show bs.length - (k + 1) + 1 = bs.length - k by omega] at HD
      obtain ⟨g, o, rfl, hg, hcp, hc⟩ := HB.out.at (List.ne_nil_of_length_pos (by omega))
      replace hc := hc k hlt
      have hx := UInt8.toNat_lt bs[k]
      have hlt' : (k : Int) < bs.length := by omega
      obtain ⟨Q, hQ, hQ2, hw1⟩ : ∃ Q : Nat, Q < 4293001441 ∧ Hid (Q = bs[k].toNat * ((bs.length - k) % 65521)) ∧ wrap64 ((bs[k].toNat : Int) * (((bs.length : Int) - k) % 65521)) = (Q : Int) := by
        have hx' : bs[k].toNat < 65521 := by omega
        refine ⟨_, mul_lt_of hx' (Nat.mod_lt _ (by decide)), rfl, ?_⟩
        have := wrap_mul hx' (Nat.mod_lt (bs.length - k) (by decide : 0 < 65521))
        rw [← this]
        congr 2
        omega
      rw [← hQ2.out] at HD
      clear hQ2
      generalize bs[k] = x at *
      generalize docH (sumP s (bs.take k)) (bs.length - k) = D at *
      generalize hp : sumP s (bs.take k) = p at *
      obtain ⟨l, h⟩ := p
      simp only at hb
      clear hp
      go_wp2
      exact ⟨⟨k + 1, by omega, by go_num, by rw [HS.out]; simp [sumStep], by rw [HS.out, ← HD.out]; simp⟩, by simp [intOf]; omega⟩
    · obtain rfl : k = bs.length := by omega
      rw [List.take_length] at *
      have hb2 := (sumP_lt s bs).2
      rw [Nat.sub_self, docH_end _ hb2]
      have HS : Hid (sumN s bs = (sumP s bs).2 * 65536 + (sumP s bs).1) := rfl
      clear hd
      generalize hp : sumP s bs = p at *
      obtain ⟨l, h⟩ := p
      simp only at hb hb2 HS ⊢
      clear hp
      go_wp2
      go_ret
      exact ⟨ret_int (by rw [HS.out]; omega), rfl⟩
end Go.Proofs.Ytblopcpiapenpaa
