/- The program's More. -/
/- Sum and Start, and the document's More. -/
import Derived.Test.YtcbkmcagnmpifaaGreatDoorU03
import Derived.Test.YtcbkmcagnmpifaaGreatDoorU21
section
namespace Go.Proofs.YtcbkmcagnmpifaaGreatDoor
open Go.RowKit
theorem ret_int {k : IntKind} {a b : Int} (h : a = b) : Ending.returned (.int k a) = .returned (.int k b) := by rw [h]
set_option maxRecDepth 20000 in
set_option maxHeartbeats 1000000 in
theorem more_any (s : Nat) (hs : s < 4294967296) (bs : List UInt8) (v : Value) (w : World) (h : BR w v bs) :
    Calls Tryz.prog 121 #[.int .u32 s, v] w fun e w' => e = .returned (.int .u32 (sumN s bs)) ∧ w' = w := by
  obtain ⟨A, c, rfl, hl, hm, hn⟩ := BR.form h
  unfold maxLen at hm
  have hand := and_ffff s (by omega) (by omega)
  have HB := hide h
  clear h
  go_enter Tryz.func121, Tryz.ntmps121
  go_wp2
  go_loop [5, 6, 17] (fun l h i => ∃ k : Nat, k ≤ bs.length ∧ i = .int .i64 k ∧ l = .int .u32 ((sumP s (bs.take k)).1 : Nat) ∧ h = .int .u32 ((sumP s (bs.take k)).2 : Nat)) (fun _ _ i => bs.length - (intOf i).toNat)
  case atStart => exact ⟨0, Nat.zero_le _, rfl, by simp [sumP_nil], by simp [sumP_nil]⟩
  case round =>
    obtain ⟨k, hk, rfl, rfl, rfl⟩ := hrel
    have hb := sumP_lt s (bs.take k)
    by_cases hlt : k < bs.length
    · have HS := hide (sumP_take s bs k hlt)
      obtain ⟨g, o, rfl, hg, hcp, hc⟩ := HB.out.at (List.ne_nil_of_length_pos (by omega))
      replace hc := hc k hlt
      have hx := UInt8.toNat_lt bs[k]
      have hlt' : (k : Int) < bs.length := by omega
      generalize bs[k] = x at *
      generalize hp : sumP s (bs.take k) = p at *
      obtain ⟨l, h⟩ := p
      simp only at hb
      clear hp hand
      go_wp2
      exact ⟨⟨k + 1, by omega, by go_num, by rw [HS.out]; simp [sumStep], by rw [HS.out]; simp [sumStep]⟩, by simp [intOf]; omega⟩
    · obtain rfl : k = bs.length := by omega
      rw [List.take_length] at *
      have HS : Hid (sumN s bs = (sumP s bs).2 * 65536 + (sumP s bs).1) := rfl
      generalize hp : sumP s bs = p at *
      obtain ⟨l, h⟩ := p
      simp only at hb HS ⊢
      obtain ⟨hb1, hb2⟩ := hb
      have hor := or_16 ((h : Int) * 65536) l (by omega) (by omega) (by omega) (by omega) (by omega)
      clear hp hand
      go_wp2
      go_ret
      exact ⟨ret_int (by rw [HS.out]; omega), rfl⟩
end Go.Proofs.YtcbkmcagnmpifaaGreatDoor

end
section
namespace Go.Proofs.YtcbkmcagnmpifaaGreatDoor
open Go.RowKit
theorem u32_lo {z : Int} (h : (Lit.int .u32 z).wf = true) : 0 ≤ z := by
  simp [Lit.wf, IntKind.min, IntKind.max, IntKind.signed, IntKind.bits] at h
  omega
theorem u32_hi {z : Int} (h : (Lit.int .u32 z).wf = true) : z < 4294967296 := by
  simp [Lit.wf, IntKind.min, IntKind.max, IntKind.signed, IntKind.bits] at h
  omega
theorem u8_of {z : Int} (h : (Lit.int .u8 z).wf = true) : ∃ x : UInt8, Value.int .u8 z = bv x := by
  simp [Lit.wf, IntKind.min, IntKind.max, IntKind.signed, IntKind.bits] at h
  refine ⟨UInt8.ofNat z.toNat, ?_⟩
  unfold bv
  rw [UInt8.toNat_ofNat']
  congr 1
  omega
theorem start_any (w : World) : Calls Tryz.prog 122 #[] w fun e w' => e = .returned (.int .u32 1) ∧ w' = w := by
  go_enter Tryz.func122, Tryz.ntmps122
  go_wp2
  go_ret
  exact ⟨rfl, rfl⟩
set_option maxHeartbeats 1000000 in
theorem sum_any (bs : List UInt8) (v : Value) (w : World) (h : BR w v bs) :
    Calls Tryz.prog 93 #[v] w fun e w' => e = .returned (.int .u32 (sumN 1 bs)) ∧ w' = w := by
  have HM : Hid (∀ s : Int, s = ((1 : Nat) : Int) → Calls Tryz.prog 121 #[.int .u32 s, v] w fun e w' => e = .returned (.int .u32 (sumN 1 bs)) ∧ w' = w) := by
    rintro s rfl
    exact more_any 1 (by omega) bs v w h
  clear h
  go_enter Tryz.func93, Tryz.ntmps93
  go_wp2_with (first | (go_at_call 122; refine (start_any _).mono ?_; rintro e w' ⟨rfl, rfl⟩) | (go_at_call 121; refine (HM.out _ rfl).mono ?_; rintro e w' ⟨rfl, rfl⟩))
  go_ret
  exact ⟨rfl, rfl⟩

end Go.Proofs.YtcbkmcagnmpifaaGreatDoor

end
