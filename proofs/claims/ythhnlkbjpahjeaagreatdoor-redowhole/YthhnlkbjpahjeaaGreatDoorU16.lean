/- The program's More. -/
/- Sum and Start, and the document's More. -/
/- Numbers of four bytes; records. -/
import Derived.Test.YthhnlkbjpahjeaaGreatDoorU02
import Derived.Test.YthhnlkbjpahjeaaGreatDoorU15
import Derived.BigQuiet
import Derived.Deep.QuietTactic
section
namespace Go.Proofs.YthhnlkbjpahjeaaGreatDoor
open Go.RowKit
theorem ret_int {k : IntKind} {a b : Int} (h : a = b) : Ending.returned (.int k a) = .returned (.int k b) := by rw [h]
set_option maxRecDepth 20000 in
set_option maxHeartbeats 1000000 in
theorem more_any (s : Nat) (hs : s < 4294967296) (bs : List UInt8) (v : Value) (w : World) (h : BR w v bs) :
    Calls Tryz.prog 106 #[.int .u32 s, v] w fun e w' => e = .returned (.int .u32 (sumN s bs)) ∧ w' = w := by
  obtain ⟨A, c, rfl, hl, hm, hn⟩ := BR.form h
  unfold maxLen at hm
  have hand := and_ffff s (by omega) (by omega)
  have HB := hide h
  clear h
  go_enter Tryz.func106, Tryz.ntmps106
  go_wp2
  go_loop [5, 6, 17] (fun l h i => ∃ k : Nat, k ≤ bs.length ∧ i = .int .i64 k ∧ l = .int .u32 ((sumP s (bs.take k)).1 : Nat) ∧ h = .int .u32 ((sumP s (bs.take k)).2 : Nat)) (fun _ _ i => bs.length - (intOf i).toNat)
  case atStart => exact ⟨0, Nat.zero_le _, rfl, by simp [sumP_nil], by simp [sumP_nil]⟩
  case round =>
    obtain ⟨k, hk, rfl, rfl, rfl⟩ := hrel
    have hb := sumP_lt s (bs.take k)
    by_cases hlt : k < bs.length
    · have HS := hide (sumP_take s bs k hlt)
      obtain ⟨g, o, rfl, hg, hcp, hc⟩ := HB.out.at (List.ne_nil_of_length_pos (by omega))
      replace hc := hc k hlt
      have hx := UInt8.toNat_lt bs[k]
      have hlt' : (k : Int) < bs.length := by omega
      generalize bs[k] = x at *
      generalize hp : sumP s (bs.take k) = p at *
      obtain ⟨l, h⟩ := p
      simp only at hb
      clear hp hand
      go_wp2
      exact ⟨⟨k + 1, by omega, by go_num, by rw [HS.out]; simp [sumStep], by rw [HS.out]; simp [sumStep]⟩, by simp [intOf]; omega⟩
    · obtain rfl : k = bs.length := by omega
      rw [List.take_length] at *
      have HS : Hid (sumN s bs = (sumP s bs).2 * 65536 + (sumP s bs).1) := rfl
      generalize hp : sumP s bs = p at *
      obtain ⟨l, h⟩ := p
      simp only at hb HS ⊢
      obtain ⟨hb1, hb2⟩ := hb
      have hor := or_16 ((h : Int) * 65536) l (by omega) (by omega) (by omega) (by omega) (by omega)
      clear hp hand
      go_wp2
      go_ret
      exact ⟨ret_int (by rw [HS.out]; omega), rfl⟩
end Go.Proofs.YthhnlkbjpahjeaaGreatDoor

end
section
namespace Go.Proofs.YthhnlkbjpahjeaaGreatDoor
open Go.RowKit
theorem u32_lo {z : Int} (h : (Lit.int .u32 z).wf = true) : 0 ≤ z := by
  simp [Lit.wf, IntKind.min, IntKind.max, IntKind.signed, IntKind.bits] at h
  omega
theorem u32_hi {z : Int} (h : (Lit.int .u32 z).wf = true) : z < 4294967296 := by
  simp [Lit.wf, IntKind.min, IntKind.max, IntKind.signed, IntKind.bits] at h
  omega
theorem u8_of {z : Int} (h : (Lit.int .u8 z).wf = true) : ∃ x : UInt8, Value.int .u8 z = bv x := by
  simp [Lit.wf, IntKind.min, IntKind.max, IntKind.signed, IntKind.bits] at h
  refine ⟨UInt8.ofNat z.toNat, ?_⟩
  unfold bv
  rw [UInt8.toNat_ofNat']
  congr 1
  omega
theorem start_any (w : World) : Calls Tryz.prog 107 #[] w fun e w' => e = .returned (.int .u32 1) ∧ w' = w := by
  go_enter Tryz.func107, Tryz.ntmps107
  go_wp2
  go_ret
  exact ⟨rfl, rfl⟩
set_option maxHeartbeats 1000000 in
theorem sum_any (bs : List UInt8) (v : Value) (w : World) (h : BR w v bs) :
    Calls Tryz.prog 75 #[v] w fun e w' => e = .returned (.int .u32 (sumN 1 bs)) ∧ w' = w := by
  have HM : Hid (∀ s : Int, s = ((1 : Nat) : Int) → Calls Tryz.prog 106 #[.int .u32 s, v] w fun e w' => e = .returned (.int .u32 (sumN 1 bs)) ∧ w' = w) := by
    rintro s rfl
    exact more_any 1 (by omega) bs v w h
  clear h
  go_enter Tryz.func75, Tryz.ntmps75
  go_wp2_with (first | (go_at_call 107; refine (start_any _).mono ?_; rintro e w' ⟨rfl, rfl⟩) | (go_at_call 106; refine (HM.out _ rfl).mono ?_; rintro e w' ⟨rfl, rfl⟩))
  go_ret
  exact ⟨rfl, rfl⟩

end Go.Proofs.YthhnlkbjpahjeaaGreatDoor

end
section
namespace Go.Proofs.YthhnlkbjpahjeaaGreatDoor
open Go.RowKit
def fourB (n : Nat) : List UInt8 := [UInt8.ofNat (n / 16777216), UInt8.ofNat (n / 65536), UInt8.ofNat (n / 256), UInt8.ofNat n]
def recB (bs : List UInt8) : List UInt8 := fourB bs.length ++ fourB (sumN 1 bs) ++ bs
theorem fourB_length (n : Nat) : (fourB n).length = 4 := rfl
theorem recB_length (bs : List UInt8) : (recB bs).length = bs.length + 8 := by
  simp [recB, fourB_length]
  omega
/-- The number that four bytes are. -/
def numN (bs : List UInt8) : Nat := (bs.getD 0 0).toNat * 16777216 + (bs.getD 1 0).toNat * 65536 + (bs.getD 2 0).toNat * 256 + (bs.getD 3 0).toNat
theorem numN_four (n : Nat) (h : n < 4294967296) (r : List UInt8) : numN (fourB n ++ r) = n := by
  unfold numN fourB
  simp only [List.cons_append, List.nil_append, List.getD_cons_zero, List.getD_cons_succ]
  rw [UInt8.toNat_ofNat', UInt8.toNat_ofNat', UInt8.toNat_ofNat', UInt8.toNat_ofNat']
  omega
theorem numN_lt (bs : List UInt8) : numN bs < 4294967296 := by
  unfold numN
  have h0 := UInt8.toNat_lt (bs.getD 0 0)
  have h1 := UInt8.toNat_lt (bs.getD 1 0)
  have h2 := UInt8.toNat_lt (bs.getD 2 0)
  have h3 := UInt8.toNat_lt (bs.getD 3 0)
  omega
theorem numN_at (bs : List UInt8) (h : 4 ≤ bs.length) : numN bs = bs[0].toNat * 16777216 + bs[1].toNat * 65536 + bs[2].toNat * 256 + bs[3].toNat := by
  unfold numN
  simp only [List.getD_eq_getElem?_getD]
  rw [List.getElem?_eq_getElem (by omega), List.getElem?_eq_getElem (by omega), List.getElem?_eq_getElem (by omega), List.getElem?_eq_getElem (by omega)]
  rfl

/-- The cells of a number's four bytes. -/
theorem four_cells (n : Nat) (hn : n < 4294967296) : (#[.int .u8 ((n : Int) / 16777216), .int .u8 ((n : Int) / 65536 % 256), .int .u8 ((n : Int) / 256 % 256), .int .u8 ((n : Int) % 256)] : Array Value) = ((fourB n).map bv).toArray := by
  have e : ∀ (m : Nat) (z : Int), z = (m % 256 : Nat) → Value.int .u8 z = bv (UInt8.ofNat m) := fun m z h => by
    unfold bv
    rw [UInt8.toNat_ofNat', h]
  rw [e (n / 16777216) _ (by omega), e (n / 65536) _ (by omega), e (n / 256) _ (by omega), e n _ (by omega)]
  rfl

end Go.Proofs.YthhnlkbjpahjeaaGreatDoor

end
