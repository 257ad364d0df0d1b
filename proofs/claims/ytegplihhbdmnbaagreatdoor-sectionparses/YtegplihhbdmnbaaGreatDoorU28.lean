/- The document's large: a text with capital letters. -/
import Derived.Test.YtegplihhbdmnbaaGreatDoorU23
namespace Go.Proofs.YtegplihhbdmnbaaGreatDoor
open Go.RowKit Go.Shelf
/-- The bytes behind k rounds. -/
def upK (l : List UInt8) (k : Nat) : List UInt8 := (l.take k).map upB ++ l.drop k
theorem upK_len (l : List UInt8) (k : Nat) : (upK l k).length = l.length := by
  unfold upK
  simp
  omega
theorem upK_zero (l : List UInt8) : upK l 0 = l := by simp [upK]
theorem upK_end (l : List UInt8) : upK l l.length = l.map upB := by simp [upK]
theorem upK_at (l : List UInt8) (k : Nat) (h : k < l.length) : (upK l k)[k]'(by rw [upK_len]; exact h) = l[k] := by
  unfold upK
  rw [List.getElem_append_right (by simp; omega)]
  simp [Nat.min_eq_left (Nat.le_of_lt h)]
theorem upK_next (l : List UInt8) (k : Nat) (h : k < l.length) : upK l (k + 1) = (upK l k).set k (upB l[k]) := by
  unfold upK
  rw [List.take_succ_eq_append_getElem h, List.map_append, List.set_append_right _ _ (by simp; omega)]
  simp [Nat.min_eq_left (Nat.le_of_lt h)]
  rw [List.drop_eq_getElem_cons h, List.set_cons_zero]
theorem upK_same (l : List UInt8) (k : Nat) (h : k < l.length) (hl : upB l[k] = l[k]) : upK l (k + 1) = upK l k := by
  rw [upK_next l k h, hl]
  apply List.ext_getElem (by simp)
  intro n h1 h2
  by_cases hn : n = k
  · subst hn
    rw [List.getElem_set_self, upK_at l n h]
  · rw [List.getElem_set_ne (fun e => hn e.symm)]
set_option maxRecDepth 20000 in
set_option maxHeartbeats 2000000 in
theorem rlarge_any (l : List UInt8) (w : World) (hs : l.length ≤ 1000000) : Calls Tryz.prog 24 #[.string ⟨l.toArray⟩] w fun e w' => e = .returned (.string ⟨(l.map upB).toArray⟩) ∧ Below w.heap.size w w' := by
  obtain ⟨W1, cap, hcv, hb1, hz1, hy1⟩ := conv_in l w
  go_enter Tryz.func24, Tryz.ntmps24
  go_wp2
  clear hcv
  go_loopw [9] (fun k wr => ∃ i : Nat, k = .int .i64 i ∧ i ≤ l.length ∧ Hid (BY wr w.heap.size (upK l i)) ∧ Hid (Below w.heap.size w wr)) (fun k _ => l.length - (intOf k).toNat)
  case atStart => exact ⟨0, rfl, Nat.zero_le _, by rw [upK_zero]; exact hy1, hb1⟩
  case round =>
    obtain ⟨i, rfl, hi, HY, HB⟩ := hrel
    clear hy1 hb1 hz1
    by_cases hlt : i < l.length
    · have hlt' : (i : Int) < l.length := by omega
      obtain ⟨hc, hf⟩ := HY.out i (by rw [upK_len]; exact hlt)
      rw [upK_at l i hlt] at hc
      obtain ⟨c, hcc⟩ : ∃ c, l[i] = c := ⟨_, rfl⟩
      rw [hcc] at hc
      by_cases h1 : 97 ≤ c.toNat
      · have a1 : decide (97 ≤ (c.toNat : Int)) = true := decide_eq_true (by omega)
        have b1 : 97 ≤ (c.toNat : Int) := by omega
        by_cases h2 : c.toNat ≤ 122
        · have a2 : decide ((c.toNat : Int) ≤ 122) = true := decide_eq_true (by omega)
          have b2 : (c.toNat : Int) ≤ 122 := by omega
          have hlow : upB c = c - 32 := if_pos ⟨h1, h2⟩
          have hval : ((c - 32).toNat : Int) = (c.toNat : Int) - 32 := by
            rw [UInt8.toNat_sub_of_le _ _ (by rw [UInt8.le_iff_toNat_le, show (32 : UInt8).toNat = 32 from rfl]; omega), show (32 : UInt8).toNat = 32 from rfl]
            omega
          have HN : Hid (BY (wr.setCell ⟨w.heap.size, i, none⟩ (.int .u8 ((c.toNat : Int) - 32))) w.heap.size (upK l (i + 1))) := by
            show BY _ _ _
            have := HY.out.put i (c - 32)
            rw [hval] at this
            rw [upK_next l i hlt, hcc, hlow]
            exact this
          clear hcc hlow hval HY
          go_wp2
          go_roundw
          case rel => exact ⟨i + 1, by go_num, by omega, HN, HB.out.setCell (p := ⟨w.heap.size, i, none⟩) (Nat.le_refl _) _⟩
          case measure => simp [intOf]; omega
        · have a2 : decide ((c.toNat : Int) ≤ 122) = false := decide_eq_false (by omega)
          have b2 : ¬ (c.toNat : Int) ≤ 122 := by omega
          have HN : Hid (BY wr w.heap.size (upK l (i + 1))) := by
            show BY _ _ _
            rw [upK_same l i hlt (by rw [hcc]; exact if_neg (fun h => h2 h.2))]
            exact HY.out
          clear hcc HY
          go_wp2
          go_roundw
          case rel => exact ⟨i + 1, by go_num, by omega, HN, HB⟩
          case measure => simp [intOf]; omega
      · have a1 : decide (97 ≤ (c.toNat : Int)) = false := decide_eq_false (by omega)
        have b1 : ¬ 97 ≤ (c.toNat : Int) := by omega
        have HN : Hid (BY wr w.heap.size (upK l (i + 1))) := by
          show BY _ _ _
          rw [upK_same l i hlt (by rw [hcc]; exact if_neg (fun h => h1 h.1))]
          exact HY.out
        clear hcc HY
        go_wp2
        go_roundw
        case rel => exact ⟨i + 1, by go_num, by omega, HN, HB⟩
        case measure => simp [intOf]; omega
    · obtain rfl : i = l.length := by omega
      have hy := HY.out
      rw [upK_end] at hy
      have hcv := conv_out (cap := cap) hy
      rw [List.length_map] at hcv
      clear HY hy
      go_wp2
      go_ret
      exact ⟨rfl, HB.out⟩
end Go.Proofs.YtegplihhbdmnbaaGreatDoor
