/- capitals of package boxes. -/
import Derived.Test.YtelpjiiladbigaaDoorBo0
import Derived.Test.YtelpjiiladbigaaDoorBoMath4
import Derived.Test.YtelpjiiladbigaaDoorHs1
set_option linter.unusedSimpArgs false
set_option linter.unusedVariables false
namespace Go.Proofs.YtelpjiiladbigaaDoor
open Go.RowKit Go.Shelf
def capB (c : UInt8) : UInt8 := if 97 ≤ c.toNat ∧ c.toNat ≤ 122 then c - 32 else c
/-- The bytes behind k rounds. -/
def capK (l : List UInt8) (k : Nat) : List UInt8 := (l.take k).map capB ++ l.drop k
theorem capK_len (l : List UInt8) (k : Nat) : (capK l k).length = l.length := by
  unfold capK
  simp
  omega
theorem capK_zero (l : List UInt8) : capK l 0 = l := by simp [capK]
theorem capK_end (l : List UInt8) : capK l l.length = l.map capB := by simp [capK]
theorem capK_at (l : List UInt8) (k : Nat) (h : k < l.length) : (capK l k)[k]'(by rw [capK_len]; exact h) = l[k] := by
  unfold capK
  rw [List.getElem_append_right (by simp; omega)]
  simp [Nat.min_eq_left (Nat.le_of_lt h)]
theorem capK_next (l : List UInt8) (k : Nat) (h : k < l.length) : capK l (k + 1) = (capK l k).set k (capB l[k]) := by
  unfold capK
  rw [List.take_succ_eq_append_getElem h, List.map_append, List.set_append_right _ _ (by simp; omega)]
  simp [Nat.min_eq_left (Nat.le_of_lt h)]
  rw [List.drop_eq_getElem_cons h, List.set_cons_zero]
theorem capK_same (l : List UInt8) (k : Nat) (h : k < l.length) (hl : capB l[k] = l[k]) : capK l (k + 1) = capK l k := by
  rw [capK_next l k h, hl]
  apply List.ext_getElem (by simp)
  intro n h1 h2
  by_cases hn : n = k
  · subst hn
    rw [List.getElem_set_self, capK_at l n h]
  · rw [List.getElem_set_ne (fun e => hn e.symm)]
set_option maxRecDepth 20000 in
set_option maxHeartbeats 2000000 in
theorem capitals_any (l : List UInt8) (w : World) (hs : l.length ≤ 1000000) : Calls Tryd.prog 31 #[.string ⟨l.toArray⟩] w fun e w' => e = .returned (.string ⟨(l.map capB).toArray⟩) ∧ Below w.heap.size w w' := by
  obtain ⟨W1, cap, hcv, hb1, hz1, hy1⟩ := conv_in l w
  go_enter Tryd.func31, Tryd.ntmps31
  go_wp2
  clear hcv
  go_loopw [10] (fun k wr => ∃ i : Nat, k = .int .i64 i ∧ i ≤ l.length ∧ Hid (BY wr w.heap.size (capK l i)) ∧ Hid (Below w.heap.size w wr)) (fun k _ => l.length - (intOf k).toNat)
  case atStart => exact ⟨0, rfl, Nat.zero_le _, by rw [capK_zero]; exact hy1, hb1⟩
  case round =>
    obtain ⟨i, rfl, hi, HY, HB⟩ := hrel
    clear hy1 hb1 hz1
    by_cases hlt : i < l.length
    · have hlt' : (i : Int) < l.length := by omega
      obtain ⟨hc, hf⟩ := HY.out i (by rw [capK_len]; exact hlt)
      rw [capK_at l i hlt] at hc
      obtain ⟨c, hcc⟩ : ∃ c, l[i] = c := ⟨_, rfl⟩
      rw [hcc] at hc
      have h255 := c.toNat_lt
      by_cases h1 : 97 ≤ c.toNat
      · have a1 : decide (97 ≤ (c.toNat : Int)) = true := decide_eq_true (by omega)
        have b1 : 97 ≤ (c.toNat : Int) := by omega
        by_cases h2 : c.toNat ≤ 122
        · have a2 : decide ((c.toNat : Int) ≤ 122) = true := decide_eq_true (by omega)
          have b2 : (c.toNat : Int) ≤ 122 := by omega
          have hlow : capB c = c - 32 := if_pos ⟨h1, h2⟩
          have hval : ((c - 32).toNat : Int) = (c.toNat : Int) - 97 + 65 := by
            rw [UInt8.toNat_sub_of_le _ _ (by rw [UInt8.le_iff_toNat_le]; show 32 ≤ _; omega), show (32 : UInt8).toNat = 32 from rfl]
            omega
          have HN : Hid (BY (wr.setCell ⟨w.heap.size, i, none⟩ (.int .u8 ((c.toNat : Int) - 97 + 65))) w.heap.size (capK l (i + 1))) := by
            show BY _ _ _
            have := HY.out.put i (c - 32)
            rw [hval] at this
            rw [capK_next l i hlt, hcc, hlow]
            exact this
          clear hcc hlow hval HY
          go_wp2
          go_roundw
          case rel => exact ⟨i + 1, by go_num, by omega, HN, HB.out.setCell (p := ⟨w.heap.size, i, none⟩) (Nat.le_refl _) _⟩
          case measure => simp [intOf]; omega
        · have a2 : decide ((c.toNat : Int) ≤ 122) = false := decide_eq_false (by omega)
          have b2 : ¬ (c.toNat : Int) ≤ 122 := by omega
          have HN : Hid (BY wr w.heap.size (capK l (i + 1))) := by
            show BY _ _ _
            rw [capK_same l i hlt (by rw [hcc]; exact if_neg (fun h => h2 h.2))]
            exact HY.out
          clear hcc HY
          go_wp2
          go_roundw
          case rel => exact ⟨i + 1, by go_num, by omega, HN, HB⟩
          case measure => simp [intOf]; omega
      · have a1 : decide (97 ≤ (c.toNat : Int)) = false := decide_eq_false (by omega)
        have b1 : ¬ 97 ≤ (c.toNat : Int) := by omega
        have HN : Hid (BY wr w.heap.size (capK l (i + 1))) := by
          show BY _ _ _
          rw [capK_same l i hlt (by rw [hcc]; exact if_neg (fun h => h1 h.1))]
          exact HY.out
        clear hcc HY
        go_wp2
        go_roundw
        case rel => exact ⟨i + 1, by go_num, by omega, HN, HB⟩
        case measure => simp [intOf]; omega
    · obtain rfl : i = l.length := by omega
      have hy := HY.out
      rw [capK_end] at hy
      have hcv := conv_out (cap := cap) hy
      rw [List.length_map] at hcv
      clear HY hy
      go_wp2
      go_ret
      exact ⟨rfl, HB.out⟩
/-- For the name INBOX a pattern with capital letters fits just as the pattern with capital and small ones. -/
theorem cap_star (c : UInt8) : starB (capB c) = starB c := by
  unfold capB
  split
  · rename_i h
    have h1 : c ≠ 42 := by rintro rfl; exact absurd h.1 (by decide)
    have h2 : c ≠ 37 := by rintro rfl; exact absurd h.1 (by decide)
    have e : (c - 32).toNat = c.toNat - 32 := by rw [UInt8.toNat_sub_of_le _ _ (by rw [UInt8.le_iff_toNat_le]; show 32 ≤ _; omega)]; rfl
    have h3 : c - 32 ≠ 42 := fun q => by have := congrArg UInt8.toNat q; rw [e, show (42 : UInt8).toNat = 42 from rfl] at this; omega
    have h4 : c - 32 ≠ 37 := fun q => by have := congrArg UInt8.toNat q; rw [e, show (37 : UInt8).toNat = 37 from rfl] at this; omega
    rw [starB, starB, beq_eq_false_iff_ne.2 h1, beq_eq_false_iff_ne.2 h2, beq_eq_false_iff_ne.2 h3, beq_eq_false_iff_ne.2 h4]
  · rfl
theorem cap_42 (c : UInt8) : (capB c == 42) = (c == 42) := by
  unfold capB
  split
  · rename_i h
    have h1 : c ≠ 42 := by rintro rfl; exact absurd h.1 (by decide)
    have e : (c - 32).toNat = c.toNat - 32 := by rw [UInt8.toNat_sub_of_le _ _ (by rw [UInt8.le_iff_toNat_le]; show 32 ≤ _; omega)]; rfl
    have h3 : c - 32 ≠ 42 := fun q => by have := congrArg UInt8.toNat q; rw [e, show (42 : UInt8).toNat = 42 from rfl] at this; omega
    rw [beq_eq_false_iff_ne.2 h1, beq_eq_false_iff_ne.2 h3]
  · rfl
theorem cap_same {d : UInt8} (h1 : 65 ≤ d.toNat) (h2 : d.toNat ≤ 90) (c : UInt8) : (capB c == d) = sameI true c d := by
  have h255 := c.toNat_lt
  have hl : lowB d = d + 32 := if_pos ⟨h1, h2⟩
  have hd : (d + 32).toNat = d.toNat + 32 := by rw [UInt8.toNat_add, show (32 : UInt8).toNat = 32 from rfl]; omega
  rw [Bool.eq_iff_iff]
  simp only [sameI, Bool.true_and, Bool.or_eq_true, beq_iff_eq]
  unfold capB
  split
  · rename_i h
    have e : (c - 32).toNat = c.toNat - 32 := by rw [UInt8.toNat_sub_of_le _ _ (by rw [UInt8.le_iff_toNat_le]; show 32 ≤ _; omega)]; rfl
    have hc : lowB c = c := if_neg (fun k => by omega)
    rw [hc, hl]
    constructor
    · intro q
      refine .inr (UInt8.toNat_inj.1 ?_)
      have := congrArg UInt8.toNat q
      omega
    · rintro (q | q)
      · have := congrArg UInt8.toNat q
        omega
      · refine UInt8.toNat_inj.1 ?_
        have := congrArg UInt8.toNat q
        omega
  · rename_i h
    constructor
    · exact fun q => .inl q
    · rintro (q | q)
      · exact q
      · rw [hl] at q
        unfold lowB at q
        split at q
        · rename_i k
          refine UInt8.toNat_inj.1 ?_
          have := congrArg UInt8.toNat q
          rw [UInt8.toNat_add, hd, show (32 : UInt8).toNat = 32 from rfl] at this
          omega
        · have := congrArg UInt8.toNat q
          omega
theorem cap_fit : ∀ (P N : List UInt8), (∀ d ∈ N, 65 ≤ d.toNat ∧ d.toNat ≤ 90) → fit false (P.map capB) N = fit true P N
  | [], [], _ => by simp [fit]
  | [], d :: N, _ => by simp [fit]
  | c :: P, [], h => by
    rw [List.map_cons, fit, fit, cap_star, cap_fit P [] h]
  | c :: P, d :: N, h => by
    have hd := h d (by simp)
    have hN : ∀ x ∈ N, 65 ≤ x.toNat ∧ x.toNat ≤ 90 := fun x hx => h x (by simp [hx])
    have i1 := cap_fit P (d :: N) h
    have i2 := cap_fit (c :: P) N hN
    have i3 := cap_fit P N hN
    rw [List.map_cons] at i2 ⊢
    rw [fit, fit, cap_star, cap_42, i1, i2, i3, same0, cap_same hd.1 hd.2]
  termination_by P N => P.length + N.length
end Go.Proofs.YtelpjiiladbigaaDoor
