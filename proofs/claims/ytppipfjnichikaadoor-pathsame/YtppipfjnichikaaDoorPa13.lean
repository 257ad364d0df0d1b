/- small, smallDomain, Same of package path; the document's Small. -/
import Derived.Test.YtppipfjnichikaaDoorPa9
import Derived.Test.YtppipfjnichikaaDoorCalm
import Derived.Lib.ConvBytes
import Derived.Laws.IdiomStrings
namespace Go.Proofs.YtppipfjnichikaaDoor
open Go.RowKit Go.Shelf
def lowB (c : UInt8) : UInt8 := if 65 ≤ c.toNat ∧ c.toNat ≤ 90 then c + 32 else c
/-- Block B holds these bytes, none of them frozen. -/
def BY (w : World) (B : Nat) (bs : List UInt8) : Prop := ∀ j (hj : j < bs.length), w.cell? ⟨B, j, none⟩ = some (.int .u8 (bs[j].toNat : Int)) ∧ w.frozen? ⟨B, j, none⟩ = false
theorem BY.put {w : World} {B : Nat} {bs : List UInt8} (h : BY w B bs) (i : Nat) (c : UInt8) : BY (w.setCell ⟨B, i, none⟩ (.int .u8 (c.toNat : Int))) B (bs.set i c) := by
  intro j hj
  rw [List.length_set] at hj
  obtain ⟨h1, h2⟩ := h j hj
  refine ⟨?_, by rw [World.frozen?_setCell]; exact h2⟩
  by_cases hji : j = i
  · subst hji
    rw [List.getElem_set_self]
    exact World.cell?_setCell_same _ _ _ h1
  · rw [List.getElem_set_ne (fun e => hji e.symm), World.cell?_setCell_other _ ⟨B, i, none⟩ ⟨B, j, none⟩ _ (fun e => hji (by have := congrArg Addr.off e; simpa using this.symm))]
    exact h1
theorem conv_in (l : List UInt8) (w : World) : ∃ W1 cap, (convert 9 53 (.string ⟨l.toArray⟩)).run Tryd.prog w = .ok (.slice (some ⟨w.heap.size, 0, none⟩) l.length cap) W1 ∧ Below w.heap.size w W1 ∧ W1.heap.size = w.heap.size + 1 ∧ BY W1 w.heap.size l := by
  have h := Lib.run_convert_string_bytes (P := Tryd.prog) w 9 53 5 ⟨l.toArray⟩ Tryd.underlying9 Tryd.underlying53 Tryd.underlying5
  rw [size_lit] at h
  refine ⟨_, _, h, ⟨rfl, rfl, rfl, by rw [Lib.bytesWorld_size]; omega, fun j hj => Lib.bytesWorld_at_old _ _ _ j hj⟩, Lib.bytesWorld_size _ _ _, fun j hj => ⟨?_, ?_⟩⟩
  · rw [Lib.bytesWorld_cell _ _ _ j (by rw [size_lit]; exact hj)]
    simp [List.getElem?_eq_getElem hj]
  · have hb := Lib.bytesWorld_at_new w 5 ⟨l.toArray⟩
    have hs : l.length ≤ (Lib.bytesCells w 5 ⟨l.toArray⟩).size := by simp [Lib.bytesCells]
    simp only [World.frozen?, hb]
    simp
    omega
theorem conv_out {w : World} {B cap : Nat} {bs : List UInt8} (h : BY w B bs) : (convert 53 9 (.slice (some ⟨B, 0, none⟩) bs.length cap)).run Tryd.prog w = .ok (.string ⟨bs.toArray⟩) w :=
  run_convert_bytes_back (P := Tryd.prog) w 53 9 5 ⟨B, 0, none⟩ cap bs Tryd.underlying53 Tryd.underlying5 Tryd.underlying9 (fun j hj => by
    rw [Go.WideShapes.add_plain]
    have := (h j hj).1
    simpa using this)
/-- The bytes behind k rounds. -/
def lowK (l : List UInt8) (k : Nat) : List UInt8 := (l.take k).map lowB ++ l.drop k
theorem lowK_len (l : List UInt8) (k : Nat) : (lowK l k).length = l.length := by
  unfold lowK
  simp
  omega
theorem lowK_zero (l : List UInt8) : lowK l 0 = l := by simp [lowK]
theorem lowK_end (l : List UInt8) : lowK l l.length = l.map lowB := by simp [lowK]
theorem lowK_at (l : List UInt8) (k : Nat) (h : k < l.length) : (lowK l k)[k]'(by rw [lowK_len]; exact h) = l[k] := by
  unfold lowK
  rw [List.getElem_append_right (by simp; omega)]
  simp [Nat.min_eq_left (Nat.le_of_lt h)]
theorem lowK_next (l : List UInt8) (k : Nat) (h : k < l.length) : lowK l (k + 1) = (lowK l k).set k (lowB l[k]) := by
  unfold lowK
  rw [List.take_succ_eq_append_getElem h, List.map_append, List.set_append_right _ _ (by simp; omega)]
  simp [Nat.min_eq_left (Nat.le_of_lt h)]
  rw [List.drop_eq_getElem_cons h, List.set_cons_zero]
theorem lowK_same (l : List UInt8) (k : Nat) (h : k < l.length) (hl : lowB l[k] = l[k]) : lowK l (k + 1) = lowK l k := by
  rw [lowK_next l k h, hl]
  apply List.ext_getElem (by simp)
  intro n h1 h2
  by_cases hn : n = k
  · subst hn
    rw [List.getElem_set_self, lowK_at l n h]
  · rw [List.getElem_set_ne (fun e => hn e.symm)]
set_option maxRecDepth 20000 in
set_option maxHeartbeats 2000000 in
theorem small_any (l : List UInt8) (w : World) (hs : l.length ≤ 1000000) : Calls Tryd.prog 42 #[.string ⟨l.toArray⟩] w fun e w' => e = .returned (.string ⟨(l.map lowB).toArray⟩) ∧ Below w.heap.size w w' := by
  obtain ⟨W1, cap, hcv, hb1, hz1, hy1⟩ := conv_in l w
  go_enter Tryd.func42, Tryd.ntmps42
  go_wp2
  clear hcv
  go_loopw [10] (fun k wr => ∃ i : Nat, k = .int .i64 i ∧ i ≤ l.length ∧ Hid (BY wr w.heap.size (lowK l i)) ∧ Hid (Below w.heap.size w wr)) (fun k _ => l.length - (intOf k).toNat)
  case atStart => exact ⟨0, rfl, Nat.zero_le _, by rw [lowK_zero]; exact hy1, hb1⟩
  case round =>
    obtain ⟨i, rfl, hi, HY, HB⟩ := hrel
    clear hy1 hb1 hz1
    by_cases hlt : i < l.length
    · have hlt' : (i : Int) < l.length := by omega
      obtain ⟨hc, hf⟩ := HY.out i (by rw [lowK_len]; exact hlt)
      rw [lowK_at l i hlt] at hc
      obtain ⟨c, hcc⟩ : ∃ c, l[i] = c := ⟨_, rfl⟩
      rw [hcc] at hc
      by_cases h1 : 65 ≤ c.toNat
      · have a1 : decide (65 ≤ (c.toNat : Int)) = true := decide_eq_true (by omega)
        have b1 : 65 ≤ (c.toNat : Int) := by omega
        by_cases h2 : c.toNat ≤ 90
        · have a2 : decide ((c.toNat : Int) ≤ 90) = true := decide_eq_true (by omega)
          have b2 : (c.toNat : Int) ≤ 90 := by omega
          have hlow : lowB c = c + 32 := if_pos ⟨h1, h2⟩
          have hval : ((c + 32).toNat : Int) = (c.toNat : Int) + 32 := by
            rw [UInt8.toNat_add, show (32 : UInt8).toNat = 32 from rfl]
            omega
          have HN : Hid (BY (wr.setCell ⟨w.heap.size, i, none⟩ (.int .u8 ((c.toNat : Int) + 32))) w.heap.size (lowK l (i + 1))) := by
            show BY _ _ _
            have := HY.out.put i (c + 32)
            rw [hval] at this
            rw [lowK_next l i hlt, hcc, hlow]
            exact this
          have hsum : (c.toNat : Int) - 65 + 97 = (c.toNat : Int) + 32 := by omega
          clear hcc hlow hval HY
          go_wp2
          go_roundw
          case rel => exact ⟨i + 1, by go_num, by omega, HN, HB.out.setCell (p := ⟨w.heap.size, i, none⟩) (Nat.le_refl _) _⟩
          case measure => simp [intOf]; omega
        · have a2 : decide ((c.toNat : Int) ≤ 90) = false := decide_eq_false (by omega)
          have b2 : ¬ (c.toNat : Int) ≤ 90 := by omega
          have HN : Hid (BY wr w.heap.size (lowK l (i + 1))) := by
            show BY _ _ _
            rw [lowK_same l i hlt (by rw [hcc]; exact if_neg (fun h => h2 h.2))]
            exact HY.out
          clear hcc HY
          go_wp2
          go_roundw
          case rel => exact ⟨i + 1, by go_num, by omega, HN, HB⟩
          case measure => simp [intOf]; omega
      · have a1 : decide (65 ≤ (c.toNat : Int)) = false := decide_eq_false (by omega)
        have b1 : ¬ 65 ≤ (c.toNat : Int) := by omega
        have HN : Hid (BY wr w.heap.size (lowK l (i + 1))) := by
          show BY _ _ _
          rw [lowK_same l i hlt (by rw [hcc]; exact if_neg (fun h => h1 h.1))]
          exact HY.out
        clear hcc HY
        go_wp2
        go_roundw
        case rel => exact ⟨i + 1, by go_num, by omega, HN, HB⟩
        case measure => simp [intOf]; omega
    · obtain rfl : i = l.length := by omega
      have hy := HY.out
      rw [lowK_end] at hy
      have hcv := conv_out (cap := cap) hy
      rw [List.length_map] at hcv
      clear HY hy
      go_wp2
      go_ret
      exact ⟨rfl, HB.out⟩
set_option maxRecDepth 20000 in
set_option maxHeartbeats 2000000 in
theorem rsmall_any (l : List UInt8) (w : World) (hs : l.length ≤ 1000000) : Calls Tryd.prog 21 #[.string ⟨l.toArray⟩] w fun e w' => e = .returned (.string ⟨(l.map lowB).toArray⟩) ∧ Below w.heap.size w w' := by
  obtain ⟨W1, cap, hcv, hb1, hz1, hy1⟩ := conv_in l w
  go_enter Tryd.func21, Tryd.ntmps21
  go_wp2
  clear hcv
  go_loopw [9] (fun k wr => ∃ i : Nat, k = .int .i64 i ∧ i ≤ l.length ∧ Hid (BY wr w.heap.size (lowK l i)) ∧ Hid (Below w.heap.size w wr)) (fun k _ => l.length - (intOf k).toNat)
  case atStart => exact ⟨0, rfl, Nat.zero_le _, by rw [lowK_zero]; exact hy1, hb1⟩
  case round =>
    obtain ⟨i, rfl, hi, HY, HB⟩ := hrel
    clear hy1 hb1 hz1
    by_cases hlt : i < l.length
    · have hlt' : (i : Int) < l.length := by omega
      obtain ⟨hc, hf⟩ := HY.out i (by rw [lowK_len]; exact hlt)
      rw [lowK_at l i hlt] at hc
      obtain ⟨c, hcc⟩ : ∃ c, l[i] = c := ⟨_, rfl⟩
      rw [hcc] at hc
      by_cases h1 : 65 ≤ c.toNat
      · have a1 : decide (65 ≤ (c.toNat : Int)) = true := decide_eq_true (by omega)
        have b1 : 65 ≤ (c.toNat : Int) := by omega
        by_cases h2 : c.toNat ≤ 90
        · have a2 : decide ((c.toNat : Int) ≤ 90) = true := decide_eq_true (by omega)
          have b2 : (c.toNat : Int) ≤ 90 := by omega
          have hlow : lowB c = c + 32 := if_pos ⟨h1, h2⟩
          have hval : ((c + 32).toNat : Int) = (c.toNat : Int) + 32 := by
            rw [UInt8.toNat_add, show (32 : UInt8).toNat = 32 from rfl]
            omega
          have HN : Hid (BY (wr.setCell ⟨w.heap.size, i, none⟩ (.int .u8 ((c.toNat : Int) + 32))) w.heap.size (lowK l (i + 1))) := by
            show BY _ _ _
            have := HY.out.put i (c + 32)
            rw [hval] at this
            rw [lowK_next l i hlt, hcc, hlow]
            exact this
          clear hcc hlow hval HY
          go_wp2
          go_roundw
          case rel => exact ⟨i + 1, by go_num, by omega, HN, HB.out.setCell (p := ⟨w.heap.size, i, none⟩) (Nat.le_refl _) _⟩
          case measure => simp [intOf]; omega
        · have a2 : decide ((c.toNat : Int) ≤ 90) = false := decide_eq_false (by omega)
          have b2 : ¬ (c.toNat : Int) ≤ 90 := by omega
          have HN : Hid (BY wr w.heap.size (lowK l (i + 1))) := by
            show BY _ _ _
            rw [lowK_same l i hlt (by rw [hcc]; exact if_neg (fun h => h2 h.2))]
            exact HY.out
          clear hcc HY
          go_wp2
          go_roundw
          case rel => exact ⟨i + 1, by go_num, by omega, HN, HB⟩
          case measure => simp [intOf]; omega
      · have a1 : decide (65 ≤ (c.toNat : Int)) = false := decide_eq_false (by omega)
        have b1 : ¬ 65 ≤ (c.toNat : Int) := by omega
        have HN : Hid (BY wr w.heap.size (lowK l (i + 1))) := by
          show BY _ _ _
          rw [lowK_same l i hlt (by rw [hcc]; exact if_neg (fun h => h1 h.1))]
          exact HY.out
        clear hcc HY
        go_wp2
        go_roundw
        case rel => exact ⟨i + 1, by go_num, by omega, HN, HB⟩
        case measure => simp [intOf]; omega
    · obtain rfl : i = l.length := by omega
      have hy := HY.out
      rw [lowK_end] at hy
      have hcv := conv_out (cap := cap) hy
      rw [List.length_map] at hcv
      clear HY hy
      go_wp2
      go_ret
      exact ⟨rfl, HB.out⟩
end Go.Proofs.YtppipfjnichikaaDoor
