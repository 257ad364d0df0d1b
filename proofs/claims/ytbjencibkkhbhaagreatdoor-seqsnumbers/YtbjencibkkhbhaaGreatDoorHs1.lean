/- Small letters: small, smallText, Same of package header; the document's Small. -/
import Derived.Test.YtbjencibkkhbhaaGreatDoorHd6
import Derived.Test.YtbjencibkkhbhaaGreatDoorCalm
import Derived.Test.YtbjencibkkhbhaaGreatDoorMgQMath
import Derived.Lib.ConvBytes
import Derived.Laws.IdiomStrings
namespace Go.Proofs.YtbjencibkkhbhaaGreatDoor
open Go.RowKit Go.Shelf
/-- Block B holds these bytes, none of them frozen. -/
def BY (w : World) (B : Nat) (bs : List UInt8) : Prop := ∀ j (hj : j < bs.length), w.cell? ⟨B, j, none⟩ = some (.int .u8 (bs[j].toNat : Int)) ∧ w.frozen? ⟨B, j, none⟩ = false
theorem BY.put {w : World} {B : Nat} {bs : List UInt8} (h : BY w B bs) (i : Nat) (c : UInt8) : BY (w.setCell ⟨B, i, none⟩ (.int .u8 (c.toNat : Int))) B (bs.set i c) := by
  intro j hj
  rw [List.length_set] at hj
  obtain ⟨h1, h2⟩ := h j hj
  refine ⟨?_, by rw [World.frozen?_setCell]; exact h2⟩
  by_cases hji : j = i
  · subst hji
    rw [List.getElem_set_self]
    exact World.cell?_setCell_same _ _ _ h1
  · rw [List.getElem_set_ne (fun e => hji e.symm), World.cell?_setCell_other _ ⟨B, i, none⟩ ⟨B, j, none⟩ _ (fun e => hji (by have := congrArg Addr.off e; simpa using this.symm))]
    exact h1
theorem conv_in (l : List UInt8) (w : World) : ∃ W1 cap, (convert 9 83 (.string ⟨l.toArray⟩)).run Tryz.prog w = .ok (.slice (some ⟨w.heap.size, 0, none⟩) l.length cap) W1 ∧ Below w.heap.size w W1 ∧ W1.heap.size = w.heap.size + 1 ∧ BY W1 w.heap.size l := by
  have h := Lib.run_convert_string_bytes (P := Tryz.prog) w 9 83 5 ⟨l.toArray⟩ Tryz.underlying9 Tryz.underlying83 Tryz.underlying5
  rw [size_lit] at h
  refine ⟨_, _, h, ⟨rfl, rfl, rfl, by rw [Lib.bytesWorld_size]; omega, fun j hj => Lib.bytesWorld_at_old _ _ _ j hj⟩, Lib.bytesWorld_size _ _ _, fun j hj => ⟨?_, ?_⟩⟩
  · rw [Lib.bytesWorld_cell _ _ _ j (by rw [size_lit]; exact hj)]
    simp [List.getElem?_eq_getElem hj]
  · have hb := Lib.bytesWorld_at_new w 5 ⟨l.toArray⟩
    have hs : l.length ≤ (Lib.bytesCells w 5 ⟨l.toArray⟩).size := by simp [Lib.bytesCells]
    simp only [World.frozen?, hb]
    simp
    omega
theorem conv_out {w : World} {B cap : Nat} {bs : List UInt8} (h : BY w B bs) : (convert 83 9 (.slice (some ⟨B, 0, none⟩) bs.length cap)).run Tryz.prog w = .ok (.string ⟨bs.toArray⟩) w :=
  run_convert_bytes_back (P := Tryz.prog) w 83 9 5 ⟨B, 0, none⟩ cap bs Tryz.underlying83 Tryz.underlying5 Tryz.underlying9 (fun j hj => by
    rw [Go.WideShapes.add_plain]
    have := (h j hj).1
    simpa using this)
/-- The bytes behind k rounds. -/
def lowK (l : List UInt8) (k : Nat) : List UInt8 := (l.take k).map lowB ++ l.drop k
theorem lowK_len (l : List UInt8) (k : Nat) : (lowK l k).length = l.length := by
  unfold lowK
  simp
  omega
theorem lowK_zero (l : List UInt8) : lowK l 0 = l := by simp [lowK]
theorem lowK_end (l : List UInt8) : lowK l l.length = l.map lowB := by simp [lowK]
theorem lowK_at (l : List UInt8) (k : Nat) (h : k < l.length) : (lowK l k)[k]'(by rw [lowK_len]; exact h) = l[k] := by
  unfold lowK
  rw [List.getElem_append_right (by simp; omega)]
  simp [Nat.min_eq_left (Nat.le_of_lt h)]
theorem lowK_next (l : List UInt8) (k : Nat) (h : k < l.length) : lowK l (k + 1) = (lowK l k).set k (lowB l[k]) := by
  unfold lowK
  rw [List.take_succ_eq_append_getElem h, List.map_append, List.set_append_right _ _ (by simp; omega)]
  simp [Nat.min_eq_left (Nat.le_of_lt h)]
  rw [List.drop_eq_getElem_cons h, List.set_cons_zero]
theorem lowK_same (l : List UInt8) (k : Nat) (h : k < l.length) (hl : lowB l[k] = l[k]) : lowK l (k + 1) = lowK l k := by
  rw [lowK_next l k h, hl]
  apply List.ext_getElem (by simp)
  intro n h1 h2
  by_cases hn : n = k
  · subst hn
    rw [List.getElem_set_self, lowK_at l n h]
  · rw [List.getElem_set_ne (fun e => hn e.symm)]
set_option maxRecDepth 20000 in
set_option maxHeartbeats 2000000 in
theorem rsmall_any (l : List UInt8) (w : World) (hs : l.length ≤ 1000000) : Calls Tryz.prog 43 #[.string ⟨l.toArray⟩] w fun e w' => e = .returned (.string ⟨(l.map lowB).toArray⟩) ∧ Below w.heap.size w w' := by
  obtain ⟨W1, cap, hcv, hb1, hz1, hy1⟩ := conv_in l w
  go_enter Tryz.func43, Tryz.ntmps43
  go_wp2
  clear hcv
  go_loopw [9] (fun k wr => ∃ i : Nat, k = .int .i64 i ∧ i ≤ l.length ∧ Hid (BY wr w.heap.size (lowK l i)) ∧ Hid (Below w.heap.size w wr)) (fun k _ => l.length - (intOf k).toNat)
  case atStart => exact ⟨0, rfl, Nat.zero_le _, by rw [lowK_zero]; exact hy1, hb1⟩
  case round =>
    obtain ⟨i, rfl, hi, HY, HB⟩ := hrel
    clear hy1 hb1 hz1
    by_cases hlt : i < l.length
    · have hlt' : (i : Int) < l.length := by omega
      obtain ⟨hc, hf⟩ := HY.out i (by rw [lowK_len]; exact hlt)
      rw [lowK_at l i hlt] at hc
      obtain ⟨c, hcc⟩ : ∃ c, l[i] = c := ⟨_, rfl⟩
      rw [hcc] at hc
      by_cases h1 : 65 ≤ c.toNat
      · have a1 : decide (65 ≤ (c.toNat : Int)) = true := decide_eq_true (by omega)
        have b1 : 65 ≤ (c.toNat : Int) := by omega
        by_cases h2 : c.toNat ≤ 90
        · have a2 : decide ((c.toNat : Int) ≤ 90) = true := decide_eq_true (by omega)
          have b2 : (c.toNat : Int) ≤ 90 := by omega
          have hlow : lowB c = c + 32 := if_pos ⟨h1, h2⟩
          have hval : ((c + 32).toNat : Int) = (c.toNat : Int) + 32 := by
            rw [UInt8.toNat_add, show (32 : UInt8).toNat = 32 from rfl]
            omega
          have HN : Hid (BY (wr.setCell ⟨w.heap.size, i, none⟩ (.int .u8 ((c.toNat : Int) + 32))) w.heap.size (lowK l (i + 1))) := by
            show BY _ _ _
            have := HY.out.put i (c + 32)
            rw [hval] at this
            rw [lowK_next l i hlt, hcc, hlow]
            exact this
          clear hcc hlow hval HY
          go_wp2
          go_roundw
          case rel => exact ⟨i + 1, by go_num, by omega, HN, HB.out.setCell (p := ⟨w.heap.size, i, none⟩) (Nat.le_refl _) _⟩
          case measure => simp [intOf]; omega
        · have a2 : decide ((c.toNat : Int) ≤ 90) = false := decide_eq_false (by omega)
          have b2 : ¬ (c.toNat : Int) ≤ 90 := by omega
          have HN : Hid (BY wr w.heap.size (lowK l (i + 1))) := by
            show BY _ _ _
            rw [lowK_same l i hlt (by rw [hcc]; exact if_neg (fun h => h2 h.2))]
            exact HY.out
          clear hcc HY
          go_wp2
          go_roundw
          case rel => exact ⟨i + 1, by go_num, by omega, HN, HB⟩
          case measure => simp [intOf]; omega
      · have a1 : decide (65 ≤ (c.toNat : Int)) = false := decide_eq_false (by omega)
        have b1 : ¬ 65 ≤ (c.toNat : Int) := by omega
        have HN : Hid (BY wr w.heap.size (lowK l (i + 1))) := by
          show BY _ _ _
          rw [lowK_same l i hlt (by rw [hcc]; exact if_neg (fun h => h1 h.1))]
          exact HY.out
        clear hcc HY
        go_wp2
        go_roundw
        case rel => exact ⟨i + 1, by go_num, by omega, HN, HB⟩
        case measure => simp [intOf]; omega
    · obtain rfl : i = l.length := by omega
      have hy := HY.out
      rw [lowK_end] at hy
      have hcv := conv_out (cap := cap) hy
      rw [List.length_map] at hcv
      clear HY hy
      go_wp2
      go_ret
      exact ⟨rfl, HB.out⟩
theorem lowB_int (c : UInt8) : ((lowB c).toNat : Int) = if 65 ≤ c.toNat ∧ c.toNat ≤ 90 then (c.toNat : Int) + 32 else (c.toNat : Int) := by
  unfold lowB
  split
  · rw [UInt8.toNat_add, show (32 : UInt8).toNat = 32 from rfl]
    omega
  · rfl
theorem hsmall_any (c : UInt8) (w : World) : Calls Tryz.prog 79 #[.int .u8 (c.toNat : Nat)] w fun e w' => e = .returned (.int .u8 ((lowB c).toNat : Nat)) ∧ w' = w := by
  have h255 := c.toNat_lt
  have HL := hide (lowB_int c)
  by_cases h1 : 65 ≤ c.toNat
  · have a1 : decide ((c.toNat : Int) ≥ 65) = true := decide_eq_true (by omega)
    have b1 : (c.toNat : Int) ≥ 65 := by omega
    by_cases h2 : c.toNat ≤ 90
    · have b2 : (c.toNat : Int) ≤ 90 := by omega
      have HV : Hid (((lowB c).toNat : Int) = (c.toNat : Int) + 32) := by
        show _ = _
        rw [HL.out, if_pos ⟨h1, h2⟩]
      have hsum : (c.toNat : Int) + 97 - 65 = (c.toNat : Int) + 32 := by omega
      go_enter Tryz.func79, Tryz.ntmps79
      go_wp2
      go_ret
      exact ⟨by rw [HV.out]; rfl, rfl⟩
    · have b2 : ¬ (c.toNat : Int) ≤ 90 := by omega
      have HV : Hid (((lowB c).toNat : Int) = (c.toNat : Int)) := by
        show _ = _
        rw [HL.out, if_neg (fun h => h2 h.2)]
      go_enter Tryz.func79, Tryz.ntmps79
      go_wp2
      go_ret
      exact ⟨by rw [HV.out]; rfl, rfl⟩
  · have b1 : ¬ (c.toNat : Int) ≥ 65 := by omega
    have HV : Hid (((lowB c).toNat : Int) = (c.toNat : Int)) := by
      show _ = _
      rw [HL.out, if_neg (fun h => h1 h.1)]
    go_enter Tryz.func79, Tryz.ntmps79
    go_wp2
    go_ret
    exact ⟨by rw [HV.out]; rfl, rfl⟩
/-- The same but for capital letters. -/
def sameT (a b : List UInt8) : Bool := decide (a.map lowB = b.map lowB)
theorem map_take_next {a b : List UInt8} {i : Nat} (ha : i < a.length) (hb : i < b.length) (h : (a.take i).map lowB = (b.take i).map lowB) (hc : lowB a[i] = lowB b[i]) : (a.take (i + 1)).map lowB = (b.take (i + 1)).map lowB := by
  rw [List.take_succ_eq_append_getElem ha, List.take_succ_eq_append_getElem hb, List.map_append, List.map_append, h]
  simp [hc]
theorem map_ne {a b : List UInt8} {i : Nat} (ha : i < a.length) (hb : i < b.length) (hc : lowB a[i] ≠ lowB b[i]) : a.map lowB ≠ b.map lowB := by
  intro h
  apply hc
  have h1 : (a.map lowB)[i]? = (b.map lowB)[i]? := by rw [h]
  simpa [List.getElem?_eq_getElem ha, List.getElem?_eq_getElem hb] using h1
set_option maxRecDepth 20000 in
set_option maxHeartbeats 2000000 in
theorem hsame_any (a b : List UInt8) (w : World) (_ha : a.length ≤ 1000000) (hb : b.length ≤ 1000000) : Calls Tryz.prog 64 #[.string ⟨a.toArray⟩, .string ⟨b.toArray⟩] w fun e w' => e = .returned (.bool (sameT a b)) ∧ Below w.heap.size w w' := by
  have hsa := size_lit a
  have hsb := size_lit b
  by_cases hl : a.length = b.length
  · obtain ⟨n, hn⟩ : ∃ n, b.length = n := ⟨_, rfl⟩
    rw [hn] at hl hsb hb
    rw [hl] at hsa
    have HLA := hide hl
    have HLB := hide hn
    clear hl hn
    go_enter Tryz.func64, Tryz.ntmps64
    go_wp2
    go_loopw [13] (fun k wr => ∃ i : Nat, k = .int .i64 i ∧ i ≤ n ∧ Hid ((a.take i).map lowB = (b.take i).map lowB) ∧ Hid (Below w.heap.size w wr)) (fun k _ => n - (intOf k).toNat)
    case atStart => exact ⟨0, rfl, Nat.zero_le _, rfl, Below.refl _ _⟩
    case round =>
      obtain ⟨i, rfl, hi, HX, HB⟩ := hrel
      by_cases hlt : i < n
      · have hlt' : (i : Int) < n := by omega
        have hia : i < a.length := by have := HLA.out; omega
        have hib : i < b.length := by have := HLB.out; omega
        obtain ⟨x, hx, hatx⟩ : ∃ c, a[i] = c ∧ ∀ h : i < (⟨a.toArray⟩ : ByteArray).size, (⟨a.toArray⟩ : ByteArray)[i]'h = c := ⟨_, rfl, fun _ => rfl⟩
        obtain ⟨y, hy, haty⟩ : ∃ c, b[i] = c ∧ ∀ h : i < (⟨b.toArray⟩ : ByteArray).size, (⟨b.toArray⟩ : ByteArray)[i]'h = c := ⟨_, rfl, fun _ => rfl⟩
        have HS := hide hsmall_any
        have hn1 := ext_some wr
        by_cases hxy : lowB x = lowB y
        · have HX2 := hide (map_take_next hia hib HX.out (by rw [hx, hy]; exact hxy))
          have hxy' : ((lowB x).toNat : Int) = (lowB y).toNat := by rw [hxy]
          clear hx hy hxy hia hib
          go_wp2
          refine wp_region_ext (by kernel_rfl) (by kernel_rfl) ?_
          repeat (go_big_quiet_step ((go_at_call 79; exact ext_same (HS.out _ _))))
          refine wpQuiet_nil ?_
          rintro w1 ⟨⟨_, hb1⟩, rfl⟩
          go_wp2
          go_roundw
          case rel => exact ⟨i + 1, by go_num, by omega, HX2, HB.out.trans (hb1.mono HB.out.size)⟩
          case measure => simp [intOf]; omega
        · have HV : Hid (sameT a b = false) := by
            show _ = _
            unfold sameT
            exact decide_eq_false (map_ne hia hib (by rw [hx, hy]; exact hxy))
          have hxy' : ¬ ((lowB x).toNat : Int) = (lowB y).toNat := fun e => hxy (UInt8.toNat_inj.1 (by omega))
          clear hx hy hxy hia hib
          go_wp2
          refine wp_region_ext (by kernel_rfl) (by kernel_rfl) ?_
          repeat (go_big_quiet_step ((go_at_call 79; exact ext_same (HS.out _ _))))
          refine wpQuiet_nil ?_
          rintro w1 ⟨⟨_, hb1⟩, rfl⟩
          go_wp2
          go_ret
          exact ⟨by rw [HV.out]; rfl, HB.out.trans (hb1.mono HB.out.size)⟩
      · obtain rfl : i = n := by omega
        have HV : Hid (sameT a b = true) := by
          show _ = _
          unfold sameT
          have := HX.out
          rw [List.take_of_length_le (by have := HLA.out; omega), List.take_of_length_le (by have := HLB.out; omega)] at this
          exact decide_eq_true this
        go_wp2
        go_ret
        exact ⟨by rw [HV.out]; rfl, HB.out⟩
  · have HV : Hid (sameT a b = false) := by
      show _ = _
      unfold sameT
      refine decide_eq_false (fun h => hl ?_)
      have := congrArg List.length h
      simpa using this
    have hl' : ¬ ((a.length : Int) = b.length) := by omega
    clear hl
    go_enter Tryz.func64, Tryz.ntmps64
    go_wp2
    go_ret
    exact ⟨by rw [HV.out]; rfl, Below.refl _ _⟩
end Go.Proofs.YtbjencibkkhbhaaGreatDoor
