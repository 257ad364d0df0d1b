/- The document's Marks, begins. -/
import Derived.Test.YtcmhaihoeecjoaaGreatDoorQ1
namespace Go.Proofs.YtcmhaihoeecjoaaGreatDoor
open Go.RowKit
theorem marks_rep : ∀ (k : Nat) (r : List UInt8), r.head? ≠ some 62 → marksN (List.replicate k 62 ++ r) = if sepB r then (k : Int) else -1
  | 0, r, h => by
    cases r with
    | nil => simp [marksN, sep_nil]
    | cons c r =>
      have : c ≠ 62 := by simpa using h
      simp [marksN, this]
  | k + 1, r, h => by
    have ih := marks_rep k r h
    show marksN (62 :: (List.replicate k 62 ++ r)) = _
    unfold marksN
    rw [if_pos rfl]
    cases hs : sepB r with
    | true =>
      rw [hs] at ih
      have : nm (List.replicate k 62 ++ r) = true := marks_nonneg.1 (by rw [ih]; simp)
      rw [if_pos this, ih]
      simp
    | false =>
      rw [hs] at ih
      have : nm (List.replicate k 62 ++ r) = false := by
        cases hn : nm (List.replicate k 62 ++ r) with
        | false => rfl
        | true => have := marks_nonneg.2 hn; rw [ih] at this; simp at this
      rw [this]
      simp
theorem sep_take (r : List UInt8) : sepB r = decide (r.take 5 = fromS) := by
  rw [Bool.eq_iff_iff, decide_eq_true_iff]
  unfold sepB
  rw [List.isPrefixOf_iff_prefix, List.prefix_iff_eq_take]
  constructor
  · intro h; exact h.symm
  · intro h; exact h.symm
theorem sep_short {r : List UInt8} (h : r.length < 5) : sepB r = false := by
  rw [sep_take, decide_eq_false_iff_not]
  intro he
  have := congrArg List.length he
  rw [List.length_take] at this
  simp [fromS] at this
  omega
theorem getElem_lit (l : List UInt8) (i : Nat) (h : i < (⟨l.toArray⟩ : ByteArray).size) : (⟨l.toArray⟩ : ByteArray)[i] = l[i]'(by simpa [ByteArray.size] using h) := rfl
theorem slice5 (s : List UInt8) (j : Nat) (h : j + 5 ≤ s.length) (w : World) : (Instr.slice 9 (.string ⟨s.toArray⟩) (some (.int .i64 j)) (some (.int .i64 ((j : Int) + 5))) none).run Tryz.prog w = .ok (.string ⟨((s.drop j).take 5).toArray⟩) w := by
  have := run_slice_string (P := Tryz.prog) w 9 ⟨s.toArray⟩ .i64 .i64 (j : Int) ((j : Int) + 5) Tryz.underlying9 (by omega) (by omega) (by rw [size_lit]; omega)
  rw [this]
  have e1 := ext_mid s j (j + 5)
  rw [show j + 5 - j = 5 from by omega] at e1
  rw [← e1]
  rfl
set_option maxRecDepth 20000 in
set_option maxHeartbeats 1000000 in
theorem marks_any (s : List UInt8) (a : Nat) (w : World) (ha : a ≤ s.length) (hs : s.length ≤ 1000000) :
    Calls Tryz.prog 28 #[.string ⟨s.toArray⟩, .int .i64 a] w fun e w' => e = .returned (.int .i64 (marksN (s.drop a))) ∧ w' = w := by
  go_enter Tryz.func28, Tryz.ntmps28
  go_wp2
  go_loop [5] (fun n => ∃ k : Nat, n = .int .i64 k ∧ a + k ≤ s.length ∧ Hid (s.drop a = List.replicate k 62 ++ s.drop (a + k))) (fun n => s.length - (intOf n).toNat)
  case atStart => exact ⟨0, rfl, ha, by show _ = _; simp⟩
  case round =>
    obtain ⟨k, rfl, hk, HD⟩ := hrel
    obtain ⟨j, hja⟩ : ∃ j, a + k = j := ⟨_, rfl⟩
    have hj : (a : Int) + (k : Int) = (j : Int) := by omega
    rw [hja] at HD
    by_cases hlt : j < s.length
    · have hbyte : ((⟨s.toArray⟩ : ByteArray)[j]'(by rwa [size_lit])) = s[j] := rfl
      by_cases hc : s[j] = 62
      · have hcc : ((((⟨s.toArray⟩ : ByteArray)[j]'(by rwa [size_lit])).toNat : Int) == 62) = true := by rw [hbyte, hc]; rfl
        have HD2 : Hid (s.drop a = List.replicate (k + 1) 62 ++ s.drop (a + (k + 1))) := by
          show _ = _
          rw [HD.out, List.drop_eq_getElem_cons hlt, hc, List.replicate_succ', List.append_assoc, ← Nat.add_assoc, hja]
          rfl
        have hk2 : a + (k + 1) ≤ s.length := by omega
        clear hbyte hc hja
        go_wp2
        go_round
        case rel => exact ⟨k + 1, by go_num, hk2, HD2⟩
        case measure => simp [intOf]; omega
      · have hcc : ((((⟨s.toArray⟩ : ByteArray)[j]'(by rwa [size_lit])).toNat : Int) == 62) = false := by
          rw [hbyte, beq_eq_false_iff_ne]
          intro h
          exact hc (UInt8.toNat_inj.1 (show s[j].toNat = 62 by omega))
        have hh : (s.drop j).head? ≠ some 62 := by
          rw [List.drop_eq_getElem_cons hlt, List.head?_cons]
          intro e
          exact hc (Option.some.inj e)
        have HM := hide (marks_rep k _ hh)
        rw [← HD.out] at HM
        clear hbyte hc hh
        by_cases h5 : s.length - a - k < 5
        · have h5' : ((s.length : Int) - a - k < 5) := by omega
          have HF : Hid (marksN (s.drop a) = -1) := by
            show _ = _
            rw [HM.out, sep_short (by rw [List.length_drop]; omega)]
            rfl
          clear hja h5
          go_wp2
          go_ret
          exact ⟨by rw [HF.out]; rfl, rfl⟩
        · have h5' : ¬ ((s.length : Int) - a - k < 5) := by omega
          have hsl := slice5 s j (by omega)
          have HT := hide (sep_take (s.drop j))
          generalize (s.drop j).take 5 = x at hsl HT
          clear hja h5
          by_cases hx : x = fromS
          · have HF : Hid (marksN (s.drop a) = k) := by
              show _ = _
              rw [HM.out, HT.out, hx]
              rfl
            have hxb : (x == [70, 114, 111, 109, 32]) = true := by rw [hx]; rfl
            clear hx
            go_wp2
            go_ret
            exact ⟨by rw [HF.out]; rfl, rfl⟩
          · have HF : Hid (marksN (s.drop a) = -1) := by
              show _ = _
              rw [HM.out, HT.out, decide_eq_false hx]
              rfl
            have hxb : (x == [70, 114, 111, 109, 32]) = false := by
              rw [beq_eq_false_iff_ne]
              exact hx
            clear hx
            go_wp2
            go_ret
            exact ⟨by rw [HF.out]; rfl, rfl⟩
    · have h5' : ((s.length : Int) - a - k < 5) := by omega
      have HF : Hid (marksN (s.drop a) = -1) := by
        show _ = _
        rw [HD.out, List.drop_of_length_le (by omega), marks_rep k [] (by simp)]
        rfl
      clear hja
      go_wp2
      go_ret
      exact ⟨by rw [HF.out]; rfl, rfl⟩
/-- Does a line begin here? -/
def beg (s : List UInt8) (i : Nat) : Bool := i == 0 || s[i - 1]? == some 10
set_option maxHeartbeats 1000000 in
theorem begins_any (s : List UInt8) (i : Nat) (w : World) (hi : i ≤ s.length) (hs : s.length ≤ 1000000) :
    Calls Tryz.prog 27 #[.string ⟨s.toArray⟩, .int .i64 i] w fun e w' => e = .returned (.bool (beg s i)) ∧ w' = w := by
  by_cases h0 : i = 0
  · subst h0
    go_enter Tryz.func27, Tryz.ntmps27
    go_wp2
    go_ret
    exact ⟨rfl, rfl⟩
  · obtain ⟨k, rfl⟩ : ∃ k, i = k + 1 := ⟨i - 1, by omega⟩
    have hb0 : (((k + 1 : Nat) : Int) == 0) = false := by simp; omega
    have hk : k < s.length := by omega
    have hj : ((k + 1 : Nat) : Int) - 1 = (k : Int) := by omega
    have hbyte : ((⟨s.toArray⟩ : ByteArray)[k]'(by rwa [size_lit])) = s[k] := rfl
    have HB : Hid (beg s (k + 1) = (((s[k].toNat : Int) == 10))) := by
      show _ = _
      unfold beg
      rw [show k + 1 - 1 = k from rfl, List.getElem?_eq_getElem hk, Bool.eq_iff_iff]
      simp only [beq_iff_eq, Option.some.injEq, Bool.or_eq_true]
      constructor
      · rintro (h | h)
        · omega
        · rw [h]; rfl
      · intro h
        exact .inr (UInt8.toNat_inj.1 (show s[k].toNat = 10 by omega))
    go_enter Tryz.func27, Tryz.ntmps27
    go_wp2
    go_ret
    exact ⟨by rw [HB.out]; rfl, rfl⟩
end Go.Proofs.YtcmhaihoeecjoaaGreatDoor
