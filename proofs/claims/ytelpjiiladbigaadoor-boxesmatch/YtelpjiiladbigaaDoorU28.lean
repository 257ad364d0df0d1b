/- The document's Fits, of any texts of at most 200 bytes. -/
import Derived.Test.YtelpjiiladbigaaDoorU27
import Derived.Deep.CutBlock
import Derived.Deep.CutRange
set_option linter.unusedSimpArgs false
set_option linter.unusedVariables false
namespace Go.Proofs.YtelpjiiladbigaaDoor
open Go.RowKit Go.Shelf
theorem boolInfo13 : (Tryd.prog.info? 4).map (fun i => (i.zero, i.size, i.bytes)) = some (some (.bool false), 1, 1) := by kernel_rfl
theorem u8_int (c d : UInt8) (h : c ≠ d) : ((c.toNat : Int) == (d.toNat : Int)) = false := beq_eq_false_iff_ne.2 fun e => h (UInt8.toNat_inj.1 (by omega))
theorem u8_lit (c : UInt8) (n : Nat) (hn : n < 256) (h : c ≠ n.toUInt8) : ¬ (c.toNat : Int) = n := by
  intro e
  have e2 : c.toNat = n := by omega
  exact h (UInt8.toNat_inj.1 (by rw [e2]; simp; omega))
theorem made_bools (n : Nat) : (madeCells #[Value.bool false] n).toList = List.replicate n (.bool false) := by
  refine List.ext_getElem (by simp [madeCells]) fun i h1 h2 => ?_
  simp [madeCells, Nat.mod_one]
theorem fit_mt (inb : Bool) (P N : List UInt8) (q m : Nat) (hq : q = P.length) : fit inb (P.drop q) (N.drop m) = decide (N.length ≤ m) := by
  subst hq
  rw [List.drop_length, fit_nil]
  by_cases h : N.length ≤ m
  · rw [List.drop_of_length_le h, decide_eq_true h]; rfl
  · rw [decide_eq_false h]
    cases hd : N.drop m with
    | nil => exact absurd (List.drop_eq_nil_iff.1 hd) h
    | cons a b => rfl
set_option maxRecDepth 20000 in
set_option maxHeartbeats 4000000 in
theorem rfits_any (P N : List UInt8) (w : World) (hP : P.length ≤ 200) (hN : N.length ≤ 200) :
    Calls Tryd.prog 16 #[.string ⟨P.toArray⟩, .string ⟨N.toArray⟩] w fun e w' => e = .returned (.bool (fit (decide (N = inboxU)) P N)) ∧ Below w.heap.size w w' := by
  have hsp := size_lit P
  have hsn := size_lit N
  obtain ⟨inb, HI⟩ : ∃ inb, Hid (inb = decide (N = inboxU)) := ⟨_, rfl⟩
  rw [← HI.out]
  obtain ⟨R, HR⟩ : ∃ R, Hid (P.length + 1 = R) := ⟨_, rfl⟩
  obtain ⟨W, HW⟩ : ∃ W, Hid (N.length + 1 = W) := ⟨_, rfl⟩
  obtain ⟨M, HM⟩ : ∃ M, Hid (R * W = M) := ⟨_, rfl⟩
  have hR : (P.length : Int) + 1 = R := by have := HR.out; omega
  have hW : (N.length : Int) + 1 = W := by have := HW.out; omega
  have hR1 : (R : Int) - 1 = P.length := by omega
  have hW1 : (W : Int) - 1 = N.length := by omega
  have hRb : R ≤ 201 := by have := HR.out; omega
  have hWb : W ≤ 201 := by have := HW.out; omega
  have hMM : (R : Int) * (W : Int) = M := by have := HM.out; exact_mod_cast this
  have hMb : M ≤ 40401 := by rw [← HM.out]; exact tab_max hRb hWb
  have HMe : Hid ((P.length + 1) * (N.length + 1) = M) := by show _ = _; rw [HR.out, HW.out]; exact HM.out
  obtain ⟨i0, hi, hz0, hz1, hz2⟩ := info_three boolInfo13
  go_enter Tryd.func16, Tryd.ntmps16
  go_wp2_with (at_make; refine wpList_make_full w rfl _ _ 49 rfl w.heap.size 4 i0 (.bool false) 1 Tryd.underlying49 hi hz0 hz1 .i64 .i64 _ _ M rfl rfl rfl rfl (by rw [hz2]; omega) (by simp only [maxLen]; omega) (Nat.le_refl _) ?_)
  intro w1 how1 hgr1
  have T1 : Hid (Tb w w1 w.heap.size inb P N (R * W)) := by
    refine ⟨Nat.le_refl _, ⟨hgr1.os, hgr1.tape, hgr1.output, hgr1.size, fun k hk => hgr1.block k hk (by simp)⟩, ?_⟩
    have := Rw.of_mk how1
    rw [made_bools] at this
    rw [← HR.out, ← HW.out, tabL_all, HMe.out, List.map_replicate]
    exact this
  clear how1 hgr1
  go_wp2
  go_loopw [8] (fun v8 wr => ∃ z : Int, v8 = .int .i64 z ∧ -1 ≤ z ∧ z < R ∧ Hid (Tb w wr w.heap.size inb P N ((z + 1).toNat * W))) (fun v8 _ => (intOf v8 + 1).toNat)
  case atStart =>
    refine ⟨_, rfl, by omega, by omega, ?_⟩
    rw [show ((P.length : Int) + 1).toNat = R from by omega]
    exact T1.out
  case round =>
    clear T1
    obtain ⟨z, rfl, hz1, hz2, HT⟩ := hrel
    by_cases hz : z < 0
    · obtain rfl : z = -1 := by omega
      have hc0 := HT.out.at (j := 0) (by rw [HMe.out]; have := HM.out; have h1 := HR.out; have h2 := HW.out; rw [← HM.out, ← h1, ← h2]; exact Nat.mul_pos (by omega) (by omega)) (by simp)
      have hM0 : 0 < M := by have h1 := HR.out; have h2 := HW.out; rw [← HM.out, ← h1, ← h2]; exact Nat.mul_pos (by omega) (by omega)
      rw [show fitE inb P N 0 = fit inb P N from by have := fitE_at inb P N 0 0 (Nat.zero_le _); simpa using this] at hc0
      have hM0' : (0 : Int) < M := by omega
      have HB := hide HT.out.2.1
      clear HT
      go_wp2
      go_ret
      exact ⟨rfl, HB.out⟩
    · obtain ⟨q, rfl⟩ := Int.eq_ofNat_of_zero_le (by omega : 0 ≤ z)
      have hq0 : ¬ (q : Int) < 0 := by omega
      clear hz hz1
      have hqR : q < R := by omega
      go_wp2
      go_loopw [9] (fun v9 wr => ∃ z : Int, v9 = .int .i64 z ∧ -1 ≤ z ∧ z < W ∧ Hid (Tb w wr w.heap.size inb P N (q * W + (z + 1).toNat))) (fun v9 _ => (intOf v9 + 1).toNat)
      case atStart =>
        refine ⟨_, rfl, by omega, by omega, ?_⟩
        have h1 := HT.out
        have h2 := HW.out
        rw [show ((q : Int) + 1).toNat = q + 1 from by omega, Nat.add_mul, Nat.one_mul] at h1
        rw [show ((N.length : Int) + 1).toNat = W from by omega]
        exact h1
      case round =>
        clear HT
        obtain ⟨y, rfl, hy1, hy2, HT⟩ := hrel
        by_cases hy : y < 0
        · obtain rfl : y = -1 := by omega
          go_wp2
          go_roundw
          case rel =>
            refine ⟨(q : Int) - 1, by go_num, by omega, by omega, ?_⟩
            have h1 := HT.out
            rw [show ((-1 : Int) + 1).toNat = 0 from rfl, Nat.add_zero] at h1
            rw [show ((q : Int) - 1 + 1).toNat = q from by omega]
            exact h1
          case measure => simp [intOf] <;> omega
        · obtain ⟨m, rfl⟩ := Int.eq_ofNat_of_zero_le (by omega : 0 ≤ y)
          have hm0 : ¬ (m : Int) < 0 := by omega
          clear hy hy1
          have hmW : m < W := by omega
          have hmN : m ≤ N.length := by have := HW.out; omega
          obtain ⟨a0, HA0⟩ : ∃ a0, Hid (q * W = a0) := ⟨_, rfl⟩
          obtain ⟨a1, HA1⟩ : ∃ a1, Hid ((q + 1) * W = a1) := ⟨_, rfl⟩
          have e0 : (q : Int) * (W : Int) = a0 := by have := HA0.out; exact_mod_cast this
          have e1 : ((q : Int) + 1) * (W : Int) = a1 := by have := HA1.out; exact_mod_cast this
          have H01 : Hid (a1 = a0 + W) := by show _ = _; rw [← HA1.out, ← HA0.out, Nat.add_mul, Nat.one_mul]
          have hk0 : a0 + m < M := by rw [← HA0.out, ← HM.out]; exact tab_in0 hqR hmW
          have hk1 : q < P.length → a1 + m < M := fun h => by rw [← HA1.out, ← HM.out]; exact tab_in (by have := HR.out; omega) hmW
          obtain ⟨T, HTv⟩ : ∃ T, Hid (T = fit inb (P.drop q) (N.drop m)) := ⟨_, rfl⟩
          have htb := HT.out
          rw [HA0.out, show ((m : Int) + 1).toNat = m + 1 from by omega] at htb
          have HTb := hide htb
          clear HT htb
          have hblt : w.heap.size < wr.heap.size := HTb.out.2.2.lt _ rfl
          go_upto_block 4 with fail
          go_cut [10, 11] from 30 to 143 (fun v10 v11 wq => v10 = .bool T ∧ Hid (Below wr.heap.size wr wq))
          case first =>
            by_cases hqP : q = P.length
            · subst hqP
              have HF := hide (HTv.out.trans (fit_mt inb P N _ m rfl))
              by_cases hmE : m = N.length
              · subst hmE
                have HF2 : Hid (T = true) := by show _ = _; rw [HF.out]; simp
                clear hk1
                go_wp2
                go_meet
                case rel => exact ⟨by rw [HF2.out], Below.refl _ _⟩
              · have hme : ((m : Int) == N.length) = false := beq_eq_false_iff_ne.2 (by omega)
                have hme2 : ¬ (m : Int) = N.length := by omega
                have HF2 : Hid (T = false) := by show _ = _; rw [HF.out]; exact decide_eq_false (by omega)
                clear hk1
                go_wp2
                go_meet
                case rel => exact ⟨by rw [HF2.out], Below.refl _ _⟩
            · have hqL : q < P.length := by have := HR.out; omega
              have hk1 := hk1 hqL
              have hk1' : (a1 : Int) + m < M := by omega
              have hqe : ¬ (q : Int) = P.length := by omega
              have hqL' : (q : Int) < P.length := by omega
              obtain ⟨c, hc, hat⟩ : ∃ c, P[q] = c ∧ ∀ h : q < (⟨P.toArray⟩ : ByteArray).size, (⟨P.toArray⟩ : ByteArray)[q]'h = c := ⟨_, rfl, fun _ => rfl⟩
              obtain ⟨F1, HF1⟩ : ∃ F1, Hid (F1 = fit inb (P.drop (q + 1)) (N.drop m)) := ⟨_, rfl⟩
              have hc1 : wr.cell? ⟨w.heap.size, a1 + m, none⟩ = some (.bool F1) := by
                have h := HTb.out.at (j := a1 + m) (by rw [HMe.out]; exact hk1) (by have := H01.out; omega)
                have h2 := fitE_at inb P N (q + 1) m hmN
                rw [HW.out, HA1.out] at h2
                rw [h, h2, HF1.out]
              have Hc := hide hc
              have HqL := hide hqL
              by_cases hmE : m = N.length
              · subst hmE
                have HD : Hid (T = (starB c && F1)) := by
                  show _ = _
                  rw [HTv.out, HF1.out, List.drop_length, fit_drop_end HqL.out, Hc.out]
                clear hc
                by_cases hs : starB c = true
                · rw [hs] at HD
                  have hcc : c = 42 ∨ c = 37 := by simpa [starB] using hs
                  clear hs
                  rcases hcc with rfl | rfl
                  · cases F1 with
                    | true =>
                      go_wp2
                      go_meet
                      case rel => exact ⟨by rw [HD.out]; rfl, Below.refl _ _⟩
                    | false =>
                      go_wp2
                      go_meet
                      case rel => exact ⟨by rw [HD.out]; rfl, Below.refl _ _⟩
                  · cases F1 with
                    | true =>
                      go_wp2
                      go_meet
                      case rel => exact ⟨by rw [HD.out]; rfl, Below.refl _ _⟩
                    | false =>
                      go_wp2
                      go_meet
                      case rel => exact ⟨by rw [HD.out]; rfl, Below.refl _ _⟩
                · have hs' : starB c = false := by simpa using hs
                  rw [hs'] at HD
                  obtain ⟨n1, n2⟩ : c ≠ 42 ∧ c ≠ 37 := by simpa [starB] using hs'
                  have b1 : ¬ (c.toNat : Int) = 42 := u8_lit c 42 (by omega) n1
                  have b2 : ¬ (c.toNat : Int) = 37 := u8_lit c 37 (by omega) n2
                  have b1' : ((c.toNat : Int) == 42) = false := beq_eq_false_iff_ne.2 b1
                  have b2' : ((c.toNat : Int) == 37) = false := beq_eq_false_iff_ne.2 b2
                  clear hs hs' n1 n2
                  go_wp2
                  go_meet
                  case rel => exact ⟨by rw [HD.out]; rfl, Below.refl _ _⟩
              · have hmL : m < N.length := by omega
                have hmL' : (m : Int) < N.length := by omega
                obtain ⟨d, hd, hbt⟩ : ∃ c, N[m] = c ∧ ∀ h : m < (⟨N.toArray⟩ : ByteArray).size, (⟨N.toArray⟩ : ByteArray)[m]'h = c := ⟨_, rfl, fun _ => rfl⟩
                obtain ⟨F2, HF2⟩ : ∃ F, Hid (F = fit inb (P.drop q) (N.drop (m + 1))) := ⟨_, rfl⟩
                obtain ⟨F3, HF3⟩ : ∃ F, Hid (F = fit inb (P.drop (q + 1)) (N.drop (m + 1))) := ⟨_, rfl⟩
                have hmW2 : m + 1 < W := by have := HW.out; omega
                have hk2 : a0 + m + 1 < M := by rw [← HA0.out, ← HM.out, Nat.add_assoc]; exact tab_in0 hqR hmW2
                have hk3 : a1 + m + 1 < M := by rw [← HA1.out, ← HM.out, Nat.add_assoc]; exact tab_in (by have := HR.out; have := HqL.out; omega) hmW2
                have hk2' : (a0 : Int) + m + 1 < M := by omega
                have hk3' : (a1 : Int) + m + 1 < M := by omega
                have hc2 : wr.cell? ⟨w.heap.size, a0 + m + 1, none⟩ = some (.bool F2) := by
                  have h := HTb.out.at (j := a0 + m + 1) (by rw [HMe.out]; exact hk2) (by omega)
                  have h2 := fitE_at inb P N q (m + 1) (by omega)
                  rw [HW.out, HA0.out, ← Nat.add_assoc] at h2
                  rw [h, h2, HF2.out]
                have hc3 : wr.cell? ⟨w.heap.size, a1 + m + 1, none⟩ = some (.bool F3) := by
                  have h := HTb.out.at (j := a1 + m + 1) (by rw [HMe.out]; exact hk3) (by have := H01.out; omega)
                  have h2 := fitE_at inb P N (q + 1) (m + 1) (by omega)
                  rw [HW.out, HA1.out, ← Nat.add_assoc] at h2
                  rw [h, h2, HF3.out]
                have HD : Hid (T = if starB c then F1 || ((c == 42 || d != 47) && F2) else sameI inb c d && F3) := by
                  show _ = _
                  rw [HTv.out, HF1.out, HF2.out, HF3.out, fit_drop HqL.out hmL, Hc.out, hd]
                have HmL := hide hmL
                have Hd := hide hd
                clear hc hd
                by_cases hs : starB c = true
                · rw [hs, if_pos rfl] at HD
                  have hcc : c = 42 ∨ c = 37 := by simpa [starB] using hs
                  clear hs hc3 hk3 hk3' HF3
                  cases F1 with
                  | true =>
                    rcases hcc with rfl | rfl
                    · go_wp2
                      go_meet
                      case rel => exact ⟨by rw [HD.out]; rfl, Below.refl _ _⟩
                    · go_wp2
                      go_meet
                      case rel => exact ⟨by rw [HD.out]; rfl, Below.refl _ _⟩
                  | false =>
                    rcases hcc with rfl | rfl
                    · have HD2 : Hid (T = F2) := by show _ = _; rw [HD.out]; simp
                      go_wp2
                      go_meet
                      case rel => exact ⟨by rw [HD2.out], Below.refl _ _⟩
                    · by_cases h47 : d = 47
                      · subst h47
                        have HD2 : Hid (T = false) := by show _ = _; rw [HD.out]; simp
                        go_wp2
                        go_meet
                        case rel => exact ⟨by rw [HD2.out], Below.refl _ _⟩
                      · have b3 : ¬ (d.toNat : Int) = 47 := u8_lit d 47 (by omega) h47
                        have b3' : ((d.toNat : Int) == 47) = false := beq_eq_false_iff_ne.2 b3
                        have b3n : ((d.toNat : Int) != 47) = true := by simp [bne, b3']
                        have HD2 : Hid (T = F2) := by show _ = _; rw [HD.out]; simp [h47]
                        go_wp2
                        go_meet
                        case rel => exact ⟨by rw [HD2.out], Below.refl _ _⟩
                · have hs' : starB c = false := by simpa using hs
                  rw [if_neg hs] at HD
                  obtain ⟨n1, n2⟩ : c ≠ 42 ∧ c ≠ 37 := by simpa [starB] using hs'
                  have b1 : ¬ (c.toNat : Int) = 42 := u8_lit c 42 (by omega) n1
                  have b2 : ¬ (c.toNat : Int) = 37 := u8_lit c 37 (by omega) n2
                  have b1' : ((c.toNat : Int) == 42) = false := beq_eq_false_iff_ne.2 b1
                  have b2' : ((c.toNat : Int) == 37) = false := beq_eq_false_iff_ne.2 b2
                  clear hs hs' n1 n2 hc1 hc2 hk1 hk1' hk2 hk2' HF1 HF2
                  have hn := ext_some wr
                  go_upto_region 15 with fail
                  by_cases hcd : c = d
                  · subst hcd
                    rw [sameI_refl, Bool.true_and] at HD
                    refine wp_region_ext (by kernel_rfl) (by kernel_rfl) ?_
                    repeat (go_big_quiet_step (fail))
                    refine wpQuiet_nil ?_
                    rintro w1 ⟨⟨_, hb1⟩, rfl⟩
                    have hc3' := (hb1.cell (p := ⟨w.heap.size, a1 + m + 1, none⟩) hblt).trans hc3
                    have Hb1 := hide hb1
                    clear hb1 hc3
                    go_wp2
                    go_meet
                    case rel => exact ⟨by rw [HD.out], Hb1.out⟩
                  · have bcd : ((c.toNat : Int) == (d.toNat : Int)) = false := u8_int c d hcd
                    have bcd2 : ¬ (c.toNat : Int) = (d.toNat : Int) := beq_eq_false_iff_ne.1 bcd
                    by_cases hI : N = inboxU
                    · have hIN : (N == [73, 78, 66, 79, 88]) = true := beq_iff_eq.2 hI
                      have HD2 : Hid (T = ((lowB c == lowB d) && F3)) := by
                        show _ = _
                        have hi : inb = true := by rw [HI.out]; exact decide_eq_true hI
                        rw [HD.out, hi]
                        unfold sameI
                        rw [beq_eq_false_iff_ne.2 hcd]
                        simp
                      have s1 := slice_one P q HqL.out
                      have s2 := slice_one N m HmL.out
                      rw [Hc.out] at s1
                      rw [Hd.out] at s2
                      have HSm : Hid (∀ (x : UInt8) (W : World), Calls Tryd.prog 29 #[.string ⟨#[x]⟩] W fun e w' => e = .returned (.string ⟨#[lowB x]⟩) ∧ Below W.heap.size W w') := fun x W => rsmall_any [x] W (by simp)
                      cases hl : (lowB c == lowB d) with
                      | true =>
                        rw [hl, Bool.true_and] at HD2
                        have hl2 : lowB c = lowB d := beq_iff_eq.1 hl
                        clear hI hl
                        refine wp_region_ext (by kernel_rfl) (by kernel_rfl) ?_
                        repeat (go_big_quiet_step ((go_at_call 29; exact ext_call (HSm.out _ _))))
                        refine wpQuiet_nil ?_
                        rintro w1 ⟨⟨_, hb1⟩, rfl⟩
                        have hc3' := (hb1.cell (p := ⟨w.heap.size, a1 + m + 1, none⟩) hblt).trans hc3
                        have Hb1 := hide hb1
                        clear hb1 hc3
                        go_wp2
                        go_meet
                        case rel => exact ⟨by rw [HD2.out], Hb1.out⟩
                      | false =>
                        rw [hl, Bool.false_and] at HD2
                        have hl2 : ¬ lowB c = lowB d := beq_eq_false_iff_ne.1 hl
                        clear hI
                        refine wp_region_ext (by kernel_rfl) (by kernel_rfl) ?_
                        repeat (go_big_quiet_step ((go_at_call 29; exact ext_call (HSm.out _ _))))
                        refine wpQuiet_nil ?_
                        rintro w1 ⟨⟨_, hb1⟩, rfl⟩
                        have Hb1 := hide hb1
                        clear hb1 hc3
                        go_wp2
                        go_meet
                        case rel => exact ⟨by rw [HD2.out], Hb1.out⟩
                    · have hIN : (N == [73, 78, 66, 79, 88]) = false := beq_eq_false_iff_ne.2 hI
                      have HD2 : Hid (T = false) := by
                        show _ = _
                        have hi : inb = false := by rw [HI.out]; exact decide_eq_false hI
                        rw [HD.out, hi]
                        unfold sameI
                        rw [beq_eq_false_iff_ne.2 hcd]
                        simp
                      clear hI
                      refine wp_region_ext (by kernel_rfl) (by kernel_rfl) ?_
                      repeat (go_big_quiet_step (fail))
                      refine wpQuiet_nil ?_
                      rintro w1 ⟨⟨_, hb1⟩, rfl⟩
                      have Hb1 := hide hb1
                      clear hb1 hc3
                      go_wp2
                      go_meet
                      case rel => exact ⟨by rw [HD2.out], Hb1.out⟩
          case rest =>
            obtain ⟨rfl, Hb⟩ := hcut
            have HTc := hide (HTb.out.below Hb.out)
            obtain ⟨u, hu, huf⟩ := HTc.out.here (j := a0 + m) (by rw [HMe.out]; exact hk0)
            have hk0' : (a0 : Int) + m < M := by omega
            have HP : Hid (Tb w (wc.setCell ⟨w.heap.size, a0 + m, none⟩ (.bool T)) w.heap.size inb P N (a0 + m)) := by
              refine HTc.out.put (k := a0 + m) (by rw [HMe.out]; exact hk0) ?_
              have h2 := fitE_at inb P N q m hmN
              rw [HW.out, HA0.out] at h2
              rw [h2]
              exact HTv.out
            clear HTc HTb hk1
            go_wp2
            go_roundw
            case rel =>
              refine ⟨(m : Int) - 1, by go_num, by omega, by omega, ?_⟩
              rw [show ((m : Int) - 1 + 1).toNat = m from by omega, HA0.out]
              exact HP.out
            case measure => simp [intOf] <;> omega
end Go.Proofs.YtelpjiiladbigaaDoor
