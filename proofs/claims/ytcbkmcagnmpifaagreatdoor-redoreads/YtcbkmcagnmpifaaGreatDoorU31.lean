/- Form, by the document. -/
/- How much room a change needs; why it is refused. -/
import Derived.Test.YtcbkmcagnmpifaaGreatDoorU30
section
namespace Go.Proofs.YtcbkmcagnmpifaaGreatDoor
open Go.RowKit
theorem size_all : ∀ (r : List OpA), sizeOps r ≤ 400000 → ∀ x ∈ r, x.bytes.length ≤ 400000 ∧ x.name.length ≤ 400000
  | [], _, _, h => by cases h
  | y :: r, hs, x, hx => by
    unfold sizeOps opSize at hs
    rcases List.mem_cons.1 hx with rfl | hx
    · exact ⟨by omega, by omega⟩
    · exact size_all r (by omega) x hx
set_option maxRecDepth 8000 in
set_option maxHeartbeats 8000000 in
theorem rform_any (ops : List OpA) (v : Value) (w : World) (h : OPs w v ops) (hs : sizeOps ops ≤ 400000) :
    Calls Tryz.prog 9 #[v] w fun e w' => e = .returned (.bool (formB ops)) ∧ Below w.heap.size w w' := by
  have HO := hide h
  obtain ⟨A, c, rfl, hl, hm⟩ := h.form
  have hmx : c ≤ 9223372036854775807 := by simp only [maxLen] at hm; omega
  clear h hm
  obtain ⟨R, hR⟩ : ∃ R, Hid (R = formB ops) := ⟨_, rfl⟩
  rw [← hR.out]
  by_cases h1 : 1 ≤ ops.length
  · by_cases h2 : ops.length ≤ 16
    · have hR2 : Hid (R = goodFrom [] ops) := by
        show R = _
        rw [hR.out, formB, decide_eq_true h1, decide_eq_true h2, decide_eq_true hs]
        simp
      have g1 : decide ((ops.length : Int) < 1) = false := decide_eq_false (by omega)
      have g2 : decide ((16 : Int) < ops.length) = false := decide_eq_false (by omega)
      have g3 : ¬ (ops.length : Int) < 1 := by omega
      have g4 : ¬ (16 : Int) < ops.length := by omega
      clear hR
      go_enter Tryz.func9, Tryz.ntmps9
      go_wp2
      go_loopw [3, 4, 5, 6, 17] (fun n _ _ _ u wr => ∃ k m : Nat, k ≤ ops.length ∧ u = .int .i64 k ∧ n = .int .i64 m ∧ Hid (m + sizeOps (ops.drop k) = sizeOps ops + 1) ∧ Hid (Below w.heap.size w wr) ∧ Hid (goodFrom [] ops = goodFrom (ops.take k) (ops.drop k))) (fun _ _ _ _ u _ => ops.length - (intOf u).toNat)
      case atStart => exact ⟨0, 1, Nat.zero_le _, rfl, rfl, Nat.add_comm _ _, Below.refl _ _, rfl⟩
      case round =>
        obtain ⟨k, m, hkl, rfl, rfl, hM, hB, hA⟩ := hrel
        by_cases hlt : k < ops.length
        · have hltz : (k : Int) < (ops.length : Int) := by omega
          obtain ⟨g, o, rfl, hg, _, q0, q1, q2, q3, q4⟩ := (HO.out.below hB.out).at hlt
          obtain ⟨Ab, cb, hvb, _⟩ := q4.form
          have HG := goodFrom_at ops k hlt
          have hsz := size_all ops hs ops[k] (List.getElem_mem hlt)
          have HD := sizeOps_split ops k hlt
          have hM' := hM.out
          rw [HD] at hM'
          have hpos := sizeOps_pos (ops.drop (k + 1))
          unfold opSize at hM'
          generalize hx : ops[k] = x at q0 q1 q2 q3 hvb HG hsz hM'
          clear hx q4 HD
          obtain ⟨kd, nm, att, vl, bs⟩ := x
          simp only at q0 q1 q2 q3 hvb HG hsz hM'
          subst hvb
          obtain ⟨hbl, hnl⟩ := hsz
          obtain ⟨W, hW⟩ : ∃ W, Hid (W = wr.alloc (.cells #[.int .i64 kd, .string ⟨nm.toArray⟩, .int .i64 att, .slice Ab bs.length cb] 35)) := ⟨_, rfl⟩
          have hbW : Below wr.heap.size wr W := by rw [hW.out]; exact (Below.refl _ _).alloc (Nat.le_refl _) _
          have kW : Blk W wr.heap.size #[.int .i64 kd, .string ⟨nm.toArray⟩, .int .i64 att, .slice Ab bs.length cb] 35 := by rw [hW.out]; exact Blk.new _ _ _
          have KW := hide kW
          have HRt := hide (right_any nm (wr.alloc (.cells #[.int .i64 kd, .string ⟨nm.toArray⟩, .int .i64 att, .slice Ab bs.length cb] 35)) (by omega))
          have hbA := hide (hB.out.trans (hbW.mono hB.out.size))
          replace hbW := hide hbW
          replace HG := hide HG
          replace hM' := hide hM'
          have hbl2 : decide ((400000 : Int) < bs.length) = false := by simp; omega
          have hbl3 : ¬ (400000 : Int) < bs.length := by omega
          have hof := hide (opForm_iff ⟨kd, nm, att, .slice Ab bs.length cb, bs⟩)
          have hon := hide (@opForm_no ⟨kd, nm, att, .slice Ab bs.length cb, bs⟩)
          simp only at hof hon
          clear kW
          rcases op_cases kd att nm bs.length with a1 | ⟨a1, a2⟩ | ⟨a1, a2, a3⟩ | ⟨a1, a2, a3, a4⟩ | ⟨a1, a2, a3, a4, a5⟩ | ⟨a1, a2, a3, a4, a5, a6⟩ | ⟨a1, a2, a3, a4, a5, a6, a7, a8⟩ | ⟨a1, a2, a3, a4, a5, a6, a7, a8, a9⟩ | ⟨a1, a2, a3, a4, a5, a6, a7, a8⟩
          · have x1 : decide (kd < 1) = true := decide_eq_true (by omega)
            go_wp2_with (go_at_call 31; refine HRt.out.mono ?_; rintro e w' ⟨rfl, rfl⟩)
            go_ret
            rw [← hW.out]
            exact ⟨by rw [hR2.out, hA.out, HG.out, hon.out (fun h => by omega)]; rfl, hbA.out⟩
          · have x2 : decide (kd < 1) = false := decide_eq_false (by omega)
            have x3 : decide (3 < kd) = true := decide_eq_true (by omega)
            go_wp2_with (go_at_call 31; refine HRt.out.mono ?_; rintro e w' ⟨rfl, rfl⟩)
            go_ret
            rw [← hW.out]
            exact ⟨by rw [hR2.out, hA.out, HG.out, hon.out (fun h => by omega)]; rfl, hbA.out⟩
          · have x4 : decide (kd < 1) = false := decide_eq_false (by omega)
            have x5 : decide (3 < kd) = false := decide_eq_false (by omega)
            rw [a3] at HRt
            go_wp2_with (go_at_call 31; refine HRt.out.mono ?_; rintro e w' ⟨rfl, rfl⟩)
            go_ret
            rw [← hW.out]
            exact ⟨by rw [hR2.out, hA.out, HG.out, hon.out (fun h => by rw [a3] at h; simp at h)]; rfl, hbA.out⟩
          · have x6 : decide (kd < 1) = false := decide_eq_false (by omega)
            have x7 : decide (3 < kd) = false := decide_eq_false (by omega)
            rw [a3] at HRt
            have a4b := a4
            unfold redoN at a4b
            go_wp2_with (go_at_call 31; refine HRt.out.mono ?_; rintro e w' ⟨rfl, rfl⟩)
            go_ret
            rw [← hW.out]
            exact ⟨by rw [hR2.out, hA.out, HG.out, hon.out (fun h => by rw [a4] at h; simp at h)]; rfl, hbA.out⟩
          · have x8 : decide (kd < 1) = false := decide_eq_false (by omega)
            have x9 : decide (3 < kd) = false := decide_eq_false (by omega)
            rw [a3] at HRt
            have a4b := a4
            unfold redoN at a4b
            have x10 : decide (att < 0) = true := decide_eq_true (by omega)
            go_wp2_with (go_at_call 31; refine HRt.out.mono ?_; rintro e w' ⟨rfl, rfl⟩)
            go_ret
            rw [← hW.out]
            exact ⟨by rw [hR2.out, hA.out, HG.out, hon.out (fun h => by omega)]; rfl, hbA.out⟩
          · have x8 : decide (kd < 1) = false := decide_eq_false (by omega)
            have x9 : decide (3 < kd) = false := decide_eq_false (by omega)
            rw [a3] at HRt
            have a4b := a4
            unfold redoN at a4b
            have x11 : decide (att < 0) = false := decide_eq_false (by omega)
            have x12 : decide (1073741824 < att) = true := decide_eq_true (by omega)
            go_wp2_with (go_at_call 31; refine HRt.out.mono ?_; rintro e w' ⟨rfl, rfl⟩)
            go_ret
            rw [← hW.out]
            exact ⟨by rw [hR2.out, hA.out, HG.out, hon.out (fun h => by omega)]; rfl, hbA.out⟩
          · have x8 : decide (kd < 1) = false := decide_eq_false (by omega)
            have x9 : decide (3 < kd) = false := decide_eq_false (by omega)
            rw [a3] at HRt
            have a4b := a4
            unfold redoN at a4b
            have x13 : decide (att < 0) = false := decide_eq_false (by omega)
            have x14 : decide (1073741824 < att) = false := decide_eq_false (by omega)
            have x15 : (kd == 1) = false := by simp; omega
            have x16 : (kd != 1) = true := by simp; omega
            have x17 : (att == 0) = false := by simp; omega
            have x18 : (att != 0) = true := by simp; omega
            go_wp2_with (go_at_call 31; refine HRt.out.mono ?_; rintro e w' ⟨rfl, rfl⟩)
            go_ret
            rw [← hW.out]
            exact ⟨by rw [hR2.out, hA.out, HG.out, hon.out (fun h => a8 (h.2.2.2.2.2.2.1 a7))]; rfl, hbA.out⟩
          · subst a7
            subst a8
            rw [a3] at HRt
            have a4b := a4
            unfold redoN at a4b
            have x19 : decide ((0 : Int) < bs.length) = true := decide_eq_true (by omega)
            go_wp2_with (go_at_call 31; refine HRt.out.mono ?_; rintro e w' ⟨rfl, rfl⟩)
            go_ret
            rw [← hW.out]
            exact ⟨by rw [hR2.out, hA.out, HG.out, hon.out (fun h => by have h9 := h.2.2.2.2.2.2.2 (by first | rfl | trivial); omega)]; rfl, hbA.out⟩
          · have hyes : Hid (opForm ⟨kd, nm, att, .slice Ab bs.length cb, bs⟩ = true) := hof.out.2 ⟨a1, a2, a3, a4, a5, a6, a7, a8⟩
            have x1 : decide (kd < 1) = false := by simp; omega
            have x2 : decide (3 < kd) = false := by simp; omega
            rw [a3] at HRt
            have a4b := a4
            unfold redoN at a4b
            have x3 : decide (att < 0) = false := by simp; omega
            have x4 : decide (1073741824 < att) = false := by simp; omega
            have hkd : (kd = 1) ∨ (kd = 2 ∧ att = 0) ∨ (kd = 3 ∧ att = 0 ∧ bs.length = 0) := by
              by_cases e1 : kd = 1
              · exact .inl e1
              · by_cases e2 : kd = 2
                · exact .inr (.inl ⟨e2, a7 e1⟩)
                · exact .inr (.inr ⟨by omega, a7 e1, a8 (by omega)⟩)
            clear a7 a8 hof hon
            rcases hkd with rfl | ⟨rfl, rfl⟩ | ⟨rfl, rfl, hb0⟩
            · have y1 : ((1 : Int) != 1) = false := rfl
              go_wp2_with (go_at_call 31; refine HRt.out.mono ?_; rintro e w' ⟨rfl, rfl⟩)
              rw [← hW.out]
              go_loopw [6] (fun u wq => ∃ j : Nat, j ≤ k ∧ u = .int .i64 j ∧ Hid (Below W.heap.size W wq) ∧ Hid (((ops.take k).any fun y => y.name == nm) = ((ops.take k).drop j).any fun y => y.name == nm)) (fun u _ => k - (intOf u).toNat)
              case atStart => exact ⟨0, Nat.zero_le _, rfl, Below.refl _ _, rfl⟩
              case round =>
                obtain ⟨j, hjk, rfl, hbQ, hJ⟩ := hrel
                have kq := (KW.out.below hbQ.out KW.out.lt).cell
                by_cases hjlt : j < k
                · have hjz : (j : Int) < (k : Int) := by omega
                  have hjn : (j : Int) < (ops.length : Int) := by omega
                  obtain ⟨g', o', hgo, hg', _, _, p1, _, _, _⟩ := (((HO.out.below hB.out).below hbW.out).below hbQ.out).at (show j < ops.length by omega)
                  cases hgo
                  have HDj := any_drop (fun y : OpA => y.name == nm) (ops.take k) j (by rw [List.length_take]; omega)
                  rw [List.getElem_take] at HDj
                  generalize hy : ops[j] = y at p1 HDj
                  clear hy
                  obtain ⟨ykd, ynm, yatt, yvl, ybs⟩ := y
                  simp only at p1 HDj
                  replace HDj := hide HDj
                  cases hq : (ynm == nm) with
                  | true =>
                    go_wp2_with fail
                    go_quiet (fail)
                    go_wp2
                    go_ret
                    exact ⟨by rw [hR2.out, hA.out, HG.out, hJ.out, HDj.out, hq]; simp, hbA.out.trans ((hbQ.out.trans ((below_drewN _ _).mono hbQ.out.size)).mono hbA.out.size)⟩
                  | false =>
                    go_wp2_with fail
                    go_quiet (fail)
                    go_wp2
                    go_round
                    case rel =>
                      refine ⟨j + 1, by omega, by go_num, hbQ.out.trans ((below_drewN _ _).mono hbQ.out.size), ?_⟩
                      show _ = _
                      rw [hJ.out, HDj.out, hq]
                      rfl
                    case measure => simp [intOf]; omega
                · have hjz : ¬ (j : Int) < (k : Int) := by omega
                  have hany : Hid (((ops.take k).any fun y => y.name == nm) = false) := by
                    show _ = _
                    rw [hJ.out, List.drop_eq_nil_of_le (by rw [List.length_take]; omega)]
                    rfl
                  have hMM := hM'.out
                  go_wp2_with fail
                  go_round
                  case rel =>
                    refine ⟨k + 1, m + (10 + nm.length + bs.length), by omega, by go_num, ?_, ?_, hbA.out.trans (hbQ.out.mono hbA.out.size), ?_⟩
                    · congr 1 <;> omega
                    · show _ = _
                      omega
                    · show _ = _
                      rw [hA.out, HG.out, hyes.out, hany.out]
                      rfl
                  case measure => simp [intOf]; omega
            · have y1 : ((2 : Int) != 1) = true := rfl
              go_wp2_with (go_at_call 31; refine HRt.out.mono ?_; rintro e w' ⟨rfl, rfl⟩)
              rw [← hW.out]
              go_loopw [6] (fun u wq => ∃ j : Nat, j ≤ k ∧ u = .int .i64 j ∧ Hid (Below W.heap.size W wq) ∧ Hid (((ops.take k).any fun y => y.name == nm) = ((ops.take k).drop j).any fun y => y.name == nm)) (fun u _ => k - (intOf u).toNat)
              case atStart => exact ⟨0, Nat.zero_le _, rfl, Below.refl _ _, rfl⟩
              case round =>
                obtain ⟨j, hjk, rfl, hbQ, hJ⟩ := hrel
                have kq := (KW.out.below hbQ.out KW.out.lt).cell
                by_cases hjlt : j < k
                · have hjz : (j : Int) < (k : Int) := by omega
                  have hjn : (j : Int) < (ops.length : Int) := by omega
                  obtain ⟨g', o', hgo, hg', _, _, p1, _, _, _⟩ := (((HO.out.below hB.out).below hbW.out).below hbQ.out).at (show j < ops.length by omega)
                  cases hgo
                  have HDj := any_drop (fun y : OpA => y.name == nm) (ops.take k) j (by rw [List.length_take]; omega)
                  rw [List.getElem_take] at HDj
                  generalize hy : ops[j] = y at p1 HDj
                  clear hy
                  obtain ⟨ykd, ynm, yatt, yvl, ybs⟩ := y
                  simp only at p1 HDj
                  replace HDj := hide HDj
                  cases hq : (ynm == nm) with
                  | true =>
                    go_wp2_with fail
                    go_quiet (fail)
                    go_wp2
                    go_ret
                    exact ⟨by rw [hR2.out, hA.out, HG.out, hJ.out, HDj.out, hq]; simp, hbA.out.trans ((hbQ.out.trans ((below_drewN _ _).mono hbQ.out.size)).mono hbA.out.size)⟩
                  | false =>
                    go_wp2_with fail
                    go_quiet (fail)
                    go_wp2
                    go_round
                    case rel =>
                      refine ⟨j + 1, by omega, by go_num, hbQ.out.trans ((below_drewN _ _).mono hbQ.out.size), ?_⟩
                      show _ = _
                      rw [hJ.out, HDj.out, hq]
                      rfl
                    case measure => simp [intOf]; omega
                · have hjz : ¬ (j : Int) < (k : Int) := by omega
                  have hany : Hid (((ops.take k).any fun y => y.name == nm) = false) := by
                    show _ = _
                    rw [hJ.out, List.drop_eq_nil_of_le (by rw [List.length_take]; omega)]
                    rfl
                  have hMM := hM'.out
                  go_wp2_with fail
                  go_round
                  case rel =>
                    refine ⟨k + 1, m + (10 + nm.length + bs.length), by omega, by go_num, ?_, ?_, hbA.out.trans (hbQ.out.mono hbA.out.size), ?_⟩
                    · congr 1 <;> omega
                    · show _ = _
                      omega
                    · show _ = _
                      rw [hA.out, HG.out, hyes.out, hany.out]
                      rfl
                  case measure => simp [intOf]; omega
            · have hB0 := hide hb0
              rw [hb0] at hW KW HRt hM' q3
              clear hb0 hbl hbl2 hbl3
              go_wp2_with (go_at_call 31; refine HRt.out.mono ?_; rintro e w' ⟨rfl, rfl⟩)
              rw [← hW.out]
              go_loopw [6] (fun u wq => ∃ j : Nat, j ≤ k ∧ u = .int .i64 j ∧ Hid (Below W.heap.size W wq) ∧ Hid (((ops.take k).any fun y => y.name == nm) = ((ops.take k).drop j).any fun y => y.name == nm)) (fun u _ => k - (intOf u).toNat)
              case atStart => exact ⟨0, Nat.zero_le _, rfl, Below.refl _ _, rfl⟩
              case round =>
                obtain ⟨j, hjk, rfl, hbQ, hJ⟩ := hrel
                have kq := (KW.out.below hbQ.out KW.out.lt).cell
                by_cases hjlt : j < k
                · have hjz : (j : Int) < (k : Int) := by omega
                  have hjn : (j : Int) < (ops.length : Int) := by omega
                  obtain ⟨g', o', hgo, hg', _, _, p1, _, _, _⟩ := (((HO.out.below hB.out).below hbW.out).below hbQ.out).at (show j < ops.length by omega)
                  cases hgo
                  have HDj := any_drop (fun y : OpA => y.name == nm) (ops.take k) j (by rw [List.length_take]; omega)
                  rw [List.getElem_take] at HDj
                  generalize hy : ops[j] = y at p1 HDj
                  clear hy
                  obtain ⟨ykd, ynm, yatt, yvl, ybs⟩ := y
                  simp only at p1 HDj
                  replace HDj := hide HDj
                  cases hq : (ynm == nm) with
                  | true =>
                    go_wp2_with fail
                    go_quiet (fail)
                    go_wp2
                    go_ret
                    exact ⟨by rw [hR2.out, hA.out, HG.out, hJ.out, HDj.out, hq]; simp, hbA.out.trans ((hbQ.out.trans ((below_drewN _ _).mono hbQ.out.size)).mono hbA.out.size)⟩
                  | false =>
                    go_wp2_with fail
                    go_quiet (fail)
                    go_wp2
                    go_round
                    case rel =>
                      refine ⟨j + 1, by omega, by go_num, hbQ.out.trans ((below_drewN _ _).mono hbQ.out.size), ?_⟩
                      show _ = _
                      rw [hJ.out, HDj.out, hq]
                      rfl
                    case measure => simp [intOf]; omega
                · have hjz : ¬ (j : Int) < (k : Int) := by omega
                  have hany : Hid (((ops.take k).any fun y => y.name == nm) = false) := by
                    show _ = _
                    rw [hJ.out, List.drop_eq_nil_of_le (by rw [List.length_take]; omega)]
                    rfl
                  have hMM := hM'.out
                  go_wp2_with fail
                  go_round
                  case rel =>
                    refine ⟨k + 1, m + (10 + nm.length + bs.length), by omega, by go_num, ?_, ?_, hbA.out.trans (hbQ.out.mono hbA.out.size), ?_⟩
                    · have := hB0.out; congr 1 <;> omega
                    · show _ = _
                      have := hB0.out
                      omega
                    · show _ = _
                      rw [hA.out, HG.out, hyes.out, hany.out]
                      rfl
                  case measure => simp [intOf]; omega
        · have hltz : ¬ (k : Int) < (ops.length : Int) := by omega
          have hM' := hM.out
          rw [List.drop_eq_nil_of_le (by omega)] at hM'
          have hm2 : m = sizeOps ops := by
            have : sizeOps [] = 1 := rfl
            omega
          subst hm2
          have hs' : decide ((sizeOps ops : Int) ≤ 400000) = true := by simp; omega
          go_wp2
          go_ret
          refine ⟨?_, hB.out⟩
          rw [hR2.out, hA.out, List.drop_eq_nil_of_le (by omega)]
          rfl
    · have g1 : decide ((ops.length : Int) < 1) = false := decide_eq_false (by omega)
      have g2 : decide ((16 : Int) < ops.length) = true := decide_eq_true (by omega)
      have g3 : ¬ (ops.length : Int) < 1 := by omega
      have g4 : (16 : Int) < ops.length := by omega
      go_enter Tryz.func9, Tryz.ntmps9
      go_wp2
      go_ret
      exact ⟨by rw [hR.out, formB, decide_eq_false h2]; simp, Below.refl _ _⟩
  · have g1 : decide ((ops.length : Int) < 1) = true := decide_eq_true (by omega)
    have g3 : (ops.length : Int) < 1 := by omega
    go_enter Tryz.func9, Tryz.ntmps9
    go_wp2
    go_ret
    exact ⟨by rw [hR.out, formB, decide_eq_false h1]; rfl, Below.refl _ _⟩
end Go.Proofs.YtcbkmcagnmpifaaGreatDoor

end
section
namespace Go.Proofs.YtcbkmcagnmpifaaGreatDoor
open Go.RowKit Go.Maps Go.Sort
def growI (s : St) (x : OpA) : Int := if x.kind = 1 then min x.at_ (szOf s x.name) + x.bytes.length - szOf s x.name else if x.kind = 2 then x.bytes.length - szOf s x.name else 0
def roomI (s : St) : List OpA → Int
  | [] => 0
  | x :: r => max 0 (growI s x) + roomI s r
theorem roomI_at (s : St) (ops : List OpA) (k : Nat) (h : k < ops.length) : roomI s (ops.drop k) = max 0 (growI s ops[k]) + roomI s (ops.drop (k + 1)) := by
  rw [List.drop_eq_getElem_cons h]
  rfl
theorem roomI_nonneg (s : St) : ∀ ops : List OpA, 0 ≤ roomI s ops
  | [] => Int.le_refl _
  | x :: r => by
    have := roomI_nonneg s r
    unfold roomI
    omega
theorem growI_le (s : St) (x : OpA) : growI s x ≤ x.bytes.length := by
  unfold growI
  split
  · omega
  · split <;> omega
theorem roomI_le (s : St) : ∀ ops : List OpA, roomI s ops + 1 ≤ sizeOps ops
  | [] => Int.le_refl _
  | x :: r => by
    have h1 := roomI_le s r
    have h2 := growI_le s x
    unfold roomI sizeOps opSize
    omega
section
variable (w0 w : World) (l d : Nat) (dead : Bool) (ρ : Nat → Option Role) (s : St) (a : Nat → Addr)
set_option maxRecDepth 8000 in
set_option maxHeartbeats 2000000 in
theorem growth_any (hE : Errs w0 a) (h : LG w0 w l d dead ρ s) (hoff : s.off = false) (vo vr : Value) (x : OpA) (hf : opForm x = true) (hb0 : x.bytes.length ≤ 400000) (hz : szOf s x.name ≤ 1000000000) (Ab : Option Addr) (cb : Nat) (hv : x.val = .slice Ab x.bytes.length cb) :
    Calls Tryz.prog 97 #[.agg #[pv l, vo, vr], .agg x.cells] w fun e w' => e = .returned (.int .i64 (growI s x)) ∧ Below w.heap.size w w' := by
  obtain ⟨o1, o2, o3, o4, o5⟩ := opForm_parts hf
  have hr : rightB x.name = true := by
    have := (opForm_iff x).1 hf
    exact this.2.2.1
  have hb : Below w.heap.size w ((w.alloc (.cells #[pv l, vo, vr] 84)).alloc (.cells x.cells 35)) := ((Below.refl _ _).alloc (Nat.le_refl _) _).alloc (by simp) _
  have k1 : Blk ((w.alloc (.cells #[pv l, vo, vr] 84)).alloc (.cells x.cells 35)) (w.heap.size + 1) x.cells 35 := Blk.new1 _ _ _ _
  have HS := hide (csize_any w0 _ l d dead ρ s a hE (h.then hb) hoff vo vr x.name hr)
  have HB := hide hb
  have K1 := hide k1
  obtain ⟨R, hR⟩ : ∃ R, Hid (R = growI s x) := ⟨_, rfl⟩
  rw [← hR.out]
  have hR' := hR.out
  unfold growI at hR'
  obtain ⟨kd, nm, att, vl, bs⟩ := x
  unfold OpA.cells at *
  simp only at hR' HS K1 HB hv hz o1 o2 o3 o4 o5 hb0 ⊢
  subst hv
  generalize szOf s nm = z at hR' HS hz
  clear k1 h hb hR hf
  unfold pv at *
  go_enter Tryz.func97, Tryz.ntmps97
  go_wp2_with fail
  refine HS.out.mono ?_
  rintro e w1 ⟨rfl, hb1⟩
  have hc1 := (K1.out.below hb1 K1.out.lt).cell
  have HB1 := hide (HB.out.trans (hb1.mono HB.out.size))
  clear hb1 HS K1 HB
  by_cases e1 : kd = 1
  · subst e1
    rw [if_pos rfl] at hR'
    replace hR' := hide hR'
    go_wp2
    go_ret
    refine ⟨?_, HB1.out⟩
    rw [hR'.out]
    exact ret_int (by omega)
  · by_cases e2 : kd = 2
    · subst e2
      rw [if_neg (by decide), if_pos rfl] at hR'
      replace hR' := hide hR'
      go_wp2
      go_ret
      refine ⟨?_, HB1.out⟩
      rw [hR'.out]
      exact ret_int (by omega)
    · obtain rfl : kd = 3 := by omega
      rw [if_neg (by decide), if_neg (by decide)] at hR'
      replace hR' := hide hR'
      go_wp2
      go_ret
      refine ⟨?_, HB1.out⟩
      rw [hR'.out]
      rfl
set_option maxRecDepth 8000 in
set_option maxHeartbeats 4000000 in
theorem room_any (hE : Errs w0 a) (h : LG w0 w l d dead ρ s) (hoff : s.off = false) (ops : List OpA) (vo vr : Value) (hO : OPs w vo ops) (hf : formB ops = true) (hz : ∀ name, szOf s name ≤ 1000000000) (rec : List UInt8) (hrec : BR w vr rec) (hrl : rec.length ≤ 1000000) :
    Calls Tryz.prog 68 #[.agg #[pv l, vo, vr]] w fun e w' => e = .returned (.int .i64 (rec.length + roomI s ops)) ∧ Below w.heap.size w w' := by
  obtain ⟨h1, h16, hgood, hsz⟩ := form_parts hf
  have hrle := roomI_le s ops
  have HL := hide h
  have HO := hide hO
  have hb : Below w.heap.size w (w.alloc (.cells #[pv l, vo, vr] 84)) := (Below.refl _ _).alloc (Nat.le_refl _) _
  have K0 := hide (Blk.new w #[pv l, vo, vr] 84)
  have HB := hide hb
  obtain ⟨A, c, rfl, hl, hm⟩ := hO.form
  have hmx : c ≤ 9223372036854775807 := by simp only [maxLen] at hm; omega
  obtain ⟨Ar, cr, rfl, _⟩ := BR.form hrec
  clear h hO hb hm hf hrec
  unfold pv at *
  go_enter Tryz.func68, Tryz.ntmps68
  go_wp2
  go_loopw [3, 5, 12] (fun n _ u wr => ∃ (k : Nat) (m : Int), k ≤ ops.length ∧ u = .int .i64 k ∧ n = .int .i64 m ∧ Hid (0 ≤ m ∧ m + roomI s (ops.drop k) = rec.length + roomI s ops) ∧ Hid (Below (w.alloc (.cells #[.pointer (some ⟨l, 0, none⟩), .slice A ops.length c, .slice Ar rec.length cr] 84)).heap.size (w.alloc (.cells #[.pointer (some ⟨l, 0, none⟩), .slice A ops.length c, .slice Ar rec.length cr] 84)) wr)) (fun _ _ u _ => ops.length - (intOf u).toNat)
  case atStart => exact ⟨0, rec.length, Nat.zero_le _, rfl, rfl, ⟨by omega, rfl⟩, Below.refl _ _⟩
  case round =>
    obtain ⟨k, m, hkl, rfl, rfl, hM, hBr⟩ := hrel
    have hbA := HB.out.trans (hBr.out.mono HB.out.size)
    by_cases hlt : k < ops.length
    · have hltz : (k : Int) < (ops.length : Int) := by omega
      have kb := K0.out.below hBr.out K0.out.lt
      have hc0 := kb.cell
      have hlb0 := kb.lt
      obtain ⟨g, o, rfl, hg, _, q0, q1, q2, q3, q4⟩ := (HO.out.below hbA).at hlt
      obtain ⟨Ab, cb, hvb, _⟩ := q4.form
      have hgr := growth_any w0 (wr.alloc (.cells ops[k].cells 35)) l d dead ρ s a hE ((HL.out.then hbA).then ((Below.refl _ _).alloc (Nat.le_refl _) _)) hoff (.slice (some ⟨g, o, none⟩) ops.length c) (.slice Ar rec.length cr) ops[k] (good_all ops [] hgood _ (List.getElem_mem hlt)) (size_all ops (by omega) _ (List.getElem_mem hlt)).1 (hz _) Ab cb hvb
      have hMo := hM.out
      rw [roomI_at s ops k hlt] at hMo
      have hnn := roomI_nonneg s (ops.drop (k + 1))
      unfold OpA.cells at hgr
      unfold pv at hgr
      generalize growI s ops[k] = gi at hgr hMo
      generalize hx : ops[k] = x at q0 q1 q2 q3 hvb hgr
      clear hx q4 kb
      obtain ⟨kd, nm, att, vl, bs⟩ := x
      simp only at q0 q1 q2 q3 hvb hgr
      subst hvb
      replace hgr := hide hgr
      have hbA' := hide hbA
      obtain ⟨m0, m1⟩ := hMo
      clear hbA
      go_wp2_with (go_at_call 97; refine hgr.out.mono ?_; rintro e w2 ⟨rfl, hb2⟩; replace hb2 := hide hb2)
      go_round
      case rel =>
        refine ⟨k + 1, m + max 0 gi, by omega, by go_num, ?_, ⟨by omega, by omega⟩, hBr.out.trans ((((Below.refl _ _).alloc (Nat.le_refl _) _).trans (hb2.out.mono (by simp))).mono hBr.out.size)⟩
        congr 1 <;> omega
      case measure => simp [intOf]; omega
    · have hltz : ¬ (k : Int) < (ops.length : Int) := by omega
      have hMo := hM.out
      rw [List.drop_eq_nil_of_le (by omega)] at hMo
      have e : Hid (m = rec.length + roomI s ops) := by
        show _ = _
        have h1 := hMo.2
        rw [show roomI s [] = 0 from rfl] at h1
        omega
      have hbA' := hide hbA
      clear hMo hbA
      go_wp2
      go_ret
      exact ⟨by rw [← e.out]; rfl, hbA'.out⟩
end
end Go.Proofs.YtcbkmcagnmpifaaGreatDoor

end
