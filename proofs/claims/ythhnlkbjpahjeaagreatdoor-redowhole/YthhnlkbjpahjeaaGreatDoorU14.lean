/- Whether a change is in form, by the program. -/
import Derived.Test.YthhnlkbjpahjeaaGreatDoorU13
namespace Go.Proofs.YthhnlkbjpahjeaaGreatDoor
open Go.RowKit
set_option maxRecDepth 8000 in
set_option maxHeartbeats 4000000 in
theorem isInForm_any (ops : List OpA) (v : Value) (w : World) (h : OPs w v ops) (hs : sizeOps ops ≤ 1000000) :
    Calls Tryz.prog 71 #[v] w fun e w' => e = .returned (.bool (formB ops)) ∧ Below w.heap.size w w' := by
  have HO := hide h
  obtain ⟨A, c, rfl, hl, hm⟩ := h.form
  have hmx : c ≤ 9223372036854775807 := by simp only [maxLen] at hm; omega
  clear h hm
  obtain ⟨R, hR⟩ : ∃ R, Hid (R = formB ops) := ⟨_, rfl⟩
  rw [← hR.out]
  by_cases h1 : 1 ≤ ops.length
  · by_cases h2 : ops.length ≤ 16
    · have hR2 : Hid (R = (goodFrom [] ops && decide (sizeOps ops ≤ 400000))) := by
        show R = _
        rw [hR.out, formB, decide_eq_true h1, decide_eq_true h2]
        rfl
      have g1 : decide ((ops.length : Int) < 1) = false := decide_eq_false (by omega)
      have g2 : decide ((16 : Int) < ops.length) = false := decide_eq_false (by omega)
      have g3 : ¬ (ops.length : Int) < 1 := by omega
      have g4 : ¬ (16 : Int) < ops.length := by omega
      clear hR
      go_enter Tryz.func71, Tryz.ntmps71
      go_wp2
      go_loopw [3, 4, 15] (fun _ _ u wr => ∃ k : Nat, k ≤ ops.length ∧ u = .int .i64 k ∧ Hid (Below w.heap.size w wr) ∧ Hid (goodFrom [] ops = goodFrom (ops.take k) (ops.drop k))) (fun _ _ u _ => ops.length - (intOf u).toNat)
      case atStart => exact ⟨0, Nat.zero_le _, rfl, Below.refl _ _, rfl⟩
      case round =>
        obtain ⟨k, hkl, rfl, hB, hA⟩ := hrel
        by_cases hlt : k < ops.length
        · have hltz : (k : Int) < (ops.length : Int) := by omega
          have hkc : (k : Int) ≤ (c : Int) := by omega
          have hkc2 : k ≤ c := by omega
          obtain ⟨g, o, rfl, hg, _, q0, q1, q2, q3, q4⟩ := (HO.out.below hB.out).at hlt
          obtain ⟨Ab, cb, hvb, _⟩ := q4.form
          have HG := goodFrom_at ops k hlt
          have hsz := sizeOps_at ops k hlt
          unfold opSize at hsz
          have hof := isOpInForm_any ops[k]
          generalize hx : ops[k] = x at q0 q1 q2 q3 hvb HG hsz hof
          clear hx q4
          obtain ⟨kd, nm, att, vl, bs⟩ := x
          simp only at q0 q1 q2 q3 hvb HG hsz
          subst hvb
          obtain ⟨W, hW⟩ : ∃ W, Hid (W = wr.alloc (.cells #[.int .i64 kd, .string ⟨nm.toArray⟩, .int .i64 att, .slice Ab bs.length cb] 48)) := ⟨_, rfl⟩
          have hbW : Below wr.heap.size wr W := by rw [hW.out]; exact (Below.refl _ _).alloc (Nat.le_refl _) _
          have kW : Blk W wr.heap.size #[.int .i64 kd, .string ⟨nm.toArray⟩, .int .i64 att, .slice Ab bs.length cb] 48 := by rw [hW.out]; exact Blk.new _ _ _
          have HI := hide (fun u : Ext W => hof u.w Ab cb rfl (by show nm.length ≤ _; omega))
          have HN := hide (fun u : Ext W => hasName_any (ops.take k) (.slice (some ⟨g, o, none⟩) k c) u.w (((((HO.out.below hB.out).below hbW).below u.ok).to k (by omega))) nm)
          unfold OpA.cells at HI
          simp only at HI
          have hcW := kW.cell
          have hltW := kW.lt
          replace hbW := hide hbW
          replace HG := hide HG
          clear kW hof
          go_wp2_with fail
          rw [← hW.out]
          have hns := ext_some W
          have hce := ext_cell W
          cases b1 : opForm ⟨kd, nm, att, .slice Ab bs.length cb, bs⟩ with
          | false =>
            rw [b1] at HI
            refine wp_region_ext (by kernel_rfl) (by kernel_rfl) ?_
            repeat (go_big_quiet_step (first | (go_at_call 104; exact ext_call (HI.out _)) | (go_at_call 105; exact ext_call (HN.out _))))
            refine wpQuiet_nil ?_
            rintro w1 ⟨⟨_, hb1⟩, rfl⟩
            replace hb1 := hide hb1
            go_wp2
            go_ret
            exact ⟨by rw [hR2.out, hA.out, HG.out, b1]; rfl, hB.out.trans ((hbW.out.trans (hb1.out.mono hbW.out.size)).mono hB.out.size)⟩
          | true =>
            rw [b1] at HI
            cases b2 : ((ops.take k).any fun y => y.name == nm) with
            | true =>
              rw [b2] at HN
              refine wp_region_ext (by kernel_rfl) (by kernel_rfl) ?_
              repeat (go_big_quiet_step (first | (go_at_call 104; exact ext_call (HI.out _)) | (go_at_call 105; exact ext_call (HN.out _))))
              refine wpQuiet_nil ?_
              rintro w1 ⟨⟨_, hb1⟩, rfl⟩
              replace hb1 := hide hb1
              go_wp2
              go_ret
              exact ⟨by rw [hR2.out, hA.out, HG.out, b1, b2]; rfl, hB.out.trans ((hbW.out.trans (hb1.out.mono hbW.out.size)).mono hB.out.size)⟩
            | false =>
              rw [b2] at HN
              refine wp_region_ext (by kernel_rfl) (by kernel_rfl) ?_
              repeat (go_big_quiet_step (first | (go_at_call 104; exact ext_call (HI.out _)) | (go_at_call 105; exact ext_call (HN.out _))))
              refine wpQuiet_nil ?_
              rintro w1 ⟨⟨_, hb1⟩, rfl⟩
              replace hb1 := hide hb1
              go_wp2
              go_round
              case rel =>
                refine ⟨k + 1, by omega, by go_num, hB.out.trans ((hbW.out.trans (hb1.out.mono hbW.out.size)).mono hB.out.size), ?_⟩
                show _ = _
                rw [hA.out, HG.out, b1, b2]
                rfl
              case measure => simp [intOf]; omega
        · have hltz : ¬ (k : Int) < (ops.length : Int) := by omega
          have HW := hide (written_any ops _ wr (HO.out.below hB.out) (by omega))
          go_wp2_with (go_at_call 72; refine HW.out.mono ?_; rintro e w' ⟨rfl, hb'⟩; replace hb' := hide hb')
          go_ret
          refine ⟨?_, hB.out.trans (hb'.out.mono hB.out.size)⟩
          rw [hR2.out, hA.out, List.drop_eq_nil_of_le (by omega)]
          show Ending.returned (.bool (decide ((sizeOps ops : Int) ≤ 400000))) = .returned (.bool (decide (sizeOps ops ≤ 400000)))
          congr 2
          exact decide_eq_decide.2 (by omega)
    · have g1 : decide ((ops.length : Int) < 1) = false := decide_eq_false (by omega)
      have g2 : decide ((16 : Int) < ops.length) = true := decide_eq_true (by omega)
      have g3 : ¬ (ops.length : Int) < 1 := by omega
      have g4 : (16 : Int) < ops.length := by omega
      go_enter Tryz.func71, Tryz.ntmps71
      go_wp2
      go_ret
      exact ⟨by rw [hR.out, formB, decide_eq_false h2]; simp, Below.refl _ _⟩
  · have g1 : decide ((ops.length : Int) < 1) = true := decide_eq_true (by omega)
    have g3 : (ops.length : Int) < 1 := by omega
    go_enter Tryz.func71, Tryz.ntmps71
    go_wp2
    go_ret
    exact ⟨by rw [hR.out, formB, decide_eq_false h1]; rfl, Below.refl _ _⟩
end Go.Proofs.YthhnlkbjpahjeaaGreatDoor
