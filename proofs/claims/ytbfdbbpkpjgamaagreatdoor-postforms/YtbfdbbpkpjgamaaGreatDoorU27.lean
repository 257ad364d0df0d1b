/- Package post: whether two lists are the same (of Sub). -/
/- Package post: whether two lists are the same (of Message). -/
/- Package post: whether two lists are the same (of int). -/
import Derived.Test.YtbfdbbpkpjgamaaGreatDoorU06
section
set_option linter.unusedVariables false
set_option linter.unusedSimpArgs false
namespace Go.Proofs.YtbfdbbpkpjgamaaGreatDoor
open Go.RowKit

set_option maxRecDepth 20000 in
set_option maxHeartbeats 4000000 in
theorem peqSub_any {xs ys : List Sb} {v u : Value} {w : World} (h : RdE 2 SbAt w v xs) (h' : RdE 2 SbAt w u ys) (hl : xs.length ≤ 1000000) :
    Calls Tryz.prog 31 #[v, u] w fun e w' => e = .returned (.bool (eqL sbEq xs ys)) ∧ Below w.heap.size w w' := by
  have HO := hide h
  have HO' := hide h'
  obtain ⟨A, c, rfl⟩ := h.form
  obtain ⟨A', c', rfl⟩ := h'.form
  clear h h'
  obtain ⟨R, hR⟩ : ∃ R, Hid (R = eqL sbEq xs ys) := ⟨_, hide rfl⟩
  rw [← hR.out]
  by_cases hlen : xs.length = ys.length
  · obtain ⟨n, hn⟩ : ∃ n, Hid (xs.length = n) := ⟨_, hide rfl⟩
    have hny : Hid (ys.length = n) := by show _ = _; rw [← hlen, hn.out]
    have HAx : Hid (∀ wr, Below w.heap.size w wr → ∀ k (hk : k < xs.length), ∃ g o, A = some ⟨g, o, none⟩ ∧ g < wr.heap.size ∧ SbAt wr g (o + k * 2) xs[k]) := fun wr hb k hk => (HO.out.below stb_sb hb).at hk
    have HAy : Hid (∀ wr, Below w.heap.size w wr → ∀ k (hk : k < ys.length), ∃ g o, A' = some ⟨g, o, none⟩ ∧ g < wr.heap.size ∧ SbAt wr g (o + k * 2) ys[k]) := fun wr hb k hk => (HO'.out.below stb_sb hb).at hk
    clear HO HO'
    rw [hn.out] at hl ⊢
    rw [hny.out]
    clear hlen
    go_enter Tryz.func31, Tryz.ntmps31
    go_wp2
    go_loopw [5, 13] (fun _ u wr => ∃ k : Nat, k ≤ n ∧ u = .int .i64 k ∧ Hid (Below w.heap.size w wr) ∧ Hid (R = eqL sbEq (xs.drop k) (ys.drop k))) (fun _ u _ => n - (intOf u).toNat)
    case atStart => exact ⟨0, Nat.zero_le _, rfl, Below.refl _ _, hR.out⟩
    case round =>
      obtain ⟨k, hkl, rfl, hB, hA⟩ := hrel
      by_cases hltn : k < n
      · have hltz : (k : Int) < (n : Int) := by omega
        have hlt : k < xs.length := by rw [hn.out]; exact hltn
        have hlt' : k < ys.length := by rw [hny.out]; exact hltn
        obtain ⟨g, o, rfl, hgl, q0a, q1a⟩ := HAx.out wr hB.out k hlt
        obtain ⟨g', o', rfl, hgl', q0b, q1b⟩ := HAy.out wr hB.out k hlt'
        have p0a : wr.cell? ⟨g, o + (k) * 2, none⟩ = some (.int .i64 (xs[k]).user) := q0a
        have p1a : wr.cell? ⟨g, o + (k) * 2 + 1, none⟩ = some (.string ⟨(xs[k]).name.toArray⟩) := q1a
        have p0b : wr.cell? ⟨g', o' + k * 2, none⟩ = some (.int .i64 ys[k].user) := q0b
        have p1b : wr.cell? ⟨g', o' + k * 2 + 1, none⟩ = some (.string ⟨ys[k].name.toArray⟩) := q1b
        have HT : Hid (sbEq xs[k] ys[k] = true → R = eqL sbEq (xs.drop (k + 1)) (ys.drop (k + 1))) := fun e => by rw [hA.out, eqL_drop sbEq xs ys k hlt hlt', e, Bool.true_and]
        have HN : Hid (sbEq xs[k] ys[k] = false → R = false) := fun e => by rw [hA.out, eqL_drop sbEq xs ys k hlt hlt', e, Bool.false_and]
        clear q0a q0b q1a q1b
        generalize xs[k] = x at *
        generalize ys[k] = y at *
        clear hlt hlt'
        obtain ⟨x0, x1⟩ := x
        obtain ⟨y0, y1⟩ := y
        dsimp only at *
        have hn0 := ext_some wr
        have hc := ext_cell wr
        by_cases hd : x0 = y0
        · subst hd
          by_cases hd : x1 = y1
          · subst hd
            have HF := hide (HT.out (by simp [sbEq]))
            clear HT HN
            go_wp2
            refine wp_region_ext (by kernel_rfl) (by kernel_rfl) ?_
            repeat (go_big_quiet_step (fail))
            refine wpQuiet_nil ?_
            rintro w1 ⟨u1, rfl⟩
            have HB1 := hide (hB.out.trans (u1.ok.mono hB.out.size))
            generalize u1.w = w1 at *
            clear hc hn0
            go_wp2
            go_roundw
            case rel => exact ⟨k + 1, by omega, by go_num, HB1.out, HF.out⟩
            case measure => simp [intOf]; omega
          · skip
            have HF := hide (HN.out (by simp [sbEq, hd]))
            clear HT HN
            have hbq : (x1 == y1) = false := beq_eq_false_iff_ne.2 hd
            go_wp2
            refine wp_region_ext (by kernel_rfl) (by kernel_rfl) ?_
            repeat (go_big_quiet_step (fail))
            refine wpQuiet_nil ?_
            rintro w1 ⟨u1, rfl⟩
            have HB1 := hide (hB.out.trans (u1.ok.mono hB.out.size))
            generalize u1.w = w1 at *
            clear hc hn0
            go_wp2
            go_ret
            exact ⟨by rw [HF.out]; rfl, HB1.out⟩
        · skip
          have HF := hide (HN.out (by simp [sbEq, hd]))
          clear HT HN
          have hbq : (x0 == y0) = false := beq_eq_false_iff_ne.2 hd
          go_wp2
          refine wp_region_ext (by kernel_rfl) (by kernel_rfl) ?_
          repeat (go_big_quiet_step (fail))
          refine wpQuiet_nil ?_
          rintro w1 ⟨u1, rfl⟩
          have HB1 := hide (hB.out.trans (u1.ok.mono hB.out.size))
          generalize u1.w = w1 at *
          clear hc hn0
          go_wp2
          go_ret
          exact ⟨by rw [HF.out]; rfl, HB1.out⟩
      · have hltz : ¬ (k : Int) < (n : Int) := by omega
        have HF : Hid (R = true) := by show _ = _; rw [hA.out, List.drop_eq_nil_of_le (by rw [hn.out]; omega), List.drop_eq_nil_of_le (by rw [hny.out]; omega)]; rfl
        go_wp2
        go_ret
        exact ⟨by rw [HF.out]; rfl, hB.out⟩
  · have hlz : ¬ (xs.length : Int) = (ys.length : Int) := by omega
    have HF : Hid (R = false) := by show _ = _; rw [hR.out]; exact eqL_len sbEq xs ys hlen
    go_enter Tryz.func31, Tryz.ntmps31
    go_wp2
    go_ret
    exact ⟨by rw [HF.out]; rfl, Below.refl _ _⟩
end Go.Proofs.YtbfdbbpkpjgamaaGreatDoor

end
section
set_option linter.unusedVariables false
set_option linter.unusedSimpArgs false
namespace Go.Proofs.YtbfdbbpkpjgamaaGreatDoor
open Go.RowKit

set_option maxRecDepth 20000 in
set_option maxHeartbeats 4000000 in
theorem peqMessage_any {xs ys : List Msg} {v u : Value} {w : World} (h : RdE 4 MsgAt w v xs) (h' : RdE 4 MsgAt w u ys) (hl : xs.length ≤ 1000000) :
    Calls Tryz.prog 48 #[v, u] w fun e w' => e = .returned (.bool (eqL msgEq xs ys)) ∧ Below w.heap.size w w' := by
  have HO := hide h
  have HO' := hide h'
  obtain ⟨A, c, rfl⟩ := h.form
  obtain ⟨A', c', rfl⟩ := h'.form
  clear h h'
  obtain ⟨R, hR⟩ : ∃ R, Hid (R = eqL msgEq xs ys) := ⟨_, hide rfl⟩
  rw [← hR.out]
  by_cases hlen : xs.length = ys.length
  · obtain ⟨n, hn⟩ : ∃ n, Hid (xs.length = n) := ⟨_, hide rfl⟩
    have hny : Hid (ys.length = n) := by show _ = _; rw [← hlen, hn.out]
    have HAx : Hid (∀ wr, Below w.heap.size w wr → ∀ k (hk : k < xs.length), ∃ g o, A = some ⟨g, o, none⟩ ∧ g < wr.heap.size ∧ MsgAt wr g (o + k * 4) xs[k]) := fun wr hb k hk => (HO.out.below stb_msg hb).at hk
    have HAy : Hid (∀ wr, Below w.heap.size w wr → ∀ k (hk : k < ys.length), ∃ g o, A' = some ⟨g, o, none⟩ ∧ g < wr.heap.size ∧ MsgAt wr g (o + k * 4) ys[k]) := fun wr hb k hk => (HO'.out.below stb_msg hb).at hk
    clear HO HO'
    rw [hn.out] at hl ⊢
    rw [hny.out]
    clear hlen
    go_enter Tryz.func48, Tryz.ntmps48
    go_wp2
    go_loopw [5, 13] (fun _ u wr => ∃ k : Nat, k ≤ n ∧ u = .int .i64 k ∧ Hid (Below w.heap.size w wr) ∧ Hid (R = eqL msgEq (xs.drop k) (ys.drop k))) (fun _ u _ => n - (intOf u).toNat)
    case atStart => exact ⟨0, Nat.zero_le _, rfl, Below.refl _ _, hR.out⟩
    case round =>
      obtain ⟨k, hkl, rfl, hB, hA⟩ := hrel
      by_cases hltn : k < n
      · have hltz : (k : Int) < (n : Int) := by omega
        have hlt : k < xs.length := by rw [hn.out]; exact hltn
        have hlt' : k < ys.length := by rw [hny.out]; exact hltn
        obtain ⟨g, o, rfl, hgl, q0a, q1a, q2a, q3a⟩ := HAx.out wr hB.out k hlt
        obtain ⟨g', o', rfl, hgl', q0b, q1b, q2b, q3b⟩ := HAy.out wr hB.out k hlt'
        have p0a : wr.cell? ⟨g, o + (k) * 4, none⟩ = some (.int .i64 (xs[k]).uid) := q0a
        have p1a : wr.cell? ⟨g, o + (k) * 4 + 1, none⟩ = some (.int .i64 (xs[k]).flags) := q1a
        have p2a : wr.cell? ⟨g, o + (k) * 4 + 2, none⟩ = some (.int .i64 (xs[k]).date) := q2a
        have p3a : wr.cell? ⟨g, o + (k) * 4 + 3, none⟩ = some (.string ⟨(xs[k]).body.toArray⟩) := q3a
        have p0b : wr.cell? ⟨g', o' + k * 4, none⟩ = some (.int .i64 ys[k].uid) := q0b
        have p1b : wr.cell? ⟨g', o' + k * 4 + 1, none⟩ = some (.int .i64 ys[k].flags) := q1b
        have p2b : wr.cell? ⟨g', o' + k * 4 + 2, none⟩ = some (.int .i64 ys[k].date) := q2b
        have p3b : wr.cell? ⟨g', o' + k * 4 + 3, none⟩ = some (.string ⟨ys[k].body.toArray⟩) := q3b
        have HT : Hid (msgEq xs[k] ys[k] = true → R = eqL msgEq (xs.drop (k + 1)) (ys.drop (k + 1))) := fun e => by rw [hA.out, eqL_drop msgEq xs ys k hlt hlt', e, Bool.true_and]
        have HN : Hid (msgEq xs[k] ys[k] = false → R = false) := fun e => by rw [hA.out, eqL_drop msgEq xs ys k hlt hlt', e, Bool.false_and]
        clear q0a q0b q1a q1b q2a q2b q3a q3b
        generalize xs[k] = x at *
        generalize ys[k] = y at *
        clear hlt hlt'
        obtain ⟨x0, x1, x2, x3⟩ := x
        obtain ⟨y0, y1, y2, y3⟩ := y
        dsimp only at *
        have hn0 := ext_some wr
        have hc := ext_cell wr
        by_cases hd : x0 = y0
        · subst hd
          by_cases hd : x1 = y1
          · subst hd
            by_cases hd : x2 = y2
            · subst hd
              by_cases hd : x3 = y3
              · subst hd
                have HF := hide (HT.out (by simp [msgEq]))
                clear HT HN
                go_wp2
                refine wp_region_ext (by kernel_rfl) (by kernel_rfl) ?_
                repeat (go_big_quiet_step (fail))
                refine wpQuiet_nil ?_
                rintro w1 ⟨u1, rfl⟩
                have HB1 := hide (hB.out.trans (u1.ok.mono hB.out.size))
                generalize u1.w = w1 at *
                clear hc hn0
                go_wp2
                go_roundw
                case rel => exact ⟨k + 1, by omega, by go_num, HB1.out, HF.out⟩
                case measure => simp [intOf]; omega
              · skip
                have HF := hide (HN.out (by simp [msgEq, hd]))
                clear HT HN
                have hbq : (x3 == y3) = false := beq_eq_false_iff_ne.2 hd
                go_wp2
                refine wp_region_ext (by kernel_rfl) (by kernel_rfl) ?_
                repeat (go_big_quiet_step (fail))
                refine wpQuiet_nil ?_
                rintro w1 ⟨u1, rfl⟩
                have HB1 := hide (hB.out.trans (u1.ok.mono hB.out.size))
                generalize u1.w = w1 at *
                clear hc hn0
                go_wp2
                go_ret
                exact ⟨by rw [HF.out]; rfl, HB1.out⟩
            · skip
              have HF := hide (HN.out (by simp [msgEq, hd]))
              clear HT HN
              have hbq : (x2 == y2) = false := beq_eq_false_iff_ne.2 hd
              go_wp2
              refine wp_region_ext (by kernel_rfl) (by kernel_rfl) ?_
              repeat (go_big_quiet_step (fail))
              refine wpQuiet_nil ?_
              rintro w1 ⟨u1, rfl⟩
              have HB1 := hide (hB.out.trans (u1.ok.mono hB.out.size))
              generalize u1.w = w1 at *
              clear hc hn0
              go_wp2
              go_ret
              exact ⟨by rw [HF.out]; rfl, HB1.out⟩
          · skip
            have HF := hide (HN.out (by simp [msgEq, hd]))
            clear HT HN
            have hbq : (x1 == y1) = false := beq_eq_false_iff_ne.2 hd
            go_wp2
            refine wp_region_ext (by kernel_rfl) (by kernel_rfl) ?_
            repeat (go_big_quiet_step (fail))
            refine wpQuiet_nil ?_
            rintro w1 ⟨u1, rfl⟩
            have HB1 := hide (hB.out.trans (u1.ok.mono hB.out.size))
            generalize u1.w = w1 at *
            clear hc hn0
            go_wp2
            go_ret
            exact ⟨by rw [HF.out]; rfl, HB1.out⟩
        · skip
          have HF := hide (HN.out (by simp [msgEq, hd]))
          clear HT HN
          have hbq : (x0 == y0) = false := beq_eq_false_iff_ne.2 hd
          go_wp2
          refine wp_region_ext (by kernel_rfl) (by kernel_rfl) ?_
          repeat (go_big_quiet_step (fail))
          refine wpQuiet_nil ?_
          rintro w1 ⟨u1, rfl⟩
          have HB1 := hide (hB.out.trans (u1.ok.mono hB.out.size))
          generalize u1.w = w1 at *
          clear hc hn0
          go_wp2
          go_ret
          exact ⟨by rw [HF.out]; rfl, HB1.out⟩
      · have hltz : ¬ (k : Int) < (n : Int) := by omega
        have HF : Hid (R = true) := by show _ = _; rw [hA.out, List.drop_eq_nil_of_le (by rw [hn.out]; omega), List.drop_eq_nil_of_le (by rw [hny.out]; omega)]; rfl
        go_wp2
        go_ret
        exact ⟨by rw [HF.out]; rfl, hB.out⟩
  · have hlz : ¬ (xs.length : Int) = (ys.length : Int) := by omega
    have HF : Hid (R = false) := by show _ = _; rw [hR.out]; exact eqL_len msgEq xs ys hlen
    go_enter Tryz.func48, Tryz.ntmps48
    go_wp2
    go_ret
    exact ⟨by rw [HF.out]; rfl, Below.refl _ _⟩
end Go.Proofs.YtbfdbbpkpjgamaaGreatDoor

end
section
set_option linter.unusedVariables false
set_option linter.unusedSimpArgs false
namespace Go.Proofs.YtbfdbbpkpjgamaaGreatDoor
open Go.RowKit

set_option maxRecDepth 20000 in
set_option maxHeartbeats 4000000 in
theorem peqint_any {xs ys : List Int} {v u : Value} {w : World} (h : RdE 1 IntAt w v xs) (h' : RdE 1 IntAt w u ys) (hl : xs.length ≤ 1000000) :
    Calls Tryz.prog 49 #[v, u] w fun e w' => e = .returned (.bool (eqL inEq xs ys)) ∧ Below w.heap.size w w' := by
  have HO := hide h
  have HO' := hide h'
  obtain ⟨A, c, rfl⟩ := h.form
  obtain ⟨A', c', rfl⟩ := h'.form
  clear h h'
  obtain ⟨R, hR⟩ : ∃ R, Hid (R = eqL inEq xs ys) := ⟨_, hide rfl⟩
  rw [← hR.out]
  by_cases hlen : xs.length = ys.length
  · obtain ⟨n, hn⟩ : ∃ n, Hid (xs.length = n) := ⟨_, hide rfl⟩
    have hny : Hid (ys.length = n) := by show _ = _; rw [← hlen, hn.out]
    have HAx : Hid (∀ wr, Below w.heap.size w wr → ∀ k (hk : k < xs.length), ∃ g o, A = some ⟨g, o, none⟩ ∧ g < wr.heap.size ∧ IntAt wr g (o + k * 1) xs[k]) := fun wr hb k hk => (HO.out.below stb_int hb).at hk
    have HAy : Hid (∀ wr, Below w.heap.size w wr → ∀ k (hk : k < ys.length), ∃ g o, A' = some ⟨g, o, none⟩ ∧ g < wr.heap.size ∧ IntAt wr g (o + k * 1) ys[k]) := fun wr hb k hk => (HO'.out.below stb_int hb).at hk
    clear HO HO'
    rw [hn.out] at hl ⊢
    rw [hny.out]
    clear hlen
    go_enter Tryz.func49, Tryz.ntmps49
    go_wp2
    go_loopw [5, 13] (fun _ u wr => ∃ k : Nat, k ≤ n ∧ u = .int .i64 k ∧ Hid (Below w.heap.size w wr) ∧ Hid (R = eqL inEq (xs.drop k) (ys.drop k))) (fun _ u _ => n - (intOf u).toNat)
    case atStart => exact ⟨0, Nat.zero_le _, rfl, Below.refl _ _, hR.out⟩
    case round =>
      obtain ⟨k, hkl, rfl, hB, hA⟩ := hrel
      by_cases hltn : k < n
      · have hltz : (k : Int) < (n : Int) := by omega
        have hlt : k < xs.length := by rw [hn.out]; exact hltn
        have hlt' : k < ys.length := by rw [hny.out]; exact hltn
        obtain ⟨g, o, rfl, hgl, q0a⟩ := HAx.out wr hB.out k hlt
        obtain ⟨g', o', rfl, hgl', q0b⟩ := HAy.out wr hB.out k hlt'
        have p0a : wr.cell? ⟨g, o + k, none⟩ = some (.int .i64 (xs[k])) := by have h0 : wr.cell? ⟨g, o + (k) * 1, none⟩ = some (.int .i64 (xs[k])) := q0a; rwa [Nat.mul_one] at h0
        have p0b : wr.cell? ⟨g', o' + k, none⟩ = some (.int .i64 ys[k]) := by have h0 : wr.cell? ⟨g', o' + k * 1, none⟩ = some (.int .i64 ys[k]) := q0b; rwa [Nat.mul_one] at h0
        have HT : Hid (inEq xs[k] ys[k] = true → R = eqL inEq (xs.drop (k + 1)) (ys.drop (k + 1))) := fun e => by rw [hA.out, eqL_drop inEq xs ys k hlt hlt', e, Bool.true_and]
        have HN : Hid (inEq xs[k] ys[k] = false → R = false) := fun e => by rw [hA.out, eqL_drop inEq xs ys k hlt hlt', e, Bool.false_and]
        clear q0a q0b
        generalize xs[k] = x0 at *
        generalize ys[k] = y0 at *
        clear hlt hlt'
        have hn0 := ext_some wr
        have hc := ext_cell wr
        by_cases hd : x0 = y0
        · subst hd
          have HF := hide (HT.out (by simp [inEq]))
          clear HT HN
          go_wp2
          refine wp_region_ext (by kernel_rfl) (by kernel_rfl) ?_
          repeat (go_big_quiet_step (fail))
          refine wpQuiet_nil ?_
          rintro w1 ⟨u1, rfl⟩
          have HB1 := hide (hB.out.trans (u1.ok.mono hB.out.size))
          generalize u1.w = w1 at *
          clear hc hn0
          go_wp2
          go_roundw
          case rel => exact ⟨k + 1, by omega, by go_num, HB1.out, HF.out⟩
          case measure => simp [intOf]; omega
        · skip
          have HF := hide (HN.out (by simp [inEq, hd]))
          clear HT HN
          have hbq : (x0 == y0) = false := beq_eq_false_iff_ne.2 hd
          go_wp2
          refine wp_region_ext (by kernel_rfl) (by kernel_rfl) ?_
          repeat (go_big_quiet_step (fail))
          refine wpQuiet_nil ?_
          rintro w1 ⟨u1, rfl⟩
          have HB1 := hide (hB.out.trans (u1.ok.mono hB.out.size))
          generalize u1.w = w1 at *
          clear hc hn0
          go_wp2
          go_ret
          exact ⟨by rw [HF.out]; rfl, HB1.out⟩
      · have hltz : ¬ (k : Int) < (n : Int) := by omega
        have HF : Hid (R = true) := by show _ = _; rw [hA.out, List.drop_eq_nil_of_le (by rw [hn.out]; omega), List.drop_eq_nil_of_le (by rw [hny.out]; omega)]; rfl
        go_wp2
        go_ret
        exact ⟨by rw [HF.out]; rfl, hB.out⟩
  · have hlz : ¬ (xs.length : Int) = (ys.length : Int) := by omega
    have HF : Hid (R = false) := by show _ = _; rw [hR.out]; exact eqL_len inEq xs ys hlen
    go_enter Tryz.func49, Tryz.ntmps49
    go_wp2
    go_ret
    exact ⟨by rw [HF.out]; rfl, Below.refl _ _⟩
end Go.Proofs.YtbfdbbpkpjgamaaGreatDoor

end
