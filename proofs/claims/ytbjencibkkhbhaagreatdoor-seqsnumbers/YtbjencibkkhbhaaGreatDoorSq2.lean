/- The document's Has, In, Of of layer 14; rows of ranges and of numbers that are read; SameRanges, SameInts of one row in two places. -/
import Derived.Test.YtbjencibkkhbhaaGreatDoorSq1
import Derived.Test.YtbjencibkkhbhaaGreatDoorCalm
import Derived.Deep.Cut
import Derived.Deep.CutRange
set_option linter.unusedSimpArgs false
set_option linter.unusedVariables false
namespace Go.Proofs.YtbjencibkkhbhaaGreatDoor
open Go.RowKit Go.Shelf
/-- A slice that reads as these ranges. -/
def RA (w : World) (v : Value) (rs : List (Int × Int)) : Prop := ∃ A cap, v = .slice A rs.length cap ∧ ∀ i (hi : i < rs.length), ∃ g o, A = some ⟨g, o, none⟩ ∧ g < w.heap.size ∧ w.cell? ⟨g, o + i * 2, none⟩ = some (.int .i64 rs[i].1) ∧ w.cell? ⟨g, o + i * 2 + 1, none⟩ = some (.int .i64 rs[i].2)
theorem RA.below {w w' : World} {v : Value} {rs : List (Int × Int)} (h : RA w v rs) (hb : Below w.heap.size w w') : RA w' v rs := by
  obtain ⟨A, c, rfl, h⟩ := h
  refine ⟨A, c, rfl, fun i hi => ?_⟩
  obtain ⟨g, o, e, hg, c0, c1⟩ := h i hi
  exact ⟨g, o, e, Nat.lt_of_lt_of_le hg hb.size, (hb.cell (p := ⟨g, _, none⟩) hg).trans c0, (hb.cell (p := ⟨g, _, none⟩) hg).trans c1⟩
/-- A slice that reads as these numbers. -/
def IA (w : World) (v : Value) (ns : List Int) : Prop := ∃ A cap, v = .slice A ns.length cap ∧ ∀ i (hi : i < ns.length), ∃ g o, A = some ⟨g, o, none⟩ ∧ g < w.heap.size ∧ w.cell? ⟨g, o + i, none⟩ = some (.int .i64 ns[i])
theorem IA.below {w w' : World} {v : Value} {ns : List Int} (h : IA w v ns) (hb : Below w.heap.size w w') : IA w' v ns := by
  obtain ⟨A, c, rfl, h⟩ := h
  refine ⟨A, c, rfl, fun i hi => ?_⟩
  obtain ⟨g, o, e, hg, c0⟩ := h i hi
  exact ⟨g, o, e, Nat.lt_of_lt_of_le hg hb.size, (hb.cell (p := ⟨g, _, none⟩) hg).trans c0⟩
set_option maxRecDepth 20000 in
set_option maxHeartbeats 2000000 in
theorem rhas_any (x y n mx : Int) (w : World) : Calls Tryz.prog 37 #[.agg #[.int .i64 x, .int .i64 y], .int .i64 n, .int .i64 mx] w fun e w' => e = .returned (.bool (sqH (x, y) n mx)) ∧ Below w.heap.size w w' := by
  obtain ⟨m, Hm⟩ : ∃ m, Hid (m = if mx < 0 then 0 else mx) := ⟨_, hide rfl⟩
  obtain ⟨a, Ha⟩ : ∃ a, Hid (a = if x = 0 then m else x) := ⟨_, hide rfl⟩
  obtain ⟨b, Hb⟩ : ∃ b, Hid (b = if y = 0 then m else y) := ⟨_, hide rfl⟩
  have HV : Hid (sqH (x, y) n mx = (decide (1 ≤ n) && ((decide (a ≤ n) && decide (n ≤ b)) || (decide (b ≤ n) && decide (n ≤ a))))) := by
    show _ = _
    unfold sqH
    rw [Ha.out, Hb.out, Hm.out]
  generalize sqH (x, y) n mx = T at *
  have HB0 := hide ((Below.refl w.heap.size w).alloc (Nat.le_refl _) (.cells #[.int .i64 x, .int .i64 y] 53))
  have HK := hide (Blk.new w #[.int .i64 x, .int .i64 y] 53)
  go_enter Tryz.func37, Tryz.ntmps37
  go_wp2
  obtain ⟨W0, HW0⟩ : ∃ W0, Hid (w.alloc (.cells #[.int .i64 x, .int .i64 y] 53) = W0) := ⟨_, hide rfl⟩
  rw [HW0.out] at HB0 HK ⊢
  have q0 := HK.out.cell 0
  have q1 := HK.out.cell 1
  have hlt := HK.out.lt
  have hn := ext_some W0
  have hc0 : ∀ u : Ext W0, u.w.cell? ⟨w.heap.size, 0, none⟩ = some (.int .i64 x) := fun u => (ext_cell W0 u _ _ hlt).trans q0
  have hc1 : ∀ u : Ext W0, u.w.cell? ⟨w.heap.size, 1, none⟩ = some (.int .i64 y) := fun u => (ext_cell W0 u _ _ hlt).trans q1
  refine wp_region_ext (by kernel_rfl) (by kernel_rfl) ?_
  repeat (go_big_quiet_step (fail))
  refine wpQuiet_nil ?_
  rintro w1 ⟨⟨_, hb1⟩, rfl⟩
  have HB1 := hide (HB0.out.trans (hb1.mono HB0.out.size))
  clear hb1 hc0 hc1 q0 q1 HK HB0
  go_upto_if 14 with fail
  go_cut [2] from 9 (fun v2 wx => w1 = wx ∧ v2 = .int .i64 m)
  case first =>
    by_cases hm : mx < 0
    · have e := Hm.out
      rw [if_pos hm] at e
      have He := hide e
      clear e
      go_wp2
      go_meet
      case rel => exact ⟨rfl, by rw [He.out]⟩
    · have e := Hm.out
      rw [if_neg hm] at e
      have He := hide e
      clear e
      go_wp2
      go_meet
      case rel => exact ⟨rfl, by rw [He.out]⟩
  case rest =>
    obtain ⟨hw, rfl⟩ := hcut
    subst hw
    go_upto_if 16 with fail
    go_cut [7] from 9 (fun v7 wx => w1 = wx ∧ v7 = .int .i64 a)
    case first =>
      by_cases hm : x = 0
      · have e := Ha.out
        rw [if_pos hm] at e
        have He := hide e
        clear e
        subst hm
        go_wp2
        go_meet
        case rel => exact ⟨rfl, by rw [He.out]⟩
      · have e := Ha.out
        rw [if_neg hm] at e
        have He := hide e
        clear e
        have hmb : (x == 0) = false := beq_eq_false_iff_ne.2 hm
        go_wp2
        go_meet
        case rel => exact ⟨rfl, by rw [He.out]⟩
    case rest =>
      obtain ⟨hw, rfl⟩ := hcut
      subst hw
      go_upto_if 19 with fail
      go_cut [8] from 9 (fun v8 wx => w1 = wx ∧ v8 = .int .i64 b)
      case first =>
        by_cases hm : y = 0
        · have e := Hb.out
          rw [if_pos hm] at e
          have He := hide e
          clear e
          subst hm
          go_wp2
          go_meet
          case rel => exact ⟨rfl, by rw [He.out]⟩
        · have e := Hb.out
          rw [if_neg hm] at e
          have He := hide e
          clear e
          have hmb : (y == 0) = false := beq_eq_false_iff_ne.2 hm
          go_wp2
          go_meet
          case rel => exact ⟨rfl, by rw [He.out]⟩
      case rest =>
        obtain ⟨hw, rfl⟩ := hcut
        subst hw
        clear Ha Hb Hm
        by_cases c1 : 1 ≤ n
        · by_cases c2 : a ≤ n
          · by_cases c3 : n ≤ b
            · have HF : Hid (T = true) := by show _ = _; rw [HV.out, decide_eq_true c1, decide_eq_true c2, decide_eq_true c3]; rfl
              go_wp2
              go_ret
              exact ⟨by rw [HF.out]; rfl, HB1.out⟩
            · have c4 : b ≤ n := by omega
              by_cases c5 : n ≤ a
              · have HF : Hid (T = true) := by show _ = _; rw [HV.out, decide_eq_true c1, decide_eq_true c2, decide_eq_false c3, decide_eq_true c4, decide_eq_true c5]; rfl
                go_wp2
                go_ret
                exact ⟨by rw [HF.out]; rfl, HB1.out⟩
              · have HF : Hid (T = false) := by show _ = _; rw [HV.out, decide_eq_true c1, decide_eq_true c2, decide_eq_false c3, decide_eq_true c4, decide_eq_false c5]; rfl
                go_wp2
                go_ret
                exact ⟨by rw [HF.out]; rfl, HB1.out⟩
          · have c5 : n ≤ a := by omega
            by_cases c4 : b ≤ n
            · have HF : Hid (T = true) := by show _ = _; rw [HV.out, decide_eq_true c1, decide_eq_false c2, decide_eq_true c4, decide_eq_true c5]; rfl
              go_wp2
              go_ret
              exact ⟨by rw [HF.out]; rfl, HB1.out⟩
            · have HF : Hid (T = false) := by show _ = _; rw [HV.out, decide_eq_true c1, decide_eq_false c2, decide_eq_false c4]; rfl
              go_wp2
              go_ret
              exact ⟨by rw [HF.out]; rfl, HB1.out⟩
        · have HF : Hid (T = false) := by show _ = _; rw [HV.out, decide_eq_false c1]; rfl
          go_wp2
          go_ret
          exact ⟨by rw [HF.out]; rfl, HB1.out⟩
set_option maxRecDepth 20000 in
set_option maxHeartbeats 2000000 in
theorem rin_any {w : World} {v : Value} {rs : List (Int × Int)} (hv : RA w v rs) (n mx : Int) (hl : rs.length ≤ 1000000) : Calls Tryz.prog 17 #[v, .int .i64 n, .int .i64 mx] w fun e w' => e = .returned (.bool (sqIn rs n mx)) ∧ Below w.heap.size w w' := by
  have HX := hide hv
  obtain ⟨A, c, rfl, _⟩ := hv
  go_enter Tryz.func17, Tryz.ntmps17
  go_wp2
  go_loopw [11] (fun v11 wr => ∃ k : Nat, v11 = .int .i64 k ∧ k ≤ rs.length ∧ Hid (sqIn (rs.take k) n mx = false) ∧ Hid (Below w.heap.size w wr)) (fun v11 _ => rs.length - (intOf v11).toNat)
  case atStart => exact ⟨0, rfl, Nat.zero_le _, rfl, Below.refl _ _⟩
  case round =>
    obtain ⟨k, rfl, hk, Hf, HB⟩ := hrel
    by_cases hlt : k < rs.length
    · have hlt' : (k : Int) < rs.length := by omega
      obtain ⟨A', c', e', hcs⟩ := HX.out.below HB.out
      cases e'
      obtain ⟨g, o, rfl, hgl, q0, q1⟩ := hcs k hlt
      obtain ⟨T, hT⟩ : ∃ T, sqH rs[k] n mx = T := ⟨_, rfl⟩
      have HN : Hid (sqIn (rs.take (k + 1)) n mx = T) := by
        show _ = _
        rw [List.take_succ_eq_append_getElem hlt, sqIn_app, Hf.out, Bool.false_or, ← hT]
        simp [sqIn]
      have HY : Hid (T = true → sqIn rs n mx = true) := fun h => by
        unfold sqIn
        rw [List.any_eq_true]
        exact ⟨rs[k], List.getElem_mem hlt, by rw [hT]; exact h⟩
      have HH := hide (fun W => rhas_any rs[k].1 rs[k].2 n mx W)
      rw [show (rs[k].1, rs[k].2) = rs[k] from rfl, hT] at HH
      clear hT hcs
      generalize rs[k] = r at *
      obtain ⟨x, y⟩ := r
      dsimp only at *
      cases T with
      | true =>
        have HY2 := hide (HY.out rfl)
        go_wp2_with (go_at_call 37; refine (HH.out _).mono ?_; rintro e w2 ⟨rfl, hb2⟩
                     have HB2 := hide (HB.out.trans ((((Below.refl wr.heap.size wr).alloc (Nat.le_refl _) _).trans (hb2.mono (by simp))).mono HB.out.size))
                     clear hb2)
        go_ret
        exact ⟨by rw [HY2.out]; rfl, HB2.out⟩
      | false =>
        clear HY
        go_wp2_with (go_at_call 37; refine (HH.out _).mono ?_; rintro e w2 ⟨rfl, hb2⟩
                     have HB2 := hide (HB.out.trans ((((Below.refl wr.heap.size wr).alloc (Nat.le_refl _) _).trans (hb2.mono (by simp))).mono HB.out.size))
                     clear hb2)
        go_roundw
        case rel => exact ⟨k + 1, by go_num, by omega, HN.out, HB2.out⟩
        case measure => simp [intOf] <;> omega
    · obtain rfl : k = rs.length := by omega
      have hf := Hf.out
      rw [List.take_length] at hf
      have HF := hide hf
      clear hf
      go_wp2
      go_ret
      exact ⟨by rw [HF.out]; rfl, HB.out⟩
end Go.Proofs.YtbjencibkkhbhaaGreatDoor
