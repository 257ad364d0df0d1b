/- The document's Same of layer 15, and SameInts. -/
import Derived.Test.YtbfdbbpkpjgamaaGreatDoorU41
import Derived.Test.YtbfdbbpkpjgamaaGreatDoorU06
import Derived.Test.YtbfdbbpkpjgamaaGreatDoorU04
set_option linter.unusedVariables false
set_option linter.unusedSimpArgs false
namespace Go.Proofs.YtbfdbbpkpjgamaaGreatDoor
open Go.RowKit Go.Shelf
set_option maxRecDepth 20000 in
set_option maxHeartbeats 4000000 in
theorem rsameInts15_any {u v : Value} {xs ys : List Int} {w : World} (hx : RdE 1 IntAt w u xs) (hy : RdE 1 IntAt w v ys) (hl : xs.length ≤ 1000000) :
    Calls Tryz.prog 21 #[u, v] w fun e w' => e = .returned (.bool (eqL inEq xs ys)) ∧ Below w.heap.size w w' := by
  obtain ⟨A, c, rfl⟩ := hx.form
  obtain ⟨A', c', rfl⟩ := hy.form
  have HX := hide hx
  have HY := hide hy
  clear hx hy
  obtain ⟨R, hR⟩ : ∃ R, Hid (R = eqL inEq xs ys) := ⟨_, hide rfl⟩
  rw [← hR.out]
  obtain ⟨n, hn⟩ : ∃ n, Hid (xs.length = n) := ⟨_, hide rfl⟩
  obtain ⟨m, hm⟩ : ∃ m, Hid (ys.length = m) := ⟨_, hide rfl⟩
  rw [hn.out, hm.out]
  rw [hn.out] at hl
  by_cases g : n = m
  case neg =>
    have HF : Hid (R = false) := by show _ = _; rw [hR.out]; exact eqL_len inEq xs ys (by rw [hn.out, hm.out]; exact g)
    have gz : ¬ (n : Int) = (m : Int) := by omega
    go_enter Tryz.func21, Tryz.ntmps21
    go_wp2
    go_ret
    exact ⟨by rw [HF.out]; rfl, Below.refl _ _⟩
  subst g
  go_enter Tryz.func21, Tryz.ntmps21
  go_wp2
  go_loopw [13] (fun u wr => ∃ k : Nat, u = .int .i64 k ∧ k ≤ n ∧ Hid (Below w.heap.size w wr) ∧ Hid (R = eqL inEq (xs.drop k) (ys.drop k))) (fun u _ => n - (intOf u).toNat)
  case atStart => exact ⟨0, rfl, Nat.zero_le _, Below.refl _ _, hR.out⟩
  case round =>
    obtain ⟨k, rfl, hk, HBr, HR⟩ := hrel
    by_cases hlt : k < n
    · have hltz : (k : Int) < (n : Int) := by omega
      have hx : k < xs.length := by rw [hn.out]; exact hlt
      have hy : k < ys.length := by rw [hm.out]; exact hlt
      obtain ⟨g, o, eA, hg, p0⟩ := (HX.out.below stb_int HBr.out).at hx
      obtain ⟨g', o', eA', hg', p0'⟩ := (HY.out.below stb_int HBr.out).at hy
      subst eA
      subst eA'
      have q0 : wr.cell? ⟨g, o + k * 1, none⟩ = some (.int .i64 xs[k]) := p0
      have q1 : wr.cell? ⟨g', o' + k * 1, none⟩ = some (.int .i64 ys[k]) := p0'
      rw [Nat.mul_one] at q0 q1
      have HT : Hid (inEq xs[k] ys[k] = true → R = eqL inEq (xs.drop (k + 1)) (ys.drop (k + 1))) := fun e => by rw [HR.out, eqL_drop inEq xs ys k hx hy, e, Bool.true_and]
      have HN : Hid (inEq xs[k] ys[k] = false → R = false) := fun e => by rw [HR.out, eqL_drop inEq xs ys k hx hy, e, Bool.false_and]
      clear p0 p0'
      generalize xs[k] = x at *
      generalize ys[k] = y at *
      clear hx hy
      have hn0 := ext_some wr
      have hc := ext_cell wr
      by_cases e : x = y
      · subst e
        have HF := hide (HT.out (by simp [inEq]))
        clear HT HN
        go_wp2
        refine wp_region_ext (by kernel_rfl) (by kernel_rfl) ?_
        repeat (go_big_quiet_step (fail))
        refine wpQuiet_nil ?_
        rintro w1 ⟨u1, rfl⟩
        have HB1 := hide (HBr.out.trans (u1.ok.mono HBr.out.size))
        generalize u1.w = w1 at *
        clear hc hn0
        go_wp2
        go_roundw
        case rel => exact ⟨k + 1, by go_num, by omega, HB1.out, HF.out⟩
        case measure => simp [intOf]; omega
      · have HF := hide (HN.out (by simp [inEq, e]))
        have hbq : (x == y) = false := beq_eq_false_iff_ne.2 e
        clear HT HN
        go_wp2
        refine wp_region_ext (by kernel_rfl) (by kernel_rfl) ?_
        repeat (go_big_quiet_step (fail))
        refine wpQuiet_nil ?_
        rintro w1 ⟨u1, rfl⟩
        have HB1 := hide (HBr.out.trans (u1.ok.mono HBr.out.size))
        generalize u1.w = w1 at *
        clear hc hn0
        go_wp2
        go_ret
        exact ⟨by rw [HF.out]; rfl, HB1.out⟩
    · have hltz : ¬ (k : Int) < (n : Int) := by omega
      have HF : Hid (R = true) := by show _ = _; rw [HR.out, List.drop_eq_nil_of_le (by rw [hn.out]; omega), List.drop_eq_nil_of_le (by rw [hm.out]; omega)]; rfl
      go_wp2
      go_ret
      exact ⟨by rw [HF.out]; rfl, HBr.out⟩
set_option maxRecDepth 20000 in
set_option maxHeartbeats 16000000 in
theorem rsame15_any {u v : Value} {x y : Stt} {w : World} (hx : StR w u x) (hy : StR w v y) (hd : BdS x) :
    Calls Tryz.prog 13 #[u, v] w fun e w' => e = .returned (.bool (sttEq x y)) ∧ Below w.heap.size w w' := by
  obtain ⟨xbv, xsv, xqv, rfl, h1, h2, h3⟩ := hx
  obtain ⟨ybv, ysv, yqv, rfl, k1, k2, k3⟩ := hy
  obtain ⟨A1, c1, rfl⟩ := h1.form
  obtain ⟨A2, c2, rfl⟩ := h2.form
  obtain ⟨A3, c3, rfl⟩ := h3.form
  obtain ⟨B1, d1, rfl⟩ := k1.form
  obtain ⟨B2, d2, rfl⟩ := k2.form
  obtain ⟨B3, d3, rfl⟩ := k3.form
  obtain ⟨R, hR⟩ : ∃ R, Hid (R = sttEq x y) := ⟨_, hide rfl⟩
  rw [← hR.out]
  obtain ⟨l1, l2, l3, l4, l5, l6⟩ := hd
  obtain ⟨xb, xs, xq, xv, xi⟩ := x
  obtain ⟨yb, ys, yq, yv, yi⟩ := y
  dsimp only at *
  have HBd := hide l2
  have HQd := hide l6
  have HX1 := hide h1
  have HX2 := hide h2
  have HX3 := hide h3
  have HY1 := hide k1
  have HY2 := hide k2
  have HY3 := hide k3
  clear h1 h2 h3 k1 k2 k3 l2 l6 l4
  obtain ⟨nb, hnb⟩ : ∃ nb, Hid (xb.length = nb) := ⟨_, hide rfl⟩
  obtain ⟨ns, hns⟩ : ∃ ns, Hid (xs.length = ns) := ⟨_, hide rfl⟩
  obtain ⟨nq, hnq⟩ : ∃ nq, Hid (xq.length = nq) := ⟨_, hide rfl⟩
  obtain ⟨mb, hmb⟩ : ∃ mb, Hid (yb.length = mb) := ⟨_, hide rfl⟩
  obtain ⟨ms, hms⟩ : ∃ ms, Hid (ys.length = ms) := ⟨_, hide rfl⟩
  obtain ⟨mq, hmq⟩ : ∃ mq, Hid (yq.length = mq) := ⟨_, hide rfl⟩
  rw [hnb.out, hns.out, hnq.out, hmb.out, hms.out, hmq.out]
  rw [hnb.out] at l1
  rw [hns.out] at l3
  rw [hnq.out] at l5
  have HB0 : Hid (Below w.heap.size w ((w.alloc (.cells #[.slice A1 nb c1, .slice A2 ns c2, .slice A3 nq c3, .int .i64 xv, .int .i64 xi] 26)).alloc (.cells #[.slice B1 mb d1, .slice B2 ms d2, .slice B3 mq d3, .int .i64 yv, .int .i64 yi] 26))) := ((Below.refl w.heap.size w).alloc (Nat.le_refl _) _).alloc (by simp) _
  have HK0 : Hid (Blk ((w.alloc (.cells #[.slice A1 nb c1, .slice A2 ns c2, .slice A3 nq c3, .int .i64 xv, .int .i64 xi] 26)).alloc (.cells #[.slice B1 mb d1, .slice B2 ms d2, .slice B3 mq d3, .int .i64 yv, .int .i64 yi] 26)) w.heap.size #[.slice A1 nb c1, .slice A2 ns c2, .slice A3 nq c3, .int .i64 xv, .int .i64 xi] 26) := (Blk.new w _ _).alloc _
  have HK1 : Hid (Blk ((w.alloc (.cells #[.slice A1 nb c1, .slice A2 ns c2, .slice A3 nq c3, .int .i64 xv, .int .i64 xi] 26)).alloc (.cells #[.slice B1 mb d1, .slice B2 ms d2, .slice B3 mq d3, .int .i64 yv, .int .i64 yi] 26)) (w.heap.size + 1) #[.slice B1 mb d1, .slice B2 ms d2, .slice B3 mq d3, .int .i64 yv, .int .i64 yi] 26) := Blk.new1 w _ _ _
  have q00 := HK0.out.cell 0
  have q01 := HK0.out.cell 1
  have q02 := HK0.out.cell 2
  have q03 := HK0.out.cell 3
  have q04 := HK0.out.cell 4
  have q10 := HK1.out.cell 0
  have q11 := HK1.out.cell 1
  have q12 := HK1.out.cell 2
  have q13 := HK1.out.cell 3
  have q14 := HK1.out.cell 4
  simp only [List.getElem?_toArray, List.getElem?_cons_zero, List.getElem?_cons_succ] at q00 q01 q02 q03 q04 q10 q11 q12 q13 q14
  by_cases g1 : xv = yv
  case neg =>
    have HF : Hid (R = false) := by show _ = _; rw [hR.out]; simp [sttEq, g1]
    have gb : (xv == yv) = false := beq_eq_false_iff_ne.2 g1
    go_enter Tryz.func13, Tryz.ntmps13
    go_wp2
    go_ret
    exact ⟨by rw [HF.out]; rfl, HB0.out⟩
  subst g1
  by_cases g2 : xi = yi
  case neg =>
    have HF : Hid (R = false) := by show _ = _; rw [hR.out]; simp [sttEq, g2]
    have gb : (xi == yi) = false := beq_eq_false_iff_ne.2 g2
    go_enter Tryz.func13, Tryz.ntmps13
    go_wp2
    go_ret
    exact ⟨by rw [HF.out]; rfl, HB0.out⟩
  subst g2
  by_cases g3 : nb = mb
  case neg =>
    have HF : Hid (R = false) := by show _ = _; rw [hR.out]; unfold sttEq; rw [eqL_len bxEq xb yb (by rw [hnb.out, hmb.out]; exact g3)]; simp
    have gb : ¬ (nb : Int) = (mb : Int) := by omega
    go_enter Tryz.func13, Tryz.ntmps13
    go_wp2
    go_ret
    exact ⟨by rw [HF.out]; rfl, HB0.out⟩
  subst g3
  by_cases g4 : ns = ms
  case neg =>
    have HF : Hid (R = false) := by show _ = _; rw [hR.out]; unfold sttEq; rw [eqL_len sbEq xs ys (by rw [hns.out, hms.out]; exact g4)]; simp
    have gb : ¬ (ns : Int) = (ms : Int) := by omega
    go_enter Tryz.func13, Tryz.ntmps13
    go_wp2
    go_ret
    exact ⟨by rw [HF.out]; rfl, HB0.out⟩
  subst g4
  by_cases g5 : nq = mq
  case neg =>
    have HF : Hid (R = false) := by show _ = _; rw [hR.out]; unfold sttEq; rw [eqL_len itEq xq yq (by rw [hnq.out, hmq.out]; exact g5)]; simp
    have gb : ¬ (nq : Int) = (mq : Int) := by omega
    go_enter Tryz.func13, Tryz.ntmps13
    go_wp2
    go_ret
    exact ⟨by rw [HF.out]; rfl, HB0.out⟩
  subst g5
  have HR0 : Hid (R = (eqL bxEq xb yb && (eqL sbEq xs ys && eqL itEq xq yq))) := by show _ = _; rw [hR.out]; simp [sttEq, Bool.and_assoc]
  clear hR
  go_enter Tryz.func13, Tryz.ntmps13
  go_wp2
  clear q00 q01 q02 q03 q04 q10 q11 q12 q13 q14
  have hX1 := hide (HX1.out.below stb_bx HB0.out)
  have hX2 := hide (HX2.out.below stb_sb HB0.out)
  have hX3 := hide (HX3.out.below stb_it HB0.out)
  have hY1 := hide (HY1.out.below stb_bx HB0.out)
  have hY2 := hide (HY2.out.below stb_sb HB0.out)
  have hY3 := hide (HY3.out.below stb_it HB0.out)
  clear HX1 HX2 HX3 HY1 HY2 HY3
  obtain ⟨W0, HW0⟩ : ∃ W0, Hid (((w.alloc (.cells #[.slice A1 nb c1, .slice A2 ns c2, .slice A3 nq c3, .int .i64 xv, .int .i64 xi] 26)).alloc (.cells #[.slice B1 nb d1, .slice B2 ns d2, .slice B3 nq d3, .int .i64 xv, .int .i64 xi] 26)) = W0) := ⟨_, hide rfl⟩
  rw [HW0.out] at hX1 hX2 hX3 hY1 hY2 hY3 HB0 HK0 HK1 ⊢
  clear HW0
  obtain ⟨P0, hP0⟩ : ∃ P0, Hid (w.heap.size = P0) := ⟨_, hide rfl⟩
  rw [hP0.out] at HK0 HK1 ⊢
  go_loopw [55] (fun v55 wr => ∃ k : Nat, v55 = .int .i64 k ∧ k ≤ nb ∧ Hid (Below W0.heap.size W0 wr) ∧ Hid (R = (eqL bxEq (xb.drop k) (yb.drop k) && (eqL sbEq xs ys && eqL itEq xq yq)))) (fun v55 _ => nb - (intOf v55).toNat)
  case atStart => exact ⟨0, rfl, Nat.zero_le _, Below.refl _ _, HR0.out⟩
  case round =>
    obtain ⟨k, rfl, hk, HBr, HR⟩ := hrel
    clear HR0
    have HK0r := hide (HK0.out.below HBr.out HK0.out.lt)
    have HK1r := hide (HK1.out.below HBr.out HK1.out.lt)
    by_cases hlt : k < nb
    · have hltz : (k : Int) < (nb : Int) := by omega
      have hx : k < xb.length := by rw [hnb.out]; exact hlt
      have hy : k < yb.length := by rw [hmb.out]; exact hlt
      obtain ⟨g, o, eA, hg, p0, p1, p2, p3, mv, p4, hm⟩ := (hX1.out.below stb_bx HBr.out).at hx
      obtain ⟨g', o', eA', hg', s0, s1, s2, s3, mv', s4, hm'⟩ := (hY1.out.below stb_bx HBr.out).at hy
      subst eA
      subst eA'
      obtain ⟨S, hS⟩ : ∃ S, Hid (S = (eqL bxEq (xb.drop (k + 1)) (yb.drop (k + 1)) && (eqL sbEq xs ys && eqL itEq xq yq))) := ⟨_, hide rfl⟩
      have HT : Hid (R = (bxEq xb[k] yb[k] && S)) := by show _ = _; rw [HR.out, eqL_drop bxEq xb yb k hx hy, hS.out, Bool.and_assoc]
      have hbm := (HBd.out _ (List.getElem_mem hx)).msgs
      generalize xb[k] = x at *
      generalize yb[k] = y at *
      obtain ⟨Am, cm, rfl⟩ := hm.form
      obtain ⟨Bm, dm, rfl⟩ := hm'.form
      have r0 : wr.cell? ⟨g, o + k * 5, none⟩ = some (.int .i64 x.user) := p0
      have r1 : wr.cell? ⟨g, o + k * 5 + 1, none⟩ = some (.string ⟨x.name.toArray⟩) := p1
      have r2 : wr.cell? ⟨g, o + k * 5 + 2, none⟩ = some (.int .i64 x.valid) := p2
      have r3 : wr.cell? ⟨g, o + k * 5 + 3, none⟩ = some (.int .i64 x.next) := p3
      clear p0 p1 p2 p3 hx hy HR
      obtain ⟨x0, x1, x2, x3, x4⟩ := x
      obtain ⟨y0, y1, y2, y3, y4⟩ := y
      dsimp only at *
      obtain ⟨lm, hlm⟩ : ∃ lm, Hid (x4.length = lm) := ⟨_, hide rfl⟩
      obtain ⟨ln, hln⟩ : ∃ ln, Hid (y4.length = ln) := ⟨_, hide rfl⟩
      have HM := hide hm
      have HM' := hide hm'
      clear hm hm'
      rw [hlm.out] at p4 hbm
      rw [hln.out] at s4
      have t0 : (wr.alloc (.cells #[.int .i64 x0, .string ⟨x1.toArray⟩, .int .i64 x2, .int .i64 x3, .slice Am lm cm] 39)).cell? ⟨g', o' + k * 5, none⟩ = some (.int .i64 y0) := cell_belowP ((Below.refl wr.heap.size wr).alloc (Nat.le_refl _) _) hg' s0
      have t1 : (wr.alloc (.cells #[.int .i64 x0, .string ⟨x1.toArray⟩, .int .i64 x2, .int .i64 x3, .slice Am lm cm] 39)).cell? ⟨g', o' + k * 5 + 1, none⟩ = some (.string ⟨y1.toArray⟩) := cell_belowP ((Below.refl wr.heap.size wr).alloc (Nat.le_refl _) _) hg' s1
      have t2 : (wr.alloc (.cells #[.int .i64 x0, .string ⟨x1.toArray⟩, .int .i64 x2, .int .i64 x3, .slice Am lm cm] 39)).cell? ⟨g', o' + k * 5 + 2, none⟩ = some (.int .i64 y2) := cell_belowP ((Below.refl wr.heap.size wr).alloc (Nat.le_refl _) _) hg' s2
      have t3 : (wr.alloc (.cells #[.int .i64 x0, .string ⟨x1.toArray⟩, .int .i64 x2, .int .i64 x3, .slice Am lm cm] 39)).cell? ⟨g', o' + k * 5 + 3, none⟩ = some (.int .i64 y3) := cell_belowP ((Below.refl wr.heap.size wr).alloc (Nat.le_refl _) _) hg' s3
      have t4 : (wr.alloc (.cells #[.int .i64 x0, .string ⟨x1.toArray⟩, .int .i64 x2, .int .i64 x3, .slice Am lm cm] 39)).cell? ⟨g', o' + k * 5 + 4, none⟩ = some (.slice Bm ln dm) := cell_belowP ((Below.refl wr.heap.size wr).alloc (Nat.le_refl _) _) hg' s4
      have t5 := (HK1r.out.alloc (.cells #[.int .i64 x0, .string ⟨x1.toArray⟩, .int .i64 x2, .int .i64 x3, .slice Am lm cm] 39)).cell 0
      simp only [List.getElem?_toArray, List.getElem?_cons_zero, List.getElem?_cons_succ] at t5
      clear s0 s1 s2 s3 s4
      have HBq : Hid (Below W0.heap.size W0 ((wr.alloc (.cells #[.int .i64 x0, .string ⟨x1.toArray⟩, .int .i64 x2, .int .i64 x3, .slice Am lm cm] 39)).alloc (.cells #[.int .i64 y0, .string ⟨y1.toArray⟩, .int .i64 y2, .int .i64 y3, .slice Bm ln dm] 39))) := (HBr.out.alloc HBr.out.size _).alloc (by have := HBr.out.size; simp; omega) _
      have HBm : Hid (Below wr.heap.size wr ((wr.alloc (.cells #[.int .i64 x0, .string ⟨x1.toArray⟩, .int .i64 x2, .int .i64 x3, .slice Am lm cm] 39)).alloc (.cells #[.int .i64 y0, .string ⟨y1.toArray⟩, .int .i64 y2, .int .i64 y3, .slice Bm ln dm] 39))) := ((Below.refl wr.heap.size wr).alloc (Nat.le_refl _) _).alloc (by simp) _
      have HKX : Hid (Blk ((wr.alloc (.cells #[.int .i64 x0, .string ⟨x1.toArray⟩, .int .i64 x2, .int .i64 x3, .slice Am lm cm] 39)).alloc (.cells #[.int .i64 y0, .string ⟨y1.toArray⟩, .int .i64 y2, .int .i64 y3, .slice Bm ln dm] 39)) wr.heap.size #[.int .i64 x0, .string ⟨x1.toArray⟩, .int .i64 x2, .int .i64 x3, .slice Am lm cm] 39) := (Blk.new wr _ _).alloc _
      have HKY : Hid (Blk ((wr.alloc (.cells #[.int .i64 x0, .string ⟨x1.toArray⟩, .int .i64 x2, .int .i64 x3, .slice Am lm cm] 39)).alloc (.cells #[.int .i64 y0, .string ⟨y1.toArray⟩, .int .i64 y2, .int .i64 y3, .slice Bm ln dm] 39)) (wr.heap.size + 1) #[.int .i64 y0, .string ⟨y1.toArray⟩, .int .i64 y2, .int .i64 y3, .slice Bm ln dm] 39) := Blk.new1 wr _ _ _
      have zX0 := HKX.out.cell 0
      have zX1 := HKX.out.cell 1
      have zX2 := HKX.out.cell 2
      have zX3 := HKX.out.cell 3
      have zX4 := HKX.out.cell 4
      have zY0 := HKY.out.cell 0
      have zY1 := HKY.out.cell 1
      have zY2 := HKY.out.cell 2
      have zY3 := HKY.out.cell 3
      have zY4 := HKY.out.cell 4
      simp only [List.getElem?_toArray, List.getElem?_cons_zero, List.getElem?_cons_succ] at zX0 zX1 zX2 zX3 zX4 zY0 zY1 zY2 zY3 zY4
      by_cases g1 : x0 = y0
      case neg =>
        have HF : Hid (R = false) := by show _ = _; rw [HT.out]; simp [bxEq, g1]
        have gb : (x0 == y0) = false := beq_eq_false_iff_ne.2 g1
        go_wp2
        go_ret
        exact ⟨by rw [HF.out]; rfl, HB0.out.trans (HBq.out.mono HB0.out.size)⟩
      subst g1
      by_cases g2 : x1 = y1
      case neg =>
        have HF : Hid (R = false) := by show _ = _; rw [HT.out]; simp [bxEq, g2]
        have gb : (x1 == y1) = false := beq_eq_false_iff_ne.2 g2
        go_wp2
        go_ret
        exact ⟨by rw [HF.out]; rfl, HB0.out.trans (HBq.out.mono HB0.out.size)⟩
      subst g2
      by_cases g3 : x2 = y2
      case neg =>
        have HF : Hid (R = false) := by show _ = _; rw [HT.out]; simp [bxEq, g3]
        have gb : (x2 == y2) = false := beq_eq_false_iff_ne.2 g3
        go_wp2
        go_ret
        exact ⟨by rw [HF.out]; rfl, HB0.out.trans (HBq.out.mono HB0.out.size)⟩
      subst g3
      by_cases g4 : x3 = y3
      case neg =>
        have HF : Hid (R = false) := by show _ = _; rw [HT.out]; simp [bxEq, g4]
        have gb : (x3 == y3) = false := beq_eq_false_iff_ne.2 g4
        go_wp2
        go_ret
        exact ⟨by rw [HF.out]; rfl, HB0.out.trans (HBq.out.mono HB0.out.size)⟩
      subst g4
      by_cases g5 : lm = ln
      case neg =>
        have HF : Hid (R = false) := by show _ = _; rw [HT.out]; unfold bxEq; rw [eqL_len msgEq x4 y4 (by rw [hlm.out, hln.out]; exact g5)]; simp
        have gb : ¬ (lm : Int) = (ln : Int) := by omega
        go_wp2
        go_ret
        exact ⟨by rw [HF.out]; rfl, HB0.out.trans (HBq.out.mono HB0.out.size)⟩
      subst g5
      have HR1 : Hid (R = (eqL msgEq x4 y4 && S)) := by show _ = _; rw [HT.out]; simp [bxEq]
      clear HT
      go_wp2
      clear r0 r1 r2 r3 p4 t0 t1 t2 t3 t4 t5 zX0 zX1 zX2 zX3 zX4 zY0 zY1 zY2 zY3 zY4 HK0r HK1r
      have HMX := hide (HM.out.below stb_msg HBm.out)
      have HMY := hide (HM'.out.below stb_msg HBm.out)
      clear HM HM' HBm HBr
      obtain ⟨W1, HW1⟩ : ∃ W1, Hid (((wr.alloc (.cells #[.int .i64 x0, .string ⟨x1.toArray⟩, .int .i64 x2, .int .i64 x3, .slice Am lm cm] 39)).alloc (.cells #[.int .i64 x0, .string ⟨x1.toArray⟩, .int .i64 x2, .int .i64 x3, .slice Bm lm dm] 39)) = W1) := ⟨_, hide rfl⟩
      rw [HW1.out] at HMX HMY HBq HKX HKY ⊢
      clear HW1
      obtain ⟨bx, hbx⟩ : ∃ bx, Hid (wr.heap.size = bx) := ⟨_, hide rfl⟩
      rw [hbx.out] at HKX HKY ⊢
      clear hbx
      go_loopw [103] (fun v103 wq => ∃ j : Nat, v103 = .int .i64 j ∧ j ≤ lm ∧ Hid (Below W1.heap.size W1 wq) ∧ Hid (R = (eqL msgEq (x4.drop j) (y4.drop j) && S))) (fun v103 _ => lm - (intOf v103).toNat)
      case atStart => exact ⟨0, rfl, Nat.zero_le _, Below.refl _ _, HR1.out⟩
      case round =>
        obtain ⟨j, rfl, hj, HBj, HRj⟩ := hrel
        clear HR1
        have HBr := hide (HB0.out.trans ((HBq.out.trans (HBj.out.mono HBq.out.size)).mono HB0.out.size))
        by_cases hjl : j < lm
        · have hjz : (j : Int) < (lm : Int) := by omega
          have hx : j < x4.length := by rw [hlm.out]; exact hjl
          have hy : j < y4.length := by rw [hln.out]; exact hjl
          obtain ⟨g2, o2, eA, hg2, p0, p1, p2, p3⟩ := (HMX.out.below stb_msg HBj.out).at hx
          obtain ⟨g2', o2', eA', hg2', s0, s1, s2, s3⟩ := (HMY.out.below stb_msg HBj.out).at hy
          subst eA
          subst eA'
          have HT : Hid (R = (msgEq x4[j] y4[j] && (eqL msgEq (x4.drop (j + 1)) (y4.drop (j + 1)) && S))) := by show _ = _; rw [HRj.out, eqL_drop msgEq x4 y4 j hx hy, Bool.and_assoc]
          generalize x4[j] = a at *
          generalize y4[j] = b at *
          have r0 : wr.cell? ⟨g2, o2 + j * 4, none⟩ = some (.int .i64 a.uid) := p0
          have r1 : wr.cell? ⟨g2, o2 + j * 4 + 1, none⟩ = some (.int .i64 a.flags) := p1
          have r2 : wr.cell? ⟨g2, o2 + j * 4 + 2, none⟩ = some (.int .i64 a.date) := p2
          have r3 : wr.cell? ⟨g2, o2 + j * 4 + 3, none⟩ = some (.string ⟨a.body.toArray⟩) := p3
          have t0 : wr.cell? ⟨g2', o2' + j * 4, none⟩ = some (.int .i64 b.uid) := s0
          have t1 : wr.cell? ⟨g2', o2' + j * 4 + 1, none⟩ = some (.int .i64 b.flags) := s1
          have t2 : wr.cell? ⟨g2', o2' + j * 4 + 2, none⟩ = some (.int .i64 b.date) := s2
          have t3 : wr.cell? ⟨g2', o2' + j * 4 + 3, none⟩ = some (.string ⟨b.body.toArray⟩) := s3
          clear p0 p1 p2 p3 s0 s1 s2 s3 hx hy
          obtain ⟨a0, a1, a2, a3⟩ := a
          obtain ⟨b0, b1, b2, b3⟩ := b
          dsimp only at *
          have z4 := (HKX.out.below HBj.out HKX.out.lt).cell 4
          have z5 := (HKY.out.below HBj.out HKY.out.lt).cell 4
          have zl4 := (HKX.out.below HBj.out HKX.out.lt).lt
          have zl5 := (HKY.out.below HBj.out HKY.out.lt).lt
          simp only [List.getElem?_toArray, List.getElem?_cons_zero, List.getElem?_cons_succ] at z4 z5
          have hn0 := ext_some wr
          have hc := ext_cell wr
          by_cases g0 : a0 = b0
          case neg =>
            have HF : Hid (R = false) := by show _ = _; rw [HT.out]; simp [msgEq, g0]
            have gb : (a0 == b0) = false := beq_eq_false_iff_ne.2 g0
            go_wp2
            refine wp_region_ext (by kernel_rfl) (by kernel_rfl) ?_
            repeat (go_big_quiet_step (fail))
            refine wpQuiet_nil ?_
            rintro w1 ⟨u1, rfl⟩
            have HB1 := hide (HBr.out.trans (u1.ok.mono HBr.out.size))
            generalize u1.w = w1 at *
            clear hc hn0
            go_wp2
            go_ret
            exact ⟨by rw [HF.out]; rfl, HB1.out⟩
          subst g0
          by_cases g1 : a1 = b1
          case neg =>
            have HF : Hid (R = false) := by show _ = _; rw [HT.out]; simp [msgEq, g1]
            have gb : (a1 == b1) = false := beq_eq_false_iff_ne.2 g1
            go_wp2
            refine wp_region_ext (by kernel_rfl) (by kernel_rfl) ?_
            repeat (go_big_quiet_step (fail))
            refine wpQuiet_nil ?_
            rintro w1 ⟨u1, rfl⟩
            have HB1 := hide (HBr.out.trans (u1.ok.mono HBr.out.size))
            generalize u1.w = w1 at *
            clear hc hn0
            go_wp2
            go_ret
            exact ⟨by rw [HF.out]; rfl, HB1.out⟩
          subst g1
          by_cases g2 : a2 = b2
          case neg =>
            have HF : Hid (R = false) := by show _ = _; rw [HT.out]; simp [msgEq, g2]
            have gb : (a2 == b2) = false := beq_eq_false_iff_ne.2 g2
            go_wp2
            refine wp_region_ext (by kernel_rfl) (by kernel_rfl) ?_
            repeat (go_big_quiet_step (fail))
            refine wpQuiet_nil ?_
            rintro w1 ⟨u1, rfl⟩
            have HB1 := hide (HBr.out.trans (u1.ok.mono HBr.out.size))
            generalize u1.w = w1 at *
            clear hc hn0
            go_wp2
            go_ret
            exact ⟨by rw [HF.out]; rfl, HB1.out⟩
          subst g2
          by_cases g3 : a3 = b3
          case neg =>
            have HF : Hid (R = false) := by show _ = _; rw [HT.out]; simp [msgEq, g3]
            have gb : (a3 == b3) = false := beq_eq_false_iff_ne.2 g3
            go_wp2
            refine wp_region_ext (by kernel_rfl) (by kernel_rfl) ?_
            repeat (go_big_quiet_step (fail))
            refine wpQuiet_nil ?_
            rintro w1 ⟨u1, rfl⟩
            have HB1 := hide (HBr.out.trans (u1.ok.mono HBr.out.size))
            generalize u1.w = w1 at *
            clear hc hn0
            go_wp2
            go_ret
            exact ⟨by rw [HF.out]; rfl, HB1.out⟩
          subst g3
          have HF : Hid (R = (eqL msgEq (x4.drop (j + 1)) (y4.drop (j + 1)) && S)) := by show _ = _; rw [HT.out]; simp [msgEq]
          clear HT
          go_wp2
          refine wp_region_ext (by kernel_rfl) (by kernel_rfl) ?_
          repeat (go_big_quiet_step (fail))
          refine wpQuiet_nil ?_
          rintro w1 ⟨u1, rfl⟩
          have HB1 := hide (HBj.out.trans (u1.ok.mono HBj.out.size))
          generalize u1.w = w1 at *
          clear hc hn0
          go_wp2
          go_roundw
          case rel => exact ⟨j + 1, by go_num, by omega, HB1.out, HF.out⟩
          case measure => simp [intOf]; omega
        · have hjz : ¬ (j : Int) < (lm : Int) := by omega
          have HF : Hid (R = S) := by show _ = _; rw [HRj.out, List.drop_eq_nil_of_le (by rw [hlm.out]; omega), List.drop_eq_nil_of_le (by rw [hln.out]; omega)]; rfl
          have HBn := hide (HBq.out.trans (HBj.out.mono HBq.out.size))
          go_wp2
          go_roundw
          case rel => exact ⟨k + 1, by go_num, by omega, HBn.out, by show _ = _; rw [HF.out, hS.out]⟩
          case measure => simp [intOf]; omega
    · have hltz : ¬ (k : Int) < (nb : Int) := by omega
      have HR1 : Hid (R = (eqL sbEq xs ys && eqL itEq xq yq)) := by show _ = _; rw [HR.out, List.drop_eq_nil_of_le (by rw [hnb.out]; omega), List.drop_eq_nil_of_le (by rw [hmb.out]; omega)]; rfl
      clear HR hX1 hY1
      have z1 := HK0r.out.cell 1
      simp only [List.getElem?_toArray, List.getElem?_cons_zero, List.getElem?_cons_succ] at z1
      go_wp2
      clear z1 HK0r HK1r
      obtain ⟨W1, HW1⟩ : ∃ W1, Hid (wr = W1) := ⟨_, hide rfl⟩
      rw [HW1.out] at HBr ⊢
      clear HW1
      go_loopw [122] (fun v122 wq => ∃ j : Nat, v122 = .int .i64 j ∧ j ≤ ns ∧ Hid (Below W0.heap.size W0 wq) ∧ Hid (R = (eqL sbEq (xs.drop j) (ys.drop j) && eqL itEq xq yq))) (fun v122 _ => ns - (intOf v122).toNat)
      case atStart => exact ⟨0, rfl, Nat.zero_le _, HBr.out, HR1.out⟩
      case round =>
        obtain ⟨j, rfl, hj, HBj, HRj⟩ := hrel
        clear HR1 HBr
        have HBr := hide (HB0.out.trans (HBj.out.mono HB0.out.size))
        have HK0r := hide (HK0.out.below HBj.out HK0.out.lt)
        have HK1r := hide (HK1.out.below HBj.out HK1.out.lt)
        by_cases hjl : j < ns
        · have hjz : (j : Int) < (ns : Int) := by omega
          have hx : j < xs.length := by rw [hns.out]; exact hjl
          have hy : j < ys.length := by rw [hms.out]; exact hjl
          obtain ⟨g2, o2, eA, hg2, p0, p1⟩ := (hX2.out.below stb_sb HBj.out).at hx
          obtain ⟨g2', o2', eA', hg2', s0, s1⟩ := (hY2.out.below stb_sb HBj.out).at hy
          subst eA
          subst eA'
          have HT : Hid (R = (sbEq xs[j] ys[j] && (eqL sbEq (xs.drop (j + 1)) (ys.drop (j + 1)) && eqL itEq xq yq))) := by show _ = _; rw [HRj.out, eqL_drop sbEq xs ys j hx hy, Bool.and_assoc]
          generalize xs[j] = a at *
          generalize ys[j] = b at *
          have r0 : wr.cell? ⟨g2, o2 + j * 2, none⟩ = some (.int .i64 a.user) := p0
          have r1 : wr.cell? ⟨g2, o2 + j * 2 + 1, none⟩ = some (.string ⟨a.name.toArray⟩) := p1
          have t0 : wr.cell? ⟨g2', o2' + j * 2, none⟩ = some (.int .i64 b.user) := s0
          have t1 : wr.cell? ⟨g2', o2' + j * 2 + 1, none⟩ = some (.string ⟨b.name.toArray⟩) := s1
          clear p0 p1 s0 s1 hx hy
          obtain ⟨a0, a1⟩ := a
          obtain ⟨b0, b1⟩ := b
          dsimp only at *
          have z4 := HK0r.out.cell 1
          have z5 := HK1r.out.cell 1
          have zl4 := HK0r.out.lt
          have zl5 := HK1r.out.lt
          simp only [List.getElem?_toArray, List.getElem?_cons_zero, List.getElem?_cons_succ] at z4 z5
          have hn0 := ext_some wr
          have hc := ext_cell wr
          by_cases g0 : a0 = b0
          case neg =>
            have HF : Hid (R = false) := by show _ = _; rw [HT.out]; simp [sbEq, g0]
            have gb : (a0 == b0) = false := beq_eq_false_iff_ne.2 g0
            go_wp2
            refine wp_region_ext (by kernel_rfl) (by kernel_rfl) ?_
            repeat (go_big_quiet_step (fail))
            refine wpQuiet_nil ?_
            rintro w1 ⟨u1, rfl⟩
            have HB1 := hide (HBr.out.trans (u1.ok.mono HBr.out.size))
            generalize u1.w = w1 at *
            clear hc hn0
            go_wp2
            go_ret
            exact ⟨by rw [HF.out]; rfl, HB1.out⟩
          subst g0
          by_cases g1 : a1 = b1
          case neg =>
            have HF : Hid (R = false) := by show _ = _; rw [HT.out]; simp [sbEq, g1]
            have gb : (a1 == b1) = false := beq_eq_false_iff_ne.2 g1
            go_wp2
            refine wp_region_ext (by kernel_rfl) (by kernel_rfl) ?_
            repeat (go_big_quiet_step (fail))
            refine wpQuiet_nil ?_
            rintro w1 ⟨u1, rfl⟩
            have HB1 := hide (HBr.out.trans (u1.ok.mono HBr.out.size))
            generalize u1.w = w1 at *
            clear hc hn0
            go_wp2
            go_ret
            exact ⟨by rw [HF.out]; rfl, HB1.out⟩
          subst g1
          have HF : Hid (R = (eqL sbEq (xs.drop (j + 1)) (ys.drop (j + 1)) && eqL itEq xq yq)) := by show _ = _; rw [HT.out]; simp [sbEq]
          clear HT
          go_wp2
          refine wp_region_ext (by kernel_rfl) (by kernel_rfl) ?_
          repeat (go_big_quiet_step (fail))
          refine wpQuiet_nil ?_
          rintro w1 ⟨u1, rfl⟩
          have HB1 := hide (HBj.out.trans (u1.ok.mono HBj.out.size))
          generalize u1.w = w1 at *
          clear hc hn0
          go_wp2
          go_roundw
          case rel => exact ⟨j + 1, by go_num, by omega, HB1.out, HF.out⟩
          case measure => simp [intOf]; omega
        · have hjz : ¬ (j : Int) < (ns : Int) := by omega
          have HR2 : Hid (R = eqL itEq xq yq) := by show _ = _; rw [HRj.out, List.drop_eq_nil_of_le (by rw [hns.out]; omega), List.drop_eq_nil_of_le (by rw [hms.out]; omega)]; rfl
          clear HRj hX2 hY2 HBr
          have z1 := HK0r.out.cell 2
          simp only [List.getElem?_toArray, List.getElem?_cons_zero, List.getElem?_cons_succ] at z1
          go_wp2
          clear z1 HK0r HK1r
          obtain ⟨W2, HW2⟩ : ∃ W2, Hid (wr = W2) := ⟨_, hide rfl⟩
          rw [HW2.out] at HBj ⊢
          clear HW2
          go_loopw [140] (fun v140 wq => ∃ i : Nat, v140 = .int .i64 i ∧ i ≤ nq ∧ Hid (Below W0.heap.size W0 wq) ∧ Hid (R = eqL itEq (xq.drop i) (yq.drop i))) (fun v140 _ => nq - (intOf v140).toNat)
          case atStart => exact ⟨0, rfl, Nat.zero_le _, HBj.out, HR2.out⟩
          case round =>
            obtain ⟨i, rfl, hi, HBi, HRi⟩ := hrel
            clear HR2 HBj
            have HBf := hide (HB0.out.trans (HBi.out.mono HB0.out.size))
            have HK1r := hide (HK1.out.below HBi.out HK1.out.lt)
            by_cases hil : i < nq
            · have hiz : (i : Int) < (nq : Int) := by omega
              have hx : i < xq.length := by rw [hnq.out]; exact hil
              have hy : i < yq.length := by rw [hmq.out]; exact hil
              obtain ⟨g, o, eA, hg, p0, p1, ⟨fv, p2, hf⟩, p3, p4, p5, p6⟩ := (hX3.out.below stb_it HBi.out).at hx
              obtain ⟨g', o', eA', hg', s0, s1, ⟨fv', s2, hf'⟩, s3, s4, s5, s6⟩ := (hY3.out.below stb_it HBi.out).at hy
              subst eA
              subst eA'
              have HT : Hid (R = (itEq xq[i] yq[i] && eqL itEq (xq.drop (i + 1)) (yq.drop (i + 1)))) := by show _ = _; rw [HRi.out, eqL_drop itEq xq yq i hx hy]
              have hbf := HQd.out _ (List.getElem_mem hx)
              generalize xq[i] = x at *
              generalize yq[i] = y at *
              have r0 : wr.cell? ⟨g, o + i * 7, none⟩ = some (.int .i64 x.id) := p0
              have r1 : wr.cell? ⟨g, o + i * 7 + 1, none⟩ = some (.string ⟨x.frm.toArray⟩) := p1
              have r3 : wr.cell? ⟨g, o + i * 7 + 3, none⟩ = some (.int .i64 x.born) := p3
              have r4 : wr.cell? ⟨g, o + i * 7 + 4, none⟩ = some (.int .i64 x.tries) := p4
              have r5 : wr.cell? ⟨g, o + i * 7 + 5, none⟩ = some (.int .i64 x.due) := p5
              have r6 : wr.cell? ⟨g, o + i * 7 + 6, none⟩ = some (.string ⟨x.body.toArray⟩) := p6
              clear p0 p1 p3 p4 p5 p6 hx hy
              obtain ⟨x0, x1, x2, x3, x4, x5, x6⟩ := x
              obtain ⟨y0, y1, y2, y3, y4, y5, y6⟩ := y
              dsimp only at *
              obtain ⟨Af, cf, rfl⟩ := hf.form
              obtain ⟨Bf, df, rfl⟩ := hf'.form
              have HFx := hide hf
              have HFy := hide hf'
              clear hf hf'
              obtain ⟨lf, hlf⟩ : ∃ lf, Hid (x2.length = lf) := ⟨_, hide rfl⟩
              obtain ⟨lg, hlg⟩ : ∃ lg, Hid (y2.length = lg) := ⟨_, hide rfl⟩
              rw [hlf.out] at p2
              rw [hlg.out] at s2
              have AL : Below wr.heap.size wr (wr.alloc (.cells #[.int .i64 x0, .string ⟨x1.toArray⟩, .slice Af lf cf, .int .i64 x3, .int .i64 x4, .int .i64 x5, .string ⟨x6.toArray⟩] 62)) := (Below.refl wr.heap.size wr).alloc (Nat.le_refl _) _
              have t0 : (wr.alloc (.cells #[.int .i64 x0, .string ⟨x1.toArray⟩, .slice Af lf cf, .int .i64 x3, .int .i64 x4, .int .i64 x5, .string ⟨x6.toArray⟩] 62)).cell? ⟨g', o' + i * 7, none⟩ = some (.int .i64 y0) := cell_belowP AL hg' s0
              have t1 : (wr.alloc (.cells #[.int .i64 x0, .string ⟨x1.toArray⟩, .slice Af lf cf, .int .i64 x3, .int .i64 x4, .int .i64 x5, .string ⟨x6.toArray⟩] 62)).cell? ⟨g', o' + i * 7 + 1, none⟩ = some (.string ⟨y1.toArray⟩) := cell_belowP AL hg' s1
              have t2 : (wr.alloc (.cells #[.int .i64 x0, .string ⟨x1.toArray⟩, .slice Af lf cf, .int .i64 x3, .int .i64 x4, .int .i64 x5, .string ⟨x6.toArray⟩] 62)).cell? ⟨g', o' + i * 7 + 2, none⟩ = some (.slice Bf lg df) := cell_belowP AL hg' s2
              have t3 : (wr.alloc (.cells #[.int .i64 x0, .string ⟨x1.toArray⟩, .slice Af lf cf, .int .i64 x3, .int .i64 x4, .int .i64 x5, .string ⟨x6.toArray⟩] 62)).cell? ⟨g', o' + i * 7 + 3, none⟩ = some (.int .i64 y3) := cell_belowP AL hg' s3
              have t4 : (wr.alloc (.cells #[.int .i64 x0, .string ⟨x1.toArray⟩, .slice Af lf cf, .int .i64 x3, .int .i64 x4, .int .i64 x5, .string ⟨x6.toArray⟩] 62)).cell? ⟨g', o' + i * 7 + 4, none⟩ = some (.int .i64 y4) := cell_belowP AL hg' s4
              have t5 : (wr.alloc (.cells #[.int .i64 x0, .string ⟨x1.toArray⟩, .slice Af lf cf, .int .i64 x3, .int .i64 x4, .int .i64 x5, .string ⟨x6.toArray⟩] 62)).cell? ⟨g', o' + i * 7 + 5, none⟩ = some (.int .i64 y5) := cell_belowP AL hg' s5
              have t6 : (wr.alloc (.cells #[.int .i64 x0, .string ⟨x1.toArray⟩, .slice Af lf cf, .int .i64 x3, .int .i64 x4, .int .i64 x5, .string ⟨x6.toArray⟩] 62)).cell? ⟨g', o' + i * 7 + 6, none⟩ = some (.string ⟨y6.toArray⟩) := cell_belowP AL hg' s6
              have t7 := (HK1r.out.alloc (.cells #[.int .i64 x0, .string ⟨x1.toArray⟩, .slice Af lf cf, .int .i64 x3, .int .i64 x4, .int .i64 x5, .string ⟨x6.toArray⟩] 62)).cell 2
              simp only [List.getElem?_toArray, List.getElem?_cons_zero, List.getElem?_cons_succ] at t7
              clear s0 s1 s2 s3 s4 s5 s6 AL
              have HBq : Hid (Below W0.heap.size W0 ((wr.alloc (.cells #[.int .i64 x0, .string ⟨x1.toArray⟩, .slice Af lf cf, .int .i64 x3, .int .i64 x4, .int .i64 x5, .string ⟨x6.toArray⟩] 62)).alloc (.cells #[.int .i64 y0, .string ⟨y1.toArray⟩, .slice Bf lg df, .int .i64 y3, .int .i64 y4, .int .i64 y5, .string ⟨y6.toArray⟩] 62))) := (HBi.out.alloc HBi.out.size _).alloc (by have := HBi.out.size; simp; omega) _
              have HBm : Hid (Below wr.heap.size wr ((wr.alloc (.cells #[.int .i64 x0, .string ⟨x1.toArray⟩, .slice Af lf cf, .int .i64 x3, .int .i64 x4, .int .i64 x5, .string ⟨x6.toArray⟩] 62)).alloc (.cells #[.int .i64 y0, .string ⟨y1.toArray⟩, .slice Bf lg df, .int .i64 y3, .int .i64 y4, .int .i64 y5, .string ⟨y6.toArray⟩] 62))) := ((Below.refl wr.heap.size wr).alloc (Nat.le_refl _) _).alloc (by simp) _
              have HKX : Hid (Blk ((wr.alloc (.cells #[.int .i64 x0, .string ⟨x1.toArray⟩, .slice Af lf cf, .int .i64 x3, .int .i64 x4, .int .i64 x5, .string ⟨x6.toArray⟩] 62)).alloc (.cells #[.int .i64 y0, .string ⟨y1.toArray⟩, .slice Bf lg df, .int .i64 y3, .int .i64 y4, .int .i64 y5, .string ⟨y6.toArray⟩] 62)) wr.heap.size #[.int .i64 x0, .string ⟨x1.toArray⟩, .slice Af lf cf, .int .i64 x3, .int .i64 x4, .int .i64 x5, .string ⟨x6.toArray⟩] 62) := (Blk.new wr _ _).alloc _
              have HKY : Hid (Blk ((wr.alloc (.cells #[.int .i64 x0, .string ⟨x1.toArray⟩, .slice Af lf cf, .int .i64 x3, .int .i64 x4, .int .i64 x5, .string ⟨x6.toArray⟩] 62)).alloc (.cells #[.int .i64 y0, .string ⟨y1.toArray⟩, .slice Bf lg df, .int .i64 y3, .int .i64 y4, .int .i64 y5, .string ⟨y6.toArray⟩] 62)) (wr.heap.size + 1) #[.int .i64 y0, .string ⟨y1.toArray⟩, .slice Bf lg df, .int .i64 y3, .int .i64 y4, .int .i64 y5, .string ⟨y6.toArray⟩] 62) := Blk.new1 wr _ _ _
              obtain ⟨T2, hT2⟩ : ∃ T2, Hid (T2 = eqL inEq x2 y2) := ⟨_, hide rfl⟩
              have HSI : Hid (∀ W, Below wr.heap.size wr W → Calls Tryz.prog 21 #[.slice Af lf cf, .slice Bf lg df] W fun e w' => e = .returned (.bool T2) ∧ Below W.heap.size W w') := fun W hW => by
                have := rsameInts15_any (HFx.out.below stb_int hW) (HFy.out.below stb_int hW) hbf
                rwa [hlf.out, hlg.out, ← hT2.out] at this
              clear HFx HFy
              have zX0 := HKX.out.cell 0
              have zX1 := HKX.out.cell 1
              have zX2 := HKX.out.cell 2
              have zX3 := HKX.out.cell 3
              have zX4 := HKX.out.cell 4
              have zX5 := HKX.out.cell 5
              have zX6 := HKX.out.cell 6
              have zY0 := HKY.out.cell 0
              have zY1 := HKY.out.cell 1
              have zY2 := HKY.out.cell 2
              have zY3 := HKY.out.cell 3
              have zY4 := HKY.out.cell 4
              have zY5 := HKY.out.cell 5
              have zY6 := HKY.out.cell 6
              simp only [List.getElem?_toArray, List.getElem?_cons_zero, List.getElem?_cons_succ] at zX0 zX1 zX2 zX3 zX4 zX5 zX6 zY0 zY1 zY2 zY3 zY4 zY5 zY6
              by_cases g0 : x0 = y0
              case neg =>
                have HF : Hid (R = false) := by show _ = _; rw [HT.out]; simp [itEq, g0]
                have gb : (x0 == y0) = false := beq_eq_false_iff_ne.2 g0
                go_wp2
                go_ret
                exact ⟨by rw [HF.out]; rfl, HB0.out.trans (HBq.out.mono HB0.out.size)⟩
              subst g0
              by_cases g1 : x1 = y1
              case neg =>
                have HF : Hid (R = false) := by show _ = _; rw [HT.out]; simp [itEq, g1]
                have gb : (x1 == y1) = false := beq_eq_false_iff_ne.2 g1
                go_wp2
                go_ret
                exact ⟨by rw [HF.out]; rfl, HB0.out.trans (HBq.out.mono HB0.out.size)⟩
              subst g1
              by_cases g2 : T2 = true
              case neg =>
                have HF : Hid (R = false) := by show _ = _; rw [HT.out]; unfold itEq; rw [← hT2.out, Bool.eq_false_iff.2 g2]; simp
                have gb : T2 = false := by simpa using g2
                subst gb
                go_wp2_with (go_at_call 21; refine (HSI.out _ HBm.out).mono ?_; rintro e w5 ⟨rfl, hb5⟩; have kx := HKX.out.below hb5 HKX.out.lt; have ky := HKY.out.below hb5 HKY.out.lt; have vx3 := kx.cell 3; have vx4 := kx.cell 4; have vx5 := kx.cell 5; have vx6 := kx.cell 6; have vy3 := ky.cell 3; have vy4 := ky.cell 4; have vy5 := ky.cell 5; have vy6 := ky.cell 6; simp only [List.getElem?_toArray, List.getElem?_cons_zero, List.getElem?_cons_succ] at vx3 vx4 vx5 vx6 vy3 vy4 vy5 vy6; replace HBq := hide (HBq.out.trans (hb5.mono HBq.out.size)); clear kx ky hb5)
                go_ret
                exact ⟨by rw [HF.out]; rfl, HB0.out.trans (HBq.out.mono HB0.out.size)⟩
              subst g2
              by_cases g3 : x3 = y3
              case neg =>
                have HF : Hid (R = false) := by show _ = _; rw [HT.out]; simp [itEq, g3]
                have gb : (x3 == y3) = false := beq_eq_false_iff_ne.2 g3
                go_wp2_with (go_at_call 21; refine (HSI.out _ HBm.out).mono ?_; rintro e w5 ⟨rfl, hb5⟩; have kx := HKX.out.below hb5 HKX.out.lt; have ky := HKY.out.below hb5 HKY.out.lt; have vx3 := kx.cell 3; have vx4 := kx.cell 4; have vx5 := kx.cell 5; have vx6 := kx.cell 6; have vy3 := ky.cell 3; have vy4 := ky.cell 4; have vy5 := ky.cell 5; have vy6 := ky.cell 6; simp only [List.getElem?_toArray, List.getElem?_cons_zero, List.getElem?_cons_succ] at vx3 vx4 vx5 vx6 vy3 vy4 vy5 vy6; replace HBq := hide (HBq.out.trans (hb5.mono HBq.out.size)); clear kx ky hb5)
                go_ret
                exact ⟨by rw [HF.out]; rfl, HB0.out.trans (HBq.out.mono HB0.out.size)⟩
              subst g3
              by_cases g4 : x4 = y4
              case neg =>
                have HF : Hid (R = false) := by show _ = _; rw [HT.out]; simp [itEq, g4]
                have gb : (x4 == y4) = false := beq_eq_false_iff_ne.2 g4
                go_wp2_with (go_at_call 21; refine (HSI.out _ HBm.out).mono ?_; rintro e w5 ⟨rfl, hb5⟩; have kx := HKX.out.below hb5 HKX.out.lt; have ky := HKY.out.below hb5 HKY.out.lt; have vx3 := kx.cell 3; have vx4 := kx.cell 4; have vx5 := kx.cell 5; have vx6 := kx.cell 6; have vy3 := ky.cell 3; have vy4 := ky.cell 4; have vy5 := ky.cell 5; have vy6 := ky.cell 6; simp only [List.getElem?_toArray, List.getElem?_cons_zero, List.getElem?_cons_succ] at vx3 vx4 vx5 vx6 vy3 vy4 vy5 vy6; replace HBq := hide (HBq.out.trans (hb5.mono HBq.out.size)); clear kx ky hb5)
                go_ret
                exact ⟨by rw [HF.out]; rfl, HB0.out.trans (HBq.out.mono HB0.out.size)⟩
              subst g4
              by_cases g5 : x5 = y5
              case neg =>
                have HF : Hid (R = false) := by show _ = _; rw [HT.out]; simp [itEq, g5]
                have gb : (x5 == y5) = false := beq_eq_false_iff_ne.2 g5
                go_wp2_with (go_at_call 21; refine (HSI.out _ HBm.out).mono ?_; rintro e w5 ⟨rfl, hb5⟩; have kx := HKX.out.below hb5 HKX.out.lt; have ky := HKY.out.below hb5 HKY.out.lt; have vx3 := kx.cell 3; have vx4 := kx.cell 4; have vx5 := kx.cell 5; have vx6 := kx.cell 6; have vy3 := ky.cell 3; have vy4 := ky.cell 4; have vy5 := ky.cell 5; have vy6 := ky.cell 6; simp only [List.getElem?_toArray, List.getElem?_cons_zero, List.getElem?_cons_succ] at vx3 vx4 vx5 vx6 vy3 vy4 vy5 vy6; replace HBq := hide (HBq.out.trans (hb5.mono HBq.out.size)); clear kx ky hb5)
                go_ret
                exact ⟨by rw [HF.out]; rfl, HB0.out.trans (HBq.out.mono HB0.out.size)⟩
              subst g5
              by_cases g6 : x6 = y6
              case neg =>
                have HF : Hid (R = false) := by show _ = _; rw [HT.out]; simp [itEq, g6]
                have gb : (x6 == y6) = false := beq_eq_false_iff_ne.2 g6
                go_wp2_with (go_at_call 21; refine (HSI.out _ HBm.out).mono ?_; rintro e w5 ⟨rfl, hb5⟩; have kx := HKX.out.below hb5 HKX.out.lt; have ky := HKY.out.below hb5 HKY.out.lt; have vx3 := kx.cell 3; have vx4 := kx.cell 4; have vx5 := kx.cell 5; have vx6 := kx.cell 6; have vy3 := ky.cell 3; have vy4 := ky.cell 4; have vy5 := ky.cell 5; have vy6 := ky.cell 6; simp only [List.getElem?_toArray, List.getElem?_cons_zero, List.getElem?_cons_succ] at vx3 vx4 vx5 vx6 vy3 vy4 vy5 vy6; replace HBq := hide (HBq.out.trans (hb5.mono HBq.out.size)); clear kx ky hb5)
                go_ret
                exact ⟨by rw [HF.out]; rfl, HB0.out.trans (HBq.out.mono HB0.out.size)⟩
              subst g6
              have HF : Hid (R = eqL itEq (xq.drop (i + 1)) (yq.drop (i + 1))) := by
                show _ = _
                rw [HT.out]
                unfold itEq
                rw [← hT2.out]
                simp
              clear HT
              go_wp2_with (go_at_call 21; refine (HSI.out _ HBm.out).mono ?_; rintro e w5 ⟨rfl, hb5⟩; have kx := HKX.out.below hb5 HKX.out.lt; have ky := HKY.out.below hb5 HKY.out.lt; have vx3 := kx.cell 3; have vx4 := kx.cell 4; have vx5 := kx.cell 5; have vx6 := kx.cell 6; have vy3 := ky.cell 3; have vy4 := ky.cell 4; have vy5 := ky.cell 5; have vy6 := ky.cell 6; simp only [List.getElem?_toArray, List.getElem?_cons_zero, List.getElem?_cons_succ] at vx3 vx4 vx5 vx6 vy3 vy4 vy5 vy6; replace HBq := hide (HBq.out.trans (hb5.mono HBq.out.size)); clear kx ky hb5)
              go_roundw
              case rel => exact ⟨i + 1, by go_num, by omega, HBq.out, HF.out⟩
              case measure => simp [intOf]; omega
            · have hiz : ¬ (i : Int) < (nq : Int) := by omega
              have HF : Hid (R = true) := by show _ = _; rw [HRi.out, List.drop_eq_nil_of_le (by rw [hnq.out]; omega), List.drop_eq_nil_of_le (by rw [hmq.out]; omega)]; rfl
              go_wp2
              go_ret
              exact ⟨by rw [HF.out]; rfl, HBf.out⟩
end Go.Proofs.YtbfdbbpkpjgamaaGreatDoor
