/- The document's Same of layer 15, and SameInts. -/
import Derived.Test.YtdbmaobjikjifaaGreatDoorRU42
import Derived.Test.YtdbmaobjikjifaaGreatDoorRU06
import Derived.Test.YtdbmaobjikjifaaGreatDoorRU04
set_option linter.unusedVariables false
set_option linter.unusedSimpArgs false
namespace Go.Proofs.YtdbmaobjikjifaaGreatDoorR
open Go.RowKit Go.Shelf
set_option maxRecDepth 20000 in
set_option maxHeartbeats 4000000 in
theorem rsameInts15_any {u v : Value} {xs ys : List Int} {w : World} (hx : RdE 1 IntAt w u xs) (hy : RdE 1 IntAt w v ys) (hl : xs.length ≤ 1000000) :
    Calls Tryz.prog 10 #[u, v] w fun e w' => e = .returned (.bool (eqL inEq xs ys)) ∧ Below w.heap.size w w' := by
  obtain ⟨A, c, rfl⟩ := hx.form
  obtain ⟨A', c', rfl⟩ := hy.form
  have HX := hide hx
  have HY := hide hy
  clear hx hy
  obtain ⟨R, hR⟩ : ∃ R, Hid (R = eqL inEq xs ys) := ⟨_, hide rfl⟩
  rw [← hR.out]
  obtain ⟨n, hn⟩ : ∃ n, Hid (xs.length = n) := ⟨_, hide rfl⟩
  obtain ⟨m, hm⟩ : ∃ m, Hid (ys.length = m) := ⟨_, hide rfl⟩
  rw [hn.out, hm.out]
  rw [hn.out] at hl
  by_cases g : n = m
  case neg =>
    have HF : Hid (R = false) := by show _ = _; rw [hR.out]; exact eqL_len inEq xs ys (by rw [hn.out, hm.out]; exact g)
    have gz : ¬ (n : Int) = (m : Int) := by omega
    go_enter Tryz.func10, Tryz.ntmps10
    go_wp2
    go_ret
    exact ⟨by rw [HF.out]; rfl, Below.refl _ _⟩
  subst g
  go_enter Tryz.func10, Tryz.ntmps10
  go_wp2
  go_loopw [13] (fun u wr => ∃ k : Nat, u = .int .i64 k ∧ k ≤ n ∧ Hid (Below w.heap.size w wr) ∧ Hid (R = eqL inEq (xs.drop k) (ys.drop k))) (fun u _ => n - (intOf u).toNat)
  case atStart => exact ⟨0, rfl, Nat.zero_le _, Below.refl _ _, hR.out⟩
  case round =>
    obtain ⟨k, rfl, hk, HBr, HR⟩ := hrel
    by_cases hlt : k < n
    · have hltz : (k : Int) < (n : Int) := by omega
      have hx : k < xs.length := by rw [hn.out]; exact hlt
      have hy : k < ys.length := by rw [hm.out]; exact hlt
      obtain ⟨g, o, eA, hg, p0⟩ := (HX.out.below stb_int HBr.out).at hx
      obtain ⟨g', o', eA', hg', p0'⟩ := (HY.out.below stb_int HBr.out).at hy
      subst eA
      subst eA'
      have q0 : wr.cell? ⟨g, o + k * 1, none⟩ = some (.int .i64 xs[k]) := p0
      have q1 : wr.cell? ⟨g', o' + k * 1, none⟩ = some (.int .i64 ys[k]) := p0'
      rw [Nat.mul_one] at q0 q1
      have HT : Hid (inEq xs[k] ys[k] = true → R = eqL inEq (xs.drop (k + 1)) (ys.drop (k + 1))) := fun e => by rw [HR.out, eqL_drop inEq xs ys k hx hy, e, Bool.true_and]
      have HN : Hid (inEq xs[k] ys[k] = false → R = false) := fun e => by rw [HR.out, eqL_drop inEq xs ys k hx hy, e, Bool.false_and]
      clear p0 p0'
      generalize xs[k] = x at *
      generalize ys[k] = y at *
      clear hx hy
      have hn0 := ext_some wr
      have hc := ext_cell wr
      by_cases e : x = y
      · subst e
        have HF := hide (HT.out (by simp [inEq]))
        clear HT HN
        go_wp2
        refine wp_region_ext (by kernel_rfl) (by kernel_rfl) ?_
        repeat (go_big_quiet_step (fail))
        refine wpQuiet_nil ?_
        rintro w1 ⟨u1, rfl⟩
        have HB1 := hide (HBr.out.trans (u1.ok.mono HBr.out.size))
        generalize u1.w = w1 at *
        clear hc hn0
        go_wp2
        go_roundw
        case rel => exact ⟨k + 1, by go_num, by omega, HB1.out, HF.out⟩
        case measure => simp [intOf]; omega
      · have HF := hide (HN.out (by simp [inEq, e]))
        have hbq : (x == y) = false := beq_eq_false_iff_ne.2 e
        clear HT HN
        go_wp2
        refine wp_region_ext (by kernel_rfl) (by kernel_rfl) ?_
        repeat (go_big_quiet_step (fail))
        refine wpQuiet_nil ?_
        rintro w1 ⟨u1, rfl⟩
        have HB1 := hide (HBr.out.trans (u1.ok.mono HBr.out.size))
        generalize u1.w = w1 at *
        clear hc hn0
        go_wp2
        go_ret
        exact ⟨by rw [HF.out]; rfl, HB1.out⟩
    · have hltz : ¬ (k : Int) < (n : Int) := by omega
      have HF : Hid (R = true) := by show _ = _; rw [HR.out, List.drop_eq_nil_of_le (by rw [hn.out]; omega), List.drop_eq_nil_of_le (by rw [hm.out]; omega)]; rfl
      go_wp2
      go_ret
      exact ⟨by rw [HF.out]; rfl, HBr.out⟩
end Go.Proofs.YtdbmaobjikjifaaGreatDoorR
