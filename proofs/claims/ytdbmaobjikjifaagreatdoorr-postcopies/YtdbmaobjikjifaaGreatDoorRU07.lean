/- Package post: whether all of a list are so, whether they rise, where the first one is that is so (of Box). -/
/- Package post: whether all of a list are so, whether they rise, where the first one is that is so (of Sub). -/
/- Package post: whether all of a list are so, whether they rise, where the first one is that is so (of Item). -/
import Derived.Test.YtdbmaobjikjifaaGreatDoorRU06
section
set_option linter.unusedVariables false
set_option linter.unusedSimpArgs false
namespace Go.Proofs.YtdbmaobjikjifaaGreatDoorR
open Go.RowKit

set_option maxRecDepth 20000 in
set_option maxHeartbeats 2000000 in
theorem pallBox_any {xs : List Bx} {v : Value} {w : World} (h : RdE 5 BxAt w v xs) (hl : xs.length ≤ 1000000) (p : Bx → Bool) (F : Nat) (fi ca : Array Value) (eg : ∀ args w, (callFunc F args).run Tryz.prog w = .ok (.enter F args) w)
    (hp : ∀ i (hi : i < xs.length) v W, Below w.heap.size w W → BxV W v xs[i] → Calls Tryz.prog F (fi ++ #[v] ++ ca) W fun e w' => e = .returned (.bool (p xs[i])) ∧ Below W.heap.size W w') :
    Calls Tryz.prog 31 #[v, .func (.func F) fi ca] w fun e w' => e = .returned (.bool (xs.all p)) ∧ Below w.heap.size w w' := by
  have HO := hide h
  obtain ⟨A, c, rfl⟩ := h.form
  clear h
  replace hp := hide hp
  obtain ⟨R, hR⟩ : ∃ R, Hid (R = xs.all p) := ⟨_, hide rfl⟩
  rw [← hR.out]
  go_enter Tryz.func31, Tryz.ntmps31
  go_wp2
  go_loopw [6, 9] (fun _ u wr => ∃ k : Nat, k ≤ xs.length ∧ u = .int .i64 k ∧ Hid (Below w.heap.size w wr) ∧ Hid (R = (xs.drop k).all p)) (fun _ u _ => xs.length - (intOf u).toNat)
  case atStart => exact ⟨0, Nat.zero_le _, rfl, Below.refl _ _, hR.out⟩
  case round =>
    obtain ⟨k, hkl, rfl, hB, hA⟩ := hrel
    by_cases hlt : k < xs.length
    · have hltz : (k : Int) < (xs.length : Int) := by omega
      obtain ⟨g, o, rfl, hgl, q0, q1, q2, q3, mv, q4, qm⟩ := (HO.out.below stb_bx hB.out).at hlt
      have p0 : wr.cell? ⟨g, o + (k) * 5, none⟩ = some (.int .i64 (xs[k]).user) := q0
      have p1 : wr.cell? ⟨g, o + (k) * 5 + 1, none⟩ = some (.string ⟨(xs[k]).name.toArray⟩) := q1
      have p2 : wr.cell? ⟨g, o + (k) * 5 + 2, none⟩ = some (.int .i64 (xs[k]).valid) := q2
      have p3 : wr.cell? ⟨g, o + (k) * 5 + 3, none⟩ = some (.int .i64 (xs[k]).next) := q3
      have p4 : wr.cell? ⟨g, o + (k) * 5 + 4, none⟩ = some (mv) := q4
      have HC := hide (hp.out k hlt)
      have HD := hide (all_dropP p xs k hlt)
      clear q0 q1 q2 q3 q4
      generalize xs[k] = x at *
      obtain ⟨Am, cm, rfl⟩ := qm.form
      have HC0 := hide (HC.out (.agg #[.int .i64 x.user, .string ⟨x.name.toArray⟩, .int .i64 x.valid, .int .i64 x.next, .slice Am x.msgs.length cm]) (wr.alloc (.cells #[.int .i64 x.user, .string ⟨x.name.toArray⟩, .int .i64 x.valid, .int .i64 x.next, .slice Am x.msgs.length cm] 45)) (hB.out.alloc hB.out.size _) (⟨_, rfl, (qm.below stb_msg ((Below.refl _ _).alloc (Nat.le_refl _) _))⟩))
      clear HC
      cases hq : p x with
      | true =>
        rw [hq] at HC0
        go_wp2_with (go_at_fn F; refine HC0.out.mono ?_; rintro e w' ⟨rfl, hb'⟩; replace hb' := hide hb')
        go_roundw
        case rel =>
          refine ⟨k + 1, by omega, by go_num, hB.out.trans ((((Below.refl _ _).alloc (Nat.le_refl _) _).trans (hb'.out.mono (by simp))).mono hB.out.size), ?_⟩
          show _ = _
          rw [hA.out, HD.out, hq]
          rfl
        case measure => simp [intOf]; omega
      | false =>
        rw [hq] at HC0
        have HF : Hid (R = false) := by show _ = _; rw [hA.out, HD.out, hq]; rfl
        go_wp2_with (go_at_fn F; refine HC0.out.mono ?_; rintro e w' ⟨rfl, hb'⟩; replace hb' := hide hb')
        go_ret
        exact ⟨by rw [HF.out]; rfl, hB.out.trans ((((Below.refl _ _).alloc (Nat.le_refl _) _).trans (hb'.out.mono (by simp))).mono hB.out.size)⟩
    · have hltz : ¬ (k : Int) < (xs.length : Int) := by omega
      have HF : Hid (R = true) := by show _ = _; rw [hA.out, List.drop_eq_nil_of_le (by omega)]; rfl
      go_wp2
      go_ret
      exact ⟨by rw [HF.out]; rfl, hB.out⟩

set_option maxRecDepth 20000 in
set_option maxHeartbeats 4000000 in
theorem prisesBox_any {xs : List Bx} {v : Value} {w : World} (h : RdE 5 BxAt w v xs) (hl : xs.length ≤ 1000000) (lt : Bx → Bx → Bool) (ρ : Bx → Bx → Int) (hρ : ∀ x y, decide (0 ≤ ρ x y) = !lt x y) (F : Nat) (eg : ∀ args w, (callFunc F args).run Tryz.prog w = .ok (.enter F args) w)
    (hp : ∀ x y u v W, BxV W u x → BxV W v y → Calls Tryz.prog F #[u, v] W fun e w' => e = .returned (.int .i64 (ρ x y)) ∧ Below W.heap.size W w') :
    Calls Tryz.prog 28 #[v, .func (.func F) #[] #[]] w fun e w' => e = .returned (.bool (risL lt xs)) ∧ Below w.heap.size w w' := by
  have HO := hide h
  obtain ⟨A, c, rfl⟩ := h.form
  clear h
  replace hp := hide hp
  replace hρ := hide hρ
  obtain ⟨R, hR⟩ : ∃ R, Hid (R = risL lt xs) := ⟨_, hide rfl⟩
  rw [← hR.out]
  go_enter Tryz.func28, Tryz.ntmps28
  go_wp2
  go_loopw [5] (fun u wr => ∃ k : Nat, (k = 0 ∨ k < xs.length) ∧ u = .int .i64 ((k : Int) + 1) ∧ Hid (Below w.heap.size w wr) ∧ Hid (R = risL lt (xs.drop k))) (fun u _ => xs.length + 1 - (intOf u).toNat)
  case atStart => exact ⟨0, .inl rfl, rfl, Below.refl _ _, hR.out⟩
  case round =>
    obtain ⟨k, hkl, rfl, hB, hA⟩ := hrel
    by_cases hlt : k + 1 < xs.length
    · have hltz : (k : Int) + 1 < (xs.length : Int) := by omega
      have HX0 := hide (HO.out.below stb_bx hB.out)
      obtain ⟨g, o, rfl, hgl, q0a, q1a, q2a, q3a, mva, q4a, qma⟩ := HX0.out.at (show k < xs.length by omega)
      obtain ⟨g', o', e', _, q0b, q1b, q2b, q3b, mvb, q4b, qmb⟩ := HX0.out.at hlt
      cases e'
      have p0a : wr.cell? ⟨g, o + (k) * 5, none⟩ = some (.int .i64 (xs[k]).user) := q0a
      have p1a : wr.cell? ⟨g, o + (k) * 5 + 1, none⟩ = some (.string ⟨(xs[k]).name.toArray⟩) := q1a
      have p2a : wr.cell? ⟨g, o + (k) * 5 + 2, none⟩ = some (.int .i64 (xs[k]).valid) := q2a
      have p3a : wr.cell? ⟨g, o + (k) * 5 + 3, none⟩ = some (.int .i64 (xs[k]).next) := q3a
      have p4a : wr.cell? ⟨g, o + (k) * 5 + 4, none⟩ = some (mva) := q4a
      have p0b : wr.cell? ⟨g, o + (k + 1) * 5, none⟩ = some (.int .i64 (xs[k + 1]).user) := q0b
      have p1b : wr.cell? ⟨g, o + (k + 1) * 5 + 1, none⟩ = some (.string ⟨(xs[k + 1]).name.toArray⟩) := q1b
      have p2b : wr.cell? ⟨g, o + (k + 1) * 5 + 2, none⟩ = some (.int .i64 (xs[k + 1]).valid) := q2b
      have p3b : wr.cell? ⟨g, o + (k + 1) * 5 + 3, none⟩ = some (.int .i64 (xs[k + 1]).next) := q3b
      have p4b : wr.cell? ⟨g, o + (k + 1) * 5 + 4, none⟩ = some (mvb) := q4b
      have HD := hide (risL_drop lt xs k hlt)
      clear q0a q0b q1a q1b q2a q2b q3a q3b q4a q4b
      generalize xs[k] = x at *
      generalize xs[k + 1] = y at *
      obtain ⟨Aa, ca, rfl⟩ := qma.form
      obtain ⟨Ab, cb, rfl⟩ := qmb.form
      have HC : Hid (∀ u : Ext wr, Calls Tryz.prog F #[.agg #[.int .i64 x.user, .string ⟨x.name.toArray⟩, .int .i64 x.valid, .int .i64 x.next, .slice Aa x.msgs.length ca], .agg #[.int .i64 y.user, .string ⟨y.name.toArray⟩, .int .i64 y.valid, .int .i64 y.next, .slice Ab y.msgs.length cb]] u.w fun e w' => e = .returned (.int .i64 (ρ x y)) ∧ Below u.w.heap.size u.w w') := fun u => hp.out x y _ _ u.w (⟨_, rfl, (qma.below stb_msg u.ok)⟩) (⟨_, rfl, (qmb.below stb_msg u.ok)⟩)
      have HQ := hide (hρ.out x y)
      have sub1 : IntKind.i64.wrap ((k : Int) + 1 - 1) = k := by rw [IntKind.wrap_i64]; omega
      have hn := ext_some wr
      have hc := ext_cell wr
      cases hq : lt x y with
      | true =>
        rw [hq] at HQ HD
        have hr0 : decide (0 ≤ ρ x y) = false := HQ.out
        generalize ρ x y = r at *
        go_wp2
        refine wp_region_ext (by kernel_rfl) (by kernel_rfl) ?_
        repeat (go_big_quiet_step ((go_at_fn F; exact ext_call (HC.out _))))
        refine wpQuiet_nil ?_
        rintro w1 ⟨u1, rfl⟩
        have HB1 := hide (hB.out.trans (u1.ok.mono hB.out.size))
        generalize u1.w = w1 at *
        go_wp2
        go_roundw
        case rel =>
          refine ⟨k + 1, .inr hlt, by go_num, HB1.out, ?_⟩
          show _ = _
          rw [hA.out, HD.out, Bool.true_and]
        case measure => simp [intOf]; omega
      | false =>
        rw [hq] at HQ HD
        have hr0 : decide (0 ≤ ρ x y) = true := HQ.out
        have HF : Hid (R = false) := by show _ = _; rw [hA.out, HD.out, Bool.false_and]
        generalize ρ x y = r at *
        go_wp2
        refine wp_region_ext (by kernel_rfl) (by kernel_rfl) ?_
        repeat (go_big_quiet_step ((go_at_fn F; exact ext_call (HC.out _))))
        refine wpQuiet_nil ?_
        rintro w1 ⟨u1, rfl⟩
        have HB1 := hide (hB.out.trans (u1.ok.mono hB.out.size))
        generalize u1.w = w1 at *
        go_wp2
        go_ret
        exact ⟨by rw [HF.out]; rfl, HB1.out⟩
    · have hltz : ¬ (k : Int) + 1 < (xs.length : Int) := by omega
      have HF : Hid (R = true) := by show _ = _; rw [hA.out]; exact risL_short lt _ (by rw [List.length_drop]; omega)
      go_wp2
      go_ret
      exact ⟨by rw [HF.out]; rfl, hB.out⟩

set_option maxRecDepth 20000 in
set_option maxHeartbeats 2000000 in
theorem pidxBox_any {xs : List Bx} {v : Value} {w : World} (h : RdE 5 BxAt w v xs) (hl : xs.length ≤ 1000000) (p : Bx → Bool) (F : Nat) (fi ca : Array Value) (eg : ∀ args w, (callFunc F args).run Tryz.prog w = .ok (.enter F args) w)
    (hp : ∀ i (hi : i < xs.length) v W, Below w.heap.size w W → BxV W v xs[i] → Calls Tryz.prog F (fi ++ #[v] ++ ca) W fun e w' => e = .returned (.bool (p xs[i])) ∧ Below W.heap.size W w') :
    Calls Tryz.prog 15 #[v, .func (.func F) fi ca] w fun e w' => e = .returned (.int .i64 (fiP (xs.findIdx? p))) ∧ Below w.heap.size w w' := by
  have HO := hide h
  obtain ⟨A, c, rfl⟩ := h.form
  clear h
  replace hp := hide hp
  obtain ⟨R, hR⟩ : ∃ R, Hid (R = xs.findIdx? p) := ⟨_, hide rfl⟩
  rw [← hR.out]
  go_enter Tryz.func15, Tryz.ntmps15
  go_wp2
  go_loopw [5, 8] (fun _ u wr => ∃ k : Nat, k ≤ xs.length ∧ u = .int .i64 k ∧ Hid (Below w.heap.size w wr) ∧ Hid (∀ i (hi : i < xs.length), i < k → p xs[i] = false)) (fun _ u _ => xs.length - (intOf u).toNat)
  case atStart => exact ⟨0, Nat.zero_le _, rfl, Below.refl _ _, fun i hi h => by omega⟩
  case round =>
    obtain ⟨k, hkl, rfl, hB, hA⟩ := hrel
    by_cases hlt : k < xs.length
    · have hltz : (k : Int) < (xs.length : Int) := by omega
      obtain ⟨g, o, rfl, hgl, q0, q1, q2, q3, mv, q4, qm⟩ := (HO.out.below stb_bx hB.out).at hlt
      have p0 : wr.cell? ⟨g, o + (k) * 5, none⟩ = some (.int .i64 (xs[k]).user) := q0
      have p1 : wr.cell? ⟨g, o + (k) * 5 + 1, none⟩ = some (.string ⟨(xs[k]).name.toArray⟩) := q1
      have p2 : wr.cell? ⟨g, o + (k) * 5 + 2, none⟩ = some (.int .i64 (xs[k]).valid) := q2
      have p3 : wr.cell? ⟨g, o + (k) * 5 + 3, none⟩ = some (.int .i64 (xs[k]).next) := q3
      have p4 : wr.cell? ⟨g, o + (k) * 5 + 4, none⟩ = some (mv) := q4
      have HC := hide (hp.out k hlt)
      have HN : Hid (p xs[k] = true → R = some k) := fun ht => by
        rw [hR.out, List.findIdx?_eq_some_iff_getElem]
        exact ⟨hlt, ht, fun j hj => by simpa using hA.out j (by omega) hj⟩
      have HS : Hid (p xs[k] = false → ∀ i (hi : i < xs.length), i < k + 1 → p xs[i] = false) := fun h i hi hik => by
        by_cases e : i = k
        · subst e; exact h
        · exact hA.out i hi (by omega)
      clear q0 q1 q2 q3 q4
      generalize xs[k] = x at *
      obtain ⟨Am, cm, rfl⟩ := qm.form
      have HC0 := hide (HC.out (.agg #[.int .i64 x.user, .string ⟨x.name.toArray⟩, .int .i64 x.valid, .int .i64 x.next, .slice Am x.msgs.length cm]) wr hB.out (⟨_, rfl, qm⟩))
      clear HC
      cases hq : p x with
      | true =>
        rw [hq] at HC0
        have HF := hide (HN.out hq)
        clear HN HS
        go_wp2_with (go_at_fn F; refine HC0.out.mono ?_; rintro e w' ⟨rfl, hb'⟩; replace hb' := hide hb')
        go_ret
        exact ⟨by rw [HF.out]; rfl, hB.out.trans (hb'.out.mono hB.out.size)⟩
      | false =>
        rw [hq] at HC0
        have HF := hide (HS.out hq)
        clear HN HS
        go_wp2_with (go_at_fn F; refine HC0.out.mono ?_; rintro e w' ⟨rfl, hb'⟩; replace hb' := hide hb')
        go_roundw
        case rel => exact ⟨k + 1, by omega, by go_num, hB.out.trans (hb'.out.mono hB.out.size), HF.out⟩
        case measure => simp [intOf]; omega
    · have hltz : ¬ (k : Int) < (xs.length : Int) := by omega
      have HF : Hid (R = none) := by
        show _ = _
        rw [hR.out, List.findIdx?_eq_none_iff]
        intro x hx
        obtain ⟨i, hi, rfl⟩ := List.mem_iff_getElem.1 hx
        exact hA.out i hi (by omega)
      go_wp2
      go_ret
      exact ⟨by rw [HF.out]; rfl, hB.out⟩
end Go.Proofs.YtdbmaobjikjifaaGreatDoorR

end
section
set_option linter.unusedVariables false
set_option linter.unusedSimpArgs false
namespace Go.Proofs.YtdbmaobjikjifaaGreatDoorR
open Go.RowKit

set_option maxRecDepth 20000 in
set_option maxHeartbeats 2000000 in
theorem pallSub_any {xs : List Sb} {v : Value} {w : World} (h : RdE 2 SbAt w v xs) (hl : xs.length ≤ 1000000) (p : Sb → Bool) (F : Nat) (fi ca : Array Value) (eg : ∀ args w, (callFunc F args).run Tryz.prog w = .ok (.enter F args) w)
    (hp : ∀ i (hi : i < xs.length) v W, Below w.heap.size w W → SbV W v xs[i] → Calls Tryz.prog F (fi ++ #[v] ++ ca) W fun e w' => e = .returned (.bool (p xs[i])) ∧ Below W.heap.size W w') :
    Calls Tryz.prog 37 #[v, .func (.func F) fi ca] w fun e w' => e = .returned (.bool (xs.all p)) ∧ Below w.heap.size w w' := by
  have HO := hide h
  obtain ⟨A, c, rfl⟩ := h.form
  clear h
  replace hp := hide hp
  obtain ⟨R, hR⟩ : ∃ R, Hid (R = xs.all p) := ⟨_, hide rfl⟩
  rw [← hR.out]
  go_enter Tryz.func37, Tryz.ntmps37
  go_wp2
  go_loopw [6, 9] (fun _ u wr => ∃ k : Nat, k ≤ xs.length ∧ u = .int .i64 k ∧ Hid (Below w.heap.size w wr) ∧ Hid (R = (xs.drop k).all p)) (fun _ u _ => xs.length - (intOf u).toNat)
  case atStart => exact ⟨0, Nat.zero_le _, rfl, Below.refl _ _, hR.out⟩
  case round =>
    obtain ⟨k, hkl, rfl, hB, hA⟩ := hrel
    by_cases hlt : k < xs.length
    · have hltz : (k : Int) < (xs.length : Int) := by omega
      obtain ⟨g, o, rfl, hgl, q0, q1⟩ := (HO.out.below stb_sb hB.out).at hlt
      have p0 : wr.cell? ⟨g, o + (k) * 2, none⟩ = some (.int .i64 (xs[k]).user) := q0
      have p1 : wr.cell? ⟨g, o + (k) * 2 + 1, none⟩ = some (.string ⟨(xs[k]).name.toArray⟩) := q1
      have HC := hide (hp.out k hlt)
      have HD := hide (all_dropP p xs k hlt)
      clear q0 q1
      generalize xs[k] = x at *
      have HC0 := hide (HC.out (.agg #[.int .i64 x.user, .string ⟨x.name.toArray⟩]) (wr.alloc (.cells #[.int .i64 x.user, .string ⟨x.name.toArray⟩] 68)) (hB.out.alloc hB.out.size _) (rfl))
      clear HC
      cases hq : p x with
      | true =>
        rw [hq] at HC0
        go_wp2_with (go_at_fn F; refine HC0.out.mono ?_; rintro e w' ⟨rfl, hb'⟩; replace hb' := hide hb')
        go_roundw
        case rel =>
          refine ⟨k + 1, by omega, by go_num, hB.out.trans ((((Below.refl _ _).alloc (Nat.le_refl _) _).trans (hb'.out.mono (by simp))).mono hB.out.size), ?_⟩
          show _ = _
          rw [hA.out, HD.out, hq]
          rfl
        case measure => simp [intOf]; omega
      | false =>
        rw [hq] at HC0
        have HF : Hid (R = false) := by show _ = _; rw [hA.out, HD.out, hq]; rfl
        go_wp2_with (go_at_fn F; refine HC0.out.mono ?_; rintro e w' ⟨rfl, hb'⟩; replace hb' := hide hb')
        go_ret
        exact ⟨by rw [HF.out]; rfl, hB.out.trans ((((Below.refl _ _).alloc (Nat.le_refl _) _).trans (hb'.out.mono (by simp))).mono hB.out.size)⟩
    · have hltz : ¬ (k : Int) < (xs.length : Int) := by omega
      have HF : Hid (R = true) := by show _ = _; rw [hA.out, List.drop_eq_nil_of_le (by omega)]; rfl
      go_wp2
      go_ret
      exact ⟨by rw [HF.out]; rfl, hB.out⟩

set_option maxRecDepth 20000 in
set_option maxHeartbeats 4000000 in
theorem prisesSub_any {xs : List Sb} {v : Value} {w : World} (h : RdE 2 SbAt w v xs) (hl : xs.length ≤ 1000000) (lt : Sb → Sb → Bool) (ρ : Sb → Sb → Int) (hρ : ∀ x y, decide (0 ≤ ρ x y) = !lt x y) (F : Nat) (eg : ∀ args w, (callFunc F args).run Tryz.prog w = .ok (.enter F args) w)
    (hp : ∀ x y u v W, SbV W u x → SbV W v y → Calls Tryz.prog F #[u, v] W fun e w' => e = .returned (.int .i64 (ρ x y)) ∧ Below W.heap.size W w') :
    Calls Tryz.prog 35 #[v, .func (.func F) #[] #[]] w fun e w' => e = .returned (.bool (risL lt xs)) ∧ Below w.heap.size w w' := by
  have HO := hide h
  obtain ⟨A, c, rfl⟩ := h.form
  clear h
  replace hp := hide hp
  replace hρ := hide hρ
  obtain ⟨R, hR⟩ : ∃ R, Hid (R = risL lt xs) := ⟨_, hide rfl⟩
  rw [← hR.out]
  go_enter Tryz.func35, Tryz.ntmps35
  go_wp2
  go_loopw [5] (fun u wr => ∃ k : Nat, (k = 0 ∨ k < xs.length) ∧ u = .int .i64 ((k : Int) + 1) ∧ Hid (Below w.heap.size w wr) ∧ Hid (R = risL lt (xs.drop k))) (fun u _ => xs.length + 1 - (intOf u).toNat)
  case atStart => exact ⟨0, .inl rfl, rfl, Below.refl _ _, hR.out⟩
  case round =>
    obtain ⟨k, hkl, rfl, hB, hA⟩ := hrel
    by_cases hlt : k + 1 < xs.length
    · have hltz : (k : Int) + 1 < (xs.length : Int) := by omega
      have HX0 := hide (HO.out.below stb_sb hB.out)
      obtain ⟨g, o, rfl, hgl, q0a, q1a⟩ := HX0.out.at (show k < xs.length by omega)
      obtain ⟨g', o', e', _, q0b, q1b⟩ := HX0.out.at hlt
      cases e'
      have p0a : wr.cell? ⟨g, o + (k) * 2, none⟩ = some (.int .i64 (xs[k]).user) := q0a
      have p1a : wr.cell? ⟨g, o + (k) * 2 + 1, none⟩ = some (.string ⟨(xs[k]).name.toArray⟩) := q1a
      have p0b : wr.cell? ⟨g, o + (k + 1) * 2, none⟩ = some (.int .i64 (xs[k + 1]).user) := q0b
      have p1b : wr.cell? ⟨g, o + (k + 1) * 2 + 1, none⟩ = some (.string ⟨(xs[k + 1]).name.toArray⟩) := q1b
      have HD := hide (risL_drop lt xs k hlt)
      clear q0a q0b q1a q1b
      generalize xs[k] = x at *
      generalize xs[k + 1] = y at *
      have HC : Hid (∀ u : Ext wr, Calls Tryz.prog F #[.agg #[.int .i64 x.user, .string ⟨x.name.toArray⟩], .agg #[.int .i64 y.user, .string ⟨y.name.toArray⟩]] u.w fun e w' => e = .returned (.int .i64 (ρ x y)) ∧ Below u.w.heap.size u.w w') := fun u => hp.out x y _ _ u.w (rfl) (rfl)
      have HQ := hide (hρ.out x y)
      have sub1 : IntKind.i64.wrap ((k : Int) + 1 - 1) = k := by rw [IntKind.wrap_i64]; omega
      have hn := ext_some wr
      have hc := ext_cell wr
      cases hq : lt x y with
      | true =>
        rw [hq] at HQ HD
        have hr0 : decide (0 ≤ ρ x y) = false := HQ.out
        generalize ρ x y = r at *
        go_wp2
        refine wp_region_ext (by kernel_rfl) (by kernel_rfl) ?_
        repeat (go_big_quiet_step ((go_at_fn F; exact ext_call (HC.out _))))
        refine wpQuiet_nil ?_
        rintro w1 ⟨u1, rfl⟩
        have HB1 := hide (hB.out.trans (u1.ok.mono hB.out.size))
        generalize u1.w = w1 at *
        go_wp2
        go_roundw
        case rel =>
          refine ⟨k + 1, .inr hlt, by go_num, HB1.out, ?_⟩
          show _ = _
          rw [hA.out, HD.out, Bool.true_and]
        case measure => simp [intOf]; omega
      | false =>
        rw [hq] at HQ HD
        have hr0 : decide (0 ≤ ρ x y) = true := HQ.out
        have HF : Hid (R = false) := by show _ = _; rw [hA.out, HD.out, Bool.false_and]
        generalize ρ x y = r at *
        go_wp2
        refine wp_region_ext (by kernel_rfl) (by kernel_rfl) ?_
        repeat (go_big_quiet_step ((go_at_fn F; exact ext_call (HC.out _))))
        refine wpQuiet_nil ?_
        rintro w1 ⟨u1, rfl⟩
        have HB1 := hide (hB.out.trans (u1.ok.mono hB.out.size))
        generalize u1.w = w1 at *
        go_wp2
        go_ret
        exact ⟨by rw [HF.out]; rfl, HB1.out⟩
    · have hltz : ¬ (k : Int) + 1 < (xs.length : Int) := by omega
      have HF : Hid (R = true) := by show _ = _; rw [hA.out]; exact risL_short lt _ (by rw [List.length_drop]; omega)
      go_wp2
      go_ret
      exact ⟨by rw [HF.out]; rfl, hB.out⟩
end Go.Proofs.YtdbmaobjikjifaaGreatDoorR

end
section
set_option linter.unusedVariables false
set_option linter.unusedSimpArgs false
namespace Go.Proofs.YtdbmaobjikjifaaGreatDoorR
open Go.RowKit

set_option maxRecDepth 20000 in
set_option maxHeartbeats 2000000 in
theorem pallItem_any {xs : List It} {v : Value} {w : World} (h : RdE 7 ItAt w v xs) (hl : xs.length ≤ 1000000) (p : It → Bool) (F : Nat) (fi ca : Array Value) (eg : ∀ args w, (callFunc F args).run Tryz.prog w = .ok (.enter F args) w)
    (hp : ∀ i (hi : i < xs.length) v W, Below w.heap.size w W → ItV W v xs[i] → Calls Tryz.prog F (fi ++ #[v] ++ ca) W fun e w' => e = .returned (.bool (p xs[i])) ∧ Below W.heap.size W w') :
    Calls Tryz.prog 42 #[v, .func (.func F) fi ca] w fun e w' => e = .returned (.bool (xs.all p)) ∧ Below w.heap.size w w' := by
  have HO := hide h
  obtain ⟨A, c, rfl⟩ := h.form
  clear h
  replace hp := hide hp
  obtain ⟨R, hR⟩ : ∃ R, Hid (R = xs.all p) := ⟨_, hide rfl⟩
  rw [← hR.out]
  go_enter Tryz.func42, Tryz.ntmps42
  go_wp2
  go_loopw [6, 9] (fun _ u wr => ∃ k : Nat, k ≤ xs.length ∧ u = .int .i64 k ∧ Hid (Below w.heap.size w wr) ∧ Hid (R = (xs.drop k).all p)) (fun _ u _ => xs.length - (intOf u).toNat)
  case atStart => exact ⟨0, Nat.zero_le _, rfl, Below.refl _ _, hR.out⟩
  case round =>
    obtain ⟨k, hkl, rfl, hB, hA⟩ := hrel
    by_cases hlt : k < xs.length
    · have hltz : (k : Int) < (xs.length : Int) := by omega
      obtain ⟨g, o, rfl, hgl, q0, q1, ⟨mv, q2, qm⟩, q3, q4, q5, q6⟩ := (HO.out.below stb_it hB.out).at hlt
      have p0 : wr.cell? ⟨g, o + (k) * 7, none⟩ = some (.int .i64 (xs[k]).id) := q0
      have p1 : wr.cell? ⟨g, o + (k) * 7 + 1, none⟩ = some (.string ⟨(xs[k]).frm.toArray⟩) := q1
      have p2 : wr.cell? ⟨g, o + (k) * 7 + 2, none⟩ = some (mv) := q2
      have p3 : wr.cell? ⟨g, o + (k) * 7 + 3, none⟩ = some (.int .i64 (xs[k]).born) := q3
      have p4 : wr.cell? ⟨g, o + (k) * 7 + 4, none⟩ = some (.int .i64 (xs[k]).tries) := q4
      have p5 : wr.cell? ⟨g, o + (k) * 7 + 5, none⟩ = some (.int .i64 (xs[k]).due) := q5
      have p6 : wr.cell? ⟨g, o + (k) * 7 + 6, none⟩ = some (.string ⟨(xs[k]).body.toArray⟩) := q6
      have HC := hide (hp.out k hlt)
      have HD := hide (all_dropP p xs k hlt)
      clear q0 q1 q2 q3 q4 q5 q6
      generalize xs[k] = x at *
      obtain ⟨Am, cm, rfl⟩ := qm.form
      have HC0 := hide (HC.out (.agg #[.int .i64 x.id, .string ⟨x.frm.toArray⟩, .slice Am x.fr.length cm, .int .i64 x.born, .int .i64 x.tries, .int .i64 x.due, .string ⟨x.body.toArray⟩]) (wr.alloc (.cells #[.int .i64 x.id, .string ⟨x.frm.toArray⟩, .slice Am x.fr.length cm, .int .i64 x.born, .int .i64 x.tries, .int .i64 x.due, .string ⟨x.body.toArray⟩] 71)) (hB.out.alloc hB.out.size _) (⟨_, rfl, (qm.below stb_int ((Below.refl _ _).alloc (Nat.le_refl _) _))⟩))
      clear HC
      cases hq : p x with
      | true =>
        rw [hq] at HC0
        go_wp2_with (go_at_fn F; refine HC0.out.mono ?_; rintro e w' ⟨rfl, hb'⟩; replace hb' := hide hb')
        go_roundw
        case rel =>
          refine ⟨k + 1, by omega, by go_num, hB.out.trans ((((Below.refl _ _).alloc (Nat.le_refl _) _).trans (hb'.out.mono (by simp))).mono hB.out.size), ?_⟩
          show _ = _
          rw [hA.out, HD.out, hq]
          rfl
        case measure => simp [intOf]; omega
      | false =>
        rw [hq] at HC0
        have HF : Hid (R = false) := by show _ = _; rw [hA.out, HD.out, hq]; rfl
        go_wp2_with (go_at_fn F; refine HC0.out.mono ?_; rintro e w' ⟨rfl, hb'⟩; replace hb' := hide hb')
        go_ret
        exact ⟨by rw [HF.out]; rfl, hB.out.trans ((((Below.refl _ _).alloc (Nat.le_refl _) _).trans (hb'.out.mono (by simp))).mono hB.out.size)⟩
    · have hltz : ¬ (k : Int) < (xs.length : Int) := by omega
      have HF : Hid (R = true) := by show _ = _; rw [hA.out, List.drop_eq_nil_of_le (by omega)]; rfl
      go_wp2
      go_ret
      exact ⟨by rw [HF.out]; rfl, hB.out⟩

set_option maxRecDepth 20000 in
set_option maxHeartbeats 4000000 in
theorem prisesItem_any {xs : List It} {v : Value} {w : World} (h : RdE 7 ItAt w v xs) (hl : xs.length ≤ 1000000) (lt : It → It → Bool) (ρ : It → It → Int) (hρ : ∀ x y, decide (0 ≤ ρ x y) = !lt x y) (F : Nat) (eg : ∀ args w, (callFunc F args).run Tryz.prog w = .ok (.enter F args) w)
    (hp : ∀ x y u v W, ItV W u x → ItV W v y → Calls Tryz.prog F #[u, v] W fun e w' => e = .returned (.int .i64 (ρ x y)) ∧ Below W.heap.size W w') :
    Calls Tryz.prog 40 #[v, .func (.func F) #[] #[]] w fun e w' => e = .returned (.bool (risL lt xs)) ∧ Below w.heap.size w w' := by
  have HO := hide h
  obtain ⟨A, c, rfl⟩ := h.form
  clear h
  replace hp := hide hp
  replace hρ := hide hρ
  obtain ⟨R, hR⟩ : ∃ R, Hid (R = risL lt xs) := ⟨_, hide rfl⟩
  rw [← hR.out]
  go_enter Tryz.func40, Tryz.ntmps40
  go_wp2
  go_loopw [5] (fun u wr => ∃ k : Nat, (k = 0 ∨ k < xs.length) ∧ u = .int .i64 ((k : Int) + 1) ∧ Hid (Below w.heap.size w wr) ∧ Hid (R = risL lt (xs.drop k))) (fun u _ => xs.length + 1 - (intOf u).toNat)
  case atStart => exact ⟨0, .inl rfl, rfl, Below.refl _ _, hR.out⟩
  case round =>
    obtain ⟨k, hkl, rfl, hB, hA⟩ := hrel
    by_cases hlt : k + 1 < xs.length
    · have hltz : (k : Int) + 1 < (xs.length : Int) := by omega
      have HX0 := hide (HO.out.below stb_it hB.out)
      obtain ⟨g, o, rfl, hgl, q0a, q1a, ⟨mva, q2a, qma⟩, q3a, q4a, q5a, q6a⟩ := HX0.out.at (show k < xs.length by omega)
      obtain ⟨g', o', e', _, q0b, q1b, ⟨mvb, q2b, qmb⟩, q3b, q4b, q5b, q6b⟩ := HX0.out.at hlt
      cases e'
      have p0a : wr.cell? ⟨g, o + (k) * 7, none⟩ = some (.int .i64 (xs[k]).id) := q0a
      have p1a : wr.cell? ⟨g, o + (k) * 7 + 1, none⟩ = some (.string ⟨(xs[k]).frm.toArray⟩) := q1a
      have p2a : wr.cell? ⟨g, o + (k) * 7 + 2, none⟩ = some (mva) := q2a
      have p3a : wr.cell? ⟨g, o + (k) * 7 + 3, none⟩ = some (.int .i64 (xs[k]).born) := q3a
      have p4a : wr.cell? ⟨g, o + (k) * 7 + 4, none⟩ = some (.int .i64 (xs[k]).tries) := q4a
      have p5a : wr.cell? ⟨g, o + (k) * 7 + 5, none⟩ = some (.int .i64 (xs[k]).due) := q5a
      have p6a : wr.cell? ⟨g, o + (k) * 7 + 6, none⟩ = some (.string ⟨(xs[k]).body.toArray⟩) := q6a
      have p0b : wr.cell? ⟨g, o + (k + 1) * 7, none⟩ = some (.int .i64 (xs[k + 1]).id) := q0b
      have p1b : wr.cell? ⟨g, o + (k + 1) * 7 + 1, none⟩ = some (.string ⟨(xs[k + 1]).frm.toArray⟩) := q1b
      have p2b : wr.cell? ⟨g, o + (k + 1) * 7 + 2, none⟩ = some (mvb) := q2b
      have p3b : wr.cell? ⟨g, o + (k + 1) * 7 + 3, none⟩ = some (.int .i64 (xs[k + 1]).born) := q3b
      have p4b : wr.cell? ⟨g, o + (k + 1) * 7 + 4, none⟩ = some (.int .i64 (xs[k + 1]).tries) := q4b
      have p5b : wr.cell? ⟨g, o + (k + 1) * 7 + 5, none⟩ = some (.int .i64 (xs[k + 1]).due) := q5b
      have p6b : wr.cell? ⟨g, o + (k + 1) * 7 + 6, none⟩ = some (.string ⟨(xs[k + 1]).body.toArray⟩) := q6b
      have HD := hide (risL_drop lt xs k hlt)
      clear q0a q0b q1a q1b q2a q2b q3a q3b q4a q4b q5a q5b q6a q6b
      generalize xs[k] = x at *
      generalize xs[k + 1] = y at *
      obtain ⟨Aa, ca, rfl⟩ := qma.form
      obtain ⟨Ab, cb, rfl⟩ := qmb.form
      have HC : Hid (∀ u : Ext wr, Calls Tryz.prog F #[.agg #[.int .i64 x.id, .string ⟨x.frm.toArray⟩, .slice Aa x.fr.length ca, .int .i64 x.born, .int .i64 x.tries, .int .i64 x.due, .string ⟨x.body.toArray⟩], .agg #[.int .i64 y.id, .string ⟨y.frm.toArray⟩, .slice Ab y.fr.length cb, .int .i64 y.born, .int .i64 y.tries, .int .i64 y.due, .string ⟨y.body.toArray⟩]] u.w fun e w' => e = .returned (.int .i64 (ρ x y)) ∧ Below u.w.heap.size u.w w') := fun u => hp.out x y _ _ u.w (⟨_, rfl, (qma.below stb_int u.ok)⟩) (⟨_, rfl, (qmb.below stb_int u.ok)⟩)
      have HQ := hide (hρ.out x y)
      have sub1 : IntKind.i64.wrap ((k : Int) + 1 - 1) = k := by rw [IntKind.wrap_i64]; omega
      have hn := ext_some wr
      have hc := ext_cell wr
      cases hq : lt x y with
      | true =>
        rw [hq] at HQ HD
        have hr0 : decide (0 ≤ ρ x y) = false := HQ.out
        generalize ρ x y = r at *
        go_wp2
        refine wp_region_ext (by kernel_rfl) (by kernel_rfl) ?_
        repeat (go_big_quiet_step ((go_at_fn F; exact ext_call (HC.out _))))
        refine wpQuiet_nil ?_
        rintro w1 ⟨u1, rfl⟩
        have HB1 := hide (hB.out.trans (u1.ok.mono hB.out.size))
        generalize u1.w = w1 at *
        go_wp2
        go_roundw
        case rel =>
          refine ⟨k + 1, .inr hlt, by go_num, HB1.out, ?_⟩
          show _ = _
          rw [hA.out, HD.out, Bool.true_and]
        case measure => simp [intOf]; omega
      | false =>
        rw [hq] at HQ HD
        have hr0 : decide (0 ≤ ρ x y) = true := HQ.out
        have HF : Hid (R = false) := by show _ = _; rw [hA.out, HD.out, Bool.false_and]
        generalize ρ x y = r at *
        go_wp2
        refine wp_region_ext (by kernel_rfl) (by kernel_rfl) ?_
        repeat (go_big_quiet_step ((go_at_fn F; exact ext_call (HC.out _))))
        refine wpQuiet_nil ?_
        rintro w1 ⟨u1, rfl⟩
        have HB1 := hide (hB.out.trans (u1.ok.mono hB.out.size))
        generalize u1.w = w1 at *
        go_wp2
        go_ret
        exact ⟨by rw [HF.out]; rfl, HB1.out⟩
    · have hltz : ¬ (k : Int) + 1 < (xs.length : Int) := by omega
      have HF : Hid (R = true) := by show _ = _; rw [hA.out]; exact risL_short lt _ (by rw [List.length_drop]; omega)
      go_wp2
      go_ret
      exact ⟨by rw [HF.out]; rfl, hB.out⟩

set_option maxRecDepth 20000 in
set_option maxHeartbeats 2000000 in
theorem pidxItem_any {xs : List It} {v : Value} {w : World} (h : RdE 7 ItAt w v xs) (hl : xs.length ≤ 1000000) (p : It → Bool) (F : Nat) (fi ca : Array Value) (eg : ∀ args w, (callFunc F args).run Tryz.prog w = .ok (.enter F args) w)
    (hp : ∀ i (hi : i < xs.length) v W, Below w.heap.size w W → ItV W v xs[i] → Calls Tryz.prog F (fi ++ #[v] ++ ca) W fun e w' => e = .returned (.bool (p xs[i])) ∧ Below W.heap.size W w') :
    Calls Tryz.prog 125 #[v, .func (.func F) fi ca] w fun e w' => e = .returned (.int .i64 (fiP (xs.findIdx? p))) ∧ Below w.heap.size w w' := by
  have HO := hide h
  obtain ⟨A, c, rfl⟩ := h.form
  clear h
  replace hp := hide hp
  obtain ⟨R, hR⟩ : ∃ R, Hid (R = xs.findIdx? p) := ⟨_, hide rfl⟩
  rw [← hR.out]
  go_enter Tryz.func125, Tryz.ntmps125
  go_wp2
  go_loopw [5, 8] (fun _ u wr => ∃ k : Nat, k ≤ xs.length ∧ u = .int .i64 k ∧ Hid (Below w.heap.size w wr) ∧ Hid (∀ i (hi : i < xs.length), i < k → p xs[i] = false)) (fun _ u _ => xs.length - (intOf u).toNat)
  case atStart => exact ⟨0, Nat.zero_le _, rfl, Below.refl _ _, fun i hi h => by omega⟩
  case round =>
    obtain ⟨k, hkl, rfl, hB, hA⟩ := hrel
    by_cases hlt : k < xs.length
    · have hltz : (k : Int) < (xs.length : Int) := by omega
      obtain ⟨g, o, rfl, hgl, q0, q1, ⟨mv, q2, qm⟩, q3, q4, q5, q6⟩ := (HO.out.below stb_it hB.out).at hlt
      have p0 : wr.cell? ⟨g, o + (k) * 7, none⟩ = some (.int .i64 (xs[k]).id) := q0
      have p1 : wr.cell? ⟨g, o + (k) * 7 + 1, none⟩ = some (.string ⟨(xs[k]).frm.toArray⟩) := q1
      have p2 : wr.cell? ⟨g, o + (k) * 7 + 2, none⟩ = some (mv) := q2
      have p3 : wr.cell? ⟨g, o + (k) * 7 + 3, none⟩ = some (.int .i64 (xs[k]).born) := q3
      have p4 : wr.cell? ⟨g, o + (k) * 7 + 4, none⟩ = some (.int .i64 (xs[k]).tries) := q4
      have p5 : wr.cell? ⟨g, o + (k) * 7 + 5, none⟩ = some (.int .i64 (xs[k]).due) := q5
      have p6 : wr.cell? ⟨g, o + (k) * 7 + 6, none⟩ = some (.string ⟨(xs[k]).body.toArray⟩) := q6
      have HC := hide (hp.out k hlt)
      have HN : Hid (p xs[k] = true → R = some k) := fun ht => by
        rw [hR.out, List.findIdx?_eq_some_iff_getElem]
        exact ⟨hlt, ht, fun j hj => by simpa using hA.out j (by omega) hj⟩
      have HS : Hid (p xs[k] = false → ∀ i (hi : i < xs.length), i < k + 1 → p xs[i] = false) := fun h i hi hik => by
        by_cases e : i = k
        · subst e; exact h
        · exact hA.out i hi (by omega)
      clear q0 q1 q2 q3 q4 q5 q6
      generalize xs[k] = x at *
      obtain ⟨Am, cm, rfl⟩ := qm.form
      have HC0 := hide (HC.out (.agg #[.int .i64 x.id, .string ⟨x.frm.toArray⟩, .slice Am x.fr.length cm, .int .i64 x.born, .int .i64 x.tries, .int .i64 x.due, .string ⟨x.body.toArray⟩]) wr hB.out (⟨_, rfl, qm⟩))
      clear HC
      cases hq : p x with
      | true =>
        rw [hq] at HC0
        have HF := hide (HN.out hq)
        clear HN HS
        go_wp2_with (go_at_fn F; refine HC0.out.mono ?_; rintro e w' ⟨rfl, hb'⟩; replace hb' := hide hb')
        go_ret
        exact ⟨by rw [HF.out]; rfl, hB.out.trans (hb'.out.mono hB.out.size)⟩
      | false =>
        rw [hq] at HC0
        have HF := hide (HS.out hq)
        clear HN HS
        go_wp2_with (go_at_fn F; refine HC0.out.mono ?_; rintro e w' ⟨rfl, hb'⟩; replace hb' := hide hb')
        go_roundw
        case rel => exact ⟨k + 1, by omega, by go_num, hB.out.trans (hb'.out.mono hB.out.size), HF.out⟩
        case measure => simp [intOf]; omega
    · have hltz : ¬ (k : Int) < (xs.length : Int) := by omega
      have HF : Hid (R = none) := by
        show _ = _
        rw [hR.out, List.findIdx?_eq_none_iff]
        intro x hx
        obtain ⟨i, hi, rfl⟩ := List.mem_iff_getElem.1 hx
        exact hA.out i hi (by omega)
      go_wp2
      go_ret
      exact ⟨by rw [HF.out]; rfl, hB.out⟩
end Go.Proofs.YtdbmaobjikjifaaGreatDoorR

end
