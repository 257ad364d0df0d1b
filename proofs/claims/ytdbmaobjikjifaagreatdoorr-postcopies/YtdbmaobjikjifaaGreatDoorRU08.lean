/- Package post: whether all of a list are so, whether they rise, where the first one is that is so (of Message). -/
/- Package post: whether all of a list are so, whether they rise, where the first one is that is so (of int). -/
/- The search of package boxes in plain lists: a pattern cut at stars, slashes and percent signs, each run taken as far ahead as it fits, fits just what the pattern fits. -/
import Derived.Test.YtdbmaobjikjifaaGreatDoorRU06
import Derived.Lib.IndexMore
import Derived.Lib.IndexLaws
import Derived.Test.YtdbmaobjikjifaaGreatDoorRU01
section
set_option linter.unusedVariables false
set_option linter.unusedSimpArgs false
namespace Go.Proofs.YtdbmaobjikjifaaGreatDoorR
open Go.RowKit

set_option maxRecDepth 20000 in
set_option maxHeartbeats 2000000 in
theorem pallMessage_any {xs : List Msg} {v : Value} {w : World} (h : RdE 4 MsgAt w v xs) (hl : xs.length ≤ 1000000) (p : Msg → Bool) (F : Nat) (fi ca : Array Value) (eg : ∀ args w, (callFunc F args).run Tryz.prog w = .ok (.enter F args) w)
    (hp : ∀ i (hi : i < xs.length) v W, Below w.heap.size w W → MsgV W v xs[i] → Calls Tryz.prog F (fi ++ #[v] ++ ca) W fun e w' => e = .returned (.bool (p xs[i])) ∧ Below W.heap.size W w') :
    Calls Tryz.prog 72 #[v, .func (.func F) fi ca] w fun e w' => e = .returned (.bool (xs.all p)) ∧ Below w.heap.size w w' := by
  have HO := hide h
  obtain ⟨A, c, rfl⟩ := h.form
  clear h
  replace hp := hide hp
  obtain ⟨R, hR⟩ : ∃ R, Hid (R = xs.all p) := ⟨_, hide rfl⟩
  rw [← hR.out]
  go_enter Tryz.func72, Tryz.ntmps72
  go_wp2
  go_loopw [6, 9] (fun _ u wr => ∃ k : Nat, k ≤ xs.length ∧ u = .int .i64 k ∧ Hid (Below w.heap.size w wr) ∧ Hid (R = (xs.drop k).all p)) (fun _ u _ => xs.length - (intOf u).toNat)
  case atStart => exact ⟨0, Nat.zero_le _, rfl, Below.refl _ _, hR.out⟩
  case round =>
    obtain ⟨k, hkl, rfl, hB, hA⟩ := hrel
    by_cases hlt : k < xs.length
    · have hltz : (k : Int) < (xs.length : Int) := by omega
      obtain ⟨g, o, rfl, hgl, q0, q1, q2, q3⟩ := (HO.out.below stb_msg hB.out).at hlt
      have p0 : wr.cell? ⟨g, o + (k) * 4, none⟩ = some (.int .i64 (xs[k]).uid) := q0
      have p1 : wr.cell? ⟨g, o + (k) * 4 + 1, none⟩ = some (.int .i64 (xs[k]).flags) := q1
      have p2 : wr.cell? ⟨g, o + (k) * 4 + 2, none⟩ = some (.int .i64 (xs[k]).date) := q2
      have p3 : wr.cell? ⟨g, o + (k) * 4 + 3, none⟩ = some (.string ⟨(xs[k]).body.toArray⟩) := q3
      have HC := hide (hp.out k hlt)
      have HD := hide (all_dropP p xs k hlt)
      clear q0 q1 q2 q3
      generalize xs[k] = x at *
      have HC0 := hide (HC.out (.agg #[.int .i64 x.uid, .int .i64 x.flags, .int .i64 x.date, .string ⟨x.body.toArray⟩]) (wr.alloc (.cells #[.int .i64 x.uid, .int .i64 x.flags, .int .i64 x.date, .string ⟨x.body.toArray⟩] 47)) (hB.out.alloc hB.out.size _) (rfl))
      clear HC
      cases hq : p x with
      | true =>
        rw [hq] at HC0
        go_wp2_with (go_at_fn F; refine HC0.out.mono ?_; rintro e w' ⟨rfl, hb'⟩; replace hb' := hide hb')
        go_roundw
        case rel =>
          refine ⟨k + 1, by omega, by go_num, hB.out.trans ((((Below.refl _ _).alloc (Nat.le_refl _) _).trans (hb'.out.mono (by simp))).mono hB.out.size), ?_⟩
          show _ = _
          rw [hA.out, HD.out, hq]
          rfl
        case measure => simp [intOf]; omega
      | false =>
        rw [hq] at HC0
        have HF : Hid (R = false) := by show _ = _; rw [hA.out, HD.out, hq]; rfl
        go_wp2_with (go_at_fn F; refine HC0.out.mono ?_; rintro e w' ⟨rfl, hb'⟩; replace hb' := hide hb')
        go_ret
        exact ⟨by rw [HF.out]; rfl, hB.out.trans ((((Below.refl _ _).alloc (Nat.le_refl _) _).trans (hb'.out.mono (by simp))).mono hB.out.size)⟩
    · have hltz : ¬ (k : Int) < (xs.length : Int) := by omega
      have HF : Hid (R = true) := by show _ = _; rw [hA.out, List.drop_eq_nil_of_le (by omega)]; rfl
      go_wp2
      go_ret
      exact ⟨by rw [HF.out]; rfl, hB.out⟩

set_option maxRecDepth 20000 in
set_option maxHeartbeats 4000000 in
theorem prisesMessage_any {xs : List Msg} {v : Value} {w : World} (h : RdE 4 MsgAt w v xs) (hl : xs.length ≤ 1000000) (lt : Msg → Msg → Bool) (ρ : Msg → Msg → Int) (hρ : ∀ x y, decide (0 ≤ ρ x y) = !lt x y) (F : Nat) (eg : ∀ args w, (callFunc F args).run Tryz.prog w = .ok (.enter F args) w)
    (hp : ∀ x y u v W, MsgV W u x → MsgV W v y → Calls Tryz.prog F #[u, v] W fun e w' => e = .returned (.int .i64 (ρ x y)) ∧ Below W.heap.size W w') :
    Calls Tryz.prog 70 #[v, .func (.func F) #[] #[]] w fun e w' => e = .returned (.bool (risL lt xs)) ∧ Below w.heap.size w w' := by
  have HO := hide h
  obtain ⟨A, c, rfl⟩ := h.form
  clear h
  replace hp := hide hp
  replace hρ := hide hρ
  obtain ⟨R, hR⟩ : ∃ R, Hid (R = risL lt xs) := ⟨_, hide rfl⟩
  rw [← hR.out]
  go_enter Tryz.func70, Tryz.ntmps70
  go_wp2
  go_loopw [5] (fun u wr => ∃ k : Nat, (k = 0 ∨ k < xs.length) ∧ u = .int .i64 ((k : Int) + 1) ∧ Hid (Below w.heap.size w wr) ∧ Hid (R = risL lt (xs.drop k))) (fun u _ => xs.length + 1 - (intOf u).toNat)
  case atStart => exact ⟨0, .inl rfl, rfl, Below.refl _ _, hR.out⟩
  case round =>
    obtain ⟨k, hkl, rfl, hB, hA⟩ := hrel
    by_cases hlt : k + 1 < xs.length
    · have hltz : (k : Int) + 1 < (xs.length : Int) := by omega
      have HX0 := hide (HO.out.below stb_msg hB.out)
      obtain ⟨g, o, rfl, hgl, q0a, q1a, q2a, q3a⟩ := HX0.out.at (show k < xs.length by omega)
      obtain ⟨g', o', e', _, q0b, q1b, q2b, q3b⟩ := HX0.out.at hlt
      cases e'
      have p0a : wr.cell? ⟨g, o + (k) * 4, none⟩ = some (.int .i64 (xs[k]).uid) := q0a
      have p1a : wr.cell? ⟨g, o + (k) * 4 + 1, none⟩ = some (.int .i64 (xs[k]).flags) := q1a
      have p2a : wr.cell? ⟨g, o + (k) * 4 + 2, none⟩ = some (.int .i64 (xs[k]).date) := q2a
      have p3a : wr.cell? ⟨g, o + (k) * 4 + 3, none⟩ = some (.string ⟨(xs[k]).body.toArray⟩) := q3a
      have p0b : wr.cell? ⟨g, o + (k + 1) * 4, none⟩ = some (.int .i64 (xs[k + 1]).uid) := q0b
      have p1b : wr.cell? ⟨g, o + (k + 1) * 4 + 1, none⟩ = some (.int .i64 (xs[k + 1]).flags) := q1b
      have p2b : wr.cell? ⟨g, o + (k + 1) * 4 + 2, none⟩ = some (.int .i64 (xs[k + 1]).date) := q2b
      have p3b : wr.cell? ⟨g, o + (k + 1) * 4 + 3, none⟩ = some (.string ⟨(xs[k + 1]).body.toArray⟩) := q3b
      have HD := hide (risL_drop lt xs k hlt)
      clear q0a q0b q1a q1b q2a q2b q3a q3b
      generalize xs[k] = x at *
      generalize xs[k + 1] = y at *
      have HC : Hid (∀ u : Ext wr, Calls Tryz.prog F #[.agg #[.int .i64 x.uid, .int .i64 x.flags, .int .i64 x.date, .string ⟨x.body.toArray⟩], .agg #[.int .i64 y.uid, .int .i64 y.flags, .int .i64 y.date, .string ⟨y.body.toArray⟩]] u.w fun e w' => e = .returned (.int .i64 (ρ x y)) ∧ Below u.w.heap.size u.w w') := fun u => hp.out x y _ _ u.w (rfl) (rfl)
      have HQ := hide (hρ.out x y)
      have sub1 : IntKind.i64.wrap ((k : Int) + 1 - 1) = k := by rw [IntKind.wrap_i64]; omega
      have hn := ext_some wr
      have hc := ext_cell wr
      cases hq : lt x y with
      | true =>
        rw [hq] at HQ HD
        have hr0 : decide (0 ≤ ρ x y) = false := HQ.out
        generalize ρ x y = r at *
        go_wp2
        refine wp_region_ext (by kernel_rfl) (by kernel_rfl) ?_
        repeat (go_big_quiet_step ((go_at_fn F; exact ext_call (HC.out _))))
        refine wpQuiet_nil ?_
        rintro w1 ⟨u1, rfl⟩
        have HB1 := hide (hB.out.trans (u1.ok.mono hB.out.size))
        generalize u1.w = w1 at *
        go_wp2
        go_roundw
        case rel =>
          refine ⟨k + 1, .inr hlt, by go_num, HB1.out, ?_⟩
          show _ = _
          rw [hA.out, HD.out, Bool.true_and]
        case measure => simp [intOf]; omega
      | false =>
        rw [hq] at HQ HD
        have hr0 : decide (0 ≤ ρ x y) = true := HQ.out
        have HF : Hid (R = false) := by show _ = _; rw [hA.out, HD.out, Bool.false_and]
        generalize ρ x y = r at *
        go_wp2
        refine wp_region_ext (by kernel_rfl) (by kernel_rfl) ?_
        repeat (go_big_quiet_step ((go_at_fn F; exact ext_call (HC.out _))))
        refine wpQuiet_nil ?_
        rintro w1 ⟨u1, rfl⟩
        have HB1 := hide (hB.out.trans (u1.ok.mono hB.out.size))
        generalize u1.w = w1 at *
        go_wp2
        go_ret
        exact ⟨by rw [HF.out]; rfl, HB1.out⟩
    · have hltz : ¬ (k : Int) + 1 < (xs.length : Int) := by omega
      have HF : Hid (R = true) := by show _ = _; rw [hA.out]; exact risL_short lt _ (by rw [List.length_drop]; omega)
      go_wp2
      go_ret
      exact ⟨by rw [HF.out]; rfl, hB.out⟩
end Go.Proofs.YtdbmaobjikjifaaGreatDoorR

end
section
set_option linter.unusedVariables false
set_option linter.unusedSimpArgs false
namespace Go.Proofs.YtdbmaobjikjifaaGreatDoorR
open Go.RowKit

set_option maxRecDepth 20000 in
set_option maxHeartbeats 2000000 in
theorem pallint_any {xs : List Int} {v : Value} {w : World} (h : RdE 1 IntAt w v xs) (hl : xs.length ≤ 1000000) (p : Int → Bool) (F : Nat) (fi ca : Array Value) (eg : ∀ args w, (callFunc F args).run Tryz.prog w = .ok (.enter F args) w)
    (hp : ∀ i (hi : i < xs.length) v W, Below w.heap.size w W → IntV W v xs[i] → Calls Tryz.prog F (fi ++ #[v] ++ ca) W fun e w' => e = .returned (.bool (p xs[i])) ∧ Below W.heap.size W w') :
    Calls Tryz.prog 45 #[v, .func (.func F) fi ca] w fun e w' => e = .returned (.bool (xs.all p)) ∧ Below w.heap.size w w' := by
  have HO := hide h
  obtain ⟨A, c, rfl⟩ := h.form
  clear h
  replace hp := hide hp
  obtain ⟨R, hR⟩ : ∃ R, Hid (R = xs.all p) := ⟨_, hide rfl⟩
  rw [← hR.out]
  go_enter Tryz.func45, Tryz.ntmps45
  go_wp2
  go_loopw [6, 9] (fun _ u wr => ∃ k : Nat, k ≤ xs.length ∧ u = .int .i64 k ∧ Hid (Below w.heap.size w wr) ∧ Hid (R = (xs.drop k).all p)) (fun _ u _ => xs.length - (intOf u).toNat)
  case atStart => exact ⟨0, Nat.zero_le _, rfl, Below.refl _ _, hR.out⟩
  case round =>
    obtain ⟨k, hkl, rfl, hB, hA⟩ := hrel
    by_cases hlt : k < xs.length
    · have hltz : (k : Int) < (xs.length : Int) := by omega
      obtain ⟨g, o, rfl, hgl, q0⟩ := (HO.out.below stb_int hB.out).at hlt
      have p0 : wr.cell? ⟨g, o + k, none⟩ = some (.int .i64 (xs[k])) := by have h0 : wr.cell? ⟨g, o + (k) * 1, none⟩ = some (.int .i64 (xs[k])) := q0; rwa [Nat.mul_one] at h0
      have HC := hide (hp.out k hlt)
      have HD := hide (all_dropP p xs k hlt)
      clear q0
      generalize xs[k] = x at *
      have HC0 := hide (HC.out (.int .i64 x) wr (hB.out) (rfl))
      clear HC
      cases hq : p x with
      | true =>
        rw [hq] at HC0
        go_wp2_with (go_at_fn F; refine HC0.out.mono ?_; rintro e w' ⟨rfl, hb'⟩; replace hb' := hide hb')
        go_roundw
        case rel =>
          refine ⟨k + 1, by omega, by go_num, hB.out.trans (hb'.out.mono hB.out.size), ?_⟩
          show _ = _
          rw [hA.out, HD.out, hq]
          rfl
        case measure => simp [intOf]; omega
      | false =>
        rw [hq] at HC0
        have HF : Hid (R = false) := by show _ = _; rw [hA.out, HD.out, hq]; rfl
        go_wp2_with (go_at_fn F; refine HC0.out.mono ?_; rintro e w' ⟨rfl, hb'⟩; replace hb' := hide hb')
        go_ret
        exact ⟨by rw [HF.out]; rfl, hB.out.trans (hb'.out.mono hB.out.size)⟩
    · have hltz : ¬ (k : Int) < (xs.length : Int) := by omega
      have HF : Hid (R = true) := by show _ = _; rw [hA.out, List.drop_eq_nil_of_le (by omega)]; rfl
      go_wp2
      go_ret
      exact ⟨by rw [HF.out]; rfl, hB.out⟩

set_option maxRecDepth 20000 in
set_option maxHeartbeats 4000000 in
theorem prisesint_any {xs : List Int} {v : Value} {w : World} (h : RdE 1 IntAt w v xs) (hl : xs.length ≤ 1000000) (lt : Int → Int → Bool) (ρ : Int → Int → Int) (hρ : ∀ x y, decide (0 ≤ ρ x y) = !lt x y) (F : Nat) (eg : ∀ args w, (callFunc F args).run Tryz.prog w = .ok (.enter F args) w)
    (hp : ∀ x y u v W, IntV W u x → IntV W v y → Calls Tryz.prog F #[u, v] W fun e w' => e = .returned (.int .i64 (ρ x y)) ∧ Below W.heap.size W w') :
    Calls Tryz.prog 67 #[v, .func (.func F) #[] #[]] w fun e w' => e = .returned (.bool (risL lt xs)) ∧ Below w.heap.size w w' := by
  have HO := hide h
  obtain ⟨A, c, rfl⟩ := h.form
  clear h
  replace hp := hide hp
  replace hρ := hide hρ
  obtain ⟨R, hR⟩ : ∃ R, Hid (R = risL lt xs) := ⟨_, hide rfl⟩
  rw [← hR.out]
  go_enter Tryz.func67, Tryz.ntmps67
  go_wp2
  go_loopw [5] (fun u wr => ∃ k : Nat, (k = 0 ∨ k < xs.length) ∧ u = .int .i64 ((k : Int) + 1) ∧ Hid (Below w.heap.size w wr) ∧ Hid (R = risL lt (xs.drop k))) (fun u _ => xs.length + 1 - (intOf u).toNat)
  case atStart => exact ⟨0, .inl rfl, rfl, Below.refl _ _, hR.out⟩
  case round =>
    obtain ⟨k, hkl, rfl, hB, hA⟩ := hrel
    by_cases hlt : k + 1 < xs.length
    · have hltz : (k : Int) + 1 < (xs.length : Int) := by omega
      have HX0 := hide (HO.out.below stb_int hB.out)
      obtain ⟨g, o, rfl, hgl, q0a⟩ := HX0.out.at (show k < xs.length by omega)
      obtain ⟨g', o', e', _, q0b⟩ := HX0.out.at hlt
      cases e'
      have p0a : wr.cell? ⟨g, o + k, none⟩ = some (.int .i64 (xs[k])) := by have h0 : wr.cell? ⟨g, o + (k) * 1, none⟩ = some (.int .i64 (xs[k])) := q0a; rwa [Nat.mul_one] at h0
      have p0b : wr.cell? ⟨g, o + (k + 1), none⟩ = some (.int .i64 (xs[k + 1])) := by have h0 : wr.cell? ⟨g, o + (k + 1) * 1, none⟩ = some (.int .i64 (xs[k + 1])) := q0b; rwa [Nat.mul_one] at h0
      have HD := hide (risL_drop lt xs k hlt)
      clear q0a q0b
      generalize xs[k] = x at *
      generalize xs[k + 1] = y at *
      have HC : Hid (∀ u : Ext wr, Calls Tryz.prog F #[.int .i64 x, .int .i64 y] u.w fun e w' => e = .returned (.int .i64 (ρ x y)) ∧ Below u.w.heap.size u.w w') := fun u => hp.out x y _ _ u.w (rfl) (rfl)
      have HQ := hide (hρ.out x y)
      have sub1 : IntKind.i64.wrap ((k : Int) + 1 - 1) = k := by rw [IntKind.wrap_i64]; omega
      have hn := ext_some wr
      have hc := ext_cell wr
      cases hq : lt x y with
      | true =>
        rw [hq] at HQ HD
        have hr0 : decide (0 ≤ ρ x y) = false := HQ.out
        generalize ρ x y = r at *
        go_wp2
        refine wp_region_ext (by kernel_rfl) (by kernel_rfl) ?_
        repeat (go_big_quiet_step ((go_at_fn F; exact ext_call (HC.out _))))
        refine wpQuiet_nil ?_
        rintro w1 ⟨u1, rfl⟩
        have HB1 := hide (hB.out.trans (u1.ok.mono hB.out.size))
        generalize u1.w = w1 at *
        go_wp2
        go_roundw
        case rel =>
          refine ⟨k + 1, .inr hlt, by go_num, HB1.out, ?_⟩
          show _ = _
          rw [hA.out, HD.out, Bool.true_and]
        case measure => simp [intOf]; omega
      | false =>
        rw [hq] at HQ HD
        have hr0 : decide (0 ≤ ρ x y) = true := HQ.out
        have HF : Hid (R = false) := by show _ = _; rw [hA.out, HD.out, Bool.false_and]
        generalize ρ x y = r at *
        go_wp2
        refine wp_region_ext (by kernel_rfl) (by kernel_rfl) ?_
        repeat (go_big_quiet_step ((go_at_fn F; exact ext_call (HC.out _))))
        refine wpQuiet_nil ?_
        rintro w1 ⟨u1, rfl⟩
        have HB1 := hide (hB.out.trans (u1.ok.mono hB.out.size))
        generalize u1.w = w1 at *
        go_wp2
        go_ret
        exact ⟨by rw [HF.out]; rfl, HB1.out⟩
    · have hltz : ¬ (k : Int) + 1 < (xs.length : Int) := by omega
      have HF : Hid (R = true) := by show _ = _; rw [hA.out]; exact risL_short lt _ (by rw [List.length_drop]; omega)
      go_wp2
      go_ret
      exact ⟨by rw [HF.out]; rfl, hB.out⟩
end Go.Proofs.YtdbmaobjikjifaaGreatDoorR

end
section
namespace Go.Proofs.YtdbmaobjikjifaaGreatDoorR
/-- A pattern fits a text, letters standing for themselves. -/
def Fi (P a : List UInt8) : Prop := fit false P a = true
theorem same0 (c d : UInt8) : sameI false c d = (c == d) := by simp [sameI]
theorem Fi_nil {a : List UInt8} : Fi [] a ↔ a = [] := by
  unfold Fi; rw [fit_nil]; cases a <;> simp
theorem Fi_lit {c : UInt8} (h : starB c = false) {P a : List UInt8} : Fi (c :: P) a ↔ ∃ r, a = c :: r ∧ Fi P r := by
  unfold Fi
  cases a with
  | nil => rw [fit_end, h]; simp
  | cons d n =>
    rw [fit_char h, same0]
    constructor
    · intro hh
      simp only [Bool.and_eq_true, beq_iff_eq] at hh
      exact ⟨n, by rw [hh.1], hh.2⟩
    · rintro ⟨r, hr, hf⟩
      injection hr with h1 h2
      subst h1; subst h2
      simp [hf]
theorem Fi_star {c : UInt8} (h : starB c = true) {P : List UInt8} : ∀ {a : List UInt8}, Fi (c :: P) a ↔ ∃ u v, a = u ++ v ∧ (c = 42 ∨ (47 : UInt8) ∉ u) ∧ Fi P v
  | [] => by
    unfold Fi
    rw [fit_end, h, Bool.true_and]
    constructor
    · intro hh; exact ⟨[], [], rfl, .inr (by simp), hh⟩
    · rintro ⟨u, v, hh, _, hf⟩
      have := List.append_eq_nil_iff.1 hh.symm
      rw [this.2] at hf; exact hf
  | d :: n => by
    have ih := Fi_star h (P := P) (a := n)
    unfold Fi at ih ⊢
    rw [fit_star h, Bool.or_eq_true, Bool.and_eq_true, ih]
    constructor
    · rintro (hh | ⟨hd, u, v, hn, hu, hf⟩)
      · exact ⟨[], d :: n, rfl, .inr (by simp), hh⟩
      · refine ⟨d :: u, v, by rw [hn]; rfl, ?_, hf⟩
        simp only [Bool.or_eq_true, beq_iff_eq, bne_iff_ne] at hd
        rcases hd with hd | hd
        · exact .inl hd
        · rcases hu with hu | hu
          · exact .inl hu
          · exact .inr (by simp only [List.mem_cons, not_or]; exact ⟨fun e => hd e.symm, hu⟩)
    · rintro ⟨u, v, hn, hu, hf⟩
      cases u with
      | nil => exact .inl (by rw [List.nil_append] at hn; rw [hn]; exact hf)
      | cons x u =>
        rw [List.cons_append] at hn
        injection hn with h1 h2
        subst h1
        refine .inr ⟨?_, u, v, h2, ?_, hf⟩
        · rcases hu with hu | hu
          · simp [hu]
          · have : d ≠ 47 := fun e => hu (by simp [e])
            simp [this]
        · exact hu.imp id (fun h hm => h (by simp [hm]))
theorem Fi_app : ∀ {P Q a : List UInt8}, Fi (P ++ Q) a ↔ ∃ u v, a = u ++ v ∧ Fi P u ∧ Fi Q v
  | [], Q, a => by
    constructor
    · intro h; exact ⟨[], a, rfl, Fi_nil.2 rfl, h⟩
    · rintro ⟨u, v, h, hu, hv⟩
      rw [Fi_nil.1 hu] at h
      rw [List.nil_append] at h ⊢
      rw [h]; exact hv
  | c :: P, Q, a => by
    rw [List.cons_append]
    cases hc : starB c with
    | true =>
      rw [Fi_star hc]
      constructor
      · rintro ⟨u, v, rfl, hu, hv⟩
        obtain ⟨x, y, rfl, hx, hy⟩ := Fi_app.1 hv
        exact ⟨u ++ x, y, by simp, (Fi_star hc).2 ⟨u, x, rfl, hu, hx⟩, hy⟩
      · rintro ⟨u, v, rfl, hu, hv⟩
        obtain ⟨x, y, rfl, hx, hy⟩ := (Fi_star hc).1 hu
        exact ⟨x, y ++ v, by simp, hx, Fi_app.2 ⟨y, v, rfl, hy, hv⟩⟩
    | false =>
      rw [Fi_lit hc]
      constructor
      · rintro ⟨r, rfl, hr⟩
        obtain ⟨x, y, rfl, hx, hy⟩ := Fi_app.1 hr
        exact ⟨c :: x, y, by simp, (Fi_lit hc).2 ⟨x, rfl, hx⟩, hy⟩
      · rintro ⟨u, v, rfl, hu, hv⟩
        obtain ⟨r, rfl, hr⟩ := (Fi_lit hc).1 hu
        exact ⟨r ++ v, rfl, Fi_app.2 ⟨r, v, rfl, hr, hv⟩⟩
theorem Fi_word : ∀ {p a : List UInt8}, (∀ c ∈ p, starB c = false) → (Fi p a ↔ a = p)
  | [], a, _ => Fi_nil
  | c :: p, a, h => by
    rw [Fi_lit (h c (by simp))]
    constructor
    · rintro ⟨r, rfl, hr⟩
      rw [(Fi_word (fun x hx => h x (by simp [hx]))).1 hr]
    · rintro rfl
      exact ⟨p, rfl, (Fi_word (fun x hx => h x (by simp [hx]))).2 rfl⟩
theorem Fi_flat : ∀ {G a : List UInt8}, (∀ c ∈ G, c ≠ 42 ∧ c ≠ 47) → Fi G a → (47 : UInt8) ∉ a
  | [], a, _, h => by rw [Fi_nil.1 h]; simp
  | c :: G, a, hG, h => by
    have hc := hG c (by simp)
    cases hs : starB c with
    | true =>
      obtain ⟨u, v, rfl, hu, hv⟩ := (Fi_star hs).1 h
      have h1 := hu.resolve_left hc.1
      have h2 := Fi_flat (fun x hx => hG x (by simp [hx])) hv
      simp [h1, h2]
    | false =>
      obtain ⟨r, rfl, hr⟩ := (Fi_lit hs).1 h
      have h2 := Fi_flat (fun x hx => hG x (by simp [hx])) hr
      simp only [List.mem_cons, not_or]
      exact ⟨fun e => hc.2 e.symm, h2⟩
theorem Fi_congr {k P Q : List UInt8} (h : ∀ a, Fi P a ↔ Fi Q a) (a : List UInt8) : Fi (k ++ P) a ↔ Fi (k ++ Q) a := by
  rw [Fi_app, Fi_app]
  constructor
  · rintro ⟨u, v, h1, h2, h3⟩; exact ⟨u, v, h1, h2, (h v).1 h3⟩
  · rintro ⟨u, v, h1, h2, h3⟩; exact ⟨u, v, h1, h2, (h v).2 h3⟩
/-- Two signs side by side. -/
theorem Fi_two {c d e : UInt8} (hc : starB c = true) (hd : starB d = true) (he : e = if c = 42 ∨ d = 42 then 42 else 37) (P a : List UInt8) : Fi (c :: d :: P) a ↔ Fi (e :: P) a := by
  have hs : starB e = true := by rw [he]; split <;> rfl
  rw [Fi_star hc, Fi_star hs]
  constructor
  · rintro ⟨u, v, rfl, hu, hv⟩
    obtain ⟨x, y, rfl, hx, hy⟩ := (Fi_star hd).1 hv
    refine ⟨u ++ x, y, by simp, ?_, hy⟩
    rw [he]
    by_cases h : c = 42 ∨ d = 42
    · exact .inl (if_pos h)
    · rw [not_or] at h
      exact .inr (by simp [hu.resolve_left h.1, hx.resolve_left h.2])
  · rintro ⟨u, v, rfl, hu, hv⟩
    rw [he] at hu
    by_cases h1 : c = 42
    · exact ⟨u, v, rfl, .inl h1, (Fi_star hd).2 ⟨[], v, rfl, .inr (by simp), hv⟩⟩
    · by_cases h2 : d = 42
      · exact ⟨[], u ++ v, rfl, .inr (by simp), (Fi_star hd).2 ⟨u, v, rfl, .inl h2, hv⟩⟩
      · rw [if_neg (by simp [h1, h2])] at hu
        exact ⟨u, v, rfl, .inr (hu.resolve_left (by decide)), (Fi_star hd).2 ⟨[], v, rfl, .inr (by simp), hv⟩⟩
/-- What package boxes keeps of a pattern: no two signs side by side. -/
def simS (k : List UInt8) (c : UInt8) : List UInt8 :=
  match k.getLast? with
  | none => k ++ [c]
  | some d => if starB c && starB d then (if c = 42 then k.dropLast ++ [42] else k) else k ++ [c]
def simL (P : List UInt8) : List UInt8 := P.foldl simS []
theorem simS_len (k : List UInt8) (c : UInt8) : (simS k c).length ≤ k.length + 1 := by
  unfold simS
  split
  · simp
  · split
    · split
      · simp
      · omega
    · simp
theorem simS_fi (k : List UInt8) (c : UInt8) (Q a : List UInt8) : Fi (simS k c ++ Q) a ↔ Fi (k ++ c :: Q) a := by
  unfold simS
  split
  · simp
  · rename_i d hd
    obtain ⟨k', rfl⟩ : ∃ k', k = k' ++ [d] := by
      rw [List.getLast?_eq_some_iff] at hd; exact hd
    split
    · rename_i hs
      rw [Bool.and_eq_true] at hs
      rw [List.dropLast_concat]
      have key : ∀ e, e = (if d = 42 ∨ c = 42 then (42 : UInt8) else 37) → (Fi (k' ++ e :: Q) a ↔ Fi (k' ++ [d] ++ c :: Q) a) := fun e he => by
        rw [List.append_assoc]
        exact Fi_congr (fun a => (Fi_two hs.2 hs.1 he Q a).symm) a
      split
      · rename_i h
        rw [List.append_assoc]
        exact key 42 (by rw [if_pos (.inr h)])
      · rename_i h
        rw [show k' ++ [d] ++ Q = k' ++ d :: Q from by simp]
        refine key d ?_
        by_cases h1 : d = 42
        · rw [if_pos (.inl h1), h1]
        · rw [if_neg (by simp [h, h1])]
          have := hs.2
          simp [starB, h1] at this
          exact this
    · simp
theorem simF_fi : ∀ (P k a : List UInt8), Fi (P.foldl simS k) a ↔ Fi (k ++ P) a
  | [], k, a => by simp
  | c :: P, k, a => by rw [List.foldl_cons, simF_fi P (simS k c) a, simS_fi k c P a]
theorem simL_fi (P a : List UInt8) : Fi (simL P) a ↔ Fi P a := simF_fi P [] a
theorem simF_len : ∀ (P k : List UInt8), (P.foldl simS k).length ≤ k.length + P.length
  | [], k => by simp
  | c :: P, k => by
    have h1 := simF_len P (simS k c)
    have h2 := simS_len k c
    rw [List.foldl_cons]
    simp only [List.length_cons]
    omega
/-- Texts with a byte between them; a text cut at a byte. -/
def jn (c : UInt8) : List (List UInt8) → List UInt8
  | [] => []
  | [p] => p
  | p :: q :: r => p ++ c :: jn c (q :: r)
theorem jn_cons {c : UInt8} {p : List UInt8} {r : List (List UInt8)} (h : r ≠ []) : jn c (p :: r) = p ++ c :: jn c r := by
  cases r with
  | nil => exact absurd rfl h
  | cons q r => rfl
def spc (c : UInt8) : List UInt8 → List (List UInt8)
  | [] => [[]]
  | x :: r => if x = c then [] :: spc c r else match spc c r with
    | [] => [[x]]
    | p :: ps => (x :: p) :: ps
theorem spc_ne (c : UInt8) (l : List UInt8) : spc c l ≠ [] := by
  cases l with
  | nil => simp [spc]
  | cons x l =>
    unfold spc
    split
    · simp
    · split <;> simp
theorem spc_end {c : UInt8} : ∀ {p : List UInt8}, c ∉ p → spc c p = [p]
  | [], _ => rfl
  | x :: p, h => by
    have h1 := spc_end (c := c) (p := p) (fun hp => h (List.mem_cons_of_mem _ hp))
    have hc : x ≠ c := fun e => h (by simp [e])
    rw [spc, if_neg hc, h1]
theorem spc_mid {c : UInt8} : ∀ {p : List UInt8} (r : List UInt8), c ∉ p → spc c (p ++ c :: r) = p :: spc c r
  | [], r, _ => by simp [spc]
  | x :: p, r, h => by
    have h1 := spc_mid (c := c) (p := p) r (fun hp => h (List.mem_cons_of_mem _ hp))
    have hc : x ≠ c := fun e => h (by simp [e])
    rw [List.cons_append, spc, if_neg hc, h1]
theorem spc_in {c : UInt8} : ∀ (l : List UInt8), ∀ x ∈ spc c l, c ∉ x ∧ ∀ y ∈ x, y ∈ l
  | [], x, h => by
    simp [spc] at h
    simp [h]
  | b :: l, x, h => by
    have h1 := spc_in (c := c) l
    by_cases hc : b = c
    · rw [spc, if_pos hc] at h
      rcases List.mem_cons.1 h with rfl | h
      · simp
      · exact ⟨(h1 x h).1, fun y hy => List.mem_cons_of_mem _ ((h1 x h).2 y hy)⟩
    · rw [spc, if_neg hc] at h
      split at h
      · rename_i e; exact absurd e (spc_ne c l)
      · rename_i p ps e
        rw [e] at h1
        rcases List.mem_cons.1 h with rfl | h
        · have := h1 p (by simp)
          refine ⟨?_, fun y hy => ?_⟩
          · simp only [List.mem_cons, not_or]; exact ⟨fun e => hc e.symm, this.1⟩
          · rcases List.mem_cons.1 hy with rfl | hy
            · simp
            · exact List.mem_cons_of_mem _ (this.2 y hy)
        · have := h1 x (by simp [h])
          exact ⟨this.1, fun y hy => List.mem_cons_of_mem _ (this.2 y hy)⟩
theorem jn_spc (c : UInt8) : ∀ (l : List UInt8), jn c (spc c l) = l
  | [] => rfl
  | x :: l => by
    have ih := jn_spc c l
    unfold spc
    split
    · rename_i h
      rw [jn_cons (spc_ne c l), ih, h]; rfl
    · split
      · rename_i e; exact absurd e (spc_ne c l)
      · rename_i p ps e
        rw [e] at ih
        cases ps with
        | nil => rw [← ih]; rfl
        | cons q r => rw [← ih]; rfl
theorem spc_len (c : UInt8) : ∀ (l : List UInt8), (spc c l).length ≤ l.length + 1
  | [] => by simp [spc]
  | x :: l => by
    have ih := spc_len c l
    unfold spc
    split
    · simp; omega
    · split
      · simp
      · rename_i p ps e
        rw [e] at ih
        simp at ih ⊢; omega
theorem spc_size {c : UInt8} : ∀ (l : List UInt8), ∀ x ∈ spc c l, x.length ≤ l.length
  | [], x, h => by
    simp [spc] at h
    simp [h]
  | b :: l, x, h => by
    have h1 := spc_size (c := c) l
    by_cases hc : b = c
    · rw [spc, if_pos hc] at h
      rcases List.mem_cons.1 h with rfl | h
      · simp
      · have := h1 x h; simp; omega
    · rw [spc, if_neg hc] at h
      split at h
      · rename_i e; exact absurd e (spc_ne c l)
      · rename_i p ps e
        rw [e] at h1
        rcases List.mem_cons.1 h with rfl | h
        · have := h1 p (by simp); simp; omega
        · have := h1 x (by simp [h]); simp; omega
end Go.Proofs.YtdbmaobjikjifaaGreatDoorR

end
