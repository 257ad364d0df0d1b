/- Package post: Same, Check. -/
import Derived.Test.YtbfdbbpkpjgamaaGreatDoorU25
import Derived.Test.YtbfdbbpkpjgamaaGreatDoorU26
import Derived.Test.YtbfdbbpkpjgamaaGreatDoorU27
import Derived.Test.YtbfdbbpkpjgamaaGreatDoorU29
set_option linter.unusedVariables false
set_option linter.unusedSimpArgs false
namespace Go.Proofs.YtbfdbbpkpjgamaaGreatDoor
open Go.RowKit Go.Shelf
theorem Errs.name {w : World} {ea : Nat → Addr} (h : Errs w ea) : EN w (ea 3) := ⟨h.cell 3 (by omega), h.low 3 (by omega)⟩

set_option maxRecDepth 20000 in
set_option maxHeartbeats 8000000 in
theorem psameBox_any {u v : Value} {x y : Bx} {w : World} (h : BxV w u x) (h' : BxV w v y) (hl : x.msgs.length ≤ 1000000) :
    Calls Tryz.prog 30 #[u, v] w fun e w' => e = .returned (.bool (bxEq x y)) ∧ Below w.heap.size w w' := by
  obtain ⟨mv, rfl, hm⟩ := h
  obtain ⟨mv', rfl, hm'⟩ := h'
  obtain ⟨A, c, rfl⟩ := hm.form
  obtain ⟨A', c', rfl⟩ := hm'.form
  have HB0 : Hid (Below w.heap.size w ((w.alloc (.cells #[.int .i64 x.user, .string ⟨x.name.toArray⟩, .int .i64 x.valid, .int .i64 x.next, .slice A x.msgs.length c] 39)).alloc (.cells #[.int .i64 y.user, .string ⟨y.name.toArray⟩, .int .i64 y.valid, .int .i64 y.next, .slice A' y.msgs.length c'] 39))) := ((Below.refl w.heap.size w).alloc (Nat.le_refl _) _).alloc (by simp) _
  have HB : Hid (Below ((w.alloc (.cells #[.int .i64 x.user, .string ⟨x.name.toArray⟩, .int .i64 x.valid, .int .i64 x.next, .slice A x.msgs.length c] 39)).alloc (.cells #[.int .i64 y.user, .string ⟨y.name.toArray⟩, .int .i64 y.valid, .int .i64 y.next, .slice A' y.msgs.length c'] 39)).heap.size ((w.alloc (.cells #[.int .i64 x.user, .string ⟨x.name.toArray⟩, .int .i64 x.valid, .int .i64 x.next, .slice A x.msgs.length c] 39)).alloc (.cells #[.int .i64 y.user, .string ⟨y.name.toArray⟩, .int .i64 y.valid, .int .i64 y.next, .slice A' y.msgs.length c'] 39)) ((w.alloc (.cells #[.int .i64 x.user, .string ⟨x.name.toArray⟩, .int .i64 x.valid, .int .i64 x.next, .slice A x.msgs.length c] 39)).alloc (.cells #[.int .i64 y.user, .string ⟨y.name.toArray⟩, .int .i64 y.valid, .int .i64 y.next, .slice A' y.msgs.length c'] 39))) := Below.refl _ _
  have HK : Hid (Blk ((w.alloc (.cells #[.int .i64 x.user, .string ⟨x.name.toArray⟩, .int .i64 x.valid, .int .i64 x.next, .slice A x.msgs.length c] 39)).alloc (.cells #[.int .i64 y.user, .string ⟨y.name.toArray⟩, .int .i64 y.valid, .int .i64 y.next, .slice A' y.msgs.length c'] 39)) w.heap.size #[.int .i64 x.user, .string ⟨x.name.toArray⟩, .int .i64 x.valid, .int .i64 x.next, .slice A x.msgs.length c] 39) := (Blk.new w _ _).alloc _
  have HS : Hid (Blk ((w.alloc (.cells #[.int .i64 x.user, .string ⟨x.name.toArray⟩, .int .i64 x.valid, .int .i64 x.next, .slice A x.msgs.length c] 39)).alloc (.cells #[.int .i64 y.user, .string ⟨y.name.toArray⟩, .int .i64 y.valid, .int .i64 y.next, .slice A' y.msgs.length c'] 39)) (w.heap.size + 1) #[.int .i64 y.user, .string ⟨y.name.toArray⟩, .int .i64 y.valid, .int .i64 y.next, .slice A' y.msgs.length c'] 39) := Blk.new1 w _ _ _
  have H1 : Hid (∀ W, Below ((w.alloc (.cells #[.int .i64 x.user, .string ⟨x.name.toArray⟩, .int .i64 x.valid, .int .i64 x.next, .slice A x.msgs.length c] 39)).alloc (.cells #[.int .i64 y.user, .string ⟨y.name.toArray⟩, .int .i64 y.valid, .int .i64 y.next, .slice A' y.msgs.length c'] 39)).heap.size ((w.alloc (.cells #[.int .i64 x.user, .string ⟨x.name.toArray⟩, .int .i64 x.valid, .int .i64 x.next, .slice A x.msgs.length c] 39)).alloc (.cells #[.int .i64 y.user, .string ⟨y.name.toArray⟩, .int .i64 y.valid, .int .i64 y.next, .slice A' y.msgs.length c'] 39)) W → Calls Tryz.prog 48 #[.slice A x.msgs.length c, .slice A' y.msgs.length c'] W fun e w' => e = .returned (.bool (eqL msgEq x.msgs y.msgs)) ∧ Below W.heap.size W w') := fun W hW => peqMessage_any ((hm.below stb_msg HB0.out).below stb_msg hW) ((hm'.below stb_msg HB0.out).below stb_msg hW) hl
  obtain ⟨R, HR⟩ : ∃ R, Hid (R = bxEq x y) := ⟨_, hide rfl⟩
  rw [← HR.out]
  replace HR : Hid (R = (decide (x.user = y.user) && decide (x.name = y.name) && decide (x.valid = y.valid) && decide (x.next = y.next) && eqL msgEq x.msgs y.msgs)) := HR
  clear hm hm' hl
  generalize eqL msgEq x.msgs y.msgs = T1 at *
  obtain ⟨xu, xn, xv, xx, xm⟩ := x
  obtain ⟨yu, yn, yv, yx, ym⟩ := y
  dsimp only at *
  generalize xm.length = lx at *
  generalize ym.length = ly at *
  by_cases h0 : xu = yu
  · subst h0
    by_cases h1 : xn = yn
    · subst h1
      by_cases h2 : xv = yv
      · subst h2
        by_cases h3 : xx = yx
        · subst h3
          cases T1 with
          | true =>
            have HF : Hid (R = true) := by show _ = _; rw [HR.out]; simp []
            clear HR
            go_enter Tryz.func30, Tryz.ntmps30
            go_wp2_with (first | (go_at_call 48; refine (H1.out _ HB.out).mono ?_; rintro e w1 ⟨rfl, hb1⟩; replace HB := hide (HB.out.trans (hb1.mono HB.out.size)); clear hb1))
            exact bodyPost_ret (v := .bool true) (by simp [results, Tryz.results30, go_sem, ] <;> omega) rfl ⟨by rw [HF.out], HB0.out.trans (HB.out.mono HB0.out.size)⟩
          | false =>
            have HF : Hid (R = false) := by show _ = _; rw [HR.out]; simp []
            clear HR
            go_enter Tryz.func30, Tryz.ntmps30
            go_wp2_with (first | (go_at_call 48; refine (H1.out _ HB.out).mono ?_; rintro e w1 ⟨rfl, hb1⟩; replace HB := hide (HB.out.trans (hb1.mono HB.out.size)); clear hb1))
            exact bodyPost_ret (v := .bool false) (by simp [results, Tryz.results30, go_sem, ] <;> omega) rfl ⟨by rw [HF.out], HB0.out.trans (HB.out.mono HB0.out.size)⟩
        · have h3b : (xx == yx) = false := beq_eq_false_iff_ne.2 h3
          have HF : Hid (R = false) := by show _ = _; rw [HR.out]; simp [h3]
          clear HR
          go_enter Tryz.func30, Tryz.ntmps30
          go_wp2_with (first | (go_at_call 48; refine (H1.out _ HB.out).mono ?_; rintro e w1 ⟨rfl, hb1⟩; replace HB := hide (HB.out.trans (hb1.mono HB.out.size)); clear hb1))
          exact bodyPost_ret (v := .bool false) (by simp [results, Tryz.results30, go_sem, h3] <;> omega) rfl ⟨by rw [HF.out], HB0.out.trans (HB.out.mono HB0.out.size)⟩
      · have h2b : (xv == yv) = false := beq_eq_false_iff_ne.2 h2
        have HF : Hid (R = false) := by show _ = _; rw [HR.out]; simp [h2]
        clear HR
        go_enter Tryz.func30, Tryz.ntmps30
        go_wp2_with (first | (go_at_call 48; refine (H1.out _ HB.out).mono ?_; rintro e w1 ⟨rfl, hb1⟩; replace HB := hide (HB.out.trans (hb1.mono HB.out.size)); clear hb1))
        exact bodyPost_ret (v := .bool false) (by simp [results, Tryz.results30, go_sem, h2] <;> omega) rfl ⟨by rw [HF.out], HB0.out.trans (HB.out.mono HB0.out.size)⟩
    · have h1b : (xn == yn) = false := beq_eq_false_iff_ne.2 h1
      have HF : Hid (R = false) := by show _ = _; rw [HR.out]; simp [h1]
      clear HR
      go_enter Tryz.func30, Tryz.ntmps30
      go_wp2_with (first | (go_at_call 48; refine (H1.out _ HB.out).mono ?_; rintro e w1 ⟨rfl, hb1⟩; replace HB := hide (HB.out.trans (hb1.mono HB.out.size)); clear hb1))
      exact bodyPost_ret (v := .bool false) (by simp [results, Tryz.results30, go_sem, h1] <;> omega) rfl ⟨by rw [HF.out], HB0.out.trans (HB.out.mono HB0.out.size)⟩
  · have h0b : (xu == yu) = false := beq_eq_false_iff_ne.2 h0
    have HF : Hid (R = false) := by show _ = _; rw [HR.out]; simp [h0]
    clear HR
    go_enter Tryz.func30, Tryz.ntmps30
    go_wp2_with (first | (go_at_call 48; refine (H1.out _ HB.out).mono ?_; rintro e w1 ⟨rfl, hb1⟩; replace HB := hide (HB.out.trans (hb1.mono HB.out.size)); clear hb1))
    exact bodyPost_ret (v := .bool false) (by simp [results, Tryz.results30, go_sem, h0] <;> omega) rfl ⟨by rw [HF.out], HB0.out.trans (HB.out.mono HB0.out.size)⟩

set_option maxRecDepth 20000 in
set_option maxHeartbeats 8000000 in
theorem psameItem_any {u v : Value} {x y : It} {w : World} (h : ItV w u x) (h' : ItV w v y) (hl : x.fr.length ≤ 1000000) :
    Calls Tryz.prog 33 #[u, v] w fun e w' => e = .returned (.bool (itEq x y)) ∧ Below w.heap.size w w' := by
  obtain ⟨mv, rfl, hm⟩ := h
  obtain ⟨mv', rfl, hm'⟩ := h'
  obtain ⟨A, c, rfl⟩ := hm.form
  obtain ⟨A', c', rfl⟩ := hm'.form
  have HB0 : Hid (Below w.heap.size w ((w.alloc (.cells #[.int .i64 x.id, .string ⟨x.frm.toArray⟩, .slice A x.fr.length c, .int .i64 x.born, .int .i64 x.tries, .int .i64 x.due, .string ⟨x.body.toArray⟩] 62)).alloc (.cells #[.int .i64 y.id, .string ⟨y.frm.toArray⟩, .slice A' y.fr.length c', .int .i64 y.born, .int .i64 y.tries, .int .i64 y.due, .string ⟨y.body.toArray⟩] 62))) := ((Below.refl w.heap.size w).alloc (Nat.le_refl _) _).alloc (by simp) _
  have HB : Hid (Below ((w.alloc (.cells #[.int .i64 x.id, .string ⟨x.frm.toArray⟩, .slice A x.fr.length c, .int .i64 x.born, .int .i64 x.tries, .int .i64 x.due, .string ⟨x.body.toArray⟩] 62)).alloc (.cells #[.int .i64 y.id, .string ⟨y.frm.toArray⟩, .slice A' y.fr.length c', .int .i64 y.born, .int .i64 y.tries, .int .i64 y.due, .string ⟨y.body.toArray⟩] 62)).heap.size ((w.alloc (.cells #[.int .i64 x.id, .string ⟨x.frm.toArray⟩, .slice A x.fr.length c, .int .i64 x.born, .int .i64 x.tries, .int .i64 x.due, .string ⟨x.body.toArray⟩] 62)).alloc (.cells #[.int .i64 y.id, .string ⟨y.frm.toArray⟩, .slice A' y.fr.length c', .int .i64 y.born, .int .i64 y.tries, .int .i64 y.due, .string ⟨y.body.toArray⟩] 62)) ((w.alloc (.cells #[.int .i64 x.id, .string ⟨x.frm.toArray⟩, .slice A x.fr.length c, .int .i64 x.born, .int .i64 x.tries, .int .i64 x.due, .string ⟨x.body.toArray⟩] 62)).alloc (.cells #[.int .i64 y.id, .string ⟨y.frm.toArray⟩, .slice A' y.fr.length c', .int .i64 y.born, .int .i64 y.tries, .int .i64 y.due, .string ⟨y.body.toArray⟩] 62))) := Below.refl _ _
  have HK : Hid (Blk ((w.alloc (.cells #[.int .i64 x.id, .string ⟨x.frm.toArray⟩, .slice A x.fr.length c, .int .i64 x.born, .int .i64 x.tries, .int .i64 x.due, .string ⟨x.body.toArray⟩] 62)).alloc (.cells #[.int .i64 y.id, .string ⟨y.frm.toArray⟩, .slice A' y.fr.length c', .int .i64 y.born, .int .i64 y.tries, .int .i64 y.due, .string ⟨y.body.toArray⟩] 62)) w.heap.size #[.int .i64 x.id, .string ⟨x.frm.toArray⟩, .slice A x.fr.length c, .int .i64 x.born, .int .i64 x.tries, .int .i64 x.due, .string ⟨x.body.toArray⟩] 62) := (Blk.new w _ _).alloc _
  have HS : Hid (Blk ((w.alloc (.cells #[.int .i64 x.id, .string ⟨x.frm.toArray⟩, .slice A x.fr.length c, .int .i64 x.born, .int .i64 x.tries, .int .i64 x.due, .string ⟨x.body.toArray⟩] 62)).alloc (.cells #[.int .i64 y.id, .string ⟨y.frm.toArray⟩, .slice A' y.fr.length c', .int .i64 y.born, .int .i64 y.tries, .int .i64 y.due, .string ⟨y.body.toArray⟩] 62)) (w.heap.size + 1) #[.int .i64 y.id, .string ⟨y.frm.toArray⟩, .slice A' y.fr.length c', .int .i64 y.born, .int .i64 y.tries, .int .i64 y.due, .string ⟨y.body.toArray⟩] 62) := Blk.new1 w _ _ _
  have H1 : Hid (∀ W, Below ((w.alloc (.cells #[.int .i64 x.id, .string ⟨x.frm.toArray⟩, .slice A x.fr.length c, .int .i64 x.born, .int .i64 x.tries, .int .i64 x.due, .string ⟨x.body.toArray⟩] 62)).alloc (.cells #[.int .i64 y.id, .string ⟨y.frm.toArray⟩, .slice A' y.fr.length c', .int .i64 y.born, .int .i64 y.tries, .int .i64 y.due, .string ⟨y.body.toArray⟩] 62)).heap.size ((w.alloc (.cells #[.int .i64 x.id, .string ⟨x.frm.toArray⟩, .slice A x.fr.length c, .int .i64 x.born, .int .i64 x.tries, .int .i64 x.due, .string ⟨x.body.toArray⟩] 62)).alloc (.cells #[.int .i64 y.id, .string ⟨y.frm.toArray⟩, .slice A' y.fr.length c', .int .i64 y.born, .int .i64 y.tries, .int .i64 y.due, .string ⟨y.body.toArray⟩] 62)) W → Calls Tryz.prog 49 #[.slice A x.fr.length c, .slice A' y.fr.length c'] W fun e w' => e = .returned (.bool (eqL inEq x.fr y.fr)) ∧ Below W.heap.size W w') := fun W hW => peqint_any ((hm.below stb_int HB0.out).below stb_int hW) ((hm'.below stb_int HB0.out).below stb_int hW) hl
  obtain ⟨R, HR⟩ : ∃ R, Hid (R = itEq x y) := ⟨_, hide rfl⟩
  rw [← HR.out]
  replace HR : Hid (R = (decide (x.id = y.id) && decide (x.frm = y.frm) && eqL inEq x.fr y.fr && decide (x.born = y.born) && decide (x.tries = y.tries) && decide (x.due = y.due) && decide (x.body = y.body))) := HR
  clear hm hm' hl
  generalize eqL inEq x.fr y.fr = T1 at *
  obtain ⟨xi, xf, xr, xb, xt, xd, xo⟩ := x
  obtain ⟨yi, yf, yr, yb, yt, yd, yo⟩ := y
  dsimp only at *
  generalize xr.length = lx at *
  generalize yr.length = ly at *
  by_cases h0 : xi = yi
  · subst h0
    by_cases h1 : xf = yf
    · subst h1
      cases T1 with
      | true =>
        by_cases h2 : xb = yb
        · subst h2
          by_cases h3 : xt = yt
          · subst h3
            by_cases h4 : xd = yd
            · subst h4
              by_cases h5 : xo = yo
              · subst h5
                have HF : Hid (R = true) := by show _ = _; rw [HR.out]; simp []
                clear HR
                go_enter Tryz.func33, Tryz.ntmps33
                go_wp2_with (first | (go_at_call 49; refine (H1.out _ HB.out).mono ?_; rintro e w1 ⟨rfl, hb1⟩; replace HB := hide (HB.out.trans (hb1.mono HB.out.size)); clear hb1; have kk := HK.out.below HB.out HK.out.lt; have k0 := kk.cell 0; have k1 := kk.cell 1; have k2 := kk.cell 2; have k3 := kk.cell 3; have k4 := kk.cell 4; have k5 := kk.cell 5; have k6 := kk.cell 6; clear kk; have kk := HS.out.below HB.out HS.out.lt; have s0 := kk.cell 0; have s1 := kk.cell 1; have s2 := kk.cell 2; have s3 := kk.cell 3; have s4 := kk.cell 4; have s5 := kk.cell 5; have s6 := kk.cell 6; clear kk))
                exact bodyPost_ret (v := .bool true) (by simp [results, Tryz.results33, go_sem, ] <;> omega) rfl ⟨by rw [HF.out], HB0.out.trans (HB.out.mono HB0.out.size)⟩
              · have h5b : (xo == yo) = false := beq_eq_false_iff_ne.2 h5
                have HF : Hid (R = false) := by show _ = _; rw [HR.out]; simp [h5]
                clear HR
                go_enter Tryz.func33, Tryz.ntmps33
                go_wp2_with (first | (go_at_call 49; refine (H1.out _ HB.out).mono ?_; rintro e w1 ⟨rfl, hb1⟩; replace HB := hide (HB.out.trans (hb1.mono HB.out.size)); clear hb1; have kk := HK.out.below HB.out HK.out.lt; have k0 := kk.cell 0; have k1 := kk.cell 1; have k2 := kk.cell 2; have k3 := kk.cell 3; have k4 := kk.cell 4; have k5 := kk.cell 5; have k6 := kk.cell 6; clear kk; have kk := HS.out.below HB.out HS.out.lt; have s0 := kk.cell 0; have s1 := kk.cell 1; have s2 := kk.cell 2; have s3 := kk.cell 3; have s4 := kk.cell 4; have s5 := kk.cell 5; have s6 := kk.cell 6; clear kk))
                exact bodyPost_ret (v := .bool false) (by simp [results, Tryz.results33, go_sem, h5] <;> omega) rfl ⟨by rw [HF.out], HB0.out.trans (HB.out.mono HB0.out.size)⟩
            · have h4b : (xd == yd) = false := beq_eq_false_iff_ne.2 h4
              have HF : Hid (R = false) := by show _ = _; rw [HR.out]; simp [h4]
              clear HR
              go_enter Tryz.func33, Tryz.ntmps33
              go_wp2_with (first | (go_at_call 49; refine (H1.out _ HB.out).mono ?_; rintro e w1 ⟨rfl, hb1⟩; replace HB := hide (HB.out.trans (hb1.mono HB.out.size)); clear hb1; have kk := HK.out.below HB.out HK.out.lt; have k0 := kk.cell 0; have k1 := kk.cell 1; have k2 := kk.cell 2; have k3 := kk.cell 3; have k4 := kk.cell 4; have k5 := kk.cell 5; have k6 := kk.cell 6; clear kk; have kk := HS.out.below HB.out HS.out.lt; have s0 := kk.cell 0; have s1 := kk.cell 1; have s2 := kk.cell 2; have s3 := kk.cell 3; have s4 := kk.cell 4; have s5 := kk.cell 5; have s6 := kk.cell 6; clear kk))
              exact bodyPost_ret (v := .bool false) (by simp [results, Tryz.results33, go_sem, h4] <;> omega) rfl ⟨by rw [HF.out], HB0.out.trans (HB.out.mono HB0.out.size)⟩
          · have h3b : (xt == yt) = false := beq_eq_false_iff_ne.2 h3
            have HF : Hid (R = false) := by show _ = _; rw [HR.out]; simp [h3]
            clear HR
            go_enter Tryz.func33, Tryz.ntmps33
            go_wp2_with (first | (go_at_call 49; refine (H1.out _ HB.out).mono ?_; rintro e w1 ⟨rfl, hb1⟩; replace HB := hide (HB.out.trans (hb1.mono HB.out.size)); clear hb1; have kk := HK.out.below HB.out HK.out.lt; have k0 := kk.cell 0; have k1 := kk.cell 1; have k2 := kk.cell 2; have k3 := kk.cell 3; have k4 := kk.cell 4; have k5 := kk.cell 5; have k6 := kk.cell 6; clear kk; have kk := HS.out.below HB.out HS.out.lt; have s0 := kk.cell 0; have s1 := kk.cell 1; have s2 := kk.cell 2; have s3 := kk.cell 3; have s4 := kk.cell 4; have s5 := kk.cell 5; have s6 := kk.cell 6; clear kk))
            exact bodyPost_ret (v := .bool false) (by simp [results, Tryz.results33, go_sem, h3] <;> omega) rfl ⟨by rw [HF.out], HB0.out.trans (HB.out.mono HB0.out.size)⟩
        · have h2b : (xb == yb) = false := beq_eq_false_iff_ne.2 h2
          have HF : Hid (R = false) := by show _ = _; rw [HR.out]; simp [h2]
          clear HR
          go_enter Tryz.func33, Tryz.ntmps33
          go_wp2_with (first | (go_at_call 49; refine (H1.out _ HB.out).mono ?_; rintro e w1 ⟨rfl, hb1⟩; replace HB := hide (HB.out.trans (hb1.mono HB.out.size)); clear hb1; have kk := HK.out.below HB.out HK.out.lt; have k0 := kk.cell 0; have k1 := kk.cell 1; have k2 := kk.cell 2; have k3 := kk.cell 3; have k4 := kk.cell 4; have k5 := kk.cell 5; have k6 := kk.cell 6; clear kk; have kk := HS.out.below HB.out HS.out.lt; have s0 := kk.cell 0; have s1 := kk.cell 1; have s2 := kk.cell 2; have s3 := kk.cell 3; have s4 := kk.cell 4; have s5 := kk.cell 5; have s6 := kk.cell 6; clear kk))
          exact bodyPost_ret (v := .bool false) (by simp [results, Tryz.results33, go_sem, h2] <;> omega) rfl ⟨by rw [HF.out], HB0.out.trans (HB.out.mono HB0.out.size)⟩
      | false =>
        have HF : Hid (R = false) := by show _ = _; rw [HR.out]; simp []
        clear HR
        go_enter Tryz.func33, Tryz.ntmps33
        go_wp2_with (first | (go_at_call 49; refine (H1.out _ HB.out).mono ?_; rintro e w1 ⟨rfl, hb1⟩; replace HB := hide (HB.out.trans (hb1.mono HB.out.size)); clear hb1; have kk := HK.out.below HB.out HK.out.lt; have k0 := kk.cell 0; have k1 := kk.cell 1; have k2 := kk.cell 2; have k3 := kk.cell 3; have k4 := kk.cell 4; have k5 := kk.cell 5; have k6 := kk.cell 6; clear kk; have kk := HS.out.below HB.out HS.out.lt; have s0 := kk.cell 0; have s1 := kk.cell 1; have s2 := kk.cell 2; have s3 := kk.cell 3; have s4 := kk.cell 4; have s5 := kk.cell 5; have s6 := kk.cell 6; clear kk))
        exact bodyPost_ret (v := .bool false) (by simp [results, Tryz.results33, go_sem, ] <;> omega) rfl ⟨by rw [HF.out], HB0.out.trans (HB.out.mono HB0.out.size)⟩
    · have h1b : (xf == yf) = false := beq_eq_false_iff_ne.2 h1
      have HF : Hid (R = false) := by show _ = _; rw [HR.out]; simp [h1]
      clear HR
      go_enter Tryz.func33, Tryz.ntmps33
      go_wp2_with (first | (go_at_call 49; refine (H1.out _ HB.out).mono ?_; rintro e w1 ⟨rfl, hb1⟩; replace HB := hide (HB.out.trans (hb1.mono HB.out.size)); clear hb1; have kk := HK.out.below HB.out HK.out.lt; have k0 := kk.cell 0; have k1 := kk.cell 1; have k2 := kk.cell 2; have k3 := kk.cell 3; have k4 := kk.cell 4; have k5 := kk.cell 5; have k6 := kk.cell 6; clear kk; have kk := HS.out.below HB.out HS.out.lt; have s0 := kk.cell 0; have s1 := kk.cell 1; have s2 := kk.cell 2; have s3 := kk.cell 3; have s4 := kk.cell 4; have s5 := kk.cell 5; have s6 := kk.cell 6; clear kk))
      exact bodyPost_ret (v := .bool false) (by simp [results, Tryz.results33, go_sem, h1] <;> omega) rfl ⟨by rw [HF.out], HB0.out.trans (HB.out.mono HB0.out.size)⟩
  · have h0b : (xi == yi) = false := beq_eq_false_iff_ne.2 h0
    have HF : Hid (R = false) := by show _ = _; rw [HR.out]; simp [h0]
    clear HR
    go_enter Tryz.func33, Tryz.ntmps33
    go_wp2_with (first | (go_at_call 49; refine (H1.out _ HB.out).mono ?_; rintro e w1 ⟨rfl, hb1⟩; replace HB := hide (HB.out.trans (hb1.mono HB.out.size)); clear hb1; have kk := HK.out.below HB.out HK.out.lt; have k0 := kk.cell 0; have k1 := kk.cell 1; have k2 := kk.cell 2; have k3 := kk.cell 3; have k4 := kk.cell 4; have k5 := kk.cell 5; have k6 := kk.cell 6; clear kk; have kk := HS.out.below HB.out HS.out.lt; have s0 := kk.cell 0; have s1 := kk.cell 1; have s2 := kk.cell 2; have s3 := kk.cell 3; have s4 := kk.cell 4; have s5 := kk.cell 5; have s6 := kk.cell 6; clear kk))
    exact bodyPost_ret (v := .bool false) (by simp [results, Tryz.results33, go_sem, h0] <;> omega) rfl ⟨by rw [HF.out], HB0.out.trans (HB.out.mono HB0.out.size)⟩

set_option maxRecDepth 20000 in
set_option maxHeartbeats 8000000 in
theorem psame_any {u v : Value} {x y : Stt} {w : World} (h : StR w u x) (h' : StR w v y) (hd : BdS x) :
    Calls Tryz.prog 12 #[u, v] w fun e w' => e = .returned (.bool (sttEq x y)) ∧ Below w.heap.size w w' := by
  obtain ⟨bv, sv, qv, rfl, hb, hs, hq⟩ := h
  obtain ⟨Ab, cb, rfl⟩ := hb.form
  obtain ⟨As, cs, rfl⟩ := hs.form
  obtain ⟨Aq, cq, rfl⟩ := hq.form
  obtain ⟨bv', sv', qv', rfl, hb', hs', hq'⟩ := h'
  obtain ⟨Ab', cb', rfl⟩ := hb'.form
  obtain ⟨As', cs', rfl⟩ := hs'.form
  obtain ⟨Aq', cq', rfl⟩ := hq'.form
  have HB0 : Hid (Below w.heap.size w ((w.alloc (.cells #[.slice Ab x.boxes.length cb, .slice As x.subs.length cs, .slice Aq x.queue.length cq, .int .i64 x.nextValid, .int .i64 x.nextItem] 26)).alloc (.cells #[.slice Ab' y.boxes.length cb', .slice As' y.subs.length cs', .slice Aq' y.queue.length cq', .int .i64 y.nextValid, .int .i64 y.nextItem] 26))) := ((Below.refl w.heap.size w).alloc (Nat.le_refl _) _).alloc (by simp) _
  have HB : Hid (Below ((w.alloc (.cells #[.slice Ab x.boxes.length cb, .slice As x.subs.length cs, .slice Aq x.queue.length cq, .int .i64 x.nextValid, .int .i64 x.nextItem] 26)).alloc (.cells #[.slice Ab' y.boxes.length cb', .slice As' y.subs.length cs', .slice Aq' y.queue.length cq', .int .i64 y.nextValid, .int .i64 y.nextItem] 26)).heap.size ((w.alloc (.cells #[.slice Ab x.boxes.length cb, .slice As x.subs.length cs, .slice Aq x.queue.length cq, .int .i64 x.nextValid, .int .i64 x.nextItem] 26)).alloc (.cells #[.slice Ab' y.boxes.length cb', .slice As' y.subs.length cs', .slice Aq' y.queue.length cq', .int .i64 y.nextValid, .int .i64 y.nextItem] 26)) ((w.alloc (.cells #[.slice Ab x.boxes.length cb, .slice As x.subs.length cs, .slice Aq x.queue.length cq, .int .i64 x.nextValid, .int .i64 x.nextItem] 26)).alloc (.cells #[.slice Ab' y.boxes.length cb', .slice As' y.subs.length cs', .slice Aq' y.queue.length cq', .int .i64 y.nextValid, .int .i64 y.nextItem] 26))) := Below.refl _ _
  have HK : Hid (Blk ((w.alloc (.cells #[.slice Ab x.boxes.length cb, .slice As x.subs.length cs, .slice Aq x.queue.length cq, .int .i64 x.nextValid, .int .i64 x.nextItem] 26)).alloc (.cells #[.slice Ab' y.boxes.length cb', .slice As' y.subs.length cs', .slice Aq' y.queue.length cq', .int .i64 y.nextValid, .int .i64 y.nextItem] 26)) w.heap.size #[.slice Ab x.boxes.length cb, .slice As x.subs.length cs, .slice Aq x.queue.length cq, .int .i64 x.nextValid, .int .i64 x.nextItem] 26) := (Blk.new w _ _).alloc _
  have HS : Hid (Blk ((w.alloc (.cells #[.slice Ab x.boxes.length cb, .slice As x.subs.length cs, .slice Aq x.queue.length cq, .int .i64 x.nextValid, .int .i64 x.nextItem] 26)).alloc (.cells #[.slice Ab' y.boxes.length cb', .slice As' y.subs.length cs', .slice Aq' y.queue.length cq', .int .i64 y.nextValid, .int .i64 y.nextItem] 26)) (w.heap.size + 1) #[.slice Ab' y.boxes.length cb', .slice As' y.subs.length cs', .slice Aq' y.queue.length cq', .int .i64 y.nextValid, .int .i64 y.nextItem] 26) := Blk.new1 w _ _ _
  have eg1 : ∀ args w, (callFunc 30 args).run Tryz.prog w = .ok (.enter 30 args) w := enters_of Tryz.func30 (by kernel_rfl) rfl
  have eg2 : ∀ args w, (callFunc 33 args).run Tryz.prog w = .ok (.enter 33 args) w := enters_of Tryz.func33 (by kernel_rfl) rfl
  have H1 : Hid (∀ W, Below ((w.alloc (.cells #[.slice Ab x.boxes.length cb, .slice As x.subs.length cs, .slice Aq x.queue.length cq, .int .i64 x.nextValid, .int .i64 x.nextItem] 26)).alloc (.cells #[.slice Ab' y.boxes.length cb', .slice As' y.subs.length cs', .slice Aq' y.queue.length cq', .int .i64 y.nextValid, .int .i64 y.nextItem] 26)).heap.size ((w.alloc (.cells #[.slice Ab x.boxes.length cb, .slice As x.subs.length cs, .slice Aq x.queue.length cq, .int .i64 x.nextValid, .int .i64 x.nextItem] 26)).alloc (.cells #[.slice Ab' y.boxes.length cb', .slice As' y.subs.length cs', .slice Aq' y.queue.length cq', .int .i64 y.nextValid, .int .i64 y.nextItem] 26)) W → Calls Tryz.prog 29 #[.slice Ab x.boxes.length cb, .slice Ab' y.boxes.length cb', .func (.func 30) #[] #[]] W fun e w' => e = .returned (.bool (eqL bxEq x.boxes y.boxes)) ∧ Below W.heap.size W w') := fun W hW => peqfBox_any ((hb.below stb_bx HB0.out).below stb_bx hW) ((hb'.below stb_bx HB0.out).below stb_bx hW) hd.boxes bxEq _ eg1 (fun i hi hj u v W hu hv => psameBox_any hu hv (hd.bx _ (List.getElem_mem _)).msgs)
  have H2 : Hid (∀ W, Below ((w.alloc (.cells #[.slice Ab x.boxes.length cb, .slice As x.subs.length cs, .slice Aq x.queue.length cq, .int .i64 x.nextValid, .int .i64 x.nextItem] 26)).alloc (.cells #[.slice Ab' y.boxes.length cb', .slice As' y.subs.length cs', .slice Aq' y.queue.length cq', .int .i64 y.nextValid, .int .i64 y.nextItem] 26)).heap.size ((w.alloc (.cells #[.slice Ab x.boxes.length cb, .slice As x.subs.length cs, .slice Aq x.queue.length cq, .int .i64 x.nextValid, .int .i64 x.nextItem] 26)).alloc (.cells #[.slice Ab' y.boxes.length cb', .slice As' y.subs.length cs', .slice Aq' y.queue.length cq', .int .i64 y.nextValid, .int .i64 y.nextItem] 26)) W → Calls Tryz.prog 31 #[.slice As x.subs.length cs, .slice As' y.subs.length cs'] W fun e w' => e = .returned (.bool (eqL sbEq x.subs y.subs)) ∧ Below W.heap.size W w') := fun W hW => peqSub_any ((hs.below stb_sb HB0.out).below stb_sb hW) ((hs'.below stb_sb HB0.out).below stb_sb hW) hd.subs
  have H3 : Hid (∀ W, Below ((w.alloc (.cells #[.slice Ab x.boxes.length cb, .slice As x.subs.length cs, .slice Aq x.queue.length cq, .int .i64 x.nextValid, .int .i64 x.nextItem] 26)).alloc (.cells #[.slice Ab' y.boxes.length cb', .slice As' y.subs.length cs', .slice Aq' y.queue.length cq', .int .i64 y.nextValid, .int .i64 y.nextItem] 26)).heap.size ((w.alloc (.cells #[.slice Ab x.boxes.length cb, .slice As x.subs.length cs, .slice Aq x.queue.length cq, .int .i64 x.nextValid, .int .i64 x.nextItem] 26)).alloc (.cells #[.slice Ab' y.boxes.length cb', .slice As' y.subs.length cs', .slice Aq' y.queue.length cq', .int .i64 y.nextValid, .int .i64 y.nextItem] 26)) W → Calls Tryz.prog 32 #[.slice Aq x.queue.length cq, .slice Aq' y.queue.length cq', .func (.func 33) #[] #[]] W fun e w' => e = .returned (.bool (eqL itEq x.queue y.queue)) ∧ Below W.heap.size W w') := fun W hW => peqfItem_any ((hq.below stb_it HB0.out).below stb_it hW) ((hq'.below stb_it HB0.out).below stb_it hW) hd.queue itEq _ eg2 (fun i hi hj u v W hu hv => psameItem_any hu hv (hd.qu _ (List.getElem_mem _)))
  obtain ⟨R, HR⟩ : ∃ R, Hid (R = sttEq x y) := ⟨_, hide rfl⟩
  rw [← HR.out]
  replace HR : Hid (R = (decide (x.nextValid = y.nextValid) && decide (x.nextItem = y.nextItem) && eqL bxEq x.boxes y.boxes && eqL sbEq x.subs y.subs && eqL itEq x.queue y.queue)) := HR
  clear hb hs hq hb' hs' hq' hd eg1 eg2
  generalize eqL bxEq x.boxes y.boxes = T1 at *
  generalize eqL sbEq x.subs y.subs = T2 at *
  generalize eqL itEq x.queue y.queue = T3 at *
  obtain ⟨xb, xs, xq, xv, xi⟩ := x
  obtain ⟨yb, ys, yq, yv, yi⟩ := y
  dsimp only at *
  generalize xb.length = lb at *
  generalize yb.length = mb at *
  generalize xs.length = ls at *
  generalize ys.length = ms at *
  generalize xq.length = lq at *
  generalize yq.length = mq at *
  by_cases h0 : xv = yv
  · subst h0
    by_cases h1 : xi = yi
    · subst h1
      cases T1 with
      | true =>
        cases T2 with
        | true =>
          cases T3 with
          | true =>
            have HF : Hid (R = true) := by show _ = _; rw [HR.out]; simp []
            clear HR
            go_enter Tryz.func12, Tryz.ntmps12
            go_wp2_with (first | (go_at_call 29; refine (H1.out _ HB.out).mono ?_; rintro e w1 ⟨rfl, hb1⟩; replace HB := hide (HB.out.trans (hb1.mono HB.out.size)); clear hb1; have kk := HK.out.below HB.out HK.out.lt; have k0 := kk.cell 0; have k1 := kk.cell 1; have k2 := kk.cell 2; have k3 := kk.cell 3; have k4 := kk.cell 4; clear kk; have kk := HS.out.below HB.out HS.out.lt; have s0 := kk.cell 0; have s1 := kk.cell 1; have s2 := kk.cell 2; have s3 := kk.cell 3; have s4 := kk.cell 4; clear kk) | (go_at_call 31; refine (H2.out _ HB.out).mono ?_; rintro e w1 ⟨rfl, hb1⟩; replace HB := hide (HB.out.trans (hb1.mono HB.out.size)); clear hb1; have kk := HK.out.below HB.out HK.out.lt; have k0 := kk.cell 0; have k1 := kk.cell 1; have k2 := kk.cell 2; have k3 := kk.cell 3; have k4 := kk.cell 4; clear kk; have kk := HS.out.below HB.out HS.out.lt; have s0 := kk.cell 0; have s1 := kk.cell 1; have s2 := kk.cell 2; have s3 := kk.cell 3; have s4 := kk.cell 4; clear kk) | (go_at_call 32; refine (H3.out _ HB.out).mono ?_; rintro e w1 ⟨rfl, hb1⟩; replace HB := hide (HB.out.trans (hb1.mono HB.out.size)); clear hb1; have kk := HK.out.below HB.out HK.out.lt; have k0 := kk.cell 0; have k1 := kk.cell 1; have k2 := kk.cell 2; have k3 := kk.cell 3; have k4 := kk.cell 4; clear kk; have kk := HS.out.below HB.out HS.out.lt; have s0 := kk.cell 0; have s1 := kk.cell 1; have s2 := kk.cell 2; have s3 := kk.cell 3; have s4 := kk.cell 4; clear kk))
            exact bodyPost_ret (v := .bool true) (by simp [results, Tryz.results12, go_sem, ] <;> omega) rfl ⟨by rw [HF.out], HB0.out.trans (HB.out.mono HB0.out.size)⟩
          | false =>
            have HF : Hid (R = false) := by show _ = _; rw [HR.out]; simp []
            clear HR
            go_enter Tryz.func12, Tryz.ntmps12
            go_wp2_with (first | (go_at_call 29; refine (H1.out _ HB.out).mono ?_; rintro e w1 ⟨rfl, hb1⟩; replace HB := hide (HB.out.trans (hb1.mono HB.out.size)); clear hb1; have kk := HK.out.below HB.out HK.out.lt; have k0 := kk.cell 0; have k1 := kk.cell 1; have k2 := kk.cell 2; have k3 := kk.cell 3; have k4 := kk.cell 4; clear kk; have kk := HS.out.below HB.out HS.out.lt; have s0 := kk.cell 0; have s1 := kk.cell 1; have s2 := kk.cell 2; have s3 := kk.cell 3; have s4 := kk.cell 4; clear kk) | (go_at_call 31; refine (H2.out _ HB.out).mono ?_; rintro e w1 ⟨rfl, hb1⟩; replace HB := hide (HB.out.trans (hb1.mono HB.out.size)); clear hb1; have kk := HK.out.below HB.out HK.out.lt; have k0 := kk.cell 0; have k1 := kk.cell 1; have k2 := kk.cell 2; have k3 := kk.cell 3; have k4 := kk.cell 4; clear kk; have kk := HS.out.below HB.out HS.out.lt; have s0 := kk.cell 0; have s1 := kk.cell 1; have s2 := kk.cell 2; have s3 := kk.cell 3; have s4 := kk.cell 4; clear kk) | (go_at_call 32; refine (H3.out _ HB.out).mono ?_; rintro e w1 ⟨rfl, hb1⟩; replace HB := hide (HB.out.trans (hb1.mono HB.out.size)); clear hb1; have kk := HK.out.below HB.out HK.out.lt; have k0 := kk.cell 0; have k1 := kk.cell 1; have k2 := kk.cell 2; have k3 := kk.cell 3; have k4 := kk.cell 4; clear kk; have kk := HS.out.below HB.out HS.out.lt; have s0 := kk.cell 0; have s1 := kk.cell 1; have s2 := kk.cell 2; have s3 := kk.cell 3; have s4 := kk.cell 4; clear kk))
            exact bodyPost_ret (v := .bool false) (by simp [results, Tryz.results12, go_sem, ] <;> omega) rfl ⟨by rw [HF.out], HB0.out.trans (HB.out.mono HB0.out.size)⟩
        | false =>
          have HF : Hid (R = false) := by show _ = _; rw [HR.out]; simp []
          clear HR
          go_enter Tryz.func12, Tryz.ntmps12
          go_wp2_with (first | (go_at_call 29; refine (H1.out _ HB.out).mono ?_; rintro e w1 ⟨rfl, hb1⟩; replace HB := hide (HB.out.trans (hb1.mono HB.out.size)); clear hb1; have kk := HK.out.below HB.out HK.out.lt; have k0 := kk.cell 0; have k1 := kk.cell 1; have k2 := kk.cell 2; have k3 := kk.cell 3; have k4 := kk.cell 4; clear kk; have kk := HS.out.below HB.out HS.out.lt; have s0 := kk.cell 0; have s1 := kk.cell 1; have s2 := kk.cell 2; have s3 := kk.cell 3; have s4 := kk.cell 4; clear kk) | (go_at_call 31; refine (H2.out _ HB.out).mono ?_; rintro e w1 ⟨rfl, hb1⟩; replace HB := hide (HB.out.trans (hb1.mono HB.out.size)); clear hb1; have kk := HK.out.below HB.out HK.out.lt; have k0 := kk.cell 0; have k1 := kk.cell 1; have k2 := kk.cell 2; have k3 := kk.cell 3; have k4 := kk.cell 4; clear kk; have kk := HS.out.below HB.out HS.out.lt; have s0 := kk.cell 0; have s1 := kk.cell 1; have s2 := kk.cell 2; have s3 := kk.cell 3; have s4 := kk.cell 4; clear kk) | (go_at_call 32; refine (H3.out _ HB.out).mono ?_; rintro e w1 ⟨rfl, hb1⟩; replace HB := hide (HB.out.trans (hb1.mono HB.out.size)); clear hb1; have kk := HK.out.below HB.out HK.out.lt; have k0 := kk.cell 0; have k1 := kk.cell 1; have k2 := kk.cell 2; have k3 := kk.cell 3; have k4 := kk.cell 4; clear kk; have kk := HS.out.below HB.out HS.out.lt; have s0 := kk.cell 0; have s1 := kk.cell 1; have s2 := kk.cell 2; have s3 := kk.cell 3; have s4 := kk.cell 4; clear kk))
          exact bodyPost_ret (v := .bool false) (by simp [results, Tryz.results12, go_sem, ] <;> omega) rfl ⟨by rw [HF.out], HB0.out.trans (HB.out.mono HB0.out.size)⟩
      | false =>
        have HF : Hid (R = false) := by show _ = _; rw [HR.out]; simp []
        clear HR
        go_enter Tryz.func12, Tryz.ntmps12
        go_wp2_with (first | (go_at_call 29; refine (H1.out _ HB.out).mono ?_; rintro e w1 ⟨rfl, hb1⟩; replace HB := hide (HB.out.trans (hb1.mono HB.out.size)); clear hb1; have kk := HK.out.below HB.out HK.out.lt; have k0 := kk.cell 0; have k1 := kk.cell 1; have k2 := kk.cell 2; have k3 := kk.cell 3; have k4 := kk.cell 4; clear kk; have kk := HS.out.below HB.out HS.out.lt; have s0 := kk.cell 0; have s1 := kk.cell 1; have s2 := kk.cell 2; have s3 := kk.cell 3; have s4 := kk.cell 4; clear kk) | (go_at_call 31; refine (H2.out _ HB.out).mono ?_; rintro e w1 ⟨rfl, hb1⟩; replace HB := hide (HB.out.trans (hb1.mono HB.out.size)); clear hb1; have kk := HK.out.below HB.out HK.out.lt; have k0 := kk.cell 0; have k1 := kk.cell 1; have k2 := kk.cell 2; have k3 := kk.cell 3; have k4 := kk.cell 4; clear kk; have kk := HS.out.below HB.out HS.out.lt; have s0 := kk.cell 0; have s1 := kk.cell 1; have s2 := kk.cell 2; have s3 := kk.cell 3; have s4 := kk.cell 4; clear kk) | (go_at_call 32; refine (H3.out _ HB.out).mono ?_; rintro e w1 ⟨rfl, hb1⟩; replace HB := hide (HB.out.trans (hb1.mono HB.out.size)); clear hb1; have kk := HK.out.below HB.out HK.out.lt; have k0 := kk.cell 0; have k1 := kk.cell 1; have k2 := kk.cell 2; have k3 := kk.cell 3; have k4 := kk.cell 4; clear kk; have kk := HS.out.below HB.out HS.out.lt; have s0 := kk.cell 0; have s1 := kk.cell 1; have s2 := kk.cell 2; have s3 := kk.cell 3; have s4 := kk.cell 4; clear kk))
        exact bodyPost_ret (v := .bool false) (by simp [results, Tryz.results12, go_sem, ] <;> omega) rfl ⟨by rw [HF.out], HB0.out.trans (HB.out.mono HB0.out.size)⟩
    · have h1b : (xi == yi) = false := beq_eq_false_iff_ne.2 h1
      have HF : Hid (R = false) := by show _ = _; rw [HR.out]; simp [h1]
      clear HR
      go_enter Tryz.func12, Tryz.ntmps12
      go_wp2_with (first | (go_at_call 29; refine (H1.out _ HB.out).mono ?_; rintro e w1 ⟨rfl, hb1⟩; replace HB := hide (HB.out.trans (hb1.mono HB.out.size)); clear hb1; have kk := HK.out.below HB.out HK.out.lt; have k0 := kk.cell 0; have k1 := kk.cell 1; have k2 := kk.cell 2; have k3 := kk.cell 3; have k4 := kk.cell 4; clear kk; have kk := HS.out.below HB.out HS.out.lt; have s0 := kk.cell 0; have s1 := kk.cell 1; have s2 := kk.cell 2; have s3 := kk.cell 3; have s4 := kk.cell 4; clear kk) | (go_at_call 31; refine (H2.out _ HB.out).mono ?_; rintro e w1 ⟨rfl, hb1⟩; replace HB := hide (HB.out.trans (hb1.mono HB.out.size)); clear hb1; have kk := HK.out.below HB.out HK.out.lt; have k0 := kk.cell 0; have k1 := kk.cell 1; have k2 := kk.cell 2; have k3 := kk.cell 3; have k4 := kk.cell 4; clear kk; have kk := HS.out.below HB.out HS.out.lt; have s0 := kk.cell 0; have s1 := kk.cell 1; have s2 := kk.cell 2; have s3 := kk.cell 3; have s4 := kk.cell 4; clear kk) | (go_at_call 32; refine (H3.out _ HB.out).mono ?_; rintro e w1 ⟨rfl, hb1⟩; replace HB := hide (HB.out.trans (hb1.mono HB.out.size)); clear hb1; have kk := HK.out.below HB.out HK.out.lt; have k0 := kk.cell 0; have k1 := kk.cell 1; have k2 := kk.cell 2; have k3 := kk.cell 3; have k4 := kk.cell 4; clear kk; have kk := HS.out.below HB.out HS.out.lt; have s0 := kk.cell 0; have s1 := kk.cell 1; have s2 := kk.cell 2; have s3 := kk.cell 3; have s4 := kk.cell 4; clear kk))
      exact bodyPost_ret (v := .bool false) (by simp [results, Tryz.results12, go_sem, h1] <;> omega) rfl ⟨by rw [HF.out], HB0.out.trans (HB.out.mono HB0.out.size)⟩
  · have h0b : (xv == yv) = false := beq_eq_false_iff_ne.2 h0
    have HF : Hid (R = false) := by show _ = _; rw [HR.out]; simp [h0]
    clear HR
    go_enter Tryz.func12, Tryz.ntmps12
    go_wp2_with (first | (go_at_call 29; refine (H1.out _ HB.out).mono ?_; rintro e w1 ⟨rfl, hb1⟩; replace HB := hide (HB.out.trans (hb1.mono HB.out.size)); clear hb1; have kk := HK.out.below HB.out HK.out.lt; have k0 := kk.cell 0; have k1 := kk.cell 1; have k2 := kk.cell 2; have k3 := kk.cell 3; have k4 := kk.cell 4; clear kk; have kk := HS.out.below HB.out HS.out.lt; have s0 := kk.cell 0; have s1 := kk.cell 1; have s2 := kk.cell 2; have s3 := kk.cell 3; have s4 := kk.cell 4; clear kk) | (go_at_call 31; refine (H2.out _ HB.out).mono ?_; rintro e w1 ⟨rfl, hb1⟩; replace HB := hide (HB.out.trans (hb1.mono HB.out.size)); clear hb1; have kk := HK.out.below HB.out HK.out.lt; have k0 := kk.cell 0; have k1 := kk.cell 1; have k2 := kk.cell 2; have k3 := kk.cell 3; have k4 := kk.cell 4; clear kk; have kk := HS.out.below HB.out HS.out.lt; have s0 := kk.cell 0; have s1 := kk.cell 1; have s2 := kk.cell 2; have s3 := kk.cell 3; have s4 := kk.cell 4; clear kk) | (go_at_call 32; refine (H3.out _ HB.out).mono ?_; rintro e w1 ⟨rfl, hb1⟩; replace HB := hide (HB.out.trans (hb1.mono HB.out.size)); clear hb1; have kk := HK.out.below HB.out HK.out.lt; have k0 := kk.cell 0; have k1 := kk.cell 1; have k2 := kk.cell 2; have k3 := kk.cell 3; have k4 := kk.cell 4; clear kk; have kk := HS.out.below HB.out HS.out.lt; have s0 := kk.cell 0; have s1 := kk.cell 1; have s2 := kk.cell 2; have s3 := kk.cell 3; have s4 := kk.cell 4; clear kk))
    exact bodyPost_ret (v := .bool false) (by simp [results, Tryz.results12, go_sem, h0] <;> omega) rfl ⟨by rw [HF.out], HB0.out.trans (HB.out.mono HB0.out.size)⟩

/-- The error of number k (the document's), or none. -/
def erV (ea : Nat → Addr) (k : Nat) : Value := .iface 252 (.pointer (some (ea (k - 1))))
set_option maxRecDepth 20000 in
set_option maxHeartbeats 2000000 in
theorem pcheck_any {v : Value} {w : World} {s : Stt} {ea : Nat → Addr} (hE : Errs w ea) (hS : StR w v s) (hd : BdS s) :
    Calls Tryz.prog 9 #[v] w fun e w' => e = .returned (if poForm s then .nilIface else erV ea 2) ∧ Below w.heap.size w w' := by
  have hv := hS
  obtain ⟨bv, sv, qv, rfl, hb, hs, hq⟩ := hS
  obtain ⟨Ab, cb, rfl⟩ := hb.form
  obtain ⟨As, cs, rfl⟩ := hs.form
  obtain ⟨Aq, cq, rfl⟩ := hq.form
  have HB0 : Hid (Below w.heap.size w (w.alloc (.cells #[.slice Ab s.boxes.length cb, .slice As s.subs.length cs, .slice Aq s.queue.length cq, .int .i64 s.nextValid, .int .i64 s.nextItem] 26))) := (Below.refl w.heap.size w).alloc (Nat.le_refl _) _
  have HE0 := hide (hE.below HB0.out)
  have H1 := hide (pform_any HE0.out.name (hv.below HB0.out) hd)
  clear hv hb hs hq hE hd
  obtain ⟨V, HV⟩ : ∃ V, Hid (V = if poForm s then Value.nilIface else erV ea 2) := ⟨_, hide rfl⟩
  rw [← HV.out]
  generalize poForm s = T at *
  generalize s.boxes.length = lb at *
  generalize s.subs.length = ls at *
  generalize s.queue.length = lq at *
  generalize s.nextValid = nv at *
  generalize s.nextItem = ni at *
  cases T with
  | true =>
    go_enter Tryz.func9, Tryz.ntmps9
    go_wp2_with (go_at_call 22; refine H1.out.mono ?_; rintro e w1 ⟨rfl, hb1⟩; replace hb1 := hide hb1)
    go_ret
    exact ⟨by rw [HV.out]; rfl, HB0.out.trans (hb1.out.mono HB0.out.size)⟩
  | false =>
    go_enter Tryz.func9, Tryz.ntmps9
    go_wp2_with (go_at_call 22; refine H1.out.mono ?_; rintro e w1 ⟨rfl, hb1⟩; have c1 : w1.cell? ⟨0, 0, none⟩ = some (.iface 252 (.pointer (some (ea 1)))) := (HE0.out.below hb1).cell 1 (by omega); replace hb1 := hide hb1)
    go_ret
    exact ⟨by rw [HV.out]; rfl, HB0.out.trans (hb1.out.mono HB0.out.size)⟩
end Go.Proofs.YtbfdbbpkpjgamaaGreatDoor
