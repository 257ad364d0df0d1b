/- The document's Separator. -/
import Derived.Test.YtcmhaihoeecjoaaGreatDoorU47
import Derived.Test.YtcmhaihoeecjoaaGreatDoorU11
namespace Go.Proofs.YtcmhaihoeecjoaaGreatDoor
open Go.RowKit Go.Shelf
theorem boxT_24 (t : Int) (h0 : 0 ≤ t) (h1 : t ≤ 4102444799) : (boxT t).length = 24 := by
  obtain ⟨y, m, d, h, mi, s, wk, hd, _, _, hb⟩ := box_parts t h0 h1
  rw [hb]
  exact (boxP_of hd).len
theorem sepT_form2 (s : List UInt8) (t : Int) : sepT s t = fromS ++ (s ++ 32 :: (boxT t ++ [10])) := by
  unfold sepT fromS
  simp
/-- A line's pieces, as the document cuts them. -/
theorem line_pieces (l : List UInt8) (h31 : 31 ≤ l.length) (hp : l.take 5 = fromS) : ∃ sd c q z, l = fromS ++ (sd ++ c :: (q ++ [z])) ∧ q.length = 24 ∧ l.length = sd.length + 31 := by
  have e0 : l = fromS ++ l.drop 5 := by rw [← hp, List.take_append_drop]
  have hl : (l.drop 5).length = l.length - 5 := List.length_drop
  have e1 : l.drop 5 = (l.drop 5).take (l.length - 31) ++ (l.drop 5).drop (l.length - 31) := (List.take_append_drop _ _).symm
  have hl2 : ((l.drop 5).drop (l.length - 31)).length = 26 := by rw [List.length_drop, hl]; omega
  generalize (l.drop 5).drop (l.length - 31) = r at *
  have hl3 : ((l.drop 5).take (l.length - 31)).length = l.length - 31 := by rw [List.length_take, hl]; omega
  cases r with
  | nil => simp at hl2
  | cons c r =>
    have hr : r.length = 25 := by simpa using hl2
    have e2 : r = r.take 24 ++ r.drop 24 := (List.take_append_drop _ _).symm
    have hd : (r.drop 24).length = 1 := by rw [List.length_drop, hr]
    obtain ⟨z, hz⟩ : ∃ z, r.drop 24 = [z] := by
      match r.drop 24, hd with
      | [z], _ => exact ⟨z, rfl⟩
    refine ⟨_, c, r.take 24, z, ?_, by rw [List.length_take, hr]; rfl, by rw [hl3]; omega⟩
    rw [← hz, ← e2, ← e1]
    exact e0
theorem pieces_uniq {sd q s : List UInt8} {c z : UInt8} {t : Int} (hq : q.length = 24) (h0 : 0 ≤ t) (h1 : t ≤ 4102444799) (h : fromS ++ (sd ++ c :: (q ++ [z])) = sepT s t) : sd = s ∧ c = 32 ∧ q = boxT t ∧ z = 10 := by
  rw [sepT_form2] at h
  have e1 := List.append_cancel_left h
  have hl := congrArg List.length e1
  have hb := boxT_24 t h0 h1
  simp only [List.length_append, List.length_cons, List.length_nil, hq, hb] at hl
  obtain ⟨e2, e3⟩ := List.append_inj e1 (by omega)
  simp only [List.cons.injEq] at e3
  obtain ⟨e4, e5⟩ := List.append_inj e3.2 (by rw [hq, hb])
  simp at e5
  exact ⟨e2, e3.1, e4, e5⟩
def RSepOut (l : List UInt8) (w : World) (e : Ending) (w' : World) : Prop := Below w.heap.size w w' ∧
  ((∃ s t, rightS s = true ∧ 0 ≤ t ∧ t ≤ 4102444799 ∧ l = sepT s t ∧ e = .returned (.tuple #[.string ⟨s.toArray⟩, .int .i64 t, .bool true])) ∨
    ((∀ s t, rightS s = true → 0 ≤ t → t ≤ 4102444799 → l ≠ sepT s t) ∧ e = .returned (.tuple #[.string ⟨#[]⟩, .int .i64 0, .bool false])))
theorem rsep_none {l : List UInt8} {w w' : World} (hb : Below w.heap.size w w') (h : ∀ s t, rightS s = true → 0 ≤ t → t ≤ 4102444799 → l ≠ sepT s t) : RSepOut l w (.returned (.tuple #[.string ⟨#[]⟩, .int .i64 0, .bool false])) w' := ⟨hb, .inr ⟨h, rfl⟩⟩
set_option maxRecDepth 8000 in
set_option maxHeartbeats 1000000 in
theorem rsep_short (l : List UInt8) (w : World) (hl : l.length ≤ 100000) (h : l.length < 31 ∨ l.take 5 ≠ fromS) : Calls Tryz.prog 19 #[.string ⟨l.toArray⟩] w (RSepOut l w) := by
  have hsz := size_lit l
  have hno : ∀ s t, rightS s = true → 0 ≤ t → t ≤ 4102444799 → l ≠ sepT s t := by
    rintro s t _ h0 h1 rfl
    rcases h with h | h
    · have := boxT_24 t h0 h1
      rw [sepT_form2] at h
      simp [fromS, this] at h
      omega
    · exact h (by rw [sepT_form2, List.take_left' (show fromS.length = 5 from rfl)])
  have HN := hide hno
  clear hno
  by_cases h31 : l.length < 31
  · have h31' : (l.length : Int) < 31 := by omega
    clear h
    go_enter Tryz.func19, Tryz.ntmps19
    go_wp2
    go_ret3
    exact rsep_none (Below.refl _ _) HN.out
  · have h31' : ¬ (l.length : Int) < 31 := by omega
    have h5 : l.take 5 ≠ fromS := by
      rcases h with h | h
      · exact absurd h h31
      · exact h
    have s0 : ∀ w, (Instr.slice 9 (.string ⟨l.toArray⟩) none (some (.int .i64 5)) none).run Tryz.prog w = .ok (.string ⟨(l.take 5).toArray⟩) w := fun w => by
      have := run_slice_string_h (P := Tryz.prog) w 9 ⟨l.toArray⟩ Tryz.underlying9 .i64 5 (by omega) (by rw [size_lit]; omega)
      rw [this, show (5 : Int).toNat = 5 from rfl, ext_take]
    have h5b : (l.take 5 == [70, 114, 111, 109, 32]) = false := by
      unfold fromS at h5
      simpa using h5
    clear h h5
    go_enter Tryz.func19, Tryz.ntmps19
    go_wp2
    go_ret3
    exact rsep_none (Below.refl _ _) HN.out
set_option maxRecDepth 8000 in
set_option maxHeartbeats 2000000 in
theorem rsep_long (sd q : List UInt8) (c z : UInt8) (w : World) (hq : q.length = 24) (hl : sd.length ≤ 5000) : Calls Tryz.prog 19 #[.string ⟨(fromS ++ (sd ++ c :: (q ++ [z]))).toArray⟩] w (RSepOut (fromS ++ (sd ++ c :: (q ++ [z]))) w) := by
  have HU := hide (fun s t h0 h1 => pieces_uniq (s := s) (t := t) (sd := sd) (c := c) (z := z) hq h0 h1)
  have HSd := hide (fun w => sender_any sd w (by omega))
  have hcat := cat_lit
  obtain ⟨l, hL⟩ : ∃ l, fromS ++ (sd ++ c :: (q ++ [z])) = l := ⟨_, rfl⟩
  have HL := hide hL
  obtain ⟨n, hsn⟩ : ∃ n, sd.length = n := ⟨_, rfl⟩
  have hlen : l.length = n + 31 := by rw [← hL, ← hsn]; simp [fromS, hq]
  have hsz := size_lit l
  have s0 : ∀ w, (Instr.slice 9 (.string ⟨l.toArray⟩) none (some (.int .i64 5)) none).run Tryz.prog w = .ok (.string ⟨#[70, 114, 111, 109, 32]⟩) w := fun w => by
    have := run_slice_string_h (P := Tryz.prog) w 9 ⟨l.toArray⟩ Tryz.underlying9 .i64 5 (by omega) (by rw [size_lit]; omega)
    rw [this, show (5 : Int).toNat = 5 from rfl, ext_take, ← hL, List.take_left' (show fromS.length = 5 from rfl)]
    rfl
  have s1 : ∀ w, (Instr.slice 9 (.string ⟨l.toArray⟩) (some (.int .i64 5)) (some (.int .i64 ((n : Int) + 5))) none).run Tryz.prog w = .ok (.string ⟨sd.toArray⟩) w := fun w => by
    have := slice_str l 5 (n + 5) (by omega) (by omega) w
    rw [show ((n + 5 : Nat) : Int) = (n : Int) + 5 by omega, show n + 5 - 5 = sd.length by omega, ← hL, List.drop_left' (show fromS.length = 5 from rfl), List.take_left' rfl, hL] at this
    exact this
  have hat : ∀ h : n + 5 < (⟨l.toArray⟩ : ByteArray).size, (⟨l.toArray⟩ : ByteArray)[n + 5]'h = c := fun h => by
    show l[n + 5]'(by rw [size_lit] at h; exact h) = c
    have : l[n + 5]? = some c := by
      rw [← hL, List.getElem?_append_right (by show 5 ≤ n + 5; omega), show n + 5 - fromS.length = sd.length by show n + 5 - 5 = _; omega, List.getElem?_append_right (Nat.le_refl _), Nat.sub_self]
      rfl
    exact (List.getElem?_eq_some_iff.1 this).2
  have s2 : ∀ w, (Instr.slice 9 (.string ⟨l.toArray⟩) (some (.int .i64 ((n : Int) + 6))) (some (.int .i64 ((n : Int) + 30))) none).run Tryz.prog w = .ok (.string ⟨q.toArray⟩) w := fun w => by
    have := slice_str l (n + 6) (n + 30) (by omega) (by omega) w
    have e1 : (l.drop (n + 6)).take (n + 30 - (n + 6)) = q := by
      have e2 : l = (fromS ++ sd ++ [c]) ++ (q ++ [z]) := by rw [← hL]; simp
      rw [e2, List.drop_left' (by simp [fromS, hsn]), show n + 30 - (n + 6) = q.length by omega, List.take_left' rfl]
    rw [e1, show ((n + 6 : Nat) : Int) = (n : Int) + 6 by omega, show ((n + 30 : Nat) : Int) = (n : Int) + 30 by omega] at this
    exact this
  have t1 : ∀ w, (Instr.slice 9 (.string ⟨q.toArray⟩) (some (.int .i64 4)) (some (.int .i64 7)) none).run Tryz.prog w = .ok (.string ⟨((q.drop 4).take 3).toArray⟩) w := fun w => slice_str q 4 7 (by omega) (by omega) w
  obtain ⟨y0, y1, hy⟩ : ∃ y0 y1, (q.drop 8).take 2 = [y0, y1] := by
    have : ((q.drop 8).take 2).length = 2 := by rw [List.length_take, List.length_drop]; omega
    match (q.drop 8).take 2, this with
    | [a, b], _ => exact ⟨a, b, rfl⟩
  have t2 : ∀ w, (Instr.slice 9 (.string ⟨q.toArray⟩) (some (.int .i64 8)) (some (.int .i64 10)) none).run Tryz.prog w = .ok (.string ⟨#[y0, y1]⟩) w := fun w => by
    have := slice_str q 8 10 (by omega) (by omega) w
    rw [show (10 : Nat) - 8 = 2 from rfl, hy] at this
    exact this
  have t3 : ∀ w, (Instr.slice 9 (.string ⟨q.toArray⟩) (some (.int .i64 11)) (some (.int .i64 19)) none).run Tryz.prog w = .ok (.string ⟨((q.drop 11).take 8).toArray⟩) w := fun w => slice_str q 11 19 (by omega) (by omega) w
  have t4 : (⟨q.toArray⟩ : ByteArray).extract 20 24 = ⟨(q.drop 20).toArray⟩ := by have := ext_drop q 20; rwa [hq] at this
  have t5 : ∀ w, (Instr.slice 9 (.string ⟨#[y0, y1]⟩) (some (.int .i64 1)) none none).run Tryz.prog w = .ok (.string ⟨#[y1]⟩) w := fun w => by
    have := run_slice_string_l (P := Tryz.prog) w 9 ⟨#[y0, y1]⟩ Tryz.underlying9 .i64 1 (by omega) (by show (1 : Int) ≤ 2; omega)
    rw [this]
    rfl
  have u1 : (n : Int) + 31 - 26 = (n : Int) + 5 := by omega
  have u2 : (n : Int) + 31 - 1 = (n : Int) + 30 := by omega
  have u3 : (n : Int) + 5 + 1 = (n : Int) + 6 := by omega
  have u4 : ¬ (n : Int) + 31 < 31 := by omega
  rw [hL] at HU ⊢
  clear hL
  cases hr : rightS sd with
  | false =>
    rw [hr] at HSd
    have HN : Hid (∀ s t, rightS s = true → 0 ≤ t → t ≤ 4102444799 → l ≠ sepT s t) := by
      intro s t hs h0 h1 e
      rw [(HU.out s t h0 h1 e).1, hs] at hr
      cases hr
    clear hr
    go_enter Tryz.func19, Tryz.ntmps19
    go_wp2_with (first
      | (go_at_call 8; refine (HSd.out _).mono ?_; rintro e w3 ⟨rfl, rfl⟩))
    go_ret3
    exact rsep_none (Below.refl _ _) HN.out
  | true =>
    rw [hr] at HSd
    by_cases hc32 : c = 32
    · subst hc32
      have HR := hide hr
      clear hr
      have l2 : ((q.drop 4).take 3).length = 3 := by rw [List.length_take, List.length_drop]; omega
      have l3 : (q.drop 20).length = 4 := by rw [List.length_drop]; omega
      have l4 : ((q.drop 11).take 8).length = 8 := by rw [List.length_take, List.length_drop]; omega
      have hml : (laidM q).length ≤ 900 := by
        unfold laidM
        rw [hy]
        have : (dayD [y0, y1]).length ≤ 2 := by unfold dayD; split <;> simp
        simp [l2, l3, l4]
        omega
      have HRB : Hid (∀ t : Int, 0 ≤ t → t ≤ 4102444799 → q = boxT t → Da.docR ((Da.pmailF (Da.σz (laidM q))).bind Da.endF) = .tuple #[.int .i64 t, .int .i64 0]) := by
        intro t h0 h1 e
        rw [e]
        exact rread_back t h0 h1
      have HC := hide (docR_cases ((Da.pmailF (Da.σz (laidM q))).bind Da.endF))
      by_cases hy0 : y0 = 32
      · subst hy0
        have edd : dayD [32, y1] = [y1] := rfl
        have HP : Hid (∀ w, Calls Tryz.prog 32 #[.string ⟨(y1 :: 32 :: ((q.drop 4).take 3 ++ 32 :: (q.drop 20 ++ 32 :: ((q.drop 11).take 8 ++ [32, 43, 48, 48, 48, 48])))).toArray⟩] w fun e w' => e = .returned (Da.docR ((Da.pmailF (Da.σz (laidM q))).bind Da.endF)) ∧ Below w.heap.size w w') := fun w => by
          have := Da.rmail_any (laidM q) w hml
          have e : laidM q = y1 :: 32 :: ((q.drop 4).take 3 ++ 32 :: (q.drop 20 ++ 32 :: ((q.drop 11).take 8 ++ [32, 43, 48, 48, 48, 48]))) := by unfold laidM; rw [hy, edd]; rfl
          rw [e] at this ⊢
          exact this
        generalize Da.docR ((Da.pmailF (Da.σz (laidM q))).bind Da.endF) = R at *
        generalize (q.drop 4).take 3 = x2 at *
        generalize q.drop 20 = x3 at *
        generalize (q.drop 11).take 8 = x4 at *
        clear hy hml
        have hn := ext_some w
        have hc := ext_cell w
        rcases HC.out with ⟨T, g0, g1, rfl⟩ | ⟨k, hk, rfl⟩
        · have HB := hide (fun w => rbox_in T w g0 g1)
          have hbx := boxT_len T
          have e6 : sepT sd T = 70 :: 114 :: 111 :: 109 :: 32 :: (sd ++ 32 :: (boxT T ++ [10])) := by rw [sepT_form2]; rfl
          by_cases heq : sepT sd T = l
          · have hbq : (70 :: 114 :: 111 :: 109 :: 32 :: (sd ++ 32 :: (boxT T ++ [10])) == l) = true := by rw [← e6, heq]; simp
            have HQ := hide heq
            clear heq e6
            generalize boxT T = bT at *
            go_enter Tryz.func19, Tryz.ntmps19
            go_wp2_with (first
              | (go_at_call 8; refine (HSd.out _).mono ?_; rintro e w3 ⟨rfl, rfl⟩))
            refine wp_region_ext (by kernel_rfl) (by kernel_rfl) ?_
            repeat (go_big_quiet_step ((first | (go_at_call 32; exact ext_call (HP.out _)))))
            refine wpQuiet_nil ?_
            rintro w1 ⟨⟨_, hb1⟩, rfl⟩
            have HB1 := hide hb1
            clear hb1 hn hc
            go_wp2_with (first
              | (go_at_call 23; refine (HB.out _).mono ?_; rintro e w4 ⟨rfl, hb4⟩; replace hb4 := hide hb4))
            go_ret3
            exact ⟨HB1.out.trans (hb4.out.mono HB1.out.size), .inl ⟨sd, T, HR.out, g0, g1, HQ.out.symm, rfl⟩⟩
          · have hbq : (70 :: 114 :: 111 :: 109 :: 32 :: (sd ++ 32 :: (boxT T ++ [10])) == l) = false := by rw [← e6]; simpa using heq
            have HN : Hid (∀ s t, rightS s = true → 0 ≤ t → t ≤ 4102444799 → l ≠ sepT s t) := by
              intro s t hs h0 h1 e
              obtain ⟨a1, _, a3, _⟩ := HU.out s t h0 h1 e
              have := HRB.out t h0 h1 a3
              simp at this
              rw [this, a1] at heq
              exact heq e.symm
            clear heq e6
            generalize boxT T = bT at *
            go_enter Tryz.func19, Tryz.ntmps19
            go_wp2_with (first
              | (go_at_call 8; refine (HSd.out _).mono ?_; rintro e w3 ⟨rfl, rfl⟩))
            refine wp_region_ext (by kernel_rfl) (by kernel_rfl) ?_
            repeat (go_big_quiet_step ((first | (go_at_call 32; exact ext_call (HP.out _)))))
            refine wpQuiet_nil ?_
            rintro w1 ⟨⟨_, hb1⟩, rfl⟩
            have HB1 := hide hb1
            clear hb1 hn hc
            go_wp2_with (first
              | (go_at_call 23; refine (HB.out _).mono ?_; rintro e w4 ⟨rfl, hb4⟩; replace hb4 := hide hb4))
            go_ret3
            exact rsep_none (HB1.out.trans (hb4.out.mono HB1.out.size)) HN.out
        · have HN : Hid (∀ s t, rightS s = true → 0 ≤ t → t ≤ 4102444799 → l ≠ sepT s t) := by
            intro s t hs h0 h1 e
            obtain ⟨_, _, a3, _⟩ := HU.out s t h0 h1 e
            have := HRB.out t h0 h1 a3
            simp at this
            exact hk this.2
          have hk' : (k == 0) = false := by simpa using hk
          go_enter Tryz.func19, Tryz.ntmps19
          go_wp2_with (first
            | (go_at_call 8; refine (HSd.out _).mono ?_; rintro e w3 ⟨rfl, rfl⟩))
          refine wp_region_ext (by kernel_rfl) (by kernel_rfl) ?_
          repeat (go_big_quiet_step ((first | (go_at_call 32; exact ext_call (HP.out _)))))
          refine wpQuiet_nil ?_
          rintro w1 ⟨⟨_, hb1⟩, rfl⟩
          have HB1 := hide hb1
          clear hb1 hn hc
          go_wp2
          go_ret3
          exact rsep_none HB1.out HN.out
      · have edd : dayD [y0, y1] = [y0, y1] := by unfold dayD; rw [if_neg (by simpa using hy0)]
        have hat0 : ∀ h : 0 < (⟨#[y0, y1]⟩ : ByteArray).size, (⟨#[y0, y1]⟩ : ByteArray)[0]'h = y0 := fun _ => rfl
        have hy0' : ¬ ((y0.toNat : Int) = 32) := by
          intro e
          exact hy0 (UInt8.toNat_inj.1 (by simpa using (by omega : y0.toNat = 32)))
        have HP : Hid (∀ w, Calls Tryz.prog 32 #[.string ⟨(y0 :: y1 :: 32 :: ((q.drop 4).take 3 ++ 32 :: (q.drop 20 ++ 32 :: ((q.drop 11).take 8 ++ [32, 43, 48, 48, 48, 48])))).toArray⟩] w fun e w' => e = .returned (Da.docR ((Da.pmailF (Da.σz (laidM q))).bind Da.endF)) ∧ Below w.heap.size w w') := fun w => by
          have := Da.rmail_any (laidM q) w hml
          have e : laidM q = y0 :: y1 :: 32 :: ((q.drop 4).take 3 ++ 32 :: (q.drop 20 ++ 32 :: ((q.drop 11).take 8 ++ [32, 43, 48, 48, 48, 48]))) := by unfold laidM; rw [hy, edd]; rfl
          rw [e] at this ⊢
          exact this
        generalize Da.docR ((Da.pmailF (Da.σz (laidM q))).bind Da.endF) = R at *
        generalize (q.drop 4).take 3 = x2 at *
        generalize q.drop 20 = x3 at *
        generalize (q.drop 11).take 8 = x4 at *
        clear hy hml
        have hn := ext_some w
        have hc := ext_cell w
        rcases HC.out with ⟨T, g0, g1, rfl⟩ | ⟨k, hk, rfl⟩
        · have HB := hide (fun w => rbox_in T w g0 g1)
          have hbx := boxT_len T
          have e6 : sepT sd T = 70 :: 114 :: 111 :: 109 :: 32 :: (sd ++ 32 :: (boxT T ++ [10])) := by rw [sepT_form2]; rfl
          by_cases heq : sepT sd T = l
          · have hbq : (70 :: 114 :: 111 :: 109 :: 32 :: (sd ++ 32 :: (boxT T ++ [10])) == l) = true := by rw [← e6, heq]; simp
            have HQ := hide heq
            clear heq e6
            generalize boxT T = bT at *
            go_enter Tryz.func19, Tryz.ntmps19
            go_wp2_with (first
              | (go_at_call 8; refine (HSd.out _).mono ?_; rintro e w3 ⟨rfl, rfl⟩))
            refine wp_region_ext (by kernel_rfl) (by kernel_rfl) ?_
            repeat (go_big_quiet_step ((first | (go_at_call 32; exact ext_call (HP.out _)))))
            refine wpQuiet_nil ?_
            rintro w1 ⟨⟨_, hb1⟩, rfl⟩
            have HB1 := hide hb1
            clear hb1 hn hc
            go_wp2_with (first
              | (go_at_call 23; refine (HB.out _).mono ?_; rintro e w4 ⟨rfl, hb4⟩; replace hb4 := hide hb4))
            go_ret3
            exact ⟨HB1.out.trans (hb4.out.mono HB1.out.size), .inl ⟨sd, T, HR.out, g0, g1, HQ.out.symm, rfl⟩⟩
          · have hbq : (70 :: 114 :: 111 :: 109 :: 32 :: (sd ++ 32 :: (boxT T ++ [10])) == l) = false := by rw [← e6]; simpa using heq
            have HN : Hid (∀ s t, rightS s = true → 0 ≤ t → t ≤ 4102444799 → l ≠ sepT s t) := by
              intro s t hs h0 h1 e
              obtain ⟨a1, _, a3, _⟩ := HU.out s t h0 h1 e
              have := HRB.out t h0 h1 a3
              simp at this
              rw [this, a1] at heq
              exact heq e.symm
            clear heq e6
            generalize boxT T = bT at *
            go_enter Tryz.func19, Tryz.ntmps19
            go_wp2_with (first
              | (go_at_call 8; refine (HSd.out _).mono ?_; rintro e w3 ⟨rfl, rfl⟩))
            refine wp_region_ext (by kernel_rfl) (by kernel_rfl) ?_
            repeat (go_big_quiet_step ((first | (go_at_call 32; exact ext_call (HP.out _)))))
            refine wpQuiet_nil ?_
            rintro w1 ⟨⟨_, hb1⟩, rfl⟩
            have HB1 := hide hb1
            clear hb1 hn hc
            go_wp2_with (first
              | (go_at_call 23; refine (HB.out _).mono ?_; rintro e w4 ⟨rfl, hb4⟩; replace hb4 := hide hb4))
            go_ret3
            exact rsep_none (HB1.out.trans (hb4.out.mono HB1.out.size)) HN.out
        · have HN : Hid (∀ s t, rightS s = true → 0 ≤ t → t ≤ 4102444799 → l ≠ sepT s t) := by
            intro s t hs h0 h1 e
            obtain ⟨_, _, a3, _⟩ := HU.out s t h0 h1 e
            have := HRB.out t h0 h1 a3
            simp at this
            exact hk this.2
          have hk' : (k == 0) = false := by simpa using hk
          go_enter Tryz.func19, Tryz.ntmps19
          go_wp2_with (first
            | (go_at_call 8; refine (HSd.out _).mono ?_; rintro e w3 ⟨rfl, rfl⟩))
          refine wp_region_ext (by kernel_rfl) (by kernel_rfl) ?_
          repeat (go_big_quiet_step ((first | (go_at_call 32; exact ext_call (HP.out _)))))
          refine wpQuiet_nil ?_
          rintro w1 ⟨⟨_, hb1⟩, rfl⟩
          have HB1 := hide hb1
          clear hb1 hn hc
          go_wp2
          go_ret3
          exact rsep_none HB1.out HN.out
    · have hc32' : ¬ ((c.toNat : Int) = 32) := by
        intro e
        exact hc32 (UInt8.toNat_inj.1 (by simpa using (by omega : c.toNat = 32)))
      have HN : Hid (∀ s t, rightS s = true → 0 ≤ t → t ≤ 4102444799 → l ≠ sepT s t) := by
        intro s t hs h0 h1 e
        exact hc32 (HU.out s t h0 h1 e).2.1
      clear hr
      go_enter Tryz.func19, Tryz.ntmps19
      go_wp2_with (first
        | (go_at_call 8; refine (HSd.out _).mono ?_; rintro e w3 ⟨rfl, rfl⟩))
      go_ret3
      exact rsep_none (Below.refl _ _) HN.out
end Go.Proofs.YtcmhaihoeecjoaaGreatDoor
