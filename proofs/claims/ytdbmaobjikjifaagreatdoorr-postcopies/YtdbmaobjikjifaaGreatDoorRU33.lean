/- Package post: the name that a box gets by a renaming. -/
/- Package post: which boxes a renaming holds up. -/
import Derived.Test.YtdbmaobjikjifaaGreatDoorRU32
import Derived.Test.YtdbmaobjikjifaaGreatDoorRU18
section
set_option linter.unusedVariables false
set_option linter.unusedSimpArgs false
namespace Go.Proofs.YtdbmaobjikjifaaGreatDoorR
open Go.RowKit Go.Shelf
set_option maxRecDepth 20000 in
set_option maxHeartbeats 4000000 in
theorem pnewName_any {w0 w : World} {X : Nat} {p : PA} (h : AS w0 w X p) {bv : Value} {b : Bx} (hb : BxV w bv b) (h1 : b.name.length ≤ 1000000) (h2 : p.a.name.length ≤ 1000000) (h3 : p.a.dst.length ≤ 1000000) :
    Calls Tryz.prog 86 #[.pointer (some ⟨X, 0, none⟩), bv] w fun e w' => e = movV (nwO p b) ∧ Below w.heap.size w w' := by
  obtain ⟨mv, rfl, hm⟩ := hb
  obtain ⟨A, c, rfl⟩ := hm.form
  clear hm
  have HM : Hid (∀ W, Calls Tryz.prog 119 #[.string ⟨b.name.toArray⟩, .string ⟨p.a.name.toArray⟩, .string ⟨p.a.dst.toArray⟩] W fun e w' => e = movV (movO b.name p.a.name p.a.dst) ∧ w' = W) := fun W => moved_any b.name p.a.name p.a.dst W h1 h2 h3
  have HB := hide ((Below.refl w.heap.size w).alloc (Nat.le_refl _) (.cells #[.int .i64 b.user, .string ⟨b.name.toArray⟩, .int .i64 b.valid, .int .i64 b.next, .slice A b.msgs.length c] 45))
  have HS := hide (h.below (w' := w.alloc (.cells #[.int .i64 b.user, .string ⟨b.name.toArray⟩, .int .i64 b.valid, .int .i64 b.next, .slice A b.msgs.length c] 45)) ((Below.refl w.heap.size w).alloc (Nat.le_refl _) _))
  have HK := hide (Blk.new w #[.int .i64 b.user, .string ⟨b.name.toArray⟩, .int .i64 b.valid, .int .i64 b.next, .slice A b.msgs.length c] 45)
  obtain ⟨V, HV⟩ : ∃ V, Hid (V = movV (nwO p b)) := ⟨_, hide rfl⟩
  rw [← HV.out]
  unfold nwO at HV
  clear h h1 h2 h3
  obtain ⟨k, hk⟩ : ∃ k, Hid (b.msgs.length = k) := ⟨_, hide rfl⟩
  rw [hk.out] at HB HS HK ⊢
  by_cases hu : b.user = p.a.user
  · have HV' : Hid (V = movV (movO b.name p.a.name p.a.dst)) := by show _ = _; rw [HV.out, if_pos hu]
    have HC : Hid (∀ W, Calls Tryz.prog 119 #[.string ⟨b.name.toArray⟩, .string ⟨p.a.name.toArray⟩, .string ⟨p.a.dst.toArray⟩] W fun e w' => e = .returned (.tuple #[.string ⟨((movO b.name p.a.name p.a.dst).getD []).toArray⟩, .bool (movO b.name p.a.name p.a.dst).isSome]) ∧ w' = W) := HM.out
    unfold movV at HV'
    generalize (movO b.name p.a.name p.a.dst).isSome = T at *
    generalize (movO b.name p.a.name p.a.dst).getD [] = R at *
    clear HV HM
    rw [hu] at HB HS HK ⊢
    clear hu
    have c0 := HK.out.cell 0
    have c1 := HK.out.cell 1
    have c6 := HS.out.blk.cell 6
    have c11 := HS.out.blk.cell 11
    have c12 := HS.out.blk.cell 12
    simp only [PA.cells, List.getElem?_toArray, List.getElem?_cons_zero, List.getElem?_cons_succ] at c0 c1 c6 c11 c12
    have hX := HS.out.blk.lt
    have hW := HK.out.lt
    go_enter Tryz.func86, Tryz.ntmps86
    go_wp2
    obtain ⟨W1, HW1⟩ : ∃ W1, Hid ((w.alloc (.cells #[.int .i64 p.a.user, .string ⟨b.name.toArray⟩, .int .i64 b.valid, .int .i64 b.next, .slice A k c] 45)) = W1) := ⟨_, hide rfl⟩
    rw [HW1.out] at HB HS HK c0 c1 c6 c11 c12 hX hW ⊢
    clear HW1
    have hn0 := ext_some W1
    have hc0 := ext_cell W1
    refine wp_region_ext (by kernel_rfl) (by kernel_rfl) ?_
    repeat (go_big_quiet_step (fail))
    refine wpQuiet_nil ?_
    rintro w1 ⟨u1, rfl⟩
    have HB1 := hide (HB.out.trans (u1.ok.mono HB.out.size))
    clear hn0
    have d0 := (hc0 u1 w.heap.size 0 hW).trans c0
    have d1 := (hc0 u1 w.heap.size 1 hW).trans c1
    have hX1 : X < u1.w.heap.size := Nat.lt_of_lt_of_le hX u1.ok.size
    have hW1 : w.heap.size < u1.w.heap.size := Nat.lt_of_lt_of_le hW u1.ok.size
    have d11 := (hc0 u1 X 11 hX).trans c11
    have d12 := (hc0 u1 X 12 hX).trans c12
    clear hc0 c0 c1 c6 c11 c12 HS HK hX hW
    generalize u1.w = w1 at *
    go_wp2
    have hn0 := ext_some w1
    have hc0 := ext_cell w1
    refine wp_region_ext (by kernel_rfl) (by kernel_rfl) ?_
    repeat (go_big_quiet_step ((go_at_call 119; exact ext_call ((HC.out _).mono fun e w' h => ⟨h.1, by rw [h.2]; exact Below.refl _ _⟩))))
    refine wpQuiet_nil ?_
    rintro w2 ⟨u2, rfl⟩
    have HB2 := hide (HB1.out.trans (u2.ok.mono HB1.out.size))
    generalize u2.w = w2 at *
    clear hn0 hc0
    go_wp2
    exact bodyPost_ret (v := .tuple #[.string ⟨R.toArray⟩, .bool T]) (by simp [results, Tryz.results86, go_sem]) rfl ⟨by rw [HV'.out], HB2.out⟩
  · have HV' : Hid (V = .returned (.tuple #[.string ⟨#[]⟩, .bool false])) := by show _ = _; rw [HV.out, if_neg hu]; rfl
    clear HV HM
    have hub : (b.user == p.a.user) = false := beq_eq_false_iff_ne.2 hu
    have c0 := HK.out.cell 0
    have c6 := HS.out.blk.cell 6
    simp only [PA.cells, List.getElem?_toArray, List.getElem?_cons_zero, List.getElem?_cons_succ] at c0 c6
    have hX := HS.out.blk.lt
    have hW := HK.out.lt
    generalize p.a.user = u at *
    generalize b.user = bu at *
    go_enter Tryz.func86, Tryz.ntmps86
    go_wp2
    obtain ⟨W1, HW1⟩ : ∃ W1, Hid ((w.alloc (.cells #[.int .i64 bu, .string ⟨b.name.toArray⟩, .int .i64 b.valid, .int .i64 b.next, .slice A k c] 45)) = W1) := ⟨_, hide rfl⟩
    rw [HW1.out] at HB HS HK c0 c6 hX hW ⊢
    clear HW1
    have hn0 := ext_some W1
    have hc0 := ext_cell W1
    refine wp_region_ext (by kernel_rfl) (by kernel_rfl) ?_
    repeat (go_big_quiet_step (fail))
    refine wpQuiet_nil ?_
    rintro w1 ⟨u1, rfl⟩
    have HB1 := hide (HB.out.trans (u1.ok.mono HB.out.size))
    generalize u1.w = w1 at *
    clear hn0 hc0
    go_wp2
    exact bodyPost_ret (v := .tuple #[.string ⟨#[]⟩, .bool false]) (by simp [results, Tryz.results86, go_sem]) rfl ⟨by rw [HV'.out], HB1.out⟩
end Go.Proofs.YtdbmaobjikjifaaGreatDoorR

end
section
set_option linter.unusedVariables false
set_option linter.unusedSimpArgs false
namespace Go.Proofs.YtdbmaobjikjifaaGreatDoorR
open Go.RowKit Go.Shelf
set_option maxRecDepth 20000 in
set_option maxHeartbeats 4000000 in
theorem plong_any {w0 w : World} {X : Nat} {p : PA} (h : AS w0 w X p) {bv : Value} {b : Bx} (hb : BxV w bv b) (h1 : b.name.length ≤ 1000000) (h2 : p.a.name.length ≤ 1000000) (h3 : p.a.dst.length ≤ 1000000):
    Calls Tryz.prog 84 #[.pointer (some ⟨X, 0, none⟩), bv] w fun e w' => e = .returned (.bool (lngB p b)) ∧ Below w.heap.size w w' := by
  have HBV := hide hb
  obtain ⟨mv, rfl, hm⟩ := hb
  obtain ⟨A, c, rfl⟩ := hm.form
  clear hm
  have AL : Below w.heap.size w (w.alloc (.cells #[.int .i64 b.user, .string ⟨b.name.toArray⟩, .int .i64 b.valid, .int .i64 b.next, .slice A b.msgs.length c] 45)) := (Below.refl w.heap.size w).alloc (Nat.le_refl _) _
  have HB := hide AL
  have HS := hide (h.below AL)
  have HC : Hid (Calls Tryz.prog 86 #[.pointer (some ⟨X, 0, none⟩), .agg #[.int .i64 b.user, .string ⟨b.name.toArray⟩, .int .i64 b.valid, .int .i64 b.next, .slice A b.msgs.length c]] (w.alloc (.cells #[.int .i64 b.user, .string ⟨b.name.toArray⟩, .int .i64 b.valid, .int .i64 b.next, .slice A b.msgs.length c] 45)) fun e w' => e = .returned (.tuple #[.string ⟨((nwO p b).getD []).toArray⟩, .bool (nwO p b).isSome]) ∧ Below (w.alloc (.cells #[.int .i64 b.user, .string ⟨b.name.toArray⟩, .int .i64 b.valid, .int .i64 b.next, .slice A b.msgs.length c] 45)).heap.size (w.alloc (.cells #[.int .i64 b.user, .string ⟨b.name.toArray⟩, .int .i64 b.valid, .int .i64 b.next, .slice A b.msgs.length c] 45)) w') := pnewName_any (h.below AL) (HBV.out.below AL) h1 h2 h3
  have HK := hide (Blk.new w #[.int .i64 b.user, .string ⟨b.name.toArray⟩, .int .i64 b.valid, .int .i64 b.next, .slice A b.msgs.length c] 45)
  clear AL HBV
  have hsz := size_lit ((nwO p b).getD [])
  obtain ⟨V, HV⟩ : ∃ V, Hid (V = lngB p b) := ⟨_, hide rfl⟩
  rw [← HV.out]
  unfold lngB at HV
  generalize (nwO p b).getD [] = R at *
  generalize (nwO p b).isSome = T at *
  have y0 := HK.out.cell 0
  have y1 := HK.out.cell 1
  have y2 := HK.out.cell 2
  have y3 := HK.out.cell 3
  have y4 := HK.out.cell 4
  simp only [List.getElem?_toArray, List.getElem?_cons_zero, List.getElem?_cons_succ] at y0 y1 y2 y3 y4
  by_cases hl : 60 < R.length
  · have hz : (60 : Int) < R.length := by omega
    have HF : Hid (V = true) := by show _ = _; rw [HV.out]; exact decide_eq_true hl
    go_enter Tryz.func84, Tryz.ntmps84
    go_wp2_with (go_at_call 86; refine HC.out.mono ?_; rintro e w1 ⟨rfl, hb1⟩; have HB1 := hide (HB.out.trans (hb1.mono HB.out.size)); have HS1 := hide (HS.out.below hb1); have HK1 := hide (HK.out.below hb1 HK.out.lt); have y1 := HK1.out.cell 1; simp only [List.getElem?_toArray, List.getElem?_cons_zero, List.getElem?_cons_succ] at y1; clear hb1)
    go_ret
    exact ⟨by rw [HF.out]; rfl, HB1.out⟩
  · have hz : ¬ (60 : Int) < R.length := by omega
    have hz2 : decide ((60 : Int) < (R.length : Int)) = false := decide_eq_false hz
    clear hz
    have HF : Hid (V = false) := by show _ = _; rw [HV.out]; exact decide_eq_false hl
    go_enter Tryz.func84, Tryz.ntmps84
    go_wp2_with (go_at_call 86; refine HC.out.mono ?_; rintro e w1 ⟨rfl, hb1⟩; have HB1 := hide (HB.out.trans (hb1.mono HB.out.size)); have HS1 := hide (HS.out.below hb1); have HK1 := hide (HK.out.below hb1 HK.out.lt); have y1 := HK1.out.cell 1; simp only [List.getElem?_toArray, List.getElem?_cons_zero, List.getElem?_cons_succ] at y1; clear hb1)
    go_ret
    exact ⟨by rw [HF.out]; rfl, HB1.out⟩
set_option maxRecDepth 20000 in
set_option maxHeartbeats 4000000 in
theorem pleaves_any {w0 w : World} {X : Nat} {p : PA} (h : AS w0 w X p) {bv : Value} {b : Bx} (hb : BxV w bv b) (h1 : b.name.length ≤ 1000000) (h2 : p.a.name.length ≤ 1000000) (h3 : p.a.dst.length ≤ 1000000):
    Calls Tryz.prog 118 #[.pointer (some ⟨X, 0, none⟩), bv] w fun e w' => e = .returned (.bool (lvsB p b)) ∧ Below w.heap.size w w' := by
  have HBV := hide hb
  obtain ⟨mv, rfl, hm⟩ := hb
  obtain ⟨A, c, rfl⟩ := hm.form
  clear hm
  have AL : Below w.heap.size w (w.alloc (.cells #[.int .i64 b.user, .string ⟨b.name.toArray⟩, .int .i64 b.valid, .int .i64 b.next, .slice A b.msgs.length c] 45)) := (Below.refl w.heap.size w).alloc (Nat.le_refl _) _
  have HB := hide AL
  have HS := hide (h.below AL)
  have HC : Hid (Calls Tryz.prog 86 #[.pointer (some ⟨X, 0, none⟩), .agg #[.int .i64 b.user, .string ⟨b.name.toArray⟩, .int .i64 b.valid, .int .i64 b.next, .slice A b.msgs.length c]] (w.alloc (.cells #[.int .i64 b.user, .string ⟨b.name.toArray⟩, .int .i64 b.valid, .int .i64 b.next, .slice A b.msgs.length c] 45)) fun e w' => e = .returned (.tuple #[.string ⟨((nwO p b).getD []).toArray⟩, .bool (nwO p b).isSome]) ∧ Below (w.alloc (.cells #[.int .i64 b.user, .string ⟨b.name.toArray⟩, .int .i64 b.valid, .int .i64 b.next, .slice A b.msgs.length c] 45)).heap.size (w.alloc (.cells #[.int .i64 b.user, .string ⟨b.name.toArray⟩, .int .i64 b.valid, .int .i64 b.next, .slice A b.msgs.length c] 45)) w') := pnewName_any (h.below AL) (HBV.out.below AL) h1 h2 h3
  have HK := hide (Blk.new w #[.int .i64 b.user, .string ⟨b.name.toArray⟩, .int .i64 b.valid, .int .i64 b.next, .slice A b.msgs.length c] 45)
  clear AL HBV
  obtain ⟨V, HV⟩ : ∃ V, Hid (V = lvsB p b) := ⟨_, hide rfl⟩
  rw [← HV.out]
  unfold lvsB at HV
  have y0 := HK.out.cell 0
  have y1 := HK.out.cell 1
  have y2 := HK.out.cell 2
  have y3 := HK.out.cell 3
  have y4 := HK.out.cell 4
  simp only [List.getElem?_toArray, List.getElem?_cons_zero, List.getElem?_cons_succ] at y0 y1 y2 y3 y4
  cases ho : nwO p b with
  | none =>
    rw [ho] at HC HV
    have HF : Hid (V = false) := HV.out
    change Hid (Calls _ _ _ _ fun e w' => e = .returned (.tuple #[.string ⟨([] : List UInt8).toArray⟩, .bool false]) ∧ _) at HC
    clear HV ho
    go_enter Tryz.func118, Tryz.ntmps118
    go_wp2_with (go_at_call 86; refine HC.out.mono ?_; rintro e w1 ⟨rfl, hb1⟩; have HB1 := hide (HB.out.trans (hb1.mono HB.out.size)); have HS1 := hide (HS.out.below hb1); have HK1 := hide (HK.out.below hb1 HK.out.lt); have y1 := HK1.out.cell 1; simp only [List.getElem?_toArray, List.getElem?_cons_zero, List.getElem?_cons_succ] at y1; clear hb1)
    go_ret
    exact ⟨by rw [HF.out]; rfl, HB1.out⟩
  | some n =>
    rw [ho] at HC HV
    change Hid (Calls _ _ _ _ fun e w' => e = .returned (.tuple #[.string ⟨n.toArray⟩, .bool true]) ∧ _) at HC
    replace HV : Hid (V = decide (n ≠ b.name)) := HV.out
    clear ho
    obtain ⟨bn, hbn⟩ : ∃ bn, Hid (b.name = bn) := ⟨_, hide rfl⟩
    rw [hbn.out] at HB HS HC HK HV y1 ⊢
    clear hbn
    by_cases hn : n = bn
    · subst hn
      have HF : Hid (V = false) := by show _ = _; rw [HV.out]; simp
      go_enter Tryz.func118, Tryz.ntmps118
      go_wp2_with (go_at_call 86; refine HC.out.mono ?_; rintro e w1 ⟨rfl, hb1⟩; have HB1 := hide (HB.out.trans (hb1.mono HB.out.size)); have HS1 := hide (HS.out.below hb1); have HK1 := hide (HK.out.below hb1 HK.out.lt); have y1 := HK1.out.cell 1; simp only [List.getElem?_toArray, List.getElem?_cons_zero, List.getElem?_cons_succ] at y1; clear hb1)
      go_ret
      exact ⟨by rw [HF.out]; rfl, HB1.out⟩
    · have HF : Hid (V = true) := by show _ = _; rw [HV.out]; exact decide_eq_true hn
      have hnb : (n == bn) = false := beq_eq_false_iff_ne.2 hn
      go_enter Tryz.func118, Tryz.ntmps118
      go_wp2_with (go_at_call 86; refine HC.out.mono ?_; rintro e w1 ⟨rfl, hb1⟩; have HB1 := hide (HB.out.trans (hb1.mono HB.out.size)); have HS1 := hide (HS.out.below hb1); have HK1 := hide (HK.out.below hb1 HK.out.lt); have y1 := HK1.out.cell 1; simp only [List.getElem?_toArray, List.getElem?_cons_zero, List.getElem?_cons_succ] at y1; clear hb1)
      go_ret
      exact ⟨by rw [HF.out]; rfl, HB1.out⟩
set_option maxRecDepth 20000 in
set_option maxHeartbeats 4000000 in
theorem pheld_any {w0 w : World} {X : Nat} {p : PA} (h : AS w0 w X p) {bv : Value} {b : Bx} (hb : BxV w bv b) (h1 : b.name.length ≤ 1000000) (h2 : p.a.name.length ≤ 1000000) (h3 : p.a.dst.length ≤ 1000000) (hl : p.lb.length ≤ 1000000) (hbn : ∀ x ∈ p.st.boxes, x.name.length ≤ 1000000) :
    Calls Tryz.prog 85 #[.pointer (some ⟨X, 0, none⟩), bv] w fun e w' => e = .returned (.bool (hldB p b)) ∧ Below w.heap.size w w' := by
  have HAS := hide h
  have HBV := hide hb
  obtain ⟨mv, rfl, hm⟩ := hb
  obtain ⟨A, c, rfl⟩ := hm.form
  clear hm
  have AL : Below w.heap.size w (w.alloc (.cells #[.int .i64 b.user, .string ⟨b.name.toArray⟩, .int .i64 b.valid, .int .i64 b.next, .slice A b.msgs.length c] 45)) := (Below.refl w.heap.size w).alloc (Nat.le_refl _) _
  have HB := hide AL
  have HS := hide (h.below AL)
  have HC : Hid (Calls Tryz.prog 86 #[.pointer (some ⟨X, 0, none⟩), .agg #[.int .i64 b.user, .string ⟨b.name.toArray⟩, .int .i64 b.valid, .int .i64 b.next, .slice A b.msgs.length c]] (w.alloc (.cells #[.int .i64 b.user, .string ⟨b.name.toArray⟩, .int .i64 b.valid, .int .i64 b.next, .slice A b.msgs.length c] 45)) fun e w' => e = .returned (.tuple #[.string ⟨((nwO p b).getD []).toArray⟩, .bool (nwO p b).isSome]) ∧ Below (w.alloc (.cells #[.int .i64 b.user, .string ⟨b.name.toArray⟩, .int .i64 b.valid, .int .i64 b.next, .slice A b.msgs.length c] 45)).heap.size (w.alloc (.cells #[.int .i64 b.user, .string ⟨b.name.toArray⟩, .int .i64 b.valid, .int .i64 b.next, .slice A b.msgs.length c] 45)) w') := pnewName_any (h.below AL) (HBV.out.below AL) h1 h2 h3
  have HK := hide (Blk.new w #[.int .i64 b.user, .string ⟨b.name.toArray⟩, .int .i64 b.valid, .int .i64 b.next, .slice A b.msgs.length c] 45)
  clear AL HBV
  obtain ⟨V, HV⟩ : ∃ V, Hid (V = hldB p b) := ⟨_, hide rfl⟩
  rw [← HV.out]
  unfold hldB at HV
  have y0 := HK.out.cell 0
  have y1 := HK.out.cell 1
  have y2 := HK.out.cell 2
  have y3 := HK.out.cell 3
  have y4 := HK.out.cell 4
  simp only [List.getElem?_toArray, List.getElem?_cons_zero, List.getElem?_cons_succ] at y0 y1 y2 y3 y4
  cases ho : nwO p b with
  | none =>
    rw [ho] at HC HV
    have HF : Hid (V = false) := HV.out
    change Hid (Calls _ _ _ _ fun e w' => e = .returned (.tuple #[.string ⟨([] : List UInt8).toArray⟩, .bool false]) ∧ _) at HC
    clear HV ho
    go_enter Tryz.func85, Tryz.ntmps85
    go_wp2_with (go_at_call 86; refine HC.out.mono ?_; rintro e w1 ⟨rfl, hb1⟩; have HB1 := hide (HB.out.trans (hb1.mono HB.out.size)); have HS1 := hide (HS.out.below hb1); have HK1 := hide (HK.out.below hb1 HK.out.lt); have y1 := HK1.out.cell 1; simp only [List.getElem?_toArray, List.getElem?_cons_zero, List.getElem?_cons_succ] at y1; clear hb1)
    go_ret
    exact ⟨by rw [HF.out]; rfl, HB1.out⟩
  | some n =>
    rw [ho] at HC HV
    change Hid (Calls _ _ _ _ fun e w' => e = .returned (.tuple #[.string ⟨n.toArray⟩, .bool true]) ∧ _) at HC
    dsimp only at HV
    have HP : Hid (∀ W, Below w.heap.size w W → Calls Tryz.prog 80 #[.pointer (some ⟨X, 0, none⟩), .string ⟨n.toArray⟩] W fun e w' => e = .returned (.int .i64 (fiP (poFind p.st.boxes p.a.user n))) ∧ Below W.heap.size W w') := fun W hW => pplace_any (HAS.out.below hW) n hl
    cases hf : poFind p.st.boxes p.a.user n with
    | none =>
      rw [hf] at HP HV
      have HF : Hid (V = false) := HV.out
      change Hid (∀ W, Below w.heap.size w W → Calls _ _ _ W fun e w' => e = .returned (.int .i64 (-1)) ∧ _) at HP
      clear HV ho hf
      go_enter Tryz.func85, Tryz.ntmps85
      go_wp2_with (first | (go_at_call 86; refine HC.out.mono ?_; rintro e w1 ⟨rfl, hb1⟩; have HB1 := hide (HB.out.trans (hb1.mono HB.out.size)); have HS1 := hide (HS.out.below hb1); have HK1 := hide (HK.out.below hb1 HK.out.lt); have y1 := HK1.out.cell 1; simp only [List.getElem?_toArray, List.getElem?_cons_zero, List.getElem?_cons_succ] at y1; clear hb1) | (go_at_call 80; refine (HP.out _ HB1.out).mono ?_; rintro e w2 ⟨rfl, hb2⟩; have HB2 := hide (HB1.out.trans (hb2.mono HB1.out.size)); have HS2 := hide (HS1.out.below hb2); have x0 := HS2.out.blk.cell 0; simp only [PA.cells, List.getElem?_toArray, List.getElem?_cons_zero, List.getElem?_cons_succ] at x0; clear hb2))
      go_ret
      exact ⟨by rw [HF.out]; rfl, HB2.out⟩
    | some i =>
      rw [hf] at HP HV
      change Hid (∀ W, Below w.heap.size w W → Calls _ _ _ W fun e w' => e = .returned (.int .i64 (i : Int)) ∧ _) at HP
      have hi : i < p.lb.length := by
        have := (List.findIdx?_eq_some_iff_getElem.1 hf).1
        rwa [boxes_len] at this
      have hi' : i < p.st.boxes.length := by rw [boxes_len]; exact hi
      dsimp only at HV
      rw [List.getElem?_eq_getElem hi'] at HV
      dsimp only at HV
      have hbd := hbn _ (List.getElem_mem hi')
      have hat := fun (W : World) (h : AS w0 W X p) => (blC_rd h.rb (fun x hx => msC_rd (h.rm x hx)))
      obtain ⟨Ab, cb, e1⟩ := HAS.out.rb.form
      rw [e1] at hat
      have hiz : (i : Int) < (p.lb.length : Int) := by omega
      have hi0 : (0 : Int) ≤ i := by omega
      obtain ⟨d, hd⟩ : ∃ d, Hid (p.st.boxes[i] = d) := ⟨_, hide rfl⟩
      have HD : Hid (∀ W, AS w0 W X p → ∃ g o, Ab = some ⟨g, o, none⟩ ∧ g < W.heap.size ∧ BxAt W g (o + i * 5) d) := fun W h => by
        have h2 : RdE 5 BxAt W (.slice Ab p.st.boxes.length cb) p.st.boxes := by rw [boxes_len]; exact hat W h
        have := h2.at hi'
        rwa [hd.out] at this
      rw [hd.out] at HV hbd
      obtain ⟨g, o, rfl, _, _⟩ := HD.out w HAS.out
      have HL : Hid (∀ W bv, AS w0 W X p → BxV W bv d → Calls Tryz.prog 118 #[.pointer (some ⟨X, 0, none⟩), bv] W fun e w' => e = .returned (.bool (lvsB p d)) ∧ Below W.heap.size W w') := fun W bv h hb => pleaves_any h hb hbd h2 h3
      obtain ⟨T, hT⟩ : ∃ T, Hid (lvsB p d = T) := ⟨_, hide rfl⟩
      rw [hT.out] at HL HV
      have HE := hide e1
      clear hat hi' hf ho hbd hd hT
      go_enter Tryz.func85, Tryz.ntmps85
      go_upto_region 5 with (first | (go_at_call 86; refine HC.out.mono ?_; rintro e w1 ⟨rfl, hb1⟩; have HB1 := hide (HB.out.trans (hb1.mono HB.out.size)); have HS1 := hide (HS.out.below hb1); have HK1 := hide (HK.out.below hb1 HK.out.lt); have y1 := HK1.out.cell 1; simp only [List.getElem?_toArray, List.getElem?_cons_zero, List.getElem?_cons_succ] at y1; clear hb1) | (go_at_call 80; refine (HP.out _ HB1.out).mono ?_; rintro e w2 ⟨rfl, hb2⟩; have HB2 := hide (HB1.out.trans (hb2.mono HB1.out.size)); have HS2 := hide (HS1.out.below hb2); have x0 := HS2.out.blk.cell 0; simp only [PA.cells, List.getElem?_toArray, List.getElem?_cons_zero, List.getElem?_cons_succ] at x0; clear hb2))
      have x1 : w2.cell? ⟨X, 0, none⟩ = some (.slice (some ⟨g, o, none⟩) p.lb.length cb) := by rw [x0, HE.out]
      clear x0
      obtain ⟨g', o', e2, hgl, r0, r1, r2, r3, mv, r4, hm⟩ := HD.out w2 HS2.out
      cases e2
      have HBd : Hid (BxV w2 (.agg #[.int .i64 d.user, .string ⟨d.name.toArray⟩, .int .i64 d.valid, .int .i64 d.next, mv]) d) := ⟨mv, rfl, hm⟩
      obtain ⟨Am, cm, rfl⟩ := hm.form
      have HLc := hide (HL.out w2 _ HS2.out HBd.out)
      have t0 : w2.cell? ⟨g, o + i * 5, none⟩ = some (.int .i64 d.user) := r0
      have t1 : w2.cell? ⟨g, o + i * 5 + 1, none⟩ = some (.string ⟨d.name.toArray⟩) := r1
      have t2 : w2.cell? ⟨g, o + i * 5 + 2, none⟩ = some (.int .i64 d.valid) := r2
      have t3 : w2.cell? ⟨g, o + i * 5 + 3, none⟩ = some (.int .i64 d.next) := r3
      clear r0 r1 r2 r3 hm HBd HL HD
      cases T with
      | true =>
        have HF : Hid (V = false) := HV.out
        go_wp2_with (go_at_call 118; refine HLc.out.mono ?_; rintro e w3 ⟨rfl, hb3⟩; have HB3 := hide (HB2.out.trans (hb3.mono HB2.out.size)); clear hb3)
        go_ret
        exact ⟨by rw [HF.out]; rfl, HB3.out⟩
      | false =>
        have HF : Hid (V = true) := HV.out
        go_wp2_with (go_at_call 118; refine HLc.out.mono ?_; rintro e w3 ⟨rfl, hb3⟩; have HB3 := hide (HB2.out.trans (hb3.mono HB2.out.size)); clear hb3)
        go_ret
        exact ⟨by rw [HF.out]; rfl, HB3.out⟩
end Go.Proofs.YtdbmaobjikjifaaGreatDoorR

end
