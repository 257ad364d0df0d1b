/- Package post: whether a box, an item, a state is in form. -/
import Derived.Test.YtdbmaobjikjifaaGreatDoorRU22
set_option linter.unusedVariables false
set_option linter.unusedSimpArgs false
namespace Go.Proofs.YtdbmaobjikjifaaGreatDoorR
open Go.RowKit Go.Shelf

set_option maxRecDepth 20000 in
set_option maxHeartbeats 8000000 in
theorem pisBox_any {v : Value} {b : Bx} {w : World} {ea : Addr} (hE : EN w ea) (h : BxV w v b) (hd : BdB b) : Calls Tryz.prog 33 #[v] w fun e w' => e = .returned (.bool (bxB b)) ∧ Below w.heap.size w w' := by
  have hv := h
  obtain ⟨mv, rfl, hm⟩ := h
  obtain ⟨A, c, rfl⟩ := hm.form
  have HB0 : Hid (Below w.heap.size w (w.alloc (.cells #[.int .i64 b.user, .string ⟨b.name.toArray⟩, .int .i64 b.valid, .int .i64 b.next, .slice A b.msgs.length c] 45))) := (Below.refl w.heap.size w).alloc (Nat.le_refl _) _
  have HB : Hid (Below (w.alloc (.cells #[.int .i64 b.user, .string ⟨b.name.toArray⟩, .int .i64 b.valid, .int .i64 b.next, .slice A b.msgs.length c] 45)).heap.size (w.alloc (.cells #[.int .i64 b.user, .string ⟨b.name.toArray⟩, .int .i64 b.valid, .int .i64 b.next, .slice A b.msgs.length c] 45)) (w.alloc (.cells #[.int .i64 b.user, .string ⟨b.name.toArray⟩, .int .i64 b.valid, .int .i64 b.next, .slice A b.msgs.length c] 45))) := Below.refl _ _
  have HK := hide (Blk.new w #[.int .i64 b.user, .string ⟨b.name.toArray⟩, .int .i64 b.valid, .int .i64 b.next, .slice A b.msgs.length c] 45)
  have HV0 := hide (hv.below HB0.out)
  have HM0 := hide (hm.below stb_msg HB0.out)
  have HE0 := hide (hE.below HB0.out)
  have eg1 : ∀ args w, (callFunc 71 args).run Tryz.prog w = .ok (.enter 71 args) w := enters_of Tryz.func71 (by kernel_rfl) rfl
  have eg2 : ∀ args w, (callFunc 73 args).run Tryz.prog w = .ok (.enter 73 args) w := enters_of Tryz.func73 (by kernel_rfl) rfl
  have H1 : Hid (∀ W, Below (w.alloc (.cells #[.int .i64 b.user, .string ⟨b.name.toArray⟩, .int .i64 b.valid, .int .i64 b.next, .slice A b.msgs.length c] 45)).heap.size (w.alloc (.cells #[.int .i64 b.user, .string ⟨b.name.toArray⟩, .int .i64 b.valid, .int .i64 b.next, .slice A b.msgs.length c] 45)) W → Calls Tryz.prog 39 #[.string ⟨b.name.toArray⟩] W fun e w' => e = .returned (.bool (poName b.name)) ∧ Below W.heap.size W w') := fun W hW => pisName_any b.name W ea (HE0.out.below hW) hd.name
  have H2 := hide (fun W => pnum_any b.next W)
  have H3 : Hid (∀ W, Below (w.alloc (.cells #[.int .i64 b.user, .string ⟨b.name.toArray⟩, .int .i64 b.valid, .int .i64 b.next, .slice A b.msgs.length c] 45)).heap.size (w.alloc (.cells #[.int .i64 b.user, .string ⟨b.name.toArray⟩, .int .i64 b.valid, .int .i64 b.next, .slice A b.msgs.length c] 45)) W → Calls Tryz.prog 69 #[.agg #[.int .i64 b.user, .string ⟨b.name.toArray⟩, .int .i64 b.valid, .int .i64 b.next, .slice A b.msgs.length c]] W fun e w' => e = .returned (.bool (poOver b)) ∧ Below W.heap.size W w') := fun W hW => pover_any (HV0.out.below hW) hd.msgs hd.body
  have H4 : Hid (∀ W, Below (w.alloc (.cells #[.int .i64 b.user, .string ⟨b.name.toArray⟩, .int .i64 b.valid, .int .i64 b.next, .slice A b.msgs.length c] 45)).heap.size (w.alloc (.cells #[.int .i64 b.user, .string ⟨b.name.toArray⟩, .int .i64 b.valid, .int .i64 b.next, .slice A b.msgs.length c] 45)) W → Calls Tryz.prog 70 #[.slice A b.msgs.length c, .func (.func 71) #[] #[]] W fun e w' => e = .returned (.bool (risL msgLt b.msgs)) ∧ Below W.heap.size W w') := fun W hW =>
    prisesMessage_any (HM0.out.below stb_msg hW) hd.msgs msgLt (fun x y => ciV x.uid y.uid) (fun x y => ciV_ge _ _) _ eg1 (fun x y u v W hu hv => by cases hu; cases hv; exact pmsgOrder_any _ _ _ _ _ _ _ _ W)
  have H5 : Hid (∀ W, Below (w.alloc (.cells #[.int .i64 b.user, .string ⟨b.name.toArray⟩, .int .i64 b.valid, .int .i64 b.next, .slice A b.msgs.length c] 45)).heap.size (w.alloc (.cells #[.int .i64 b.user, .string ⟨b.name.toArray⟩, .int .i64 b.valid, .int .i64 b.next, .slice A b.msgs.length c] 45)) W → Calls Tryz.prog 72 #[.slice A b.msgs.length c, .func (.func 73) #[] #[.pointer (some ⟨w.heap.size, 0, none⟩)]] W fun e w' => e = .returned (.bool (b.msgs.all (fun m => msgB m && decide (m.uid < b.next)))) ∧ Below W.heap.size W w') := fun W hW =>
    pallMessage_any (HM0.out.below stb_msg hW) hd.msgs (fun m => msgB m && decide (m.uid < b.next)) _ #[] #[.pointer (some ⟨w.heap.size, 0, none⟩)] eg2 (fun i hi v W' hW' hv => pisBox1_any hv w.heap.size _ _ _ _ _ ((HK.out.below hW HK.out.lt).below hW' (HK.out.below hW HK.out.lt).lt))
  obtain ⟨R, HR⟩ : ∃ R, Hid (R = bxB b) := ⟨_, hide rfl⟩
  rw [← HR.out]
  replace HR : Hid (R = (decide (0 ≤ b.user) && decide (b.user < 6) && poName b.name && decide (1 ≤ b.valid) && poIn b.next 1 2147483648 && !poOver b && risL msgLt b.msgs && b.msgs.all (fun m => msgB m && decide (m.uid < b.next)))) := HR
  clear hv hm hE eg1 eg2 HV0 HM0 HE0
  generalize poName b.name = T1 at *
  generalize poIn b.next 1 2147483648 = T2 at *
  generalize poOver b = T3 at *
  generalize risL msgLt b.msgs = T4 at *
  generalize b.msgs.all (fun m => msgB m && decide (m.uid < b.next)) = T5 at *
  clear hd
  obtain ⟨bu, bn, bv, bx, bm⟩ := b
  dsimp only at *
  generalize bm.length = lm at *
  by_cases h0 : 0 ≤ bu
  · skip
    by_cases h1 : bu < 6
    · skip
      cases T1 with
      | true =>
        by_cases h2 : 1 ≤ bv
        · skip
          cases T2 with
          | true =>
            cases T3 with
            | false =>
              cases T4 with
              | true =>
                cases T5 with
                | true =>
                  have HF : Hid (R = true) := by show _ = _; rw [HR.out]; simp [h0, h1, h2]
                  clear HR
                  go_enter Tryz.func33, Tryz.ntmps33
                  go_wp2_with (first | (go_at_call 39; refine (H1.out _ HB.out).mono ?_; rintro e w1 ⟨rfl, hb1⟩; replace HB := hide (HB.out.trans (hb1.mono HB.out.size)); clear hb1; have kk := HK.out.below HB.out HK.out.lt; have k0 := kk.cell 0; have k1 := kk.cell 1; have k2 := kk.cell 2; have k3 := kk.cell 3; have k4 := kk.cell 4; clear kk) | (go_at_call 17; refine (H2.out _).mono ?_; rintro e w1 ⟨rfl, rfl⟩) | (go_at_call 69; refine (H3.out _ HB.out).mono ?_; rintro e w1 ⟨rfl, hb1⟩; replace HB := hide (HB.out.trans (hb1.mono HB.out.size)); clear hb1; have kk := HK.out.below HB.out HK.out.lt; have k0 := kk.cell 0; have k1 := kk.cell 1; have k2 := kk.cell 2; have k3 := kk.cell 3; have k4 := kk.cell 4; clear kk) | (go_at_call 70; refine (H4.out _ HB.out).mono ?_; rintro e w1 ⟨rfl, hb1⟩; replace HB := hide (HB.out.trans (hb1.mono HB.out.size)); clear hb1; have kk := HK.out.below HB.out HK.out.lt; have k0 := kk.cell 0; have k1 := kk.cell 1; have k2 := kk.cell 2; have k3 := kk.cell 3; have k4 := kk.cell 4; clear kk) | (go_at_call 72; refine (H5.out _ HB.out).mono ?_; rintro e w1 ⟨rfl, hb1⟩; replace HB := hide (HB.out.trans (hb1.mono HB.out.size)); clear hb1; have kk := HK.out.below HB.out HK.out.lt; have k0 := kk.cell 0; have k1 := kk.cell 1; have k2 := kk.cell 2; have k3 := kk.cell 3; have k4 := kk.cell 4; clear kk))
                  exact bodyPost_ret (v := .bool true) (by simp [results, Tryz.results33, go_sem, h0, h1, h2] <;> omega) rfl ⟨by rw [HF.out], HB0.out.trans (HB.out.mono HB0.out.size)⟩
                | false =>
                  have HF : Hid (R = false) := by show _ = _; rw [HR.out]; simp [h0, h1, h2]
                  clear HR
                  go_enter Tryz.func33, Tryz.ntmps33
                  go_wp2_with (first | (go_at_call 39; refine (H1.out _ HB.out).mono ?_; rintro e w1 ⟨rfl, hb1⟩; replace HB := hide (HB.out.trans (hb1.mono HB.out.size)); clear hb1; have kk := HK.out.below HB.out HK.out.lt; have k0 := kk.cell 0; have k1 := kk.cell 1; have k2 := kk.cell 2; have k3 := kk.cell 3; have k4 := kk.cell 4; clear kk) | (go_at_call 17; refine (H2.out _).mono ?_; rintro e w1 ⟨rfl, rfl⟩) | (go_at_call 69; refine (H3.out _ HB.out).mono ?_; rintro e w1 ⟨rfl, hb1⟩; replace HB := hide (HB.out.trans (hb1.mono HB.out.size)); clear hb1; have kk := HK.out.below HB.out HK.out.lt; have k0 := kk.cell 0; have k1 := kk.cell 1; have k2 := kk.cell 2; have k3 := kk.cell 3; have k4 := kk.cell 4; clear kk) | (go_at_call 70; refine (H4.out _ HB.out).mono ?_; rintro e w1 ⟨rfl, hb1⟩; replace HB := hide (HB.out.trans (hb1.mono HB.out.size)); clear hb1; have kk := HK.out.below HB.out HK.out.lt; have k0 := kk.cell 0; have k1 := kk.cell 1; have k2 := kk.cell 2; have k3 := kk.cell 3; have k4 := kk.cell 4; clear kk) | (go_at_call 72; refine (H5.out _ HB.out).mono ?_; rintro e w1 ⟨rfl, hb1⟩; replace HB := hide (HB.out.trans (hb1.mono HB.out.size)); clear hb1; have kk := HK.out.below HB.out HK.out.lt; have k0 := kk.cell 0; have k1 := kk.cell 1; have k2 := kk.cell 2; have k3 := kk.cell 3; have k4 := kk.cell 4; clear kk))
                  exact bodyPost_ret (v := .bool false) (by simp [results, Tryz.results33, go_sem, h0, h1, h2] <;> omega) rfl ⟨by rw [HF.out], HB0.out.trans (HB.out.mono HB0.out.size)⟩
              | false =>
                have HF : Hid (R = false) := by show _ = _; rw [HR.out]; simp [h0, h1, h2]
                clear HR
                go_enter Tryz.func33, Tryz.ntmps33
                go_wp2_with (first | (go_at_call 39; refine (H1.out _ HB.out).mono ?_; rintro e w1 ⟨rfl, hb1⟩; replace HB := hide (HB.out.trans (hb1.mono HB.out.size)); clear hb1; have kk := HK.out.below HB.out HK.out.lt; have k0 := kk.cell 0; have k1 := kk.cell 1; have k2 := kk.cell 2; have k3 := kk.cell 3; have k4 := kk.cell 4; clear kk) | (go_at_call 17; refine (H2.out _).mono ?_; rintro e w1 ⟨rfl, rfl⟩) | (go_at_call 69; refine (H3.out _ HB.out).mono ?_; rintro e w1 ⟨rfl, hb1⟩; replace HB := hide (HB.out.trans (hb1.mono HB.out.size)); clear hb1; have kk := HK.out.below HB.out HK.out.lt; have k0 := kk.cell 0; have k1 := kk.cell 1; have k2 := kk.cell 2; have k3 := kk.cell 3; have k4 := kk.cell 4; clear kk) | (go_at_call 70; refine (H4.out _ HB.out).mono ?_; rintro e w1 ⟨rfl, hb1⟩; replace HB := hide (HB.out.trans (hb1.mono HB.out.size)); clear hb1; have kk := HK.out.below HB.out HK.out.lt; have k0 := kk.cell 0; have k1 := kk.cell 1; have k2 := kk.cell 2; have k3 := kk.cell 3; have k4 := kk.cell 4; clear kk) | (go_at_call 72; refine (H5.out _ HB.out).mono ?_; rintro e w1 ⟨rfl, hb1⟩; replace HB := hide (HB.out.trans (hb1.mono HB.out.size)); clear hb1; have kk := HK.out.below HB.out HK.out.lt; have k0 := kk.cell 0; have k1 := kk.cell 1; have k2 := kk.cell 2; have k3 := kk.cell 3; have k4 := kk.cell 4; clear kk))
                exact bodyPost_ret (v := .bool false) (by simp [results, Tryz.results33, go_sem, h0, h1, h2] <;> omega) rfl ⟨by rw [HF.out], HB0.out.trans (HB.out.mono HB0.out.size)⟩
            | true =>
              have HF : Hid (R = false) := by show _ = _; rw [HR.out]; simp [h0, h1, h2]
              clear HR
              go_enter Tryz.func33, Tryz.ntmps33
              go_wp2_with (first | (go_at_call 39; refine (H1.out _ HB.out).mono ?_; rintro e w1 ⟨rfl, hb1⟩; replace HB := hide (HB.out.trans (hb1.mono HB.out.size)); clear hb1; have kk := HK.out.below HB.out HK.out.lt; have k0 := kk.cell 0; have k1 := kk.cell 1; have k2 := kk.cell 2; have k3 := kk.cell 3; have k4 := kk.cell 4; clear kk) | (go_at_call 17; refine (H2.out _).mono ?_; rintro e w1 ⟨rfl, rfl⟩) | (go_at_call 69; refine (H3.out _ HB.out).mono ?_; rintro e w1 ⟨rfl, hb1⟩; replace HB := hide (HB.out.trans (hb1.mono HB.out.size)); clear hb1; have kk := HK.out.below HB.out HK.out.lt; have k0 := kk.cell 0; have k1 := kk.cell 1; have k2 := kk.cell 2; have k3 := kk.cell 3; have k4 := kk.cell 4; clear kk) | (go_at_call 70; refine (H4.out _ HB.out).mono ?_; rintro e w1 ⟨rfl, hb1⟩; replace HB := hide (HB.out.trans (hb1.mono HB.out.size)); clear hb1; have kk := HK.out.below HB.out HK.out.lt; have k0 := kk.cell 0; have k1 := kk.cell 1; have k2 := kk.cell 2; have k3 := kk.cell 3; have k4 := kk.cell 4; clear kk) | (go_at_call 72; refine (H5.out _ HB.out).mono ?_; rintro e w1 ⟨rfl, hb1⟩; replace HB := hide (HB.out.trans (hb1.mono HB.out.size)); clear hb1; have kk := HK.out.below HB.out HK.out.lt; have k0 := kk.cell 0; have k1 := kk.cell 1; have k2 := kk.cell 2; have k3 := kk.cell 3; have k4 := kk.cell 4; clear kk))
              exact bodyPost_ret (v := .bool false) (by simp [results, Tryz.results33, go_sem, h0, h1, h2] <;> omega) rfl ⟨by rw [HF.out], HB0.out.trans (HB.out.mono HB0.out.size)⟩
          | false =>
            have HF : Hid (R = false) := by show _ = _; rw [HR.out]; simp [h0, h1, h2]
            clear HR
            go_enter Tryz.func33, Tryz.ntmps33
            go_wp2_with (first | (go_at_call 39; refine (H1.out _ HB.out).mono ?_; rintro e w1 ⟨rfl, hb1⟩; replace HB := hide (HB.out.trans (hb1.mono HB.out.size)); clear hb1; have kk := HK.out.below HB.out HK.out.lt; have k0 := kk.cell 0; have k1 := kk.cell 1; have k2 := kk.cell 2; have k3 := kk.cell 3; have k4 := kk.cell 4; clear kk) | (go_at_call 17; refine (H2.out _).mono ?_; rintro e w1 ⟨rfl, rfl⟩) | (go_at_call 69; refine (H3.out _ HB.out).mono ?_; rintro e w1 ⟨rfl, hb1⟩; replace HB := hide (HB.out.trans (hb1.mono HB.out.size)); clear hb1; have kk := HK.out.below HB.out HK.out.lt; have k0 := kk.cell 0; have k1 := kk.cell 1; have k2 := kk.cell 2; have k3 := kk.cell 3; have k4 := kk.cell 4; clear kk) | (go_at_call 70; refine (H4.out _ HB.out).mono ?_; rintro e w1 ⟨rfl, hb1⟩; replace HB := hide (HB.out.trans (hb1.mono HB.out.size)); clear hb1; have kk := HK.out.below HB.out HK.out.lt; have k0 := kk.cell 0; have k1 := kk.cell 1; have k2 := kk.cell 2; have k3 := kk.cell 3; have k4 := kk.cell 4; clear kk) | (go_at_call 72; refine (H5.out _ HB.out).mono ?_; rintro e w1 ⟨rfl, hb1⟩; replace HB := hide (HB.out.trans (hb1.mono HB.out.size)); clear hb1; have kk := HK.out.below HB.out HK.out.lt; have k0 := kk.cell 0; have k1 := kk.cell 1; have k2 := kk.cell 2; have k3 := kk.cell 3; have k4 := kk.cell 4; clear kk))
            exact bodyPost_ret (v := .bool false) (by simp [results, Tryz.results33, go_sem, h0, h1, h2] <;> omega) rfl ⟨by rw [HF.out], HB0.out.trans (HB.out.mono HB0.out.size)⟩
        · skip
          have HF : Hid (R = false) := by show _ = _; rw [HR.out]; simp [h0, h1, h2]
          clear HR
          go_enter Tryz.func33, Tryz.ntmps33
          go_wp2_with (first | (go_at_call 39; refine (H1.out _ HB.out).mono ?_; rintro e w1 ⟨rfl, hb1⟩; replace HB := hide (HB.out.trans (hb1.mono HB.out.size)); clear hb1; have kk := HK.out.below HB.out HK.out.lt; have k0 := kk.cell 0; have k1 := kk.cell 1; have k2 := kk.cell 2; have k3 := kk.cell 3; have k4 := kk.cell 4; clear kk) | (go_at_call 17; refine (H2.out _).mono ?_; rintro e w1 ⟨rfl, rfl⟩) | (go_at_call 69; refine (H3.out _ HB.out).mono ?_; rintro e w1 ⟨rfl, hb1⟩; replace HB := hide (HB.out.trans (hb1.mono HB.out.size)); clear hb1; have kk := HK.out.below HB.out HK.out.lt; have k0 := kk.cell 0; have k1 := kk.cell 1; have k2 := kk.cell 2; have k3 := kk.cell 3; have k4 := kk.cell 4; clear kk) | (go_at_call 70; refine (H4.out _ HB.out).mono ?_; rintro e w1 ⟨rfl, hb1⟩; replace HB := hide (HB.out.trans (hb1.mono HB.out.size)); clear hb1; have kk := HK.out.below HB.out HK.out.lt; have k0 := kk.cell 0; have k1 := kk.cell 1; have k2 := kk.cell 2; have k3 := kk.cell 3; have k4 := kk.cell 4; clear kk) | (go_at_call 72; refine (H5.out _ HB.out).mono ?_; rintro e w1 ⟨rfl, hb1⟩; replace HB := hide (HB.out.trans (hb1.mono HB.out.size)); clear hb1; have kk := HK.out.below HB.out HK.out.lt; have k0 := kk.cell 0; have k1 := kk.cell 1; have k2 := kk.cell 2; have k3 := kk.cell 3; have k4 := kk.cell 4; clear kk))
          exact bodyPost_ret (v := .bool false) (by simp [results, Tryz.results33, go_sem, h0, h1, h2] <;> omega) rfl ⟨by rw [HF.out], HB0.out.trans (HB.out.mono HB0.out.size)⟩
      | false =>
        have HF : Hid (R = false) := by show _ = _; rw [HR.out]; simp [h0, h1]
        clear HR
        go_enter Tryz.func33, Tryz.ntmps33
        go_wp2_with (first | (go_at_call 39; refine (H1.out _ HB.out).mono ?_; rintro e w1 ⟨rfl, hb1⟩; replace HB := hide (HB.out.trans (hb1.mono HB.out.size)); clear hb1; have kk := HK.out.below HB.out HK.out.lt; have k0 := kk.cell 0; have k1 := kk.cell 1; have k2 := kk.cell 2; have k3 := kk.cell 3; have k4 := kk.cell 4; clear kk) | (go_at_call 17; refine (H2.out _).mono ?_; rintro e w1 ⟨rfl, rfl⟩) | (go_at_call 69; refine (H3.out _ HB.out).mono ?_; rintro e w1 ⟨rfl, hb1⟩; replace HB := hide (HB.out.trans (hb1.mono HB.out.size)); clear hb1; have kk := HK.out.below HB.out HK.out.lt; have k0 := kk.cell 0; have k1 := kk.cell 1; have k2 := kk.cell 2; have k3 := kk.cell 3; have k4 := kk.cell 4; clear kk) | (go_at_call 70; refine (H4.out _ HB.out).mono ?_; rintro e w1 ⟨rfl, hb1⟩; replace HB := hide (HB.out.trans (hb1.mono HB.out.size)); clear hb1; have kk := HK.out.below HB.out HK.out.lt; have k0 := kk.cell 0; have k1 := kk.cell 1; have k2 := kk.cell 2; have k3 := kk.cell 3; have k4 := kk.cell 4; clear kk) | (go_at_call 72; refine (H5.out _ HB.out).mono ?_; rintro e w1 ⟨rfl, hb1⟩; replace HB := hide (HB.out.trans (hb1.mono HB.out.size)); clear hb1; have kk := HK.out.below HB.out HK.out.lt; have k0 := kk.cell 0; have k1 := kk.cell 1; have k2 := kk.cell 2; have k3 := kk.cell 3; have k4 := kk.cell 4; clear kk))
        exact bodyPost_ret (v := .bool false) (by simp [results, Tryz.results33, go_sem, h0, h1] <;> omega) rfl ⟨by rw [HF.out], HB0.out.trans (HB.out.mono HB0.out.size)⟩
    · skip
      have HF : Hid (R = false) := by show _ = _; rw [HR.out]; simp [h0, h1]
      clear HR
      go_enter Tryz.func33, Tryz.ntmps33
      go_wp2_with (first | (go_at_call 39; refine (H1.out _ HB.out).mono ?_; rintro e w1 ⟨rfl, hb1⟩; replace HB := hide (HB.out.trans (hb1.mono HB.out.size)); clear hb1; have kk := HK.out.below HB.out HK.out.lt; have k0 := kk.cell 0; have k1 := kk.cell 1; have k2 := kk.cell 2; have k3 := kk.cell 3; have k4 := kk.cell 4; clear kk) | (go_at_call 17; refine (H2.out _).mono ?_; rintro e w1 ⟨rfl, rfl⟩) | (go_at_call 69; refine (H3.out _ HB.out).mono ?_; rintro e w1 ⟨rfl, hb1⟩; replace HB := hide (HB.out.trans (hb1.mono HB.out.size)); clear hb1; have kk := HK.out.below HB.out HK.out.lt; have k0 := kk.cell 0; have k1 := kk.cell 1; have k2 := kk.cell 2; have k3 := kk.cell 3; have k4 := kk.cell 4; clear kk) | (go_at_call 70; refine (H4.out _ HB.out).mono ?_; rintro e w1 ⟨rfl, hb1⟩; replace HB := hide (HB.out.trans (hb1.mono HB.out.size)); clear hb1; have kk := HK.out.below HB.out HK.out.lt; have k0 := kk.cell 0; have k1 := kk.cell 1; have k2 := kk.cell 2; have k3 := kk.cell 3; have k4 := kk.cell 4; clear kk) | (go_at_call 72; refine (H5.out _ HB.out).mono ?_; rintro e w1 ⟨rfl, hb1⟩; replace HB := hide (HB.out.trans (hb1.mono HB.out.size)); clear hb1; have kk := HK.out.below HB.out HK.out.lt; have k0 := kk.cell 0; have k1 := kk.cell 1; have k2 := kk.cell 2; have k3 := kk.cell 3; have k4 := kk.cell 4; clear kk))
      exact bodyPost_ret (v := .bool false) (by simp [results, Tryz.results33, go_sem, h0, h1] <;> omega) rfl ⟨by rw [HF.out], HB0.out.trans (HB.out.mono HB0.out.size)⟩
  · skip
    have HF : Hid (R = false) := by show _ = _; rw [HR.out]; simp [h0]
    clear HR
    go_enter Tryz.func33, Tryz.ntmps33
    go_wp2_with (first | (go_at_call 39; refine (H1.out _ HB.out).mono ?_; rintro e w1 ⟨rfl, hb1⟩; replace HB := hide (HB.out.trans (hb1.mono HB.out.size)); clear hb1; have kk := HK.out.below HB.out HK.out.lt; have k0 := kk.cell 0; have k1 := kk.cell 1; have k2 := kk.cell 2; have k3 := kk.cell 3; have k4 := kk.cell 4; clear kk) | (go_at_call 17; refine (H2.out _).mono ?_; rintro e w1 ⟨rfl, rfl⟩) | (go_at_call 69; refine (H3.out _ HB.out).mono ?_; rintro e w1 ⟨rfl, hb1⟩; replace HB := hide (HB.out.trans (hb1.mono HB.out.size)); clear hb1; have kk := HK.out.below HB.out HK.out.lt; have k0 := kk.cell 0; have k1 := kk.cell 1; have k2 := kk.cell 2; have k3 := kk.cell 3; have k4 := kk.cell 4; clear kk) | (go_at_call 70; refine (H4.out _ HB.out).mono ?_; rintro e w1 ⟨rfl, hb1⟩; replace HB := hide (HB.out.trans (hb1.mono HB.out.size)); clear hb1; have kk := HK.out.below HB.out HK.out.lt; have k0 := kk.cell 0; have k1 := kk.cell 1; have k2 := kk.cell 2; have k3 := kk.cell 3; have k4 := kk.cell 4; clear kk) | (go_at_call 72; refine (H5.out _ HB.out).mono ?_; rintro e w1 ⟨rfl, hb1⟩; replace HB := hide (HB.out.trans (hb1.mono HB.out.size)); clear hb1; have kk := HK.out.below HB.out HK.out.lt; have k0 := kk.cell 0; have k1 := kk.cell 1; have k2 := kk.cell 2; have k3 := kk.cell 3; have k4 := kk.cell 4; clear kk))
    exact bodyPost_ret (v := .bool false) (by simp [results, Tryz.results33, go_sem, h0] <;> omega) rfl ⟨by rw [HF.out], HB0.out.trans (HB.out.mono HB0.out.size)⟩

set_option maxRecDepth 20000 in
set_option maxHeartbeats 8000000 in
theorem pisItem_any {v : Value} {q : It} {w : World} (h : ItV w v q) (hl : q.fr.length ≤ 1000000) : Calls Tryz.prog 44 #[v] w fun e w' => e = .returned (.bool (itB q)) ∧ Below w.heap.size w w' := by
  obtain ⟨mv, rfl, hm⟩ := h
  obtain ⟨A, c, rfl⟩ := hm.form
  have HB0 : Hid (Below w.heap.size w (w.alloc (.cells #[.int .i64 q.id, .string ⟨q.frm.toArray⟩, .slice A q.fr.length c, .int .i64 q.born, .int .i64 q.tries, .int .i64 q.due, .string ⟨q.body.toArray⟩] 71))) := (Below.refl w.heap.size w).alloc (Nat.le_refl _) _
  have HB : Hid (Below (w.alloc (.cells #[.int .i64 q.id, .string ⟨q.frm.toArray⟩, .slice A q.fr.length c, .int .i64 q.born, .int .i64 q.tries, .int .i64 q.due, .string ⟨q.body.toArray⟩] 71)).heap.size (w.alloc (.cells #[.int .i64 q.id, .string ⟨q.frm.toArray⟩, .slice A q.fr.length c, .int .i64 q.born, .int .i64 q.tries, .int .i64 q.due, .string ⟨q.body.toArray⟩] 71)) (w.alloc (.cells #[.int .i64 q.id, .string ⟨q.frm.toArray⟩, .slice A q.fr.length c, .int .i64 q.born, .int .i64 q.tries, .int .i64 q.due, .string ⟨q.body.toArray⟩] 71))) := Below.refl _ _
  have HK := hide (Blk.new w #[.int .i64 q.id, .string ⟨q.frm.toArray⟩, .slice A q.fr.length c, .int .i64 q.born, .int .i64 q.tries, .int .i64 q.due, .string ⟨q.body.toArray⟩] 71)
  have HM0 := hide (hm.below stb_int HB0.out)
  have eg1 : ∀ args w, (callFunc 68 args).run Tryz.prog w = .ok (.enter 68 args) w := enters_of Tryz.func68 (by kernel_rfl) rfl
  have H1 : Hid (∀ W, Below (w.alloc (.cells #[.int .i64 q.id, .string ⟨q.frm.toArray⟩, .slice A q.fr.length c, .int .i64 q.born, .int .i64 q.tries, .int .i64 q.due, .string ⟨q.body.toArray⟩] 71)).heap.size (w.alloc (.cells #[.int .i64 q.id, .string ⟨q.frm.toArray⟩, .slice A q.fr.length c, .int .i64 q.born, .int .i64 q.tries, .int .i64 q.due, .string ⟨q.body.toArray⟩] 71)) W → Calls Tryz.prog 67 #[.slice A q.fr.length c, .func (.func 68) #[] #[]] W fun e w' => e = .returned (.bool (risL inLt q.fr)) ∧ Below W.heap.size W w') := fun W hW =>
    prisesint_any (HM0.out.below stb_int hW) hl inLt ciV (fun x y => ciV_ge x y) _ eg1 (fun x y u v W hu hv => by cases hu; cases hv; exact (cmpI_any x y W).mono fun e w' h => ⟨h.1, by rw [h.2]; exact Below.refl _ _⟩)
  have H2 := hide (fun t W => pmom_any t W)
  have H3 := hide (fun W => pbody_any q.body W)
  obtain ⟨R, HR⟩ : ∃ R, Hid (R = itB q) := ⟨_, hide rfl⟩
  rw [← HR.out]
  replace HR : Hid (R = (decide (1 ≤ q.id) && decide (1 ≤ q.fr.length) && risL inLt q.fr && decide (q.frm.length ≤ 200) && poMom q.born && poMom q.due && decide (0 ≤ q.tries) && decide (q.tries ≤ 5) && decide (q.body.length ≤ 100000))) := HR
  clear hm eg1 HM0
  have hsz := size_lit q.frm
  obtain ⟨T2, HT2⟩ : ∃ T, Hid (poMom q.born = T) := ⟨_, hide rfl⟩
  obtain ⟨T3, HT3⟩ : ∃ T, Hid (poMom q.due = T) := ⟨_, hide rfl⟩
  rw [HT2.out, HT3.out] at HR
  generalize risL inLt q.fr = T1 at *
  generalize decide (q.body.length ≤ 100000) = T4 at *
  obtain ⟨qi, qf, qr, qb, qt, qd, qo⟩ := q
  dsimp only at *
  generalize qr.length = lr at *
  by_cases h0 : 1 ≤ qi
  · skip
    by_cases h1 : 1 ≤ lr
    · skip
      cases T1 with
      | true =>
        by_cases h2 : qf.length ≤ 200
        · skip
          cases T2 with
          | true =>
            cases T3 with
            | true =>
              by_cases h3 : 0 ≤ qt
              · skip
                by_cases h4 : qt ≤ 5
                · skip
                  cases T4 with
                  | true =>
                    have HF : Hid (R = true) := by show _ = _; rw [HR.out]; simp [h0, h1, h2, h3, h4]
                    clear HR
                    go_enter Tryz.func44, Tryz.ntmps44
                    go_wp2_with (first | (go_at_call 67; refine (H1.out _ HB.out).mono ?_; rintro e w1 ⟨rfl, hb1⟩; replace HB := hide (HB.out.trans (hb1.mono HB.out.size)); clear hb1; have kk := HK.out.below HB.out HK.out.lt; have k0 := kk.cell 0; have k1 := kk.cell 1; have k2 := kk.cell 2; have k3 := kk.cell 3; have k4 := kk.cell 4; have k5 := kk.cell 5; have k6 := kk.cell 6; clear kk) | (go_at_call 77; refine (H2.out _ _).mono ?_; rintro e w1 ⟨rfl, rfl⟩; first | rw [HT2.out] | rw [HT3.out]) | (go_at_call 78; refine (H3.out _).mono ?_; rintro e w1 ⟨rfl, rfl⟩))
                    exact bodyPost_ret (v := .bool true) (by simp [results, Tryz.results44, go_sem, h0, h1, h2, h3, h4] <;> omega) rfl ⟨by rw [HF.out], HB0.out.trans (HB.out.mono HB0.out.size)⟩
                  | false =>
                    have HF : Hid (R = false) := by show _ = _; rw [HR.out]; simp [h0, h1, h2, h3, h4]
                    clear HR
                    go_enter Tryz.func44, Tryz.ntmps44
                    go_wp2_with (first | (go_at_call 67; refine (H1.out _ HB.out).mono ?_; rintro e w1 ⟨rfl, hb1⟩; replace HB := hide (HB.out.trans (hb1.mono HB.out.size)); clear hb1; have kk := HK.out.below HB.out HK.out.lt; have k0 := kk.cell 0; have k1 := kk.cell 1; have k2 := kk.cell 2; have k3 := kk.cell 3; have k4 := kk.cell 4; have k5 := kk.cell 5; have k6 := kk.cell 6; clear kk) | (go_at_call 77; refine (H2.out _ _).mono ?_; rintro e w1 ⟨rfl, rfl⟩; first | rw [HT2.out] | rw [HT3.out]) | (go_at_call 78; refine (H3.out _).mono ?_; rintro e w1 ⟨rfl, rfl⟩))
                    exact bodyPost_ret (v := .bool false) (by simp [results, Tryz.results44, go_sem, h0, h1, h2, h3, h4] <;> omega) rfl ⟨by rw [HF.out], HB0.out.trans (HB.out.mono HB0.out.size)⟩
                · skip
                  have HF : Hid (R = false) := by show _ = _; rw [HR.out]; simp [h0, h1, h2, h3, h4]
                  clear HR
                  go_enter Tryz.func44, Tryz.ntmps44
                  go_wp2_with (first | (go_at_call 67; refine (H1.out _ HB.out).mono ?_; rintro e w1 ⟨rfl, hb1⟩; replace HB := hide (HB.out.trans (hb1.mono HB.out.size)); clear hb1; have kk := HK.out.below HB.out HK.out.lt; have k0 := kk.cell 0; have k1 := kk.cell 1; have k2 := kk.cell 2; have k3 := kk.cell 3; have k4 := kk.cell 4; have k5 := kk.cell 5; have k6 := kk.cell 6; clear kk) | (go_at_call 77; refine (H2.out _ _).mono ?_; rintro e w1 ⟨rfl, rfl⟩; first | rw [HT2.out] | rw [HT3.out]) | (go_at_call 78; refine (H3.out _).mono ?_; rintro e w1 ⟨rfl, rfl⟩))
                  exact bodyPost_ret (v := .bool false) (by simp [results, Tryz.results44, go_sem, h0, h1, h2, h3, h4] <;> omega) rfl ⟨by rw [HF.out], HB0.out.trans (HB.out.mono HB0.out.size)⟩
              · skip
                have HF : Hid (R = false) := by show _ = _; rw [HR.out]; simp [h0, h1, h2, h3]
                clear HR
                go_enter Tryz.func44, Tryz.ntmps44
                go_wp2_with (first | (go_at_call 67; refine (H1.out _ HB.out).mono ?_; rintro e w1 ⟨rfl, hb1⟩; replace HB := hide (HB.out.trans (hb1.mono HB.out.size)); clear hb1; have kk := HK.out.below HB.out HK.out.lt; have k0 := kk.cell 0; have k1 := kk.cell 1; have k2 := kk.cell 2; have k3 := kk.cell 3; have k4 := kk.cell 4; have k5 := kk.cell 5; have k6 := kk.cell 6; clear kk) | (go_at_call 77; refine (H2.out _ _).mono ?_; rintro e w1 ⟨rfl, rfl⟩; first | rw [HT2.out] | rw [HT3.out]) | (go_at_call 78; refine (H3.out _).mono ?_; rintro e w1 ⟨rfl, rfl⟩))
                exact bodyPost_ret (v := .bool false) (by simp [results, Tryz.results44, go_sem, h0, h1, h2, h3] <;> omega) rfl ⟨by rw [HF.out], HB0.out.trans (HB.out.mono HB0.out.size)⟩
            | false =>
              have HF : Hid (R = false) := by show _ = _; rw [HR.out]; simp [h0, h1, h2]
              clear HR
              go_enter Tryz.func44, Tryz.ntmps44
              go_wp2_with (first | (go_at_call 67; refine (H1.out _ HB.out).mono ?_; rintro e w1 ⟨rfl, hb1⟩; replace HB := hide (HB.out.trans (hb1.mono HB.out.size)); clear hb1; have kk := HK.out.below HB.out HK.out.lt; have k0 := kk.cell 0; have k1 := kk.cell 1; have k2 := kk.cell 2; have k3 := kk.cell 3; have k4 := kk.cell 4; have k5 := kk.cell 5; have k6 := kk.cell 6; clear kk) | (go_at_call 77; refine (H2.out _ _).mono ?_; rintro e w1 ⟨rfl, rfl⟩; first | rw [HT2.out] | rw [HT3.out]) | (go_at_call 78; refine (H3.out _).mono ?_; rintro e w1 ⟨rfl, rfl⟩))
              exact bodyPost_ret (v := .bool false) (by simp [results, Tryz.results44, go_sem, h0, h1, h2] <;> omega) rfl ⟨by rw [HF.out], HB0.out.trans (HB.out.mono HB0.out.size)⟩
          | false =>
            have HF : Hid (R = false) := by show _ = _; rw [HR.out]; simp [h0, h1, h2]
            clear HR
            go_enter Tryz.func44, Tryz.ntmps44
            go_wp2_with (first | (go_at_call 67; refine (H1.out _ HB.out).mono ?_; rintro e w1 ⟨rfl, hb1⟩; replace HB := hide (HB.out.trans (hb1.mono HB.out.size)); clear hb1; have kk := HK.out.below HB.out HK.out.lt; have k0 := kk.cell 0; have k1 := kk.cell 1; have k2 := kk.cell 2; have k3 := kk.cell 3; have k4 := kk.cell 4; have k5 := kk.cell 5; have k6 := kk.cell 6; clear kk) | (go_at_call 77; refine (H2.out _ _).mono ?_; rintro e w1 ⟨rfl, rfl⟩; first | rw [HT2.out] | rw [HT3.out]) | (go_at_call 78; refine (H3.out _).mono ?_; rintro e w1 ⟨rfl, rfl⟩))
            exact bodyPost_ret (v := .bool false) (by simp [results, Tryz.results44, go_sem, h0, h1, h2] <;> omega) rfl ⟨by rw [HF.out], HB0.out.trans (HB.out.mono HB0.out.size)⟩
        · skip
          have HF : Hid (R = false) := by show _ = _; rw [HR.out]; simp [h0, h1, h2]
          clear HR
          go_enter Tryz.func44, Tryz.ntmps44
          go_wp2_with (first | (go_at_call 67; refine (H1.out _ HB.out).mono ?_; rintro e w1 ⟨rfl, hb1⟩; replace HB := hide (HB.out.trans (hb1.mono HB.out.size)); clear hb1; have kk := HK.out.below HB.out HK.out.lt; have k0 := kk.cell 0; have k1 := kk.cell 1; have k2 := kk.cell 2; have k3 := kk.cell 3; have k4 := kk.cell 4; have k5 := kk.cell 5; have k6 := kk.cell 6; clear kk) | (go_at_call 77; refine (H2.out _ _).mono ?_; rintro e w1 ⟨rfl, rfl⟩; first | rw [HT2.out] | rw [HT3.out]) | (go_at_call 78; refine (H3.out _).mono ?_; rintro e w1 ⟨rfl, rfl⟩))
          exact bodyPost_ret (v := .bool false) (by simp [results, Tryz.results44, go_sem, h0, h1, h2] <;> omega) rfl ⟨by rw [HF.out], HB0.out.trans (HB.out.mono HB0.out.size)⟩
      | false =>
        have HF : Hid (R = false) := by show _ = _; rw [HR.out]; simp [h0, h1]
        clear HR
        go_enter Tryz.func44, Tryz.ntmps44
        go_wp2_with (first | (go_at_call 67; refine (H1.out _ HB.out).mono ?_; rintro e w1 ⟨rfl, hb1⟩; replace HB := hide (HB.out.trans (hb1.mono HB.out.size)); clear hb1; have kk := HK.out.below HB.out HK.out.lt; have k0 := kk.cell 0; have k1 := kk.cell 1; have k2 := kk.cell 2; have k3 := kk.cell 3; have k4 := kk.cell 4; have k5 := kk.cell 5; have k6 := kk.cell 6; clear kk) | (go_at_call 77; refine (H2.out _ _).mono ?_; rintro e w1 ⟨rfl, rfl⟩; first | rw [HT2.out] | rw [HT3.out]) | (go_at_call 78; refine (H3.out _).mono ?_; rintro e w1 ⟨rfl, rfl⟩))
        exact bodyPost_ret (v := .bool false) (by simp [results, Tryz.results44, go_sem, h0, h1] <;> omega) rfl ⟨by rw [HF.out], HB0.out.trans (HB.out.mono HB0.out.size)⟩
    · skip
      have HF : Hid (R = false) := by show _ = _; rw [HR.out]; simp [h0, h1]
      clear HR
      go_enter Tryz.func44, Tryz.ntmps44
      go_wp2_with (first | (go_at_call 67; refine (H1.out _ HB.out).mono ?_; rintro e w1 ⟨rfl, hb1⟩; replace HB := hide (HB.out.trans (hb1.mono HB.out.size)); clear hb1; have kk := HK.out.below HB.out HK.out.lt; have k0 := kk.cell 0; have k1 := kk.cell 1; have k2 := kk.cell 2; have k3 := kk.cell 3; have k4 := kk.cell 4; have k5 := kk.cell 5; have k6 := kk.cell 6; clear kk) | (go_at_call 77; refine (H2.out _ _).mono ?_; rintro e w1 ⟨rfl, rfl⟩; first | rw [HT2.out] | rw [HT3.out]) | (go_at_call 78; refine (H3.out _).mono ?_; rintro e w1 ⟨rfl, rfl⟩))
      exact bodyPost_ret (v := .bool false) (by simp [results, Tryz.results44, go_sem, h0, h1] <;> omega) rfl ⟨by rw [HF.out], HB0.out.trans (HB.out.mono HB0.out.size)⟩
  · skip
    have HF : Hid (R = false) := by show _ = _; rw [HR.out]; simp [h0]
    clear HR
    go_enter Tryz.func44, Tryz.ntmps44
    go_wp2_with (first | (go_at_call 67; refine (H1.out _ HB.out).mono ?_; rintro e w1 ⟨rfl, hb1⟩; replace HB := hide (HB.out.trans (hb1.mono HB.out.size)); clear hb1; have kk := HK.out.below HB.out HK.out.lt; have k0 := kk.cell 0; have k1 := kk.cell 1; have k2 := kk.cell 2; have k3 := kk.cell 3; have k4 := kk.cell 4; have k5 := kk.cell 5; have k6 := kk.cell 6; clear kk) | (go_at_call 77; refine (H2.out _ _).mono ?_; rintro e w1 ⟨rfl, rfl⟩; first | rw [HT2.out] | rw [HT3.out]) | (go_at_call 78; refine (H3.out _).mono ?_; rintro e w1 ⟨rfl, rfl⟩))
    exact bodyPost_ret (v := .bool false) (by simp [results, Tryz.results44, go_sem, h0] <;> omega) rfl ⟨by rw [HF.out], HB0.out.trans (HB.out.mono HB0.out.size)⟩
end Go.Proofs.YtdbmaobjikjifaaGreatDoorR
