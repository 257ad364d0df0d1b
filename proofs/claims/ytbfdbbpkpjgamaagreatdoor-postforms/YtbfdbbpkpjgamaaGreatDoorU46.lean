/- The document's Form of layer 15. -/
import Derived.Test.YtbfdbbpkpjgamaaGreatDoorU45
set_option linter.unusedVariables false
set_option linter.unusedSimpArgs false
namespace Go.Proofs.YtbfdbbpkpjgamaaGreatDoor
open Go.RowKit Go.Shelf
set_option maxRecDepth 20000 in
set_option maxHeartbeats 16000000 in
theorem rform15_any {w : World} {v : Value} {s : Stt} (h : StR w v s) (hd : BdS s) (hcp : ∀ A n c x1 x2 x3 x4, v = .agg #[.slice A n c, x1, x2, x3, x4] → n ≤ c) :
    Calls Tryz.prog 10 #[v] w fun e w' => e = .returned (.bool (poForm s)) ∧ Below w.heap.size w w' := by
  have HS := hide h
  obtain ⟨sbv, ssv, sqv, rfl, h1, h2, h3⟩ := h
  obtain ⟨A1, c1, rfl⟩ := h1.form
  obtain ⟨A2, c2, rfl⟩ := h2.form
  obtain ⟨A3, c3, rfl⟩ := h3.form
  have hcap : s.boxes.length ≤ c1 := hcp _ _ _ _ _ _ _ rfl
  clear hcp
  have HX1 := hide h1
  have HX2 := hide h2
  have HX3 := hide h3
  clear h1 h2 h3
  obtain ⟨l1, l2, l3, l4, l5, l6⟩ := hd
  have HBd := hide l2
  have HSd := hide l4
  have HQd := hide l6
  clear l2 l4 l6
  obtain ⟨R, HR⟩ : ∃ R, Hid (R = poForm s) := ⟨_, hide rfl⟩
  rw [← HR.out]
  have HB0 : Hid (Below w.heap.size w (w.alloc (.cells #[.slice A1 s.boxes.length c1, .slice A2 s.subs.length c2, .slice A3 s.queue.length c3, .int .i64 s.nextValid, .int .i64 s.nextItem] 26))) := (Below.refl w.heap.size w).alloc (Nat.le_refl _) _
  have HK0 : Hid (Blk (w.alloc (.cells #[.slice A1 s.boxes.length c1, .slice A2 s.subs.length c2, .slice A3 s.queue.length c3, .int .i64 s.nextValid, .int .i64 s.nextItem] 26)) w.heap.size #[.slice A1 s.boxes.length c1, .slice A2 s.subs.length c2, .slice A3 s.queue.length c3, .int .i64 s.nextValid, .int .i64 s.nextItem] 26) := Blk.new w _ _
  have HIn := hide (fun n a b W => rin15_any n a b W)
  have q0 := HK0.out.cell 0
  have q1 := HK0.out.cell 1
  have q2 := HK0.out.cell 2
  have q3 := HK0.out.cell 3
  have q4 := HK0.out.cell 4
  simp only [List.getElem?_toArray, List.getElem?_cons_zero, List.getElem?_cons_succ] at q0 q1 q2 q3 q4
  by_cases g1 : s.boxes.length ≤ 24
  case neg =>
    have HF : Hid (R = false) := by show _ = _; rw [HR.out]; exact form_not fun e => g1 ((form_iff s).1 e).1.1
    have gz : (24 : Int) < s.boxes.length := by omega
    go_enter Tryz.func10, Tryz.ntmps10
    go_wp2_with (go_at_call 23; refine (HIn.out _ _ _ _).mono ?_; rintro e wq ⟨rfl, rfl⟩)
    go_ret
    exact ⟨by rw [HF.out]; rfl, HB0.out⟩
  have gz1 : ¬ (24 : Int) < s.boxes.length := by omega
  by_cases g2 : s.subs.length ≤ 24
  case neg =>
    have HF : Hid (R = false) := by show _ = _; rw [HR.out]; exact form_not fun e => g2 ((form_iff s).1 e).1.2.1
    have gz : (24 : Int) < s.subs.length := by omega
    go_enter Tryz.func10, Tryz.ntmps10
    go_wp2_with (go_at_call 23; refine (HIn.out _ _ _ _).mono ?_; rintro e wq ⟨rfl, rfl⟩)
    go_ret
    exact ⟨by rw [HF.out]; rfl, HB0.out⟩
  have gz2 : ¬ (24 : Int) < s.subs.length := by omega
  by_cases g3 : s.queue.length ≤ 24
  case neg =>
    have HF : Hid (R = false) := by show _ = _; rw [HR.out]; exact form_not fun e => g3 ((form_iff s).1 e).1.2.2.1
    have gz : (24 : Int) < s.queue.length := by omega
    go_enter Tryz.func10, Tryz.ntmps10
    go_wp2_with (go_at_call 23; refine (HIn.out _ _ _ _).mono ?_; rintro e wq ⟨rfl, rfl⟩)
    go_ret
    exact ⟨by rw [HF.out]; rfl, HB0.out⟩
  have gz3 : ¬ (24 : Int) < s.queue.length := by omega
  by_cases g4 : poIn s.nextValid 1 2147483648 = true
  case neg =>
    have HF : Hid (R = false) := by show _ = _; rw [HR.out]; exact form_not fun e => g4 ((form_iff s).1 e).1.2.2.2.1
    have gz : poIn s.nextValid 1 2147483648 = false := by simpa using g4
    go_enter Tryz.func10, Tryz.ntmps10
    go_wp2_with (go_at_call 23; refine (HIn.out _ _ _ _).mono ?_; rintro e wq ⟨rfl, rfl⟩)
    go_ret
    exact ⟨by rw [HF.out]; rfl, HB0.out⟩
  skip
  by_cases g5 : poIn s.nextItem 1 2147483648 = true
  case neg =>
    have HF : Hid (R = false) := by show _ = _; rw [HR.out]; exact form_not fun e => g5 ((form_iff s).1 e).1.2.2.2.2
    have gz : poIn s.nextItem 1 2147483648 = false := by simpa using g5
    go_enter Tryz.func10, Tryz.ntmps10
    go_wp2_with (go_at_call 23; refine (HIn.out _ _ _ _).mono ?_; rintro e wq ⟨rfl, rfl⟩)
    go_ret
    exact ⟨by rw [HF.out]; rfl, HB0.out⟩
  skip
  have H5 := hide (And.intro g1 (And.intro g2 (And.intro g3 (And.intro g4 g5))))
  go_enter Tryz.func10, Tryz.ntmps10
  go_wp2_with (go_at_call 23; refine (HIn.out _ _ _ _).mono ?_; rintro e wq ⟨rfl, rfl⟩)
  clear q0 q1 q2 q3 q4 HIn gz1 gz2 gz3 g4 g5
  obtain ⟨W0, HW0⟩ : ∃ W0, Hid ((w.alloc (.cells #[.slice A1 s.boxes.length c1, .slice A2 s.subs.length c2, .slice A3 s.queue.length c3, .int .i64 s.nextValid, .int .i64 s.nextItem] 26)) = W0) := ⟨_, hide rfl⟩
  rw [HW0.out] at HB0 HK0 ⊢
  clear HW0
  go_loopw [42] (fun v42 wq => ∃ k : Nat, v42 = .int .i64 k ∧ k ≤ s.boxes.length ∧ Hid (Below w.heap.size w wq) ∧ Hid (Blk wq w.heap.size #[.slice A1 s.boxes.length c1, .slice A2 s.subs.length c2, .slice A3 s.queue.length c3, .int .i64 s.nextValid, .int .i64 s.nextItem] 26) ∧ Hid (FmA s k)) (fun v42 _ => s.boxes.length - (intOf v42).toNat)
  case atStart => exact ⟨0, rfl, Nat.zero_le _, HB0.out, HK0.out, FmA.zero s⟩
  case round =>
    obtain ⟨k, rfl, hk, HB, HK, HA⟩ := hrel
    clear HB0 HK0
    by_cases hlt : k < s.boxes.length
    · have hltz : (k : Int) < (s.boxes.length : Int) := by omega
      obtain ⟨g, o, eA, hg, p0, p1, p2, p3, mv, p4, hm⟩ := (HX1.out.below stb_bx HB.out).at hlt
      subst eA
      have hbd := HBd.out _ (List.getElem_mem hlt)
      obtain ⟨b, hb⟩ : ∃ b, Hid (s.boxes[k] = b) := ⟨_, hide rfl⟩
      rw [hb.out] at p0 p1 p2 p3 hm hbd
      obtain ⟨Am, cm, rfl⟩ := hm.form
      have r0 : wr.cell? ⟨g, o + k * 5, none⟩ = some (.int .i64 b.user) := p0
      have r1 : wr.cell? ⟨g, o + k * 5 + 1, none⟩ = some (.string ⟨b.name.toArray⟩) := p1
      have r2 : wr.cell? ⟨g, o + k * 5 + 2, none⟩ = some (.int .i64 b.valid) := p2
      have r3 : wr.cell? ⟨g, o + k * 5 + 3, none⟩ = some (.int .i64 b.next) := p3
      clear p0 p1 p2 p3
      have HBV : Hid (BxV wr (.agg #[.int .i64 b.user, .string ⟨b.name.toArray⟩, .int .i64 b.valid, .int .i64 b.next, .slice Am b.msgs.length cm]) b) := ⟨_, rfl, hm⟩
      have AL : Below wr.heap.size wr (wr.alloc (.cells #[.int .i64 b.user, .string ⟨b.name.toArray⟩, .int .i64 b.valid, .int .i64 b.next, .slice Am b.msgs.length cm] 39)) := (Below.refl wr.heap.size wr).alloc (Nat.le_refl _) _
      have HBox := hide (rbox15_any (HS.out.below (HB.out.trans (AL.mono HB.out.size))) (HBV.out.below AL) l1 hbd.msgs hbd.name)
      obtain ⟨T, hT⟩ : ∃ T, Hid (T = poBox s b) := ⟨_, hide rfl⟩
      rw [← hT.out] at HBox
      clear HBV hm hbd AL
      obtain ⟨b0, b1, b2, b3, b4⟩ := b
      dsimp only at *
      obtain ⟨lm, hlm⟩ : ∃ lm, Hid (b4.length = lm) := ⟨_, hide rfl⟩
      rw [hlm.out] at p4 HBox
      have HBa : Hid (Below w.heap.size w (wr.alloc (.cells #[.int .i64 b0, .string ⟨b1.toArray⟩, .int .i64 b2, .int .i64 b3, .slice Am lm cm] 39))) := HB.out.alloc HB.out.size _
      have HKa := hide (HK.out.alloc (.cells #[.int .i64 b0, .string ⟨b1.toArray⟩, .int .i64 b2, .int .i64 b3, .slice Am lm cm] 39))
      have HKb : Hid (Blk (wr.alloc (.cells #[.int .i64 b0, .string ⟨b1.toArray⟩, .int .i64 b2, .int .i64 b3, .slice Am lm cm] 39)) wr.heap.size #[.int .i64 b0, .string ⟨b1.toArray⟩, .int .i64 b2, .int .i64 b3, .slice Am lm cm] 39) := Blk.new wr _ _
      have z0 := HKa.out.cell 0
      have z1 := HKa.out.cell 1
      have z2 := HKa.out.cell 2
      have z3 := HKa.out.cell 3
      have z4 := HKa.out.cell 4
      have y0 := HKb.out.cell 0
      have y1 := HKb.out.cell 1
      have y2 := HKb.out.cell 2
      have y3 := HKb.out.cell 3
      have y4 := HKb.out.cell 4
      simp only [List.getElem?_toArray, List.getElem?_cons_zero, List.getElem?_cons_succ] at z0 z1 z2 z3 z4 y0 y1 y2 y3 y4
      have hkc : k ≤ c1 := by omega
      have hkcz : (k : Int) ≤ (c1 : Int) := by omega
      cases T with
      | false =>
        have HF : Hid (R = false) := by show _ = _; rw [HR.out]; exact form_noBox hlt (by rw [hb.out, ← hT.out])
        go_wp2_with (go_at_call 24; refine HBox.out.mono ?_; rintro e w5 ⟨rfl, hb5⟩; have HB5 := hide (HBa.out.trans (hb5.mono HBa.out.size)); have HK5 := hide (HKa.out.below hb5 HKa.out.lt); have HKb5 := hide (HKb.out.below hb5 HKb.out.lt); have q0 := HK5.out.cell 0; simp only [List.getElem?_toArray, List.getElem?_cons_zero, List.getElem?_cons_succ] at q0; clear hb5)
        go_ret
        exact ⟨by rw [HF.out]; rfl, HB5.out⟩
      | true =>
        go_wp2_with (go_at_call 24; refine HBox.out.mono ?_; rintro e w5 ⟨rfl, hb5⟩; have HB5 := hide (HBa.out.trans (hb5.mono HBa.out.size)); have HK5 := hide (HKa.out.below hb5 HKa.out.lt); have HKb5 := hide (HKb.out.below hb5 HKb.out.lt); have q0 := HK5.out.cell 0; simp only [List.getElem?_toArray, List.getElem?_cons_zero, List.getElem?_cons_succ] at q0; clear hb5)
        clear r0 r1 r2 r3 p4 z0 z1 z2 z3 z4 y0 y1 y2 y3 y4 q0 HBa HKa HKb HB HK
        obtain ⟨W1, HW1⟩ : ∃ W1, Hid (w5 = W1) := ⟨_, hide rfl⟩
        rw [HW1.out] at HB5 HK5 HKb5 ⊢
        clear HW1
        obtain ⟨bx, hbx⟩ : ∃ bx, Hid (wr.heap.size = bx) := ⟨_, hide rfl⟩
        rw [hbx.out] at HKb5 ⊢
        clear hbx
        go_loopw [56] (fun v56 wq => ∃ j : Nat, v56 = .int .i64 j ∧ j ≤ k ∧ Hid (Below W1.heap.size W1 wq) ∧ Hid (FmB s k j hlt)) (fun v56 _ => k - (intOf v56).toNat)
        case atStart => exact ⟨0, rfl, Nat.zero_le _, Below.refl _ _, FmB.zero s k hlt⟩
        case round =>
          obtain ⟨j, rfl, hj, HBj, HJ⟩ := hrel
          have HBf := hide (HB5.out.trans (HBj.out.mono HB5.out.size))
          have HKf := hide (HK5.out.below HBj.out HK5.out.lt)
          have HKx := hide (HKb5.out.below HBj.out HKb5.out.lt)
          by_cases hjk : j < k
          · have hjz : (j : Int) < (k : Int) := by omega
            have hjl : j < s.boxes.length := by omega
            obtain ⟨g2, o2, eA, hg2, p0, p1, p2, p3, mv, p4, hm⟩ := (HX1.out.below stb_bx HBf.out).at hjl
            cases eA
            obtain ⟨d, hd⟩ : ∃ d, Hid (s.boxes[j] = d) := ⟨_, hide rfl⟩
            rw [hd.out] at p0 p1 p2 p3 hm
            obtain ⟨Bm, dm, rfl⟩ := hm.form
            have r0 : wr.cell? ⟨g, o + j * 5, none⟩ = some (.int .i64 d.user) := p0
            have r1 : wr.cell? ⟨g, o + j * 5 + 1, none⟩ = some (.string ⟨d.name.toArray⟩) := p1
            have r2 : wr.cell? ⟨g, o + j * 5 + 2, none⟩ = some (.int .i64 d.valid) := p2
            have r3 : wr.cell? ⟨g, o + j * 5 + 3, none⟩ = some (.int .i64 d.next) := p3
            clear p0 p1 p2 p3 hm
            obtain ⟨d0, d1, d2, d3, d4⟩ := d
            dsimp only at *
            obtain ⟨ln, hln⟩ : ∃ ln, Hid (d4.length = ln) := ⟨_, hide rfl⟩
            rw [hln.out] at p4
            have HBc : Hid (Below W1.heap.size W1 (wr.alloc (.cells #[.int .i64 d0, .string ⟨d1.toArray⟩, .int .i64 d2, .int .i64 d3, .slice Bm ln dm] 39))) := HBj.out.alloc HBj.out.size _
            have HBg : Hid (Below w.heap.size w (wr.alloc (.cells #[.int .i64 d0, .string ⟨d1.toArray⟩, .int .i64 d2, .int .i64 d3, .slice Bm ln dm] 39))) := HBf.out.alloc HBf.out.size _
            have HKc : Hid (Blk (wr.alloc (.cells #[.int .i64 d0, .string ⟨d1.toArray⟩, .int .i64 d2, .int .i64 d3, .slice Bm ln dm] 39)) wr.heap.size #[.int .i64 d0, .string ⟨d1.toArray⟩, .int .i64 d2, .int .i64 d3, .slice Bm ln dm] 39) := Blk.new wr _ _
            have HKy : Hid (Blk (wr.alloc (.cells #[.int .i64 d0, .string ⟨d1.toArray⟩, .int .i64 d2, .int .i64 d3, .slice Bm ln dm] 39)) bx #[.int .i64 b0, .string ⟨b1.toArray⟩, .int .i64 b2, .int .i64 b3, .slice Am lm cm] 39) := HKx.out.alloc _
            have z0 := HKc.out.cell 0
            have z1 := HKc.out.cell 1
            have z2 := HKc.out.cell 2
            have y0 := HKy.out.cell 0
            have y1 := HKy.out.cell 1
            have y2 := HKy.out.cell 2
            simp only [List.getElem?_toArray, List.getElem?_cons_zero, List.getElem?_cons_succ] at z0 z1 z2 y0 y1 y2
            obtain ⟨L, HL⟩ : ∃ L, Hid (k = L + 1) := ⟨k - 1, by show _ = _; omega⟩
            have hL1 : (k : Int) - 1 = L := by have := HL.out; omega
            have HNb : Hid (∀ (h1 : d2 ≠ b2) (h2 : j + 1 = k → poLt d0 d1 b0 b1 = true), FmB s k (j + 1) hlt) := fun h1 h2 => HJ.out.next hjl (by rw [hd.out, hb.out]; exact h1) (by rw [hd.out, hb.out]; exact h2)
            have HV : Hid (d2 = b2 → R = false) := fun h => by rw [HR.out]; exact form_noVal hlt hjl hjk (by rw [hd.out, hb.out]; exact h)
            have HLt : Hid (j + 1 = k → poLt d0 d1 b0 b1 = false → R = false) := fun h1 h2 => by rw [HR.out]; exact form_noLt hlt hjl h1 (by rw [hd.out, hb.out]; exact h2)
            by_cases gv : d2 = b2
            · have HF := hide (HV.out gv)
              clear HV HLt HNb
              subst gv
              go_wp2
              go_ret
              exact ⟨by rw [HF.out]; rfl, HBg.out⟩
            have gvb : (d2 == b2) = false := beq_eq_false_iff_ne.2 gv
            by_cases gj : j = L
            case neg =>
              have gjz : ¬ (j : Int) = (L : Int) := by omega
              have HF := hide (HNb.out gv (fun e => by have := HL.out; omega))
              clear HV HLt HNb
              go_wp2
              go_roundw
              case rel => exact ⟨j + 1, by go_num, by omega, HBc.out, HF.out⟩
              case measure => simp [intOf]; omega
            subst gj
            by_cases g0 : d0 < b0
            · have HF := hide (HNb.out gv (fun _ => by unfold poLt; rw [decide_eq_true g0]; rfl))
              have gn : ¬ b0 < d0 := by omega
              have gb : (d0 == b0) = false := beq_eq_false_iff_ne.2 (by omega)
              clear HV HLt HNb
              go_wp2
              go_roundw
              case rel => exact ⟨j + 1, by go_num, by omega, HBc.out, HF.out⟩
              case measure => simp [intOf]; omega
            by_cases g00 : b0 < d0
            · have HF := hide (HLt.out HL.out.symm (by unfold poLt; rw [decide_eq_false g0, decide_eq_false (by omega : ¬ d0 = b0)]; rfl))
              clear HV HLt HNb
              go_wp2
              go_ret
              exact ⟨by rw [HF.out]; rfl, HBg.out⟩
            obtain rfl : b0 = d0 := by omega
            by_cases g1 : d1 < b1
            · have HF := hide (HNb.out gv (fun _ => by unfold poLt; rw [decide_eq_true g1]; simp))
              have gn : Op.bytesLess d1 b1 = true := by rw [bytesLess_eq]; exact decide_eq_true g1
              clear HV HLt HNb
              go_wp2
              go_roundw
              case rel => exact ⟨j + 1, by go_num, by omega, HBc.out, HF.out⟩
              case measure => simp [intOf]; omega
            · have HF := hide (HLt.out HL.out.symm (by unfold poLt; rw [decide_eq_false g1]; simp))
              have gn : Op.bytesLess d1 b1 = false := by rw [bytesLess_eq]; exact decide_eq_false g1
              clear HV HLt HNb
              go_wp2
              go_ret
              exact ⟨by rw [HF.out]; rfl, HBg.out⟩
          · obtain rfl : j = k := by omega
            have hjz : ¬ (j : Int) < (j : Int) := by omega
            have HAn : Hid (FmA s (j + 1)) := HA.out.next hlt (by rw [hb.out, ← hT.out]) HJ.out
            go_wp2
            go_roundw
            case rel => exact ⟨j + 1, by go_num, by omega, HBf.out, HKf.out, HAn.out⟩
            case measure => simp [intOf]; omega
    · obtain rfl : k = s.boxes.length := by omega
      have hltz : ¬ (s.boxes.length : Int) < (s.boxes.length : Int) := by omega
      have z1 := HK.out.cell 1
      simp only [List.getElem?_toArray, List.getElem?_cons_zero, List.getElem?_cons_succ] at z1
      go_wp2
      clear z1
      obtain ⟨W1, HW1⟩ : ∃ W1, Hid (wr = W1) := ⟨_, hide rfl⟩
      rw [HW1.out] at HB HK ⊢
      clear HW1
      go_loopw [98] (fun v98 wq => ∃ j : Nat, v98 = .int .i64 j ∧ j ≤ s.subs.length ∧ Hid (Below w.heap.size w wq) ∧ Hid (Blk wq w.heap.size #[.slice A1 s.boxes.length c1, .slice A2 s.subs.length c2, .slice A3 s.queue.length c3, .int .i64 s.nextValid, .int .i64 s.nextItem] 26) ∧ Hid (FmS s j)) (fun v98 _ => s.subs.length - (intOf v98).toNat)
      case atStart => exact ⟨0, rfl, Nat.zero_le _, HB.out, HK.out, FmS.zero s⟩
      case round =>
        obtain ⟨j, rfl, hj, HBj, HKj, HJ⟩ := hrel
        clear HB HK
        by_cases hjl : j < s.subs.length
        · have hjz : (j : Int) < (s.subs.length : Int) := by omega
          obtain ⟨g, o, eA, hg, p0, p1⟩ := (HX2.out.below stb_sb HBj.out).at hjl
          subst eA
          have hsd := HSd.out _ (List.getElem_mem hjl)
          obtain ⟨b, hb⟩ : ∃ b, Hid (s.subs[j] = b) := ⟨_, hide rfl⟩
          rw [hb.out] at p0 p1 hsd
          obtain ⟨b0, b1⟩ := b
          have r0 : wr.cell? ⟨g, o + j * 2, none⟩ = some (.int .i64 b0) := p0
          have r1 : wr.cell? ⟨g, o + j * 2 + 1, none⟩ = some (.string ⟨b1.toArray⟩) := p1
          clear p0 p1
          dsimp only at *
          have HBa : Hid (Below w.heap.size w (wr.alloc (.cells #[.int .i64 b0, .string ⟨b1.toArray⟩] 69))) := HBj.out.alloc HBj.out.size _
          have HKa := hide (HKj.out.alloc (.cells #[.int .i64 b0, .string ⟨b1.toArray⟩] 69))
          have HKb : Hid (Blk (wr.alloc (.cells #[.int .i64 b0, .string ⟨b1.toArray⟩] 69)) wr.heap.size #[.int .i64 b0, .string ⟨b1.toArray⟩] 69) := Blk.new wr _ _
          have hlta := HKa.out.lt
          have hltb := HKb.out.lt
          have HNm := hide (fun W => rname15_any b1 W hsd)
          have HUs := hide (fun (W : World) (hW : Below w.heap.size w W) => ruser15_any (HS.out.below hW) b0 l1)
          have HN1 : Hid (poName b1 = false → R = false) := fun h => by rw [HR.out]; exact form_noName hjl (by rw [hb.out]; exact h)
          have HN2 : Hid (poUser s.boxes b0 = false → R = false) := fun h => by rw [HR.out]; exact form_noUser hjl (by rw [hb.out]; exact h)
          have HN3 : Hid (∀ L (e : j = L + 1) (hL : L < s.subs.length), poLt s.subs[L].user s.subs[L].name b0 b1 = false → R = false) := fun L e hL h => by rw [HR.out]; exact form_noSlt hjl hL e (by rw [hb.out]; exact h)
          have HNx : Hid (poName b1 = true → poUser s.boxes b0 = true → (∀ L (e : j = L + 1) (hL : L < s.subs.length), poLt s.subs[L].user s.subs[L].name b0 b1 = true) → FmS s (j + 1)) := fun h1 h2 h3 => HJ.out.next hjl (by rw [hb.out]; exact h1) (by rw [hb.out]; exact h2) (fun L e hL => by rw [hb.out]; exact h3 L e hL)
          generalize poName b1 = T1 at *
          generalize poUser s.boxes b0 = T2 at *
          have z0 := HKa.out.cell 0
          have z1 := HKa.out.cell 1
          have z2 := HKa.out.cell 2
          have z3 := HKa.out.cell 3
          have z4 := HKa.out.cell 4
          have y0 := HKb.out.cell 0
          have y1 := HKb.out.cell 1
          simp only [List.getElem?_toArray, List.getElem?_cons_zero, List.getElem?_cons_succ] at z0 z1 z2 z3 z4 y0 y1
          cases T1 with
          | false =>
            have HF := hide (HN1.out rfl)
            clear HN1 HN2 HN3 HNx
            go_wp2
            obtain ⟨Wx, hWx⟩ : ∃ Wx, Hid ((wr.alloc (.cells #[.int .i64 b0, .string ⟨b1.toArray⟩] 69)) = Wx) := ⟨_, hide rfl⟩
            rw [hWx.out] at HBa HKa HKb hlta hltb z0 z1 z2 z3 z4 y0 y1 ⊢
            clear hWx
            have hn0 := ext_some Wx
            have hc := ext_cell Wx
            refine wp_region_ext (by kernel_rfl) (by kernel_rfl) ?_
            repeat (go_big_quiet_step ((first
              | (go_at_call 25; exact ext_call (HNm.out _))
              | (go_at_call 26; exact ext_call (HUs.out _ (HBa.out.trans ((Ext.ok _).mono HBa.out.size)))))))
            refine wpQuiet_nil ?_
            rintro w1 ⟨u1, rfl⟩
            have HB1 := hide (HBa.out.trans (u1.ok.mono HBa.out.size))
            have HK1 := hide (HKa.out.below u1.ok HKa.out.lt)
            generalize u1.w = w1 at *
            clear hc hn0
            go_wp2
            go_ret
            exact ⟨by rw [HF.out]; rfl, HB1.out⟩
          | true =>
          cases T2 with
          | false =>
            have HF := hide (HN2.out rfl)
            clear HN1 HN2 HN3 HNx
            go_wp2
            obtain ⟨Wx, hWx⟩ : ∃ Wx, Hid ((wr.alloc (.cells #[.int .i64 b0, .string ⟨b1.toArray⟩] 69)) = Wx) := ⟨_, hide rfl⟩
            rw [hWx.out] at HBa HKa HKb hlta hltb z0 z1 z2 z3 z4 y0 y1 ⊢
            clear hWx
            have hn0 := ext_some Wx
            have hc := ext_cell Wx
            refine wp_region_ext (by kernel_rfl) (by kernel_rfl) ?_
            repeat (go_big_quiet_step ((first
              | (go_at_call 25; exact ext_call (HNm.out _))
              | (go_at_call 26; exact ext_call (HUs.out _ (HBa.out.trans ((Ext.ok _).mono HBa.out.size)))))))
            refine wpQuiet_nil ?_
            rintro w1 ⟨u1, rfl⟩
            have HB1 := hide (HBa.out.trans (u1.ok.mono HBa.out.size))
            have HK1 := hide (HKa.out.below u1.ok HKa.out.lt)
            generalize u1.w = w1 at *
            clear hc hn0
            go_wp2
            go_ret
            exact ⟨by rw [HF.out]; rfl, HB1.out⟩
          | true =>
          rcases Nat.eq_zero_or_pos j with h0 | h0
          · have hk0 : decide ((0 : Int) < (j : Int)) = false := decide_eq_false (by omega)
            have hk00 : decide (0 < j) = false := decide_eq_false (by omega)
            have HF := hide (HNx.out rfl rfl (fun L e => by omega))
            clear HN1 HN2 HN3 HNx h0
            go_wp2
            obtain ⟨Wx, hWx⟩ : ∃ Wx, Hid ((wr.alloc (.cells #[.int .i64 b0, .string ⟨b1.toArray⟩] 69)) = Wx) := ⟨_, hide rfl⟩
            rw [hWx.out] at HBa HKa HKb hlta hltb z0 z1 z2 z3 z4 y0 y1 ⊢
            clear hWx
            have hn0 := ext_some Wx
            have hc := ext_cell Wx
            refine wp_region_ext (by kernel_rfl) (by kernel_rfl) ?_
            repeat (go_big_quiet_step ((first
              | (go_at_call 25; exact ext_call (HNm.out _))
              | (go_at_call 26; exact ext_call (HUs.out _ (HBa.out.trans ((Ext.ok _).mono HBa.out.size)))))))
            refine wpQuiet_nil ?_
            rintro w1 ⟨u1, rfl⟩
            have HB1 := hide (HBa.out.trans (u1.ok.mono HBa.out.size))
            have HK1 := hide (HKa.out.below u1.ok HKa.out.lt)
            generalize u1.w = w1 at *
            clear hc hn0
            go_wp2
            go_roundw
            case rel => exact ⟨j + 1, by go_num, by omega, HB1.out, HK1.out, HF.out⟩
            case measure => simp [intOf]; omega
          · obtain ⟨L, HL⟩ : ∃ L, Hid (j = L + 1) := ⟨j - 1, by show _ = _; omega⟩
            have hL1 : (j : Int) - 1 = L := by have := HL.out; omega
            have hLs : L < s.subs.length := by have := HL.out; omega
            have hLs' : (L : Int) < s.subs.length := by omega
            have hk0 : (0 : Int) < j := by omega
            have hk1 : ¬ j = 0 := by omega
            obtain ⟨g', o', e', hg', p0, p1⟩ := (HX2.out.below stb_sb HBa.out).at hLs
            cases e'
            have HN3' := hide (HN3.out L HL.out hLs)
            have HNx' : Hid (poLt s.subs[L].user s.subs[L].name b0 b1 = true → FmS s (j + 1)) := fun h => HNx.out rfl rfl (fun L' e hL' => by
              have : L' = L := by have := HL.out; omega
              subst this
              exact h)
            clear HN1 HN2 HN3 HNx
            generalize s.subs[L] = d at *
            obtain ⟨d0, d1⟩ := d
            have t0 : (wr.alloc (.cells #[.int .i64 b0, .string ⟨b1.toArray⟩] 69)).cell? ⟨g, o + L * 2, none⟩ = some (.int .i64 d0) := p0
            have t1 : (wr.alloc (.cells #[.int .i64 b0, .string ⟨b1.toArray⟩] 69)).cell? ⟨g, o + L * 2 + 1, none⟩ = some (.string ⟨d1.toArray⟩) := p1
            clear p0 p1
            dsimp only at *
            have hgl : g < (wr.alloc (.cells #[.int .i64 b0, .string ⟨b1.toArray⟩] 69)).heap.size := by simp; omega
            by_cases g0 : d0 < b0
            · have HF := hide (HNx'.out (by unfold poLt; rw [decide_eq_true g0]; rfl))
              have gn : decide (b0 < d0) = false := decide_eq_false (by omega)
              have gb : (d0 == b0) = false := beq_eq_false_iff_ne.2 (by omega)
              have gb2 : decide (d0 = b0) = false := decide_eq_false (by omega)
              clear HNx' HN3'
              go_wp2
              obtain ⟨Wx, hWx⟩ : ∃ Wx, Hid ((wr.alloc (.cells #[.int .i64 b0, .string ⟨b1.toArray⟩] 69)) = Wx) := ⟨_, hide rfl⟩
              rw [hWx.out] at HBa HKa HKb hlta hltb z0 z1 z2 z3 z4 y0 y1 t0 t1 hgl ⊢
              clear hWx
              have hn0 := ext_some Wx
              have hc := ext_cell Wx
              refine wp_region_ext (by kernel_rfl) (by kernel_rfl) ?_
              repeat (go_big_quiet_step ((first
                | (go_at_call 25; exact ext_call (HNm.out _))
                | (go_at_call 26; exact ext_call (HUs.out _ (HBa.out.trans ((Ext.ok _).mono HBa.out.size)))))))
              refine wpQuiet_nil ?_
              rintro w1 ⟨u1, rfl⟩
              have HB1 := hide (HBa.out.trans (u1.ok.mono HBa.out.size))
              have HK1 := hide (HKa.out.below u1.ok HKa.out.lt)
              generalize u1.w = w1 at *
              clear hc hn0
              go_wp2
              go_roundw
              case rel => exact ⟨j + 1, by go_num, by omega, HB1.out, HK1.out, HF.out⟩
              case measure => simp [intOf]; omega
            by_cases g00 : b0 < d0
            · have HF := hide (HN3'.out (by unfold poLt; rw [decide_eq_false g0, decide_eq_false (by omega : ¬ d0 = b0)]; rfl))
              clear HNx' HN3'
              go_wp2
              obtain ⟨Wx, hWx⟩ : ∃ Wx, Hid ((wr.alloc (.cells #[.int .i64 b0, .string ⟨b1.toArray⟩] 69)) = Wx) := ⟨_, hide rfl⟩
              rw [hWx.out] at HBa HKa HKb hlta hltb z0 z1 z2 z3 z4 y0 y1 t0 t1 hgl ⊢
              clear hWx
              have hn0 := ext_some Wx
              have hc := ext_cell Wx
              refine wp_region_ext (by kernel_rfl) (by kernel_rfl) ?_
              repeat (go_big_quiet_step ((first
                | (go_at_call 25; exact ext_call (HNm.out _))
                | (go_at_call 26; exact ext_call (HUs.out _ (HBa.out.trans ((Ext.ok _).mono HBa.out.size)))))))
              refine wpQuiet_nil ?_
              rintro w1 ⟨u1, rfl⟩
              have HB1 := hide (HBa.out.trans (u1.ok.mono HBa.out.size))
              have HK1 := hide (HKa.out.below u1.ok HKa.out.lt)
              generalize u1.w = w1 at *
              clear hc hn0
              go_wp2
              go_ret
              exact ⟨by rw [HF.out]; rfl, HB1.out⟩
            obtain rfl : b0 = d0 := by omega
            by_cases g1 : d1 < b1
            · have HF := hide (HNx'.out (by unfold poLt; rw [decide_eq_true g1]; simp))
              have gn : Op.bytesLess d1 b1 = true := by rw [bytesLess_eq]; exact decide_eq_true g1
              clear HNx' HN3'
              go_wp2
              obtain ⟨Wx, hWx⟩ : ∃ Wx, Hid ((wr.alloc (.cells #[.int .i64 b0, .string ⟨b1.toArray⟩] 69)) = Wx) := ⟨_, hide rfl⟩
              rw [hWx.out] at HBa HKa HKb hlta hltb z0 z1 z2 z3 z4 y0 y1 t0 t1 hgl ⊢
              clear hWx
              have hn0 := ext_some Wx
              have hc := ext_cell Wx
              refine wp_region_ext (by kernel_rfl) (by kernel_rfl) ?_
              repeat (go_big_quiet_step ((first
                | (go_at_call 25; exact ext_call (HNm.out _))
                | (go_at_call 26; exact ext_call (HUs.out _ (HBa.out.trans ((Ext.ok _).mono HBa.out.size)))))))
              refine wpQuiet_nil ?_
              rintro w1 ⟨u1, rfl⟩
              have HB1 := hide (HBa.out.trans (u1.ok.mono HBa.out.size))
              have HK1 := hide (HKa.out.below u1.ok HKa.out.lt)
              generalize u1.w = w1 at *
              clear hc hn0
              go_wp2
              go_roundw
              case rel => exact ⟨j + 1, by go_num, by omega, HB1.out, HK1.out, HF.out⟩
              case measure => simp [intOf]; omega
            · have HF := hide (HN3'.out (by unfold poLt; rw [decide_eq_false g1]; simp))
              have gn : Op.bytesLess d1 b1 = false := by rw [bytesLess_eq]; exact decide_eq_false g1
              clear HNx' HN3'
              go_wp2
              obtain ⟨Wx, hWx⟩ : ∃ Wx, Hid ((wr.alloc (.cells #[.int .i64 b0, .string ⟨b1.toArray⟩] 69)) = Wx) := ⟨_, hide rfl⟩
              rw [hWx.out] at HBa HKa HKb hlta hltb z0 z1 z2 z3 z4 y0 y1 t0 t1 hgl ⊢
              clear hWx
              have hn0 := ext_some Wx
              have hc := ext_cell Wx
              refine wp_region_ext (by kernel_rfl) (by kernel_rfl) ?_
              repeat (go_big_quiet_step ((first
                | (go_at_call 25; exact ext_call (HNm.out _))
                | (go_at_call 26; exact ext_call (HUs.out _ (HBa.out.trans ((Ext.ok _).mono HBa.out.size)))))))
              refine wpQuiet_nil ?_
              rintro w1 ⟨u1, rfl⟩
              have HB1 := hide (HBa.out.trans (u1.ok.mono HBa.out.size))
              have HK1 := hide (HKa.out.below u1.ok HKa.out.lt)
              generalize u1.w = w1 at *
              clear hc hn0
              go_wp2
              go_ret
              exact ⟨by rw [HF.out]; rfl, HB1.out⟩
        · obtain rfl : j = s.subs.length := by omega
          have hjz : ¬ (s.subs.length : Int) < (s.subs.length : Int) := by omega
          have z2 := HKj.out.cell 2
          simp only [List.getElem?_toArray, List.getElem?_cons_zero, List.getElem?_cons_succ] at z2
          go_wp2
          clear z2
          obtain ⟨W2, HW2⟩ : ∃ W2, Hid (wr = W2) := ⟨_, hide rfl⟩
          rw [HW2.out] at HBj HKj ⊢
          clear HW2
          go_loopw [158] (fun v158 wq => ∃ i : Nat, v158 = .int .i64 i ∧ i ≤ s.queue.length ∧ Hid (Below w.heap.size w wq) ∧ Hid (Blk wq w.heap.size #[.slice A1 s.boxes.length c1, .slice A2 s.subs.length c2, .slice A3 s.queue.length c3, .int .i64 s.nextValid, .int .i64 s.nextItem] 26) ∧ Hid (FmQ s i)) (fun v158 _ => s.queue.length - (intOf v158).toNat)
          case atStart => exact ⟨0, rfl, Nat.zero_le _, HBj.out, HKj.out, FmQ.zero s⟩
          case round =>
            obtain ⟨i, rfl, hi, HBi, HKi, HI⟩ := hrel
            clear HBj HKj
            by_cases hil : i < s.queue.length
            · have hiz : (i : Int) < (s.queue.length : Int) := by omega
              obtain ⟨g, o, eA, hg, p0, p1, ⟨fv, p2, hf⟩, p3, p4, p5, p6⟩ := (HX3.out.below stb_it HBi.out).at hil
              subst eA
              have hqd := HQd.out _ (List.getElem_mem hil)
              obtain ⟨b, hb⟩ : ∃ b, Hid (s.queue[i] = b) := ⟨_, hide rfl⟩
              rw [hb.out] at p0 p1 hf p3 p4 p5 p6 hqd
              obtain ⟨Af, cf, rfl⟩ := hf.form
              have r0 : wr.cell? ⟨g, o + i * 7, none⟩ = some (.int .i64 b.id) := p0
              have r1 : wr.cell? ⟨g, o + i * 7 + 1, none⟩ = some (.string ⟨b.frm.toArray⟩) := p1
              have r3 : wr.cell? ⟨g, o + i * 7 + 3, none⟩ = some (.int .i64 b.born) := p3
              have r4 : wr.cell? ⟨g, o + i * 7 + 4, none⟩ = some (.int .i64 b.tries) := p4
              have r5 : wr.cell? ⟨g, o + i * 7 + 5, none⟩ = some (.int .i64 b.due) := p5
              have r6 : wr.cell? ⟨g, o + i * 7 + 6, none⟩ = some (.string ⟨b.body.toArray⟩) := p6
              clear p0 p1 p3 p4 p5 p6
              have HIV : Hid (ItV wr (.agg #[.int .i64 b.id, .string ⟨b.frm.toArray⟩, .slice Af b.fr.length cf, .int .i64 b.born, .int .i64 b.tries, .int .i64 b.due, .string ⟨b.body.toArray⟩]) b) := ⟨_, rfl, hf⟩
              have AL : Below wr.heap.size wr (wr.alloc (.cells #[.int .i64 b.id, .string ⟨b.frm.toArray⟩, .slice Af b.fr.length cf, .int .i64 b.born, .int .i64 b.tries, .int .i64 b.due, .string ⟨b.body.toArray⟩] 62)) := (Below.refl wr.heap.size wr).alloc (Nat.le_refl _) _
              have HBa := hide (HBi.out.trans (AL.mono HBi.out.size))
              have HIc := hide (fun (W : World) (hW : Below (wr.alloc (.cells #[.int .i64 b.id, .string ⟨b.frm.toArray⟩, .slice Af b.fr.length cf, .int .i64 b.born, .int .i64 b.tries, .int .i64 b.due, .string ⟨b.body.toArray⟩] 62)).heap.size (wr.alloc (.cells #[.int .i64 b.id, .string ⟨b.frm.toArray⟩, .slice Af b.fr.length cf, .int .i64 b.born, .int .i64 b.tries, .int .i64 b.due, .string ⟨b.body.toArray⟩] 62)) W) => ritem15_any (HS.out.below (HBa.out.trans (hW.mono HBa.out.size))) ((HIV.out.below AL).below hW) l1 hqd)
              have HN1 : Hid (poItem s b = false → R = false) := fun h => by rw [HR.out]; exact form_noItem hil (by rw [hb.out]; exact h)
              have HN3 : Hid (∀ L (e : i = L + 1) (hL : L < s.queue.length), ¬ s.queue[L].id < b.id → R = false) := fun L e hL h => by rw [HR.out]; exact form_noId hil hL e (by rw [hb.out]; exact h)
              have HNx : Hid (poItem s b = true → (∀ L (e : i = L + 1) (hL : L < s.queue.length), s.queue[L].id < b.id) → FmQ s (i + 1)) := fun h1 h3 => HI.out.next hil (by rw [hb.out]; exact h1) (fun L e hL => by rw [hb.out]; exact h3 L e hL)
              generalize poItem s b = T1 at *
              clear HIV hf AL hqd hb
              obtain ⟨b0, b1, b2, b3, b4, b5, b6⟩ := b
              dsimp only at *
              generalize b2.length = lf at *
              have HKa := hide (HKi.out.alloc (.cells #[.int .i64 b0, .string ⟨b1.toArray⟩, .slice Af lf cf, .int .i64 b3, .int .i64 b4, .int .i64 b5, .string ⟨b6.toArray⟩] 62))
              have HKb : Hid (Blk (wr.alloc (.cells #[.int .i64 b0, .string ⟨b1.toArray⟩, .slice Af lf cf, .int .i64 b3, .int .i64 b4, .int .i64 b5, .string ⟨b6.toArray⟩] 62)) wr.heap.size #[.int .i64 b0, .string ⟨b1.toArray⟩, .slice Af lf cf, .int .i64 b3, .int .i64 b4, .int .i64 b5, .string ⟨b6.toArray⟩] 62) := Blk.new wr _ _
              have hlta := HKa.out.lt
              have hltb := HKb.out.lt
              have z0 := HKa.out.cell 0
              have z1 := HKa.out.cell 1
              have z2 := HKa.out.cell 2
              have z3 := HKa.out.cell 3
              have z4 := HKa.out.cell 4
              have y0 := HKb.out.cell 0
              have y1 := HKb.out.cell 1
              have y2 := HKb.out.cell 2
              have y3 := HKb.out.cell 3
              have y4 := HKb.out.cell 4
              have y5 := HKb.out.cell 5
              have y6 := HKb.out.cell 6
              simp only [List.getElem?_toArray, List.getElem?_cons_zero, List.getElem?_cons_succ] at z0 z1 z2 z3 z4 y0 y1 y2 y3 y4 y5 y6
              cases T1 with
              | false =>
                have HF := hide (HN1.out rfl)
                clear HN1 HN3 HNx
                go_wp2
                obtain ⟨Wx, hWx⟩ : ∃ Wx, Hid ((wr.alloc (.cells #[.int .i64 b0, .string ⟨b1.toArray⟩, .slice Af lf cf, .int .i64 b3, .int .i64 b4, .int .i64 b5, .string ⟨b6.toArray⟩] 62)) = Wx) := ⟨_, hide rfl⟩
                rw [hWx.out] at HBa HKa HKb HIc hlta hltb z0 z1 z2 z3 z4 y0 y1 y2 y3 y4 y5 y6 ⊢
                clear hWx
                have hn0 := ext_some Wx
                have hc := ext_cell Wx
                refine wp_region_ext (by kernel_rfl) (by kernel_rfl) ?_
                repeat (go_big_quiet_step ((go_at_call 27; exact ext_call (HIc.out _ (Ext.ok _)))))
                refine wpQuiet_nil ?_
                rintro w1 ⟨u1, rfl⟩
                have HB1 := hide (HBa.out.trans (u1.ok.mono HBa.out.size))
                have HK1 := hide (HKa.out.below u1.ok HKa.out.lt)
                generalize u1.w = w1 at *
                clear hc hn0
                go_wp2
                go_ret
                exact ⟨by rw [HF.out]; rfl, HB1.out⟩
              | true =>
              rcases Nat.eq_zero_or_pos i with h0 | h0
              · have hk0 : decide ((0 : Int) < (i : Int)) = false := decide_eq_false (by omega)
                have hk00 : decide (0 < i) = false := decide_eq_false (by omega)
                have HF := hide (HNx.out rfl (fun L e => by omega))
                clear HN1 HN3 HNx h0
                go_wp2
                obtain ⟨Wx, hWx⟩ : ∃ Wx, Hid ((wr.alloc (.cells #[.int .i64 b0, .string ⟨b1.toArray⟩, .slice Af lf cf, .int .i64 b3, .int .i64 b4, .int .i64 b5, .string ⟨b6.toArray⟩] 62)) = Wx) := ⟨_, hide rfl⟩
                rw [hWx.out] at HBa HKa HKb HIc hlta hltb z0 z1 z2 z3 z4 y0 y1 y2 y3 y4 y5 y6 ⊢
                clear hWx
                have hn0 := ext_some Wx
                have hc := ext_cell Wx
                refine wp_region_ext (by kernel_rfl) (by kernel_rfl) ?_
                repeat (go_big_quiet_step ((go_at_call 27; exact ext_call (HIc.out _ (Ext.ok _)))))
                refine wpQuiet_nil ?_
                rintro w1 ⟨u1, rfl⟩
                have HB1 := hide (HBa.out.trans (u1.ok.mono HBa.out.size))
                have HK1 := hide (HKa.out.below u1.ok HKa.out.lt)
                generalize u1.w = w1 at *
                clear hc hn0
                go_wp2
                go_roundw
                case rel => exact ⟨i + 1, by go_num, by omega, HB1.out, HK1.out, HF.out⟩
                case measure => simp [intOf]; omega
              · obtain ⟨L, HL⟩ : ∃ L, Hid (i = L + 1) := ⟨i - 1, by show _ = _; omega⟩
                have hL1 : (i : Int) - 1 = L := by have := HL.out; omega
                have hLs : L < s.queue.length := by have := HL.out; omega
                have hLs' : (L : Int) < s.queue.length := by omega
                have hk0 : (0 : Int) < i := by omega
                have hk1 : ¬ i = 0 := by omega
                obtain ⟨g', o', e', hg', p0, _⟩ := (HX3.out.below stb_it HBa.out).at hLs
                cases e'
                have HN3' := hide (HN3.out L HL.out hLs)
                have HNx' : Hid (s.queue[L].id < b0 → FmQ s (i + 1)) := fun h => HNx.out rfl (fun L' e hL' => by
                  have : L' = L := by have := HL.out; omega
                  subst this
                  exact h)
                clear HN1 HN3 HNx
                have t0 : (wr.alloc (.cells #[.int .i64 b0, .string ⟨b1.toArray⟩, .slice Af lf cf, .int .i64 b3, .int .i64 b4, .int .i64 b5, .string ⟨b6.toArray⟩] 62)).cell? ⟨g, o + L * 7, none⟩ = some (.int .i64 s.queue[L].id) := p0
                clear p0
                generalize s.queue[L].id = d0 at *
                have hgl : g < (wr.alloc (.cells #[.int .i64 b0, .string ⟨b1.toArray⟩, .slice Af lf cf, .int .i64 b3, .int .i64 b4, .int .i64 b5, .string ⟨b6.toArray⟩] 62)).heap.size := by simp; omega
                by_cases g0 : d0 < b0
                · have HF := hide (HNx'.out g0)
                  have gn : decide (b0 ≤ d0) = false := decide_eq_false (by omega)
                  clear HNx' HN3'
                  go_wp2
                  obtain ⟨Wx, hWx⟩ : ∃ Wx, Hid ((wr.alloc (.cells #[.int .i64 b0, .string ⟨b1.toArray⟩, .slice Af lf cf, .int .i64 b3, .int .i64 b4, .int .i64 b5, .string ⟨b6.toArray⟩] 62)) = Wx) := ⟨_, hide rfl⟩
                  rw [hWx.out] at HBa HKa HKb HIc hlta hltb z0 z1 z2 z3 z4 y0 y1 y2 y3 y4 y5 y6 t0 hgl ⊢
                  clear hWx
                  have hn0 := ext_some Wx
                  have hc := ext_cell Wx
                  refine wp_region_ext (by kernel_rfl) (by kernel_rfl) ?_
                  repeat (go_big_quiet_step ((go_at_call 27; exact ext_call (HIc.out _ (Ext.ok _)))))
                  refine wpQuiet_nil ?_
                  rintro w1 ⟨u1, rfl⟩
                  have HB1 := hide (HBa.out.trans (u1.ok.mono HBa.out.size))
                  have HK1 := hide (HKa.out.below u1.ok HKa.out.lt)
                  generalize u1.w = w1 at *
                  clear hc hn0
                  go_wp2
                  go_roundw
                  case rel => exact ⟨i + 1, by go_num, by omega, HB1.out, HK1.out, HF.out⟩
                  case measure => simp [intOf]; omega
                · have HF := hide (HN3'.out g0)
                  have gn : b0 ≤ d0 := by omega
                  clear HNx' HN3'
                  go_wp2
                  obtain ⟨Wx, hWx⟩ : ∃ Wx, Hid ((wr.alloc (.cells #[.int .i64 b0, .string ⟨b1.toArray⟩, .slice Af lf cf, .int .i64 b3, .int .i64 b4, .int .i64 b5, .string ⟨b6.toArray⟩] 62)) = Wx) := ⟨_, hide rfl⟩
                  rw [hWx.out] at HBa HKa HKb HIc hlta hltb z0 z1 z2 z3 z4 y0 y1 y2 y3 y4 y5 y6 t0 hgl ⊢
                  clear hWx
                  have hn0 := ext_some Wx
                  have hc := ext_cell Wx
                  refine wp_region_ext (by kernel_rfl) (by kernel_rfl) ?_
                  repeat (go_big_quiet_step ((go_at_call 27; exact ext_call (HIc.out _ (Ext.ok _)))))
                  refine wpQuiet_nil ?_
                  rintro w1 ⟨u1, rfl⟩
                  have HB1 := hide (HBa.out.trans (u1.ok.mono HBa.out.size))
                  have HK1 := hide (HKa.out.below u1.ok HKa.out.lt)
                  generalize u1.w = w1 at *
                  clear hc hn0
                  go_wp2
                  go_ret
                  exact ⟨by rw [HF.out]; rfl, HB1.out⟩
            · obtain rfl : i = s.queue.length := by omega
              have hiz : ¬ (s.queue.length : Int) < (s.queue.length : Int) := by omega
              have HF : Hid (R = true) := by show _ = _; rw [HR.out]; exact form_yes H5.out HA.out HJ.out HI.out
              go_wp2
              go_ret
              exact ⟨by rw [HF.out]; rfl, HBi.out⟩
end Go.Proofs.YtbfdbbpkpjgamaaGreatDoor
