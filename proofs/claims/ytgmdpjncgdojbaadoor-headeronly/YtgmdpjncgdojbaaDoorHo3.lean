/- The document's Only of layer 9. -/
import Derived.Test.YtgmdpjncgdojbaaDoorHo2
import Derived.Test.YtgmdpjncgdojbaaDoorHr2
namespace Go.Proofs.YtgmdpjncgdojbaaDoor
open Go.RowKit Go.Shelf
theorem mem_snoc (sf : List UInt8) (A : List (List UInt8)) (y : List UInt8) : decide (sf ∈ A ++ [y]) = (decide (sf ∈ A) || decide (y = sf)) := by
  rw [Bool.eq_iff_iff]
  simp only [decide_eq_true_eq, Bool.or_eq_true, List.mem_append, List.mem_singleton]
  constructor
  · rintro (h | h)
    · exact .inl h
    · exact .inr h.symm
  · rintro (h | h)
    · exact .inl h
    · exact .inr h.symm
set_option linter.unusedVariables false in
set_option maxRecDepth 40000 in
set_option maxHeartbeats 8000000 in
theorem ronly_any (m : List UInt8) (v : Value) (xs : List (List UInt8)) (nt : Bool) (w : World) (hv : TX w v xs) (hm : m.length ≤ 10000) (hx : xs.length ≤ 50) (hn : ∀ x ∈ xs, x.length ≤ 500) :
    Calls Tryd.prog 20 #[.string ⟨m.toArray⟩, v, .bool nt] w fun e w' => e = .returned (.string ⟨(onlyL m (xs.map (List.map lowB)) nt (hd (splitS m) 0).1 ++ [13, 10]).toArray⟩) ∧ Below w.heap.size w w' := by
  have hsz0 := size_lit m
  have HSx := hide (fun (t : List UInt8) (w : World) (h : t.length ≤ 1000000) => rsmall_any t w h)
  have HH := hide (fun w => rheader_any m w (by omega))
  have HGd : Hid (∀ f ∈ (hd (splitS m) 0).1, Good m f) := fun f hf => good_hd hf
  have hcnt : (hd (splitS m) 0).1.length ≤ 10000 := by
    have h4 := hd_count (splitS m).length (splitS m) 0 (Nat.le_refl _)
    have h5 := splitS_len m
    omega
  obtain ⟨fs, hfs⟩ : ∃ fs, (hd (splitS m) 0).1 = fs := ⟨_, rfl⟩
  rw [hfs] at HH HGd hcnt ⊢
  generalize (hd (splitS m) 0).2 = b0 at *
  clear hfs
  obtain ⟨Av, cv, rfl, hr⟩ := hv
  have HR := hide hr
  have HNx := hide hn
  clear hr hn
  go_enter Tryd.func20, Tryd.ntmps20
  go_wp2_with fail
  refine (HH.out _).mono ?_
  rintro e w1 ⟨hb1, v7, rfl, hv7⟩
  obtain ⟨A7, c7, rfl⟩ := hv7.form
  have HF7 := hide hv7
  replace hb1 := hide hb1
  clear hv7 HH
  go_wp2
  go_loopw [9, 22] (fun v9 v22 wr => ∃ (i : Nat) (M : List UInt8), i ≤ fs.length ∧ v22 = .int .i64 i ∧ v9 = .string ⟨M.toArray⟩ ∧ Hid (M = onlyL m (xs.map (List.map lowB)) nt (fs.take i)) ∧ Hid (Below w.heap.size w wr) ∧ Hid (Below w1.heap.size w1 wr)) (fun _ v22 _ => fs.length - (intOf v22).toNat)
  case atStart => exact ⟨0, [], Nat.zero_le _, rfl, rfl, rfl, hb1, Below.refl _ _⟩
  case round =>
    obtain ⟨i, M, hi, rfl, rfl, HM, HB, HW⟩ := hrel
    have HML : Hid (M.length ≤ 100000000) := by
      show _ ≤ _
      rw [HM.out]
      refine Nat.le_trans (only_len m _ nt _) ?_
      exact Nat.mul_le_mul (by rw [List.length_take]; omega : _ ≤ 10000) hm
    by_cases hlt : i < fs.length
    · obtain ⟨g, o, cap, ev, _, _, _, q4, q0, q1, q2, q3⟩ := HF7.out.read i hlt
      obtain rfl : A7 = some ⟨g, o, none⟩ := by
        simp at ev
        exact ev.1
      have hlt' : (i : Int) < fs.length := by omega
      replace q0 := (HW.out.cell (p := ⟨g, o + i * 4, none⟩) q4).trans q0
      replace q1 := (HW.out.cell (p := ⟨g, o + i * 4 + 1, none⟩) q4).trans q1
      replace q2 := (HW.out.cell (p := ⟨g, o + i * 4 + 2, none⟩) q4).trans q2
      replace q3 := (HW.out.cell (p := ⟨g, o + i * 4 + 3, none⟩) q4).trans q3
      have hgood := HGd.out _ (List.getElem_mem hlt)
      have HX1 := hide (only_snoc m (xs.map (List.map lowB)) nt (fs.take i) fs[i])
      rw [← List.take_succ_eq_append_getElem hlt, ← HM.out] at HX1
      generalize fs[i] = f at *
      have e1 := ext_mid m f.from' f.to
      have HSL := hide (seg_len m f)
      have hg1 : f.from' ≤ f.to := by have := hgood.lo; omega
      have hg2 : f.to ≤ m.length := hgood.hi
      have hpl : f.name.length ≤ 10000 := by have := hgood.lo; omega
      obtain ⟨p, V, f0, f1⟩ := f
      dsimp only at *
      obtain ⟨S, hS⟩ : ∃ S, segB m ⟨p, V, f0, f1⟩ = S := ⟨_, rfl⟩
      have hS2 : (m.drop f0).take (f1 - f0) = S := hS
      rw [hS] at HX1 HSL
      rw [hS2] at e1
      obtain ⟨kp, hkp⟩ : ∃ kp, keepP (xs.map (List.map lowB)) nt ⟨p, V, f0, f1⟩ = kp := ⟨_, rfl⟩
      have HKp : Hid ((decide (p.map lowB ∈ xs.map (List.map lowB)) != nt) = kp) := hkp
      rw [hkp] at HX1
      have HX0 : Hid (onlyL m (xs.map (List.map lowB)) nt (fs.take (i + 1)) = if kp then M ++ S else M) := by
        show _ = _
        rw [HX1.out]
        cases kp <;> simp
      have g1 : (f0 : Int) ≤ f1 := by omega
      have g2 : (f1 : Int) ≤ m.length := by omega
      obtain ⟨W1, hW1⟩ : ∃ W1, wr.alloc (.cells #[.string ⟨p.toArray⟩, .string ⟨V.toArray⟩, .int .i64 (f0 : Nat), .int .i64 (f1 : Nat)] 35) = W1 := ⟨_, rfl⟩
      obtain ⟨bf, hbf⟩ : ∃ bf, wr.heap.size = bf := ⟨_, rfl⟩
      have HF0 : Hid (Blk W1 bf #[.string ⟨p.toArray⟩, .string ⟨V.toArray⟩, .int .i64 (f0 : Nat), .int .i64 (f1 : Nat)] 35) := by
        show Blk _ _ _ _
        rw [← hW1, ← hbf]
        exact Blk.new wr _ _
      have HB1 : Hid (Below w.heap.size w W1) := by
        show Below _ _ _
        rw [← hW1]
        exact HB.out.alloc HB.out.size _
      have HBw1 : Hid (Below w1.heap.size w1 W1) := by
        show Below _ _ _
        rw [← hW1]
        exact HW.out.alloc HW.out.size _
      obtain ⟨sf, hsf⟩ : ∃ sf, p.map lowB = sf := ⟨_, rfl⟩
      have HSF := hide hsf
      rw [hsf] at HKp
      clear hsf
      clear hS hS2 hkp HX1 hgood ev
      go_wp2
      try rw [hW1]
      try simp only [hbf]
      clear hW1 hbf q0 q1 q2 q3 HB HW
      go_loopw [12, 28] (fun v12 v28 wq => ∃ k : Nat, k ≤ xs.length ∧ v28 = .int .i64 k ∧ v12 = .bool (decide (sf ∈ (xs.take k).map (List.map lowB))) ∧ Hid (Below W1.heap.size W1 wq)) (fun _ v28 _ => xs.length - (intOf v28).toNat)
      case atStart => exact ⟨0, Nat.zero_le _, rfl, rfl, Below.refl _ _⟩
      case round =>
        obtain ⟨k, hk, rfl, rfl, HQ⟩ := hrel
        by_cases hlk : k < xs.length
        · obtain ⟨g2, o2, rfl, hgl2, r0⟩ := HR.out k hlk
          have hlk' : (k : Int) < xs.length := by omega
          have HBq := hide (HB1.out.trans (HQ.out.mono HB1.out.size))
          replace r0 := (HBq.out.cell (p := ⟨g2, o2 + k, none⟩) hgl2).trans r0
          have hnl := HNx.out _ (List.getElem_mem hlk)
          have HNext : Hid (decide (sf ∈ (xs.take (k + 1)).map (List.map lowB)) = (decide (sf ∈ (xs.take k).map (List.map lowB)) || decide (xs[k].map lowB = sf))) := by
            show _ = _
            rw [List.take_succ_eq_append_getElem hlk, List.map_append]
            exact mem_snoc _ _ _
          have hn1 := ext_some wr
          have hcf : ∀ u : Ext wr, u.w.cell? ⟨bf, 0, none⟩ = some (.string ⟨p.toArray⟩) := fun u => (ext_cell wr u _ _ (Nat.lt_of_lt_of_le HF0.out.lt HQ.out.size)).trans ((HF0.out.below HQ.out HF0.out.lt).cell 0)
          obtain ⟨sn, hsn⟩ : ∃ sn, xs[k].map lowB = sn := ⟨_, rfl⟩
          have HSN := hide hsn
          rw [hsn] at HNext
          clear hsn
          generalize xs[k] = n at *
          generalize hold : decide (sf ∈ (xs.take k).map (List.map lowB)) = old at *
          clear hold
          cases old with
          | true =>
            have HN2 : Hid (decide (sf ∈ (xs.take (k + 1)).map (List.map lowB)) = true) := by
              show _ = _
              rw [HNext.out]
              rfl
            clear HNext
            go_wp2
            refine wp_region_ext (by kernel_rfl) (by kernel_rfl) ?_
            repeat (go_big_quiet_step (fail))
            refine wpQuiet_nil ?_
            rintro w5 ⟨⟨_, hb5⟩, rfl⟩
            go_wp2
            go_roundw
            case rel => exact ⟨k + 1, by omega, by go_num, by rw [HN2.out], HQ.out.trans (hb5.mono HQ.out.size)⟩
            case measure => simp [intOf]; omega
          | false =>
            by_cases hc : sn = sf
            · have HN2 : Hid (decide (sf ∈ (xs.take (k + 1)).map (List.map lowB)) = true) := by
                show _ = _
                rw [HNext.out]
                simp [hc]
              have hc2 : n.map lowB = p.map lowB := by rw [HSN.out, HSF.out, hc]
              clear HNext hc
              go_wp2
              refine wp_region_ext (by kernel_rfl) (by kernel_rfl) ?_
              repeat (go_big_quiet_step ((go_at_call 24; exact ext_call (HSx.out _ _ (by omega)))))
              refine wpQuiet_nil ?_
              rintro w5 ⟨⟨_, hb5⟩, rfl⟩
              go_wp2
              go_roundw
              case rel => exact ⟨k + 1, by omega, by go_num, by rw [HN2.out], HQ.out.trans (hb5.mono HQ.out.size)⟩
              case measure => simp [intOf]; omega
            · have HN2 : Hid (decide (sf ∈ (xs.take (k + 1)).map (List.map lowB)) = false) := by
                show _ = _
                rw [HNext.out]
                simp [hc]
              have hc' : (n.map lowB == p.map lowB) = false := beq_eq_false_iff_ne.2 (by rw [HSN.out, HSF.out]; exact hc)
              clear HNext hc
              go_wp2
              refine wp_region_ext (by kernel_rfl) (by kernel_rfl) ?_
              repeat (go_big_quiet_step ((go_at_call 24; exact ext_call (HSx.out _ _ (by omega)))))
              refine wpQuiet_nil ?_
              rintro w5 ⟨⟨_, hb5⟩, rfl⟩
              go_wp2
              go_roundw
              case rel => exact ⟨k + 1, by omega, by go_num, by rw [HN2.out], HQ.out.trans (hb5.mono HQ.out.size)⟩
              case measure => simp [intOf]; omega
        · obtain rfl : k = xs.length := by omega
          rw [List.take_length]
          have k2 := (HF0.out.below HQ.out HF0.out.lt).cell 2
          have k3 := (HF0.out.below HQ.out HF0.out.lt).cell 3
          have HBq := hide (HB1.out.trans (HQ.out.mono HB1.out.size))
          have HBw := hide (HBw1.out.trans (HQ.out.mono HBw1.out.size))
          have hfin : (decide (sf ∈ xs.map (List.map lowB)) != nt) = kp := HKp.out
          generalize decide (sf ∈ xs.map (List.map lowB)) = isb at *
          cases isb with
          | true =>
            cases nt with
            | true =>
              obtain rfl : kp = false := hfin.symm
              have HX : Hid (onlyL m (xs.map (List.map lowB)) true (fs.take (i + 1)) = M) := HX0.out
              clear HX0 HKp
              go_wp2
              go_roundw
              case rel => exact ⟨i + 1, M, by omega, by go_num, rfl, HX.out.symm, HBq, HBw⟩
              case measure => simp [intOf]; omega
            | false =>
              obtain rfl : kp = true := hfin.symm
              have HX : Hid (onlyL m (xs.map (List.map lowB)) false (fs.take (i + 1)) = M ++ S) := HX0.out
              have eC := cat_lit M S
              have sM := size_lit M
              have sS := size_lit S
              have HSl := HSL.out
              have HMl := HML.out
              generalize M ++ S = M2 at *
              clear HX0 HKp
              go_wp2
              go_roundw
              case rel => exact ⟨i + 1, M2, by omega, by go_num, rfl, HX.out.symm, HBq, HBw⟩
              case measure => simp [intOf]; omega
          | false =>
            cases nt with
            | true =>
              obtain rfl : kp = true := hfin.symm
              have HX : Hid (onlyL m (xs.map (List.map lowB)) true (fs.take (i + 1)) = M ++ S) := HX0.out
              have eC := cat_lit M S
              have sM := size_lit M
              have sS := size_lit S
              have HSl := HSL.out
              have HMl := HML.out
              generalize M ++ S = M2 at *
              clear HX0 HKp
              go_wp2
              go_roundw
              case rel => exact ⟨i + 1, M2, by omega, by go_num, rfl, HX.out.symm, HBq, HBw⟩
              case measure => simp [intOf]; omega
            | false =>
              obtain rfl : kp = false := hfin.symm
              have HX : Hid (onlyL m (xs.map (List.map lowB)) false (fs.take (i + 1)) = M) := HX0.out
              clear HX0 HKp
              go_wp2
              go_roundw
              case rel => exact ⟨i + 1, M, by omega, by go_num, rfl, HX.out.symm, HBq, HBw⟩
              case measure => simp [intOf]; omega
    · obtain rfl : i = fs.length := by omega
      have HX : Hid (onlyL m (xs.map (List.map lowB)) nt fs = M) := by
        have := HM.out
        rw [List.take_length] at this
        exact this.symm
      have eC : (⟨M.toArray⟩ : ByteArray) ++ ⟨#[13, 10]⟩ = ⟨(M ++ [13, 10]).toArray⟩ := cat_lit M [13, 10]
      have sM := size_lit M
      have HMl := HML.out
      obtain ⟨M2, hM2⟩ : ∃ M2, M ++ [13, 10] = M2 := ⟨_, rfl⟩
      have HM2 := hide hM2
      rw [hM2] at eC
      clear hM2 HM
      go_wp2
      go_ret
      exact ⟨by rw [HX.out, HM2.out]; rfl, HB.out⟩
end Go.Proofs.YtgmdpjncgdojbaaDoor
