/- The document's Quote. -/
import Derived.Test.YtegplihhbdmnbaaGreatDoorU43
import Derived.Test.YtegplihhbdmnbaaGreatDoorU19
set_option linter.unusedSimpArgs false
set_option linter.unusedVariables false
namespace Go.Proofs.YtegplihhbdmnbaaGreatDoor
open Go.RowKit Go.Shelf
def byF (c : UInt8) : List Value := [bvM c]
theorem flat_by (xs : List UInt8) : xs.flatMap byF = xs.map bvM := by
  induction xs with
  | nil => rfl
  | cons x r ih => rw [List.flatMap_cons, ih]; rfl
theorem src_lit1 {w : World} (x : UInt8) (i : Int) (h : (x.toNat : Int) = i) {k : Nat} : Src Tryz.prog 1 70 (.slice (some ⟨w.heap.size, 0, none⟩) 1 k) 1 [bvM x] (w.alloc (.cells #[.int .u8 i] 5)) := by
  subst h
  exact src_by x
set_option maxRecDepth 20000 in
set_option maxHeartbeats 2000000 in
theorem rquote_any (l : List UInt8) (w : World) (hl : l.length ≤ 1000000) :
    Calls Tryz.prog 35 #[.string ⟨l.toArray⟩] w fun e w' => e = .returned (.string ⟨(quoI l).toArray⟩) ∧ Below w.heap.size w w' := by
  have hsz := size_lit l
  obtain ⟨j0, ji, jz0, jz1, jz2⟩ := info_parts byInfo
  have HR0 : Hid (RowOf byF 1 w.heap.size (w.alloc (.cells #[.int .u8 34] 5)) (.slice (some ⟨w.heap.size, 0, none⟩) 1 1) (34 :: escL (l.take 0))) := ⟨some w.heap.size, Rw.new (e := 5) [bvM 34] [] (Blk.new w #[bvM 34] 5) rfl rfl (Nat.le_refl _) (by simp only [maxLen]; omega), fun g e => by cases e; exact Nat.le_refl _⟩
  have HB0 := hide ((Below.refl w.heap.size w).alloc (Nat.le_refl _) (.cells #[.int .u8 34] 5))
  have HDg := hide (fun W => rdigits_any l.length W (by omega))
  have hdl : (Lib.decDigits l.length).length ≤ 100 := dec_len l.length (by omega)
  go_enter Tryz.func35, Tryz.ntmps35
  go_wp2
  go_loopw [3, 4] (fun v3 v4 wr => ∃ i : Nat, v4 = .int .i64 i ∧ i ≤ l.length ∧ Hid (RowOf byF 1 w.heap.size wr v3 (34 :: escL (l.take i))) ∧ Hid ((l.take i).all prB = true) ∧ Hid (Below w.heap.size w wr)) (fun _ v4 _ => l.length - (intOf v4).toNat)
  case atStart => exact ⟨0, rfl, Nat.zero_le _, HR0, rfl, HB0⟩
  case round =>
    obtain ⟨i, rfl, hi, HR, HA, HB⟩ := hrel
    clear HR0 HB0
    have hel := esc_len (l.take i)
    rw [List.length_take] at hel
    by_cases hlt : i < l.length
    · have hlt' : (i : Int) < l.length := by omega
      have HX := hide (esc_take hlt)
      obtain ⟨c, hcc, hat⟩ : ∃ c, l[i] = c ∧ ∀ h : i < (⟨l.toArray⟩ : ByteArray).size, (⟨l.toArray⟩ : ByteArray)[i]'h = c := ⟨_, rfl, fun _ => rfl⟩
      rw [hcc] at HX
      obtain ⟨ys, hys⟩ : ∃ ys, 34 :: escL (l.take i) = ys := ⟨_, rfl⟩
      have hyl : ys.length ≤ 2000001 := by rw [← hys]; simp; omega
      rw [hys] at HR
      have HX2 : Hid (34 :: escL (l.take (i + 1)) = ys ++ (if c = 34 ∨ c = 92 then [92, c] else [c])) := by
        show _ = _
        rw [HX.out, ← hys]
        rfl
      obtain ⟨A, cp, hform⟩ := HR.out.form
      subst hform
      cases hp : prB c with
      | false =>
        have hno := prB_no hp
        have HQ : Hid (quoI l = 123 :: (Lib.decDigits l.length ++ (125 :: 13 :: 10 :: l))) := by
          show _ = _
          unfold quoI
          rw [all_not hlt (by rw [hcc]; exact hp)]
          rfl
        have hc1 : (⟨#[123]⟩ : ByteArray) ++ ⟨(Lib.decDigits l.length).toArray⟩ = ⟨(123 :: Lib.decDigits l.length).toArray⟩ := cat_lit [123] _
        have hc2 : (⟨(123 :: Lib.decDigits l.length).toArray⟩ : ByteArray) ++ ⟨#[125, 13, 10]⟩ = ⟨((123 :: Lib.decDigits l.length) ++ [125, 13, 10]).toArray⟩ := cat_lit _ [125, 13, 10]
        have hc3 : (⟨((123 :: Lib.decDigits l.length) ++ [125, 13, 10]).toArray⟩ : ByteArray) ++ ⟨l.toArray⟩ = ⟨(quoI l).toArray⟩ := by
          rw [cat_lit, HQ.out]
          simp
        obtain ⟨QL, hQL⟩ : ∃ QL, quoI l = QL := ⟨_, rfl⟩
        rw [hQL] at hc3
        have HQL := hide hQL
        obtain ⟨d1, hd1⟩ : ∃ d1, Lib.decDigits l.length = d1 := ⟨_, rfl⟩
        rw [hd1] at HDg hc1 hc2 hc3 hdl
        obtain ⟨d2, hd2⟩ : ∃ d2, 123 :: d1 = d2 := ⟨_, rfl⟩
        have hd2l : d2.length ≤ 101 := by rw [← hd2]; simp; omega
        rw [hd2] at hc1 hc2 hc3
        obtain ⟨d3, hd3⟩ : ∃ d3, d2 ++ [125, 13, 10] = d3 := ⟨_, rfl⟩
        have hd3l : d3.length ≤ 104 := by rw [← hd3]; simp; omega
        rw [hd3] at hc2 hc3
        have hz1 := size_lit d1
        have hz2 := size_lit d2
        have hz3 := size_lit d3
        clear hQL hd1 hd2 hd3 hcc hp HQ HX HX2 hys HR HA hel
        rcases hno with hno | hno
        · have b1 : (c.toNat : Int) < 32 := by omega
          go_wp2_with (first
            | (go_at_call 37; refine (HDg.out _).mono ?_; rintro e w3 ⟨rfl, hb3⟩; replace hb3 := hide hb3))
          go_ret
          exact ⟨by rw [HQL.out]; rfl, HB.out.trans (hb3.out.mono HB.out.size)⟩
        · have b1 : ¬ (c.toNat : Int) < 32 := by omega
          have b2 : (c.toNat : Int) > 126 := by omega
          go_wp2_with (first
            | (go_at_call 37; refine (HDg.out _).mono ?_; rintro e w3 ⟨rfl, hb3⟩; replace hb3 := hide hb3))
          go_ret
          exact ⟨by rw [HQL.out]; rfl, HB.out.trans (hb3.out.mono HB.out.size)⟩
      | true =>
        have hlo := prB_lo hp
        have b1 : ¬ (c.toNat : Int) < 32 := by omega
        have b2 : ¬ (c.toNat : Int) > 126 := by omega
        have HA2 := hide (all_next hlt HA.out (by rw [hcc]; exact hp))
        clear hp hcc HX hys HA hel hlo
        obtain ⟨G0, hw0, hG0⟩ := HR.out
        rw [flat_by] at hw0
        have HRw0 := hide hw0
        have HG0 := hide hG0
        clear hw0 hG0
        by_cases hq : c = 34 ∨ c = 92
        · rw [if_pos hq] at HX2
          rcases hq with rfl | rfl
          · have HX3 : Hid (34 :: escL (l.take (i + 1)) = (ys ++ [92]) ++ [34]) := by
              show _ = _
              rw [HX2.out]
              simp
            go_wp2_with (at_builtin; refine wpList_append_rw rfl _ _ 70 70 rfl 5 j0 (.int .u8 0) 1 1 Tryz.underlying70 ji jz0 jz1 jz2 rfl rfl (HRw0.out.keep (S := fun _ => False) ((Mvs.refl _ _).alloc _) (fun _ _ c => c)) _ 1 _ rfl (src_lit1 92 92 rfl) (by simp only [maxLen]; omega) (by omega) ?_)
            intro v5 w5 G5 hr5 hm5 hg5
            obtain ⟨A5, c5, rfl⟩ := hr5.form
            have hsx5 := HB.out.size
            have HR5 : Hid (RowOf byF 1 w.heap.size w5 (.slice A5 (ys.length + 1) c5) (ys ++ [92])) := RowOf.growN (f := byF) HG0.out (by rw [flat_by]; exact hr5) hg5 (by omega)
            have HB5 := hide (below_mvs (HB.out.alloc (by omega) _) hm5 (fun q hq e => by have := HG0.out q e.symm; omega) (Nat.le_refl _))
            clear hr5 hm5 hg5
            obtain ⟨ys2, hys2⟩ : ∃ y, ys ++ [92] = y := ⟨_, rfl⟩
            have hyl2 : ys2.length ≤ 2000002 := by rw [← hys2]; simp; omega
            have hyl3 : ys.length + 1 = ys2.length := by rw [← hys2]; simp
            rw [hys2] at HR5 HX3
            rw [hyl3] at HR5 ⊢
            clear hys2 hyl3 HX2
            obtain ⟨G6, hw6, hG6⟩ := HR5.out
            rw [flat_by] at hw6
            have HRw6 := hide hw6
            have HG6 := hide hG6
            clear hw6 hG6
            go_wp2_with (at_builtin; refine wpList_append_rw rfl _ _ 70 70 rfl 5 j0 (.int .u8 0) 1 1 Tryz.underlying70 ji jz0 jz1 jz2 rfl rfl (HRw6.out.keep (S := fun _ => False) ((Mvs.refl _ _).alloc _) (fun _ _ c => c)) _ 1 _ rfl (src_lit1 34 34 rfl) (by simp only [maxLen]; omega) (by omega) ?_)
            intro v7 w7 G7 hr7 hm7 hg7
            obtain ⟨A7, c7, rfl⟩ := hr7.form
            have hsx7 := HB5.out.size
            have HR7 : Hid (RowOf byF 1 w.heap.size w7 (.slice A7 (ys2.length + 1) c7) (ys2 ++ [34])) := RowOf.growN (f := byF) HG6.out (by rw [flat_by]; exact hr7) hg7 (by omega)
            have HB7 := hide (below_mvs (HB5.out.alloc (by omega) _) hm7 (fun q hq e => by have := HG6.out q e.symm; omega) (Nat.le_refl _))
            clear hr7 hm7 hg7
            rw [← HX3.out] at HR7
            go_wp2
            go_roundw
            case rel => exact ⟨i + 1, by go_num, by omega, HR7, HA2, HB7⟩
            case measure => simp [intOf]; omega
          · have HX3 : Hid (34 :: escL (l.take (i + 1)) = (ys ++ [92]) ++ [92]) := by
              show _ = _
              rw [HX2.out]
              simp
            go_wp2_with (at_builtin; refine wpList_append_rw rfl _ _ 70 70 rfl 5 j0 (.int .u8 0) 1 1 Tryz.underlying70 ji jz0 jz1 jz2 rfl rfl (HRw0.out.keep (S := fun _ => False) ((Mvs.refl _ _).alloc _) (fun _ _ c => c)) _ 1 _ rfl (src_lit1 92 92 rfl) (by simp only [maxLen]; omega) (by omega) ?_)
            intro v5 w5 G5 hr5 hm5 hg5
            obtain ⟨A5, c5, rfl⟩ := hr5.form
            have hsx5 := HB.out.size
            have HR5 : Hid (RowOf byF 1 w.heap.size w5 (.slice A5 (ys.length + 1) c5) (ys ++ [92])) := RowOf.growN (f := byF) HG0.out (by rw [flat_by]; exact hr5) hg5 (by omega)
            have HB5 := hide (below_mvs (HB.out.alloc (by omega) _) hm5 (fun q hq e => by have := HG0.out q e.symm; omega) (Nat.le_refl _))
            clear hr5 hm5 hg5
            obtain ⟨ys2, hys2⟩ : ∃ y, ys ++ [92] = y := ⟨_, rfl⟩
            have hyl2 : ys2.length ≤ 2000002 := by rw [← hys2]; simp; omega
            have hyl3 : ys.length + 1 = ys2.length := by rw [← hys2]; simp
            rw [hys2] at HR5 HX3
            rw [hyl3] at HR5 ⊢
            clear hys2 hyl3 HX2
            obtain ⟨G6, hw6, hG6⟩ := HR5.out
            rw [flat_by] at hw6
            have HRw6 := hide hw6
            have HG6 := hide hG6
            clear hw6 hG6
            go_wp2_with (at_builtin; refine wpList_append_rw rfl _ _ 70 70 rfl 5 j0 (.int .u8 0) 1 1 Tryz.underlying70 ji jz0 jz1 jz2 rfl rfl (HRw6.out.keep (S := fun _ => False) ((Mvs.refl _ _).alloc _) (fun _ _ c => c)) _ 1 _ rfl (src_lit1 92 92 rfl) (by simp only [maxLen]; omega) (by omega) ?_)
            intro v7 w7 G7 hr7 hm7 hg7
            obtain ⟨A7, c7, rfl⟩ := hr7.form
            have hsx7 := HB5.out.size
            have HR7 : Hid (RowOf byF 1 w.heap.size w7 (.slice A7 (ys2.length + 1) c7) (ys2 ++ [92])) := RowOf.growN (f := byF) HG6.out (by rw [flat_by]; exact hr7) hg7 (by omega)
            have HB7 := hide (below_mvs (HB5.out.alloc (by omega) _) hm7 (fun q hq e => by have := HG6.out q e.symm; omega) (Nat.le_refl _))
            clear hr7 hm7 hg7
            rw [← HX3.out] at HR7
            go_wp2
            go_roundw
            case rel => exact ⟨i + 1, by go_num, by omega, HR7, HA2, HB7⟩
            case measure => simp [intOf]; omega
        · rw [if_neg hq] at HX2
          have q1 : ((c.toNat : Int) == 34) = false := beq_eq_false_iff_ne.2 fun h => hq (.inl (by rw [← UInt8.toNat_inj]; exact Int.ofNat.inj h))
          have q2 : ((c.toNat : Int) == 92) = false := beq_eq_false_iff_ne.2 fun h => hq (.inr (by rw [← UInt8.toNat_inj]; exact Int.ofNat.inj h))
          clear hq
          go_wp2_with (at_builtin; refine wpList_append_rw rfl _ _ 70 70 rfl 5 j0 (.int .u8 0) 1 1 Tryz.underlying70 ji jz0 jz1 jz2 rfl rfl (HRw0.out.keep (S := fun _ => False) ((Mvs.refl _ _).alloc _) (fun _ _ c => c)) _ 1 _ rfl (src_by c) (by simp only [maxLen]; omega) (by omega) ?_)
          intro v5 w5 G5 hr5 hm5 hg5
          obtain ⟨A5, c5, rfl⟩ := hr5.form
          have hsx5 := HB.out.size
          have HR5 : Hid (RowOf byF 1 w.heap.size w5 (.slice A5 (ys.length + 1) c5) (ys ++ [c])) := RowOf.growN (f := byF) HG0.out (by rw [flat_by]; exact hr5) hg5 (by omega)
          have HB5 := hide (below_mvs (HB.out.alloc (by omega) _) hm5 (fun q hq e => by have := HG0.out q e.symm; omega) (Nat.le_refl _))
          clear hr5 hm5 hg5
          rw [← HX2.out] at HR5
          go_wp2
          go_roundw
          case rel => exact ⟨i + 1, by go_num, by omega, HR5, HA2, HB5⟩
          case measure => simp [intOf]; omega
    · obtain rfl : i = l.length := by omega
      rw [List.take_length] at HR HA
      have HQ : Hid (quoI l = 34 :: (escL l ++ [34])) := by
        show _ = _
        unfold quoI
        rw [HA.out]
        rfl
      obtain ⟨ys, hys⟩ : ∃ ys, 34 :: escL l = ys := ⟨_, rfl⟩
      rw [List.take_length] at hel
      have hyl : ys.length ≤ 2000001 := by rw [← hys]; simp; omega
      rw [hys] at HR
      have HQ2 : Hid (quoI l = ys ++ [34]) := by
        show _ = _
        rw [HQ.out, ← hys]
        rfl
      obtain ⟨A, cp, hform⟩ := HR.out.form
      subst hform
      clear hys HQ HA hel
      obtain ⟨G0, hw0, hG0⟩ := HR.out
      rw [flat_by] at hw0
      have HRw0 := hide hw0
      have HG0 := hide hG0
      clear hw0 hG0
      go_wp2_with (at_builtin; refine wpList_append_rw rfl _ _ 70 70 rfl 5 j0 (.int .u8 0) 1 1 Tryz.underlying70 ji jz0 jz1 jz2 rfl rfl (HRw0.out.keep (S := fun _ => False) ((Mvs.refl _ _).alloc _) (fun _ _ c => c)) _ 1 _ rfl (src_lit1 34 34 rfl) (by simp only [maxLen]; omega) (by omega) ?_)
      intro v5 w5 G5 hr5 hm5 hg5
      obtain ⟨A5, c5, rfl⟩ := hr5.form
      have hsx5 := HB.out.size
      have HR5 : Hid (RowOf byF 1 w.heap.size w5 (.slice A5 (ys.length + 1) c5) (ys ++ [34])) := RowOf.growN (f := byF) HG0.out (by rw [flat_by]; exact hr5) hg5 (by omega)
      have HB5 := hide (below_mvs (HB.out.alloc (by omega) _) hm5 (fun q hq e => by have := HG0.out q e.symm; omega) (Nat.le_refl _))
      clear hr5 hm5 hg5
      obtain ⟨G9, h9, _⟩ := HR5.out
      rw [flat_by] at h9
      have hcv := convertM h9
      clear h9
      rw [← HQ2.out] at hcv
      go_wp2
      go_ret
      exact ⟨rfl, HB5.out⟩
end Go.Proofs.YtegplihhbdmnbaaGreatDoor
