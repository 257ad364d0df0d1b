/- meant of the document's layer 11. -/
import Derived.Test.YtkppeejbmalefaaGreatDoorU23
set_option linter.unusedSimpArgs false
namespace Go.Proofs.YtkppeejbmalefaaGreatDoor
open Go.RowKit Go.Shelf
theorem mnQ_34 (x : List UInt8) : mnQ (34 :: x) = [] := by
  cases x <;> simp [mnQ]
/-- Where meant stands: what is left of a text that was opened, ys read. -/
structure Mn (l r ys : List UInt8) (j : Nat) : Prop where
  run : rn .q (l.drop j) = .o
  len : j + qL (l.drop j) = 1 + qL r
  txt : ys ++ mnQ (l.drop j) = mnQ r
theorem Mn.ne {l r ys : List UInt8} {j : Nat} (h : Mn l r ys j) : j < l.length := by
  by_cases hj : j < l.length
  · exact hj
  · have := h.run
    rw [List.drop_of_length_le (by omega)] at this
    simp [rn] at this
theorem Mn.close {l r ys : List UInt8} {j : Nat} (h : Mn l r ys j) (hj : j < l.length) (hc : l[j] = 34) : 1 + qL r = j + 1 ∧ ys = mnQ r := by
  have h1 := h.len
  have h2 := h.txt
  rw [drop_at hj, hc, qL_34] at h1
  rw [drop_at hj, hc, mnQ_34, List.append_nil] at h2
  exact ⟨by omega, h2⟩
theorem Mn.esc {l r ys : List UInt8} {j : Nat} (h : Mn l r ys j) (hj : j < l.length) (hc : l[j] = 92) : ∃ hj2 : j + 1 < l.length, Mn l r (ys ++ [l[j + 1]]) (j + 2) := by
  have hj2 : j + 1 < l.length := by
    by_cases hj2 : j + 1 < l.length
    · exact hj2
    · have := h.run
      rw [drop_at hj, hc, List.drop_of_length_le (by omega)] at this
      simp [rn, nx] at this
  have hd : l.drop j = 92 :: l[j + 1] :: l.drop (j + 2) := by rw [drop_at hj, hc, drop_at hj2]
  refine ⟨hj2, ⟨?_, ?_, ?_⟩⟩
  · have := h.run
    rw [hd] at this
    exact this
  · have := h.len
    rw [hd, qL_92] at this
    omega
  · have := h.txt
    rw [hd] at this
    rw [← this]
    simp [mnQ]
theorem Mn.oth {l r ys : List UInt8} {j : Nat} (h : Mn l r ys j) (hj : j < l.length) (h34 : l[j] ≠ 34) (h92 : l[j] ≠ 92) : Mn l r (ys ++ [l[j]]) (j + 1) := by
  have hn : nx .q l[j] = .q := by simp [nx, h34, h92]
  have hr : rn .q (l.drop (j + 1)) = .o := by
    have := h.run
    rw [drop_at hj, rn_cons, hn] at this
    exact this
  refine ⟨hr, ?_, ?_⟩
  · have := h.len
    rw [q_next hj h34 h92] at this
    exact this
  · have := h.txt
    rw [← this, drop_at hj]
    cases hd : l.drop (j + 1) with
    | nil => rw [hd] at hr; simp [rn] at hr
    | cons d x => rw [mnQ, if_neg h34, if_neg h92]; simp
set_option maxRecDepth 20000 in
set_option maxHeartbeats 2000000 in
theorem meant_any (l : List UInt8) (hr : rn .o l = .o) (w : World) (hl : l.length ≤ 1000000) :
    Calls Tryz.prog 81 #[.string ⟨l.toArray⟩] w fun e w' => e = .returned (.string ⟨(nmV l).toArray⟩) ∧ Below w.heap.size w w' := by
  have hsz := size_lit l
  cases l with
  | nil =>
    go_enter Tryz.func81, Tryz.ntmps81
    go_wp2
    go_ret
    exact ⟨rfl, Below.refl _ _⟩
  | cons c r =>
    have hv : nmV (c :: r) = if c = 34 ∧ qL r = r.length then mnQ r else c :: r := rfl
    have hat : ∀ h : 0 < (⟨(c :: r).toArray⟩ : ByteArray).size, (⟨(c :: r).toArray⟩ : ByteArray)[0]'h = c := fun _ => rfl
    have hln : (c :: r).length = r.length + 1 := rfl
    by_cases h34 : c = 34
    · subst h34
      have hrq : rn .q r = .o := hr
      cases r with
      | nil => simp [rn] at hrq
      | cons d x =>
        have HM0 : Hid (Mn (34 :: d :: x) (d :: x) [] 1) := ⟨hrq, rfl, rfl⟩
        have hl2 : ¬ (((34 :: d :: x).length : Int) < 2) := by rw [hln]; simp; omega
        have hql := qL_le (d :: x)
        have HV : Hid (nmV (34 :: d :: x) = if qL (d :: x) = (d :: x).length then mnQ (d :: x) else 34 :: d :: x) := by
          show _ = _
          rw [hv]
          by_cases h : qL (d :: x) = (d :: x).length
          · rw [if_pos h, if_pos ⟨rfl, h⟩]
          · rw [if_neg h, if_neg (fun e => h e.2)]
        have HLn : Hid ((34 :: d :: x).length = (d :: x).length + 1) := rfl
        have HRl : Hid ((mnQ (d :: x)).length ≤ 1000000) := Nat.le_trans (mnQ_len _) (by rw [hln] at hl; omega)
        generalize nmV (34 :: d :: x) = N at *
        generalize hl0 : 34 :: d :: x = l at *
        generalize d :: x = r at *
        clear hl0 hv hr hrq hln
        obtain ⟨j0, ji, jz0, jz1, jz2⟩ := info_parts byInfo
        have HR0 : Hid (RowOf byF 1 w.heap.size (w.alloc (.cells #[] 5)) (.slice (some ⟨w.heap.size, 0, none⟩) 0 0) ([] : List UInt8)) := ⟨some w.heap.size, Rw.new (e := 5) [] [] (Blk.new w #[] 5) rfl rfl (Nat.le_refl _) (by simp only [maxLen]; omega), fun g e => by cases e; exact Nat.le_refl _⟩
        have HB0 := hide ((Below.refl w.heap.size w).alloc (Nat.le_refl _) (.cells #[] 5))
        go_enter Tryz.func81, Tryz.ntmps81
        go_wp2
        go_loopw [3, 4] (fun v3 v4 wr => ∃ (j : Nat) (ys : List UInt8), v4 = .int .i64 j ∧ Hid (RowOf byF 1 w.heap.size wr v3 ys) ∧ Hid (Below w.heap.size w wr) ∧ Hid (Mn l r ys j)) (fun _ v4 _ => l.length - (intOf v4).toNat)
        case atStart => exact ⟨1, [], by go_num, HR0, HB0, HM0⟩
        case round =>
          obtain ⟨j, ys, rfl, HR, HB, HM⟩ := hrel
          clear HR0 HB0 HM0 hat
          have hlt := HM.out.ne
          have hlt' : (j : Int) < l.length := by omega
          have hyl : ys.length ≤ 1000000 := by
            have h1 := congrArg List.length HM.out.txt
            have h2 := HRl.out
            rw [List.length_append] at h1
            omega
          have hbs := HB.out.size
          obtain ⟨A, cp, hform⟩ := HR.out.form
          subst hform
          obtain ⟨c, hc, hat⟩ := at_str l j hlt
          by_cases h34 : c = 34
          · subst h34
            obtain ⟨k1, k2⟩ := HM.out.close hlt hc
            by_cases hend : j + 1 = l.length
            · have HN : Hid (N = ys) := by
                show _ = _
                rw [HV.out, if_pos (by have := HLn.out; omega), k2]
              have hend' : ((j : Int) == l.length - 1) = true := by rw [beq_iff_eq]; omega
              obtain ⟨G0, hw0, hG0⟩ := HR.out
              rw [flat_by] at hw0
              have hcv := convertM hw0
              clear hw0 hG0 HV HM HR k1 k2 hend
              go_wp2
              go_ret
              exact ⟨by rw [HN.out]; rfl, HB.out⟩
            · have HN : Hid (N = l) := by
                show _ = _
                rw [HV.out, if_neg (by have := HLn.out; omega)]
              have hend' : ((j : Int) == l.length - 1) = false := by rw [beq_eq_false_iff_ne]; omega
              clear HV HM HR k1 k2 hend
              go_wp2
              go_ret
              exact ⟨by rw [HN.out]; rfl, HB.out⟩
          · have h34' := u8_ne (k := 34) rfl h34
            obtain ⟨G0, hw0, hG0⟩ := HR.out
            rw [flat_by] at hw0
            have HRw0 := hide hw0
            have HG0 := hide hG0
            clear hw0 hG0
            by_cases h92 : c = 92
            · subst h92
              obtain ⟨hj2, hMn⟩ := HM.out.esc hlt hc
              obtain ⟨d, hd, hat2⟩ := at_str l (j + 1) hj2
              rw [hd] at hMn
              have HMn := hide hMn
              have hj2' : (j : Int) + 1 < l.length := by omega
              clear hMn HM HR HV
              go_wp2_with (at_builtin; refine wpList_append_rw rfl _ _ 78 78 rfl 5 j0 (.int .u8 0) 1 1 Tryz.underlying78 ji jz0 jz1 jz2 rfl rfl (HRw0.out.keep (S := fun _ => False) ((Mvs.refl _ _).alloc _) (fun _ _ c => c)) _ 1 _ rfl (src_lit1 d _ rfl) (by simp only [maxLen]; omega) (by omega) ?_)
              intro v5 w5 G5 hr5 hm5 hg5
              obtain ⟨A5, c5, rfl⟩ := hr5.form
              have HR5 : Hid (RowOf byF 1 w.heap.size w5 (.slice A5 (ys.length + 1) c5) (ys ++ [d])) := RowOf.growN (f := byF) HG0.out (by rw [flat_by]; exact hr5) hg5 (by omega)
              have HB5 := hide (below_mvs (HB.out.alloc (by omega) _) hm5 (fun q hq e => by have := HG0.out q e.symm; omega) (Nat.le_refl _))
              clear hr5 hm5 hg5
              go_wp2
              go_roundw
              case rel => exact ⟨j + 2, ys ++ [d], by go_num, HR5, HB5, HMn⟩
              case measure => simp [intOf]; omega
            · have h92' := u8_ne (k := 92) rfl h92
              have hMn := HM.out.oth hlt (hc ▸ h34) (hc ▸ h92)
              rw [hc] at hMn
              have HMn := hide hMn
              clear hMn HM HR HV
              go_wp2_with (at_builtin; refine wpList_append_rw rfl _ _ 78 78 rfl 5 j0 (.int .u8 0) 1 1 Tryz.underlying78 ji jz0 jz1 jz2 rfl rfl (HRw0.out.keep (S := fun _ => False) ((Mvs.refl _ _).alloc _) (fun _ _ c => c)) _ 1 _ rfl (src_lit1 c _ rfl) (by simp only [maxLen]; omega) (by omega) ?_)
              intro v5 w5 G5 hr5 hm5 hg5
              obtain ⟨A5, c5, rfl⟩ := hr5.form
              have HR5 : Hid (RowOf byF 1 w.heap.size w5 (.slice A5 (ys.length + 1) c5) (ys ++ [c])) := RowOf.growN (f := byF) HG0.out (by rw [flat_by]; exact hr5) hg5 (by omega)
              have HB5 := hide (below_mvs (HB.out.alloc (by omega) _) hm5 (fun q hq e => by have := HG0.out q e.symm; omega) (Nat.le_refl _))
              clear hr5 hm5 hg5
              go_wp2
              go_roundw
              case rel => exact ⟨j + 1, ys ++ [c], by go_num, HR5, HB5, HMn⟩
              case measure => simp [intOf]; omega
    · have h34' := u8_bne (k := 34) rfl h34
      have h34'' := u8_ne (k := 34) rfl h34
      rw [hv, if_neg (fun e => h34 e.1)]
      generalize c :: r = l at *
      clear hv hr hln
      by_cases h2 : (l.length : Int) < 2
      · go_enter Tryz.func81, Tryz.ntmps81
        go_wp2
        go_ret
        exact ⟨rfl, Below.refl _ _⟩
      · go_enter Tryz.func81, Tryz.ntmps81
        go_wp2
        go_ret
        exact ⟨rfl, Below.refl _ _⟩
end Go.Proofs.YtkppeejbmalefaaGreatDoor
