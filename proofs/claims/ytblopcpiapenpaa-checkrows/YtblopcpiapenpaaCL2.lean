/- Records. -/
import Derived.Test.YtblopcpiapenpaaCL
namespace Go.Proofs.Ytblopcpiapenpaa
open Go.RowKit
set_option maxRecDepth 20000 in
set_option maxHeartbeats 4000000 in
theorem recordsL_any (ys : List (List UInt8)) (tail : List UInt8) (v : Value) (w : World) (h : BR w v (allB ys ++ tail)) (ht : wholeN tail = none) (hy : ∀ y ∈ ys, y.length ≤ 2000) (hn : ys.length ≤ 60) :
    Calls Try.prog 18 #[v] w fun e w' => ∃ vl, e = .returned (.tuple #[vl, .int .i64 tail.length]) ∧ GL w w' vl ys := by
  replace ht := hide ht
  replace hy := hide hy
  obtain ⟨A, c, rfl, _⟩ := BR.form h
  obtain ⟨i0, hi, hz0, hz1, hz2⟩ := info_parts rowInfo
  go_enter Try.func18, Try.ntmps18
  go_wp2
  go_loopw [0, 2] (fun b l wr => ∃ k : Nat, k ≤ ys.length ∧ Hid (BR w b (allB (ys.drop k) ++ tail)) ∧ Hid (GL w wr l (ys.take k))) (fun b _ _ => lenOf b)
  case atStart => exact ⟨0, Nat.zero_le _, by rw [List.drop_zero]; exact h, by rw [List.take_zero]; exact GL.nil w⟩
  case round =>
    obtain ⟨k, hk, HB, HL⟩ := hrel
    by_cases hlt : k < ys.length
    · rw [allB_drop ys k hlt tail] at HB
      have hyl := hy.out ys[k] (List.getElem_mem hlt)
      have HT := hide (List.take_succ_eq_append_getElem hlt)
      obtain ⟨R, hRe⟩ : ∃ R, Hid (R = allB (ys.drop (k + 1)) ++ tail) := ⟨_, rfl⟩
      rw [← hRe.out] at HB
      generalize ys[k] = y at *
      obtain ⟨B, hBe⟩ : ∃ B, Hid (B = recB y ++ R) := ⟨_, rfl⟩
      rw [← hBe.out] at HB
      have HF : Hid (Calls Try.prog 19 #[_] wr fun e w' => FirstYes _ wr w' e B y.length) := (first_any _ _ wr (HB.out.below HL.out.below)).mono fun e w' hh => hh.2 _ (by rw [hBe.out]; exact whole_recr y R (by omega))
      obtain ⟨a0, k0, c0, hb0, hblk⟩ := HB.out.block (by rw [hBe.out]; exact List.ne_nil_of_length_pos (by rw [List.length_append, recB_length]; omega))
      obtain ⟨A1, c1, rfl, _⟩ := BR.form HB.out
      simp only [Value.slice.injEq] at hb0
      obtain ⟨rfl, rfl, rfl⟩ := hb0
      have hlt2 : R.length < B.length := by
        rw [hBe.out, List.length_append, recB_length]
        omega
      obtain ⟨D, hDe⟩ : ∃ D, Hid (D = ys.take k) := ⟨_, rfl⟩
      rw [← hDe.out] at HL HT
      have hkt := hide (show D.length = k by rw [hDe.out, List.length_take]; omega)
      obtain ⟨G, vs, hG⟩ := HL.out
      obtain ⟨Al, cl, rfl⟩ := hG.row.form
      replace hG := hide hG
      clear HB HL
      go_wp2_with fail
      refine HF.out.mono ?_
      rintro e w1 ⟨a1, n1, e1, a2, n2, e2, rfl, h1, h2, hbk, m, rfl⟩
      have hbk := hbk _ _ _ rfl
      rw [hBe.out, recr_held] at h1
      rw [hBe.out, recr_rest] at h2
      replace h1 := hide (h1.drewN m)
      have hnew := hide (h2.back hG.out.below (by rw [hbk]; exact hblk))
      have hn2 : n2 = R.length := by
        obtain ⟨_, _, hv, _⟩ := BR.form h2
        simp only [Value.slice.injEq] at hv
        exact hv.2.1
      subst hn2
      clear h2 hbk
      replace hG := hide (hG.out.then (below_drewN wr m))
      go_wp2_with fail
      refine (clone_any y a1 n1 e1 _ h1.out (by omega)).mono ?_
      rintro e w2 ⟨v2, rfl, T2⟩
      obtain ⟨A2, c2, rfl, _⟩ := BR.form T2.br
      have hoff := hide (T2.off (fun g hg => hG.out.row.lt g hg))
      have hGb := hide (hG.out.then T2.1)
      have hbr := hide T2.br
      clear hG h1 T2
      go_wp2_with (at_builtin; refine wpList_append_rw rfl _ _ 35 35 rfl 23 i0 (.slice none 0 0) 1 24 Try.underlying35 hi hz0 hz1 hz2 rfl rfl (hGb.out.row.keep (S := fun _ => False) ((Mvs.refl _ _).alloc _) (fun _ _ c => c)) _ 1 [.slice A2 y.length c2] rfl (src_row (.slice A2 y.length c2) rfl) (by simp only [maxLen]; have := hkt.out; omega) (by have := hkt.out; omega) ?_)
      intro v3 w3 G3 hr3 hm3 hg3
      have HG := hide (GLs.grow (hGb.out.then ((Below.refl _ _).alloc (Nat.le_refl _) _)) (hbr.out.below ((Below.refl _ _).alloc (Nat.le_refl _) _)) (fun A n c e => ⟨Nat.lt_of_lt_of_le (hoff.out A n c e).1 (by simp), (hoff.out A n c e).2⟩) hr3 hm3 (by simpa using hg3))
      obtain ⟨A3, c3, rfl⟩ := hr3.form
      clear hr3 hm3 hg3 hGb hbr hoff hi hz0 hz1 hz2
      go_wp2
      go_roundw
      case rel => exact ⟨k + 1, by omega, by rw [← hRe.out]; exact hnew, by rw [HT.out]; exact HG⟩
      case measure => simp [lenOf]; omega
    · obtain rfl : k = ys.length := by omega
      have e0 : allB (ys.drop ys.length) ++ tail = tail := by rw [List.drop_length]; rfl
      rw [e0] at HB
      clear e0
      have HF : Hid (Calls Try.prog 19 #[_] wr fun e w' => FirstNo wr w' e) := (first_any _ _ wr (HB.out.below HL.out.below)).mono fun e w' hh => hh.1 ht.out
      rw [List.take_length] at HL
      obtain ⟨A1, c1, rfl, _⟩ := BR.form HB.out
      obtain ⟨G, vs, hG⟩ := HL.out
      obtain ⟨Al, cl, rfl⟩ := hG.row.form
      replace hG := hide hG
      clear HB HL hi hz0 hz1 hz2
      go_wp2_with (go_at_call 19; refine HF.out.mono ?_; rintro e w1 ⟨rfl, m, rfl⟩)
      go_ret2
      exact ⟨_, rfl, G, vs, hG.out.then (below_drewN _ _)⟩
end Go.Proofs.Ytblopcpiapenpaa
