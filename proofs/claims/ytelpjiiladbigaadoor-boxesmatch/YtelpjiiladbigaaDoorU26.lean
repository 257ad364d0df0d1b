/- Match of package boxes. -/
import Derived.Test.YtelpjiiladbigaaDoorU25
set_option linter.unusedSimpArgs false
set_option linter.unusedVariables false
namespace Go.Proofs.YtelpjiiladbigaaDoor
open Go.RowKit Go.Shelf Go.Sort
def fitN (P n : List UInt8) : Bool := fit (decide (n = inboxU)) P n
theorem Texts.below {w wr wq : World} {v : Value} {xs : Nms} (h : Texts w wr v xs) (hb : Below wr.heap.size wr wq) : Texts w wq v xs := by
  obtain ⟨h1, G, hr, hg⟩ := h
  exact ⟨h1.trans (hb.mono h1.size), G, hr.keep (S := fun _ => False) (Mvs.of_below hb) (fun _ _ c => c), hg⟩
theorem Texts.from {w w0 wr : World} {v : Value} {xs : Nms} (h : Texts w wr v xs) (hb : Below w0.heap.size w0 w) : Texts w0 wr v xs := by
  obtain ⟨h1, G, hr, hg⟩ := h
  exact ⟨hb.trans (h1.mono hb.size), G, hr, fun g e => Nat.le_trans hb.size (hg g e)⟩
theorem filt_next {f : List UInt8 → Bool} {C : Nms} {i : Nat} (h : i < C.length) : (C.take (i + 1)).filter f = (C.take i).filter f ++ (if f C[i] then [C[i]] else []) := by
  rw [List.take_succ_eq_append_getElem h, List.filter_append]
  congr 1
  cases hf : f C[i] <;> simp [hf]
set_option maxRecDepth 20000 in
set_option maxHeartbeats 4000000 in
theorem match_any {B : Nat} {w : World} (hM : MX B w) (hB : B ≤ w.heap.size) (P : List UInt8) (hP : P.length ≤ 10000) {v : Value} {xs : Nms} (hx : TX w v xs) (hl : xs.length ≤ 1000) (hn : ∀ n ∈ xs, n.length ≤ 100000) :
    Calls Tryd.prog 22 #[v, .string ⟨P.toArray⟩] w fun e w' => ∃ v', e = .returned v' ∧ Texts w w' v' (matL (fitN P) xs) := by
  rw [← comp_mat]
  have HM := hide hM
  have HCl := hide (clone13 hx hl)
  obtain ⟨C, HC⟩ : ∃ C, Hid (C = compL xs) := ⟨_, hide rfl⟩
  have hCl : C.length ≤ 1000 := by rw [HC.out]; exact Nat.le_trans (compL_len xs) hl
  have HCn : Hid (∀ n ∈ C, n.length ≤ 100000) := fun n h => hn n (by rw [HC.out] at h; exact (compL_mem xs n).1 h)
  rw [← HC.out]
  have HCe : Hid (Lib.compact (sortL xs) = C) := by show _ = _; rw [HC.out]; rfl
  have HRs := hide (runsL_sm hP)
  obtain ⟨i0, hi, hz0, hz1, hz2⟩ := info_three strInfo
  clear hM hx hn
  go_enter Tryd.func22, Tryd.ntmps22
  go_wp2_with (first
    | (go_at_call 35; refine HCl.out.mono ?_; rintro e w1 ⟨v1, rfl, hb1, hc1⟩; replace hb1 := hide hb1; replace hc1 := hide hc1)
    | (go_at_call 36; refine (sort13 hc1.out hb1.out.size hl).mono ?_; rintro e w2 ⟨rfl, hb2, hc2⟩; replace hb2 := hide hb2; replace hc2 := hide hc2)
    | (go_at_call 33; refine (runsOf_fn (HM.out.keep ((hb1.out.trans hb2.out).mono hB)) (Nat.le_trans hB (hb1.out.trans hb2.out).size) P hP).mono ?_; rintro e w3 ⟨rv, rfl, hb3, hf3⟩; replace hb3 := hide hb3; replace hf3 := hide hf3)
    | (go_at_call 37; refine (compact13 (hc2.out.below hb3.out) (Nat.le_trans (hb1.out.trans hb2.out).size hb3.out.size) (by rw [sortL_len]; exact hl)).mono ?_; rintro e w4 ⟨A, cA, rfl, hb4, ht4, hm4, _⟩; rw [HCe.out] at ht4; replace hb4 := hide hb4; replace ht4 := hide ht4; replace hm4 := hide hm4; rw [HCe.out]))
  have HB4 : Hid (Below w.heap.size w w4) := by
    have h1 := hb1.out.trans hb2.out
    exact (h1.trans (hb3.out.mono h1.size)).trans hb4.out
  have HF4 : Hid (Fn w2.heap.size none w4 (fun B W' => Rd B (E2 B) W' rv (runsL P))) := hf3.out.keep hm4.out (fun k hk _ h => by have := hb2.out.size; omega)
  clear hb1 hb2 hb3 hb4 hf3 hm4 hc1 hc2 HCl
  go_loopw [7, 19] (fun v7 v19 wr => ∃ i : Nat, v19 = .int .i64 i ∧ i ≤ C.length ∧ Hid (Texts w4 wr v7 ((C.take i).filter (fitN P)))) (fun _ v19 _ => C.length - (intOf v19).toNat)
  case atStart => exact ⟨0, rfl, Nat.zero_le _, Below.refl _ _, none, Rw.nil _ _, fun _ h => by cases h⟩
  case round =>
    obtain ⟨i, rfl, hi1, HT⟩ := hrel
    by_cases hlt : i < C.length
    · have hlt' : (i : Int) < C.length := by omega
      have HBr := hide HT.out.1
      obtain ⟨A', c', e', hcs⟩ := ht4.out.below HBr.out
      cases e'
      obtain ⟨g, o, rfl, hgl, hcell⟩ := hcs i hlt
      have hNl : C[i].length ≤ 100000 := HCn.out _ (List.getElem_mem hlt)
      have HNx := hide (filt_next (f := fitN P) hlt)
      have HFi : Hid (∀ W, Below wr.heap.size wr W → Calls Tryd.prog 15 #[.string ⟨P.toArray⟩, .string ⟨C[i].toArray⟩] W fun e w' => e = .returned (.bool (fitN P C[i])) ∧ Below wr.heap.size wr w') := fun W hW => by
        have hb := HB4.out.trans (HBr.out.mono HB4.out.size)
        have hb2 := hb.trans (hW.mono hb.size)
        exact (Fits_any (HM.out.keep (hb2.mono hB)) (Nat.le_trans hB hb2.size) P C[i] hP hNl).mono fun e w' h => ⟨h.1, hW.trans (h.2.mono hW.size)⟩
      have HFs : Hid (C[i] ≠ inboxU → ∀ W, Below wr.heap.size wr W → Calls Tryd.prog 32 #[rv, .string ⟨C[i].toArray⟩] W fun e w' => e = .returned (.bool (fitN P C[i])) ∧ Below wr.heap.size wr w') := fun hne W hW => by
        have hb := HB4.out.trans (HBr.out.mono HB4.out.size)
        have hb2 := hb.trans (hW.mono hb.size)
        have hr := ((HF4.out.keep (S := fun _ => False) (Mvs.of_below HBr.out) (fun _ _ _ c => c)).keep (S := fun _ => False) (Mvs.of_below hW) (fun _ _ _ c => c)).get
        have h1 := fits_any hr HRs.out.2 ((HM.out.keep (hb2.mono hB)).mono (Nat.le_trans hB hb2.size)) (Nat.le_refl _) HRs.out.1 C[i] hNl
        rw [runs_fi] at h1
        unfold fitN
        rw [decide_eq_false hne]
        exact h1.mono fun e w' h => ⟨h.1, hW.trans (h.2.mono hW.size)⟩
      obtain ⟨T, hT⟩ : ∃ T, fitN P C[i] = T := ⟨_, rfl⟩
      rw [hT] at HFi HFs HNx
      have hfl : ((C.take i).filter (fitN P)).length ≤ 1000 := Nat.le_trans (List.length_filter_le _ _) (by rw [List.length_take]; omega)
      clear hT hcs
      generalize C[i] = x at *
      generalize (C.take i).filter (fitN P) = xs1 at *
      obtain ⟨A6, c6, rfl⟩ := HT.out.2.choose_spec.1.form
      by_cases hI : x = inboxU
      · subst hI
        clear HFs
        have HFi2 : Hid (∀ W, Below wr.heap.size wr W → Calls Tryd.prog 15 #[.string ⟨P.toArray⟩, .string ⟨#[73, 78, 66, 79, 88]⟩] W fun e w' => e = .returned (.bool T) ∧ Below wr.heap.size wr w') := HFi.out
        have hcell' : wr.cell? ⟨g, o + i, none⟩ = some (.string ⟨#[73, 78, 66, 79, 88]⟩) := hcell
        clear HFi hcell
        cases T with
        | true =>
          rw [if_pos rfl] at HNx
          go_wp2_with (first
            | (go_at_call 15; refine (HFi2.out _ (Below.refl _ _)).mono ?_; rintro e wq ⟨rfl, hbq⟩; obtain ⟨hb, G, hr, hg⟩ := HT.out.below hbq; have HR := hide hr; have HB := hide hb; have HG := hide hg; clear hr hb hg hbq HT)
            | (at_builtin; refine wpList_append_rw rfl _ _ 33 33 rfl 9 i0 (.string ⟨#[]⟩) 1 16 Tryd.underlying33 hi hz0 hz1 hz2 rfl rfl (HR.out.keep (S := fun _ => False) ((Mvs.refl _ _).alloc _) (fun _ _ c => c)) _ 1 _ rfl (src_one _ Tryd.underlying33) (by simp only [maxLen]; omega) (by omega) ?_))
          intro v4 w5 G4 hr4 hm5 hg4
          have T4 := hide (Texts.grow (x := inboxU) HB.out HG.out hr4 hm5 (by simpa using hg4))
          clear hr4 hm5 hg4
          go_wp2
          go_roundw
          case rel => exact ⟨i + 1, by go_num, by omega, by rw [HNx.out]; exact T4.out⟩
          case measure => simp [intOf] <;> omega
        | false =>
          rw [if_neg (by simp), List.append_nil] at HNx
          go_wp2_with (go_at_call 15; refine (HFi2.out _ (Below.refl _ _)).mono ?_; rintro e wq ⟨rfl, hbq⟩; replace hbq := hide hbq)
          have HTq := hide (HT.out.below hbq.out)
          go_roundw
          case rel => exact ⟨i + 1, by go_num, by omega, by rw [HNx.out]; exact HTq.out⟩
          case measure => simp [intOf] <;> omega
      · have hI2 : (x == [73, 78, 66, 79, 88]) = false := beq_eq_false_iff_ne.2 hI
        replace HFs := hide (HFs.out hI)
        clear HFi hI
        cases T with
        | true =>
          rw [if_pos rfl] at HNx
          go_wp2_with (first
            | (go_at_call 32; refine (HFs.out _ (Below.refl _ _)).mono ?_; rintro e wq ⟨rfl, hbq⟩; obtain ⟨hb, G, hr, hg⟩ := HT.out.below hbq; have HR := hide hr; have HB := hide hb; have HG := hide hg; clear hr hb hg hbq HT)
            | (at_builtin; refine wpList_append_rw rfl _ _ 33 33 rfl 9 i0 (.string ⟨#[]⟩) 1 16 Tryd.underlying33 hi hz0 hz1 hz2 rfl rfl (HR.out.keep (S := fun _ => False) ((Mvs.refl _ _).alloc _) (fun _ _ c => c)) _ 1 _ rfl (src_one _ Tryd.underlying33) (by simp only [maxLen]; omega) (by omega) ?_))
          intro v4 w5 G4 hr4 hm5 hg4
          have T4 := hide (Texts.grow (x := x) HB.out HG.out hr4 hm5 (by simpa using hg4))
          clear hr4 hm5 hg4
          go_wp2
          go_roundw
          case rel => exact ⟨i + 1, by go_num, by omega, by rw [HNx.out]; exact T4.out⟩
          case measure => simp [intOf] <;> omega
        | false =>
          rw [if_neg (by simp), List.append_nil] at HNx
          go_wp2_with (go_at_call 32; refine (HFs.out _ (Below.refl _ _)).mono ?_; rintro e wq ⟨rfl, hbq⟩; replace hbq := hide hbq)
          have HTq := hide (HT.out.below hbq.out)
          go_roundw
          case rel => exact ⟨i + 1, by go_num, by omega, by rw [HNx.out]; exact HTq.out⟩
          case measure => simp [intOf] <;> omega
    · obtain rfl : i = C.length := by omega
      have hE := HT.out.from HB4.out
      rw [List.take_length] at hE
      have HE := hide hE
      clear hE
      clear HT
      go_wp2
      go_ret
      exact ⟨_, rfl, HE.out⟩
end Go.Proofs.YtelpjiiladbigaaDoor
