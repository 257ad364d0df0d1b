/- spansOf and isInOne of package seqs. -/
import Derived.Test.YtbjencibkkhbhaaGreatDoorSp4
set_option linter.unusedVariables false
set_option linter.unusedSimpArgs false
namespace Go.Proofs.YtbjencibkkhbhaaGreatDoor
open Go.RowKit Go.Shelf
theorem Rw.of_owns0 {w : World} {base : Nat} {e : TypeId} {sz b cap : Nat} (h : w.ownsRow base e sz (.slice (some ⟨b, 0, none⟩) 0 cap) 0 []) : Rw w sz (.slice (some ⟨b, 0, none⟩) 0 cap) 0 [] (some b) := by
  refine ⟨by simp, ?_⟩
  rcases h.2 with ⟨e1, _⟩ | ⟨g, cap', cur, e1, _, hg, h1, h2, h3, h4⟩
  · simp at e1
  · simp only [Value.slice.injEq, Option.some.injEq, Addr.mk.injEq, and_true, true_and] at e1
    obtain ⟨rfl, rfl⟩ := e1
    have hk : Blk w b cur e := hg
    exact .inr ⟨b, 0, cap, rfl, rfl, h1, h2, hk.lt, fun j u hu => by simp at hu, fun j hj => ⟨by rw [hk.cell, Nat.zero_add, Array.getElem?_eq_getElem (by omega)]; rfl, hk.frozen _⟩⟩
theorem spInfo : (Tryz.prog.info? 65).map (fun i => (i.zero, i.size, i.bytes)) = some (some (.agg #[.int .i64 0, .int .i64 0]), 2, 16) := by kernel_rfl
theorem sp_info {i : Option TypeInfo} {z : Value} {n m : Nat} (h : i.map (fun i => (i.zero, i.size, i.bytes)) = some (some z, n, m)) : ∃ i0, i = some i0 ∧ i0.zero = some z ∧ i0.size = n ∧ i0.bytes = m := by
  obtain ⟨i0, hi, h⟩ := Option.map_eq_some_iff.1 h
  simp only [Prod.mk.injEq] at h
  exact ⟨i0, hi, h⟩
theorem src_sp {w : World} (x y : Int) {c : Nat} : Src Tryz.prog 2 69 (.slice (some ⟨w.heap.size, 0, none⟩) 1 c) 1 (rgF (x, y)) (w.alloc (.cells #[.int .i64 x, .int .i64 y] 65)) :=
  Src.ofSlice _ Tryz.underlying69 ⟨w.heap.size, 0, none⟩ 1 c (rgF (x, y)) rfl (fun j u hu => by
    rw [Go.WideShapes.add_plain, Nat.zero_add]
    match j, hu with
    | 0, hu => cases hu; exact (Blk.new w #[.int .i64 x, .int .i64 y] 65).cell 0
    | 1, hu => cases hu; exact (Blk.new w #[.int .i64 x, .int .i64 y] 65).cell 1) (fun u hu => by
    simp [rgF] at hu
    rcases hu with rfl | rfl <;> rfl)
theorem SH.put {w : World} {g o : Nat} {M : List (Int × Int)} (h : SH w g o M) (i : Nat) (hi : i < M.length) (z : Int) : SH (w.setCell ⟨g, o + i * 2 + 1, none⟩ (.int .i64 z)) g o (M.set i (M[i].1, z)) := by
  refine ⟨by simpa [World.setCell] using h.1, fun j hj => ?_⟩
  rw [List.length_set] at hj
  obtain ⟨⟨a1, a2⟩, a3, a4⟩ := h.2 j hj
  rw [World.frozen?_setCell, World.frozen?_setCell]
  by_cases e : j = i
  · subst e
    rw [List.getElem_set_self]
    refine ⟨⟨?_, a2⟩, World.cell?_setCell_same _ _ _ a3, a4⟩
    rw [World.cell?_setCell_other _ ⟨g, o + j * 2 + 1, none⟩ ⟨g, o + j * 2, none⟩ _ (fun e => by have := congrArg Addr.off e; simp only at this; omega)]
    exact a1
  · rw [List.getElem_set_ne (fun h => e h.symm)]
    refine ⟨⟨?_, a2⟩, ?_, a4⟩
    · rw [World.cell?_setCell_other _ ⟨g, o + i * 2 + 1, none⟩ ⟨g, o + j * 2, none⟩ _ (fun e' => by have := congrArg Addr.off e'; simp only at this; omega)]
      exact a1
    · rw [World.cell?_setCell_other _ ⟨g, o + i * 2 + 1, none⟩ ⟨g, o + j * 2 + 1, none⟩ _ (fun e' => by have := congrArg Addr.off e'; simp only at this; omega)]
      exact a3
theorem PMx.stepL {D M : List (Int × Int)} {i L : Nat} (h : PMx D M i) (hi : i < M.length) (hL : i = L + 1) (hML : L < M.length) : PMx D (M.set i (M[i].1, max M[i].2 M[L].2)) (i + 1) := by
  subst hL
  exact h.step (by omega) hi
theorem SH.drew {w : World} {g o : Nat} {M : List (Int × Int)} (h : SH w g o M) : SH w.drew g o M := h
theorem map_take_sp {rs : List (Int × Int)} {mx : Int} {k : Nat} (h : k < rs.length) : ((rs.take (k + 1)).map (spn mx)).flatMap rgF = ((rs.take k).map (spn mx)).flatMap rgF ++ rgF (spn mx rs[k]) := by
  rw [List.take_succ_eq_append_getElem h, List.map_append, List.flatMap_append]
  simp
/-- Spans of a set, sorted, each with the greatest end of all ahead of it, in a row. -/
def SpO (w' : World) (e : Ending) (ps : List (Int × Int)) : Prop := ∃ (g o cap : Nat) (M D : List (Int × Int)) (k : Nat), e = .returned (.slice (some ⟨g, o, none⟩) ps.length cap) ∧ M.length = ps.length ∧ SH w' g o M ∧ PMx D M k ∧ D.length ≤ k ∧ (∀ i j (hi : i < D.length) (hj : j < D.length), i < j → D[i].1 ≤ D[j].1) ∧ D.Perm ps
set_option maxRecDepth 20000 in
set_option maxHeartbeats 4000000 in
theorem pspansOf_any {w : World} {v : Value} {rs : List (Int × Int)} (hv : RA w v rs) (mx : Int) (hl : rs.length ≤ 1000000) :
    Calls Tryz.prog 38 #[v, .int .i64 mx] w fun e w' => Below w.heap.size w w' ∧ SpO w' e (rs.map (spn mx)) := by
  have HX := hide hv
  obtain ⟨A, c, rfl, _⟩ := hv
  obtain ⟨i0, hi, hz0, hz1, hz2⟩ := sp_info spInfo
  go_enter Tryz.func38, Tryz.ntmps38
  go_wp2_with (at_make; refine wpList_make_own w rfl _ _ 69 rfl w.heap.size 65 i0 (.agg #[.int .i64 0, .int .i64 0]) 2 Tryz.underlying69 hi hz0 hz1 .i64 .i64 _ rs.length rfl rfl (by omega) (by rw [hz2]; omega) (by simp only [maxLen]; omega) (Nat.le_refl _) ?_)
  intro w1 how1 hgr1
  have HB1 : Hid (Below w.heap.size w w1) := ⟨hgr1.os, hgr1.tape, hgr1.output, hgr1.size, fun k hk => hgr1.block k hk (by simp)⟩
  have HR1 := hide (Rw.of_owns0 how1)
  clear how1 hgr1
  go_wp2
  go_loopw [5, 14] (fun v5 v14 wr => ∃ k : Nat, v14 = .int .i64 k ∧ k ≤ rs.length ∧ Hid (Below w.heap.size w wr) ∧ ∃ g, w.heap.size ≤ g ∧ Hid (Rw wr 2 v5 k (((rs.take k).map (spn mx)).flatMap rgF) (some g))) (fun _ v14 _ => rs.length - (intOf v14).toNat)
  case atStart => exact ⟨0, rfl, Nat.zero_le _, HB1.out, w.heap.size, Nat.le_refl _, HR1.out⟩
  case round =>
    obtain ⟨k, rfl, hk, HB, g, hgl, HR⟩ := hrel
    clear HB1 HR1
    by_cases hlt : k < rs.length
    · have hlt' : (k : Int) < rs.length := by omega
      obtain ⟨A', c', e', hcs⟩ := HX.out.below HB.out
      cases e'
      obtain ⟨ga, oa, rfl, hgl2, q0, q1⟩ := hcs k hlt
      have HN := hide (map_take_sp (mx := mx) hlt)
      have HS := hide (pspanOf_any rs[k].1 rs[k].2 mx)
      clear hcs
      generalize rs[k] = r at *
      obtain ⟨x, y⟩ := r
      dsimp only at *
      generalize spn mx (x, y) = s at *
      obtain ⟨p, q⟩ := s
      dsimp only at *
      generalize ((rs.take k).map (spn mx)).flatMap rgF = cs at *
      obtain ⟨A5, c5, rfl⟩ := HR.out.form
      go_wp2_with (first
        | (go_at_call 36; refine (HS.out _).mono ?_; rintro e wq ⟨rfl, hbq⟩
           have HRq := hide (HR.out.keep (((Mvs.refl (fun _ => False) wr).alloc (.cells #[.int .i64 x, .int .i64 y] 53)).then hbq) (fun _ _ c => c))
           have HBq := hide (HB.out.trans ((((Below.refl wr.heap.size wr).alloc (Nat.le_refl _) _).trans (hbq.mono (by simp))).mono HB.out.size))
           clear hbq)
        | (at_builtin; refine wpList_append_rw rfl _ _ 69 69 rfl 65 i0 (.agg #[.int .i64 0, .int .i64 0]) 2 16 Tryz.underlying69 hi hz0 hz1 hz2 rfl rfl (HRq.out.keep (S := fun _ => False) ((Mvs.refl _ _).alloc _) (fun _ _ c => c)) _ 1 _ rfl (src_sp _ _) (by simp only [maxLen]; omega) (by omega) ?_))
      intro v6 w6 G6 hr6 hm6 hg6
      have HB6 : Hid (Below w.heap.size w w6) := below_mvs (HBq.out.alloc HBq.out.size _) hm6 (fun k hk e => by cases e; omega) (Nat.le_refl _)
      have HG6 : Hid (∃ g', G6 = some g' ∧ w.heap.size ≤ g') := by
        rcases hg6 with h | h
        · exact ⟨g, h, hgl⟩
        · exact ⟨_, h, by have := HBq.out.size; simp; omega⟩
      have HR6 := hide hr6
      clear hr6 hm6 hg6 HR HB HRq HBq
      go_wp2
      go_roundw
      case rel =>
        obtain ⟨g', rfl, hg'⟩ := HG6.out
        exact ⟨k + 1, by go_num, by omega, HB6.out, g', hg', by rw [HN.out]; exact HR6.out⟩
      case measure => simp [intOf] <;> omega
    · obtain rfl : k = rs.length := by omega
      obtain ⟨D0, HD0⟩ : ∃ D0, Hid (D0 = rs.map (spn mx)) := ⟨_, hide rfl⟩
      have hr := HR.out
      rw [List.take_length, ← HD0.out] at hr
      have HL0 : Hid (D0.length = rs.length) := by show _ = _; rw [HD0.out, List.length_map]
      rcases id hr.2 with ⟨_, _, e⟩ | ⟨g', o, cap, e1, e2, _⟩
      · cases e
      cases e1
      subst e2
      have hsh := SH.of_rw HL0.out.symm hr
      have hso := psort_any g o cap D0 wr hsh (by have := HL0.out; omega)
      rw [HL0.out] at hso
      have HSo := hide hso
      clear hr hso hsh HR
      go_wp2_with (go_at_call 57; refine HSo.out.mono ?_; rintro e w2 ⟨rfl, D, hDl, hsh2, hperm, hsorted, hmv⟩)
      have HBs : Hid (Below w.heap.size w w2) := below_mvs HB.out hmv (fun k hk e => by omega) (Nat.le_refl _)
      have HS2 := hide hsh2
      have HDl := hide hDl
      have HPm := hide hperm
      have HSt := hide hsorted
      clear hDl hsh2 hperm hsorted hmv HSo HB
      go_loopw [8] (fun v8 wr2 => ∃ i : Nat, v8 = .int .i64 i ∧ 1 ≤ i ∧ i ≤ rs.length + 1 ∧ Hid (Below w.heap.size w wr2) ∧ ∃ M, Hid (SH wr2 g o M) ∧ Hid (PMx D M i)) (fun v8 _ => rs.length + 1 - (intOf v8).toNat)
      case atStart => exact ⟨1, rfl, Nat.le_refl _, by omega, HBs.out, D, HS2.out, PMx.start D⟩
      case round =>
        obtain ⟨i, rfl, hi1, hi2, HBi, M, HM, HP⟩ := hrel
        have HMl : Hid (M.length = rs.length) := HP.out.1.trans HDl.out
        by_cases hilt : i < rs.length
        · have hilt' : (i : Int) < rs.length := by omega
          obtain ⟨L, HL⟩ : ∃ L, Hid (i = L + 1) := ⟨i - 1, by show _ = _; omega⟩
          have hL1 : (i : Int) - 1 = L := by have := HL.out; omega
          have hLs : L < rs.length := by have := HL.out; omega
          have hLs' : (L : Int) < rs.length := by omega
          have hMi : i < M.length := by have := HMl.out; omega
          have hML : L < M.length := by have := HMl.out; omega
          have a3 := (HM.out.2 i hMi).2.1
          have a4 := (HM.out.2 i hMi).2.2
          have b3 := (HM.out.2 L hML).2.1
          have HPs := HP.out.stepL hMi HL.out hML
          have HMs := HM.out.put i hMi (max M[i].2 M[L].2)
          replace HPs := hide HPs
          replace HMs := hide HMs
          generalize M.set i (M[i].1, max M[i].2 M[L].2) = M2 at *
          generalize M[i].2 = zi at *
          generalize M[L].2 = zl at *
          clear hMi hML
          go_wp2
          go_region
          all_goals
            go_wp2
            go_roundw
            case rel => exact ⟨i + 1, by go_num, by omega, by omega, (HBi.out.drew).setCell (p := ⟨g, _, none⟩) hgl _, M2, HMs.out, HPs.out⟩
            case measure => simp [intOf] <;> omega
        · have hilt' : ¬ (i : Int) < rs.length := by omega
          go_wp2
          go_ret
          refine ⟨HBi.out, g, o, cap, M, D, i, by rw [List.length_map]; rfl, by rw [List.length_map]; exact HMl.out, HM.out, HP.out, by have := HDl.out; omega, HSt.out, ?_⟩
          rw [← HD0.out]
          exact HPm.out
end Go.Proofs.YtbjencibkkhbhaaGreatDoor
