/- Has of package seqs. -/
import Derived.Test.YtbjencibkkhbhaaGreatDoorSp2
import Derived.Test.YtbjencibkkhbhaaGreatDoorSq2
set_option linter.unusedVariables false
set_option linter.unusedSimpArgs false
namespace Go.Proofs.YtbjencibkkhbhaaGreatDoor
open Go.RowKit Go.Shelf
theorem any_dropP {α : Type} (p : α → Bool) (l : List α) (i : Nat) (h : i < l.length) : (l.drop i).any p = (p l[i] || (l.drop (i + 1)).any p) := by
  rw [List.drop_eq_getElem_cons h, List.any_cons]
set_option maxRecDepth 20000 in
set_option maxHeartbeats 2000000 in
theorem idxRg_any {rs : List (Int × Int)} {v : Value} {w : World} (h : RA w v rs) (hl : rs.length ≤ 1000000) (p : Int × Int → Bool) (F : Nat) (fi ca : Array Value) (eg : ∀ args w, (callFunc F args).run Tryz.prog w = .ok (.enter F args) w)
    (hp : ∀ x y W, Below w.heap.size w W → Calls Tryz.prog F (fi ++ #[.agg #[.int .i64 x, .int .i64 y]] ++ ca) W fun e w' => e = .returned (.bool (p (x, y))) ∧ Below W.heap.size W w') :
    Calls Tryz.prog 55 #[v, .func (.func F) fi ca] w fun e w' => ∃ r : Int, e = .returned (.int .i64 r) ∧ decide (0 ≤ r) = rs.any p ∧ Below w.heap.size w w' := by
  have HO := hide h
  obtain ⟨A, c, rfl, _⟩ := h
  replace hp := hide hp
  go_enter Tryz.func55, Tryz.ntmps55
  go_wp2
  go_loopw [5, 8] (fun _ u wr => ∃ k : Nat, k ≤ rs.length ∧ u = .int .i64 k ∧ Hid (Below w.heap.size w wr) ∧ Hid (rs.any p = (rs.drop k).any p)) (fun _ u _ => rs.length - (intOf u).toNat)
  case atStart => exact ⟨0, Nat.zero_le _, rfl, Below.refl _ _, rfl⟩
  case round =>
    obtain ⟨k, hkl, rfl, hB, hA⟩ := hrel
    by_cases hlt : k < rs.length
    · have hltz : (k : Int) < (rs.length : Int) := by omega
      obtain ⟨A', c', e', hcs⟩ := HO.out.below hB.out
      cases e'
      obtain ⟨g, o, rfl, hgl, q0, q1⟩ := hcs k hlt
      have HC := hide (hp.out rs[k].1 rs[k].2 wr hB.out)
      have HD := hide (any_dropP p rs k hlt)
      clear hcs
      generalize rs[k] = x at *
      obtain ⟨x, y⟩ := x
      dsimp only at *
      cases hq : p (x, y) with
      | true =>
        rw [hq] at HC
        go_wp2_with (go_at_fn F; refine HC.out.mono ?_; rintro e w' ⟨rfl, hb'⟩; replace hb' := hide hb')
        go_ret
        refine ⟨_, rfl, ?_, hB.out.trans (hb'.out.mono hB.out.size)⟩
        rw [hA.out, HD.out, hq]
        simp
      | false =>
        rw [hq] at HC
        go_wp2_with (go_at_fn F; refine HC.out.mono ?_; rintro e w' ⟨rfl, hb'⟩; replace hb' := hide hb')
        go_roundw
        case rel =>
          refine ⟨k + 1, by omega, by go_num, hB.out.trans (hb'.out.mono hB.out.size), ?_⟩
          show _ = _
          rw [hA.out, HD.out, hq]
          rfl
        case measure => simp [intOf]; omega
    · have hltz : ¬ (k : Int) < (rs.length : Int) := by omega
      go_wp2
      go_ret
      refine ⟨_, rfl, ?_, hB.out⟩
      rw [hA.out, List.drop_eq_nil_of_le (by omega)]
      rfl
set_option maxHeartbeats 1000000 in
theorem contRg_any {rs : List (Int × Int)} {v : Value} {w : World} (h : RA w v rs) (hl : rs.length ≤ 1000000) (p : Int × Int → Bool) (F : Nat) (fi ca : Array Value) (eg : ∀ args w, (callFunc F args).run Tryz.prog w = .ok (.enter F args) w)
    (hp : ∀ x y W, Below w.heap.size w W → Calls Tryz.prog F (fi ++ #[.agg #[.int .i64 x, .int .i64 y]] ++ ca) W fun e w' => e = .returned (.bool (p (x, y))) ∧ Below W.heap.size W w') :
    Calls Tryz.prog 34 #[v, .func (.func F) fi ca] w fun e w' => e = .returned (.bool (rs.any p)) ∧ Below w.heap.size w w' := by
  have HI := hide (idxRg_any h hl p F fi ca eg hp)
  obtain ⟨A, c, rfl, _⟩ := h
  clear hp
  go_enter Tryz.func34, Tryz.ntmps34
  go_wp2_with (go_at_call 55; refine HI.out.mono ?_; rintro e w' ⟨r, rfl, hr, hb⟩; replace hr := hide hr)
  go_ret
  exact ⟨by rw [hr.out]; rfl, hb⟩
set_option maxRecDepth 20000 in
set_option maxHeartbeats 2000000 in
/-- The closure of Has, in a world in which the boxes of max and n lie. -/
theorem phas1_any (x y n mx : Int) (bm bn : Nat) (W : World) (hm : Blk W bm #[.int .i64 mx] 3) (hn : Blk W bn #[.int .i64 n] 3) :
    Calls Tryz.prog 35 #[.agg #[.int .i64 x, .int .i64 y], .pointer (some ⟨bm, 0, none⟩), .pointer (some ⟨bn, 0, none⟩)] W fun e w' => e = .returned (.bool (spH n (spn mx (x, y)))) ∧ Below W.heap.size W w' := by
  have HS := hide (pspanOf_any x y mx)
  have HV : Hid (spH n (spn mx (x, y)) = (decide ((spn mx (x, y)).1 ≤ n) && decide (n ≤ (spn mx (x, y)).2))) := rfl
  generalize spH n (spn mx (x, y)) = T at *
  generalize (spn mx (x, y)).1 = p at *
  generalize (spn mx (x, y)).2 = q at *
  have HM := hide hm
  have HN := hide hn
  clear hm hn
  have q2 : (W.alloc (.cells #[.int .i64 x, .int .i64 y] 53)).cell? ⟨bm, 0, none⟩ = some (.int .i64 mx) := (HM.out.alloc _).cell 0
  by_cases c1 : p ≤ n
  · by_cases c2 : n ≤ q
    · have HF : Hid (T = true) := by show _ = _; rw [HV.out, decide_eq_true c1, decide_eq_true c2]; rfl
      go_enter Tryz.func35, Tryz.ntmps35
      go_wp2_with (go_at_call 36; refine (HS.out _).mono ?_; rintro e w1 ⟨rfl, hb1⟩; have k2 : (w1.alloc (.cells #[.int .i64 p, .int .i64 q] 65)).cell? ⟨bn, 0, none⟩ = some (.int .i64 n) := ((((HN.out.alloc (.cells #[.int .i64 x, .int .i64 y] 53)).below hb1 (HN.out.alloc (.cells #[.int .i64 x, .int .i64 y] 53)).lt)).alloc _).cell 0; have HBa := hide (((Below.refl W.heap.size W).alloc (Nat.le_refl _) (.cells #[.int .i64 x, .int .i64 y] 53)).trans (hb1.mono (by simp))); clear hb1)
      go_ret
      exact ⟨by rw [HF.out]; rfl, HBa.out.alloc HBa.out.size _⟩
    · have HF : Hid (T = false) := by show _ = _; rw [HV.out, decide_eq_true c1, decide_eq_false c2]; rfl
      go_enter Tryz.func35, Tryz.ntmps35
      go_wp2_with (go_at_call 36; refine (HS.out _).mono ?_; rintro e w1 ⟨rfl, hb1⟩; have k2 : (w1.alloc (.cells #[.int .i64 p, .int .i64 q] 65)).cell? ⟨bn, 0, none⟩ = some (.int .i64 n) := ((((HN.out.alloc (.cells #[.int .i64 x, .int .i64 y] 53)).below hb1 (HN.out.alloc (.cells #[.int .i64 x, .int .i64 y] 53)).lt)).alloc _).cell 0; have HBa := hide (((Below.refl W.heap.size W).alloc (Nat.le_refl _) (.cells #[.int .i64 x, .int .i64 y] 53)).trans (hb1.mono (by simp))); clear hb1)
      go_ret
      exact ⟨by rw [HF.out]; simp <;> omega, HBa.out.alloc HBa.out.size _⟩
  · have HF : Hid (T = false) := by show _ = _; rw [HV.out, decide_eq_false c1]; rfl
    go_enter Tryz.func35, Tryz.ntmps35
    go_wp2_with (go_at_call 36; refine (HS.out _).mono ?_; rintro e w1 ⟨rfl, hb1⟩; have k2 : (w1.alloc (.cells #[.int .i64 p, .int .i64 q] 65)).cell? ⟨bn, 0, none⟩ = some (.int .i64 n) := ((((HN.out.alloc (.cells #[.int .i64 x, .int .i64 y] 53)).below hb1 (HN.out.alloc (.cells #[.int .i64 x, .int .i64 y] 53)).lt)).alloc _).cell 0; have HBa := hide (((Below.refl W.heap.size W).alloc (Nat.le_refl _) (.cells #[.int .i64 x, .int .i64 y] 53)).trans (hb1.mono (by simp))); clear hb1)
    go_ret
    exact ⟨by rw [HF.out]; rfl, HBa.out.alloc HBa.out.size _⟩
set_option maxRecDepth 20000 in
set_option maxHeartbeats 2000000 in
theorem phas_any {w : World} {v : Value} {rs : List (Int × Int)} (hv : RA w v rs) (n mx : Int) (hl : rs.length ≤ 1000000) :
    Calls Tryz.prog 16 #[v, .int .i64 n, .int .i64 mx] w fun e w' => e = .returned (.bool (sqIn rs n mx)) ∧ Below w.heap.size w w' := by
  have HB0 : Hid (Below w.heap.size w ((w.alloc (.cells #[.int .i64 n] 3)).alloc (.cells #[.int .i64 mx] 3))) := ((Below.refl w.heap.size w).alloc (Nat.le_refl _) _).alloc (by simp) _
  have HK0 : Hid (Blk ((w.alloc (.cells #[.int .i64 n] 3)).alloc (.cells #[.int .i64 mx] 3)) w.heap.size #[.int .i64 n] 3) := (Blk.new w _ _).alloc _
  have HK1 : Hid (Blk ((w.alloc (.cells #[.int .i64 n] 3)).alloc (.cells #[.int .i64 mx] 3)) (w.heap.size + 1) #[.int .i64 mx] 3) := Blk.new1 w _ _ _
  have eg : ∀ args w, (callFunc 35 args).run Tryz.prog w = .ok (.enter 35 args) w := enters_of Tryz.func35 (by kernel_rfl) rfl
  have HC := hide (contRg_any (p := fun r => spH n (spn mx r)) (hv.below HB0.out) hl 35 #[] #[.pointer (some ⟨w.heap.size + 1, 0, none⟩), .pointer (some ⟨w.heap.size, 0, none⟩)] eg (fun x y W hW => phas1_any x y n mx _ _ W (HK1.out.below hW HK1.out.lt) (HK0.out.below hW HK0.out.lt)))
  have HV := hide (sqIn_spn rs n mx)
  have hany : (rs.map (spn mx)).any (spH n) = rs.any fun r => spH n (spn mx r) := by rw [List.any_map]; rfl
  rw [hany] at HV
  clear hany eg
  generalize sqIn rs n mx = T at *
  generalize (rs.any fun r => spH n (spn mx r)) = S at *
  obtain ⟨A, c, rfl, _⟩ := hv
  have q0 : (((w.alloc (.cells #[.int .i64 n] 3)).alloc (.cells #[.int .i64 mx] 3))).cell? ⟨w.heap.size, 0, none⟩ = some (.int .i64 n) := HK0.out.cell 0
  by_cases h1 : 1 ≤ n
  · have HF : Hid (T = S) := by show _ = _; rw [HV.out, decide_eq_true h1]; rfl
    go_enter Tryz.func16, Tryz.ntmps16
    go_wp2_with (first
      | (go_at_call 34; refine HC.out.mono ?_; rintro e w1 ⟨rfl, hb1⟩; replace hb1 := hide hb1))
    go_ret
    exact ⟨by rw [HF.out]; rfl, HB0.out.trans (hb1.out.mono HB0.out.size)⟩
  · have HF : Hid (T = false) := by show _ = _; rw [HV.out, decide_eq_false h1]; rfl
    clear HC
    go_enter Tryz.func16, Tryz.ntmps16
    go_wp2
    go_ret
    exact ⟨by rw [HF.out]; rfl, HB0.out⟩
end Go.Proofs.YtbjencibkkhbhaaGreatDoor
