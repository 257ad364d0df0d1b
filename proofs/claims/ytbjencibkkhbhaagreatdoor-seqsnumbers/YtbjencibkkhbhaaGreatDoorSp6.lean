/- isInOne and Of of package seqs. -/
import Derived.Test.YtbjencibkkhbhaaGreatDoorSp5
import Derived.Test.YtbjencibkkhbhaaGreatDoorSq3
set_option linter.unusedVariables false
set_option linter.unusedSimpArgs false
namespace Go.Proofs.YtbjencibkkhbhaaGreatDoor
open Go.RowKit Go.Shelf
set_option maxRecDepth 20000 in
set_option maxHeartbeats 2000000 in
/-- The closure of isInOne. -/
theorem pin1_any (W : World) (g o N cap bs bn i : Nat) (n z : Int) (hs : Blk W bs #[.slice (some ⟨g, o, none⟩) N cap] 69) (hn : Blk W bn #[.int .i64 n] 3) (hz : W.cell? ⟨g, o + i * 2, none⟩ = some (.int .i64 z)) (hi : i < N) :
    Calls Tryz.prog 61 #[.int .i64 i, .pointer (some ⟨bs, 0, none⟩), .pointer (some ⟨bn, 0, none⟩)] W fun e w' => e = .returned (.bool (decide (n < z))) ∧ ∃ q, w' = W.drewN q := by
  have q0 := hs.cell 0
  have q1 := hn.cell 0
  have q0' : W.drew.cell? ⟨bs, 0, none⟩ = some (.slice (some ⟨g, o, none⟩) N cap) := q0
  have q1' : W.drew.cell? ⟨bn, 0, none⟩ = some (.int .i64 n) := q1
  have q2' : W.drew.cell? ⟨g, o + i * 2, none⟩ = some (.int .i64 z) := hz
  have hi' : (i : Int) < N := by omega
  clear hs hn
  by_cases hc : n < z
  · rw [decide_eq_true hc]
    go_enter Tryz.func61, Tryz.ntmps61
    go_wp2
    go_region
    all_goals
      go_wp2
      exact bodyPost_ret (v := .bool true) (by simp [results, Tryz.results61, go_sem]) rfl ⟨rfl, 1, rfl⟩
  · rw [decide_eq_false hc]
    go_enter Tryz.func61, Tryz.ntmps61
    go_wp2
    go_region
    all_goals
      go_wp2
      exact bodyPost_ret (v := .bool false) (by simp [results, Tryz.results61, go_sem] <;> omega) rfl ⟨rfl, 1, rfl⟩
set_option maxRecDepth 20000 in
set_option maxHeartbeats 2000000 in
theorem pisIn_any {w : World} {g o cap N : Nat} {M D : List (Int × Int)} {k : Nat} (hN : M.length = N) (hM : SH w g o M) (hP : PMx D M k) (hk : D.length ≤ k) (hs : ∀ i j (hi : i < D.length) (hj : j < D.length), i < j → D[i].1 ≤ D[j].1) (hl : N ≤ 1000000) (n : Int) :
    Calls Tryz.prog 39 #[.slice (some ⟨g, o, none⟩) N cap, .int .i64 n] w fun e w' => e = .returned (.bool (D.any (spH n))) ∧ Below w.heap.size w w' := by
  obtain ⟨W0, HW0⟩ : ∃ W0, Hid ((w.alloc (.cells #[.slice (some ⟨g, o, none⟩) N cap] 69)).alloc (.cells #[.int .i64 n] 3) = W0) := ⟨_, hide rfl⟩
  have HB0 : Hid (Below w.heap.size w W0) := by show Below _ _ _; rw [← HW0.out]; exact ((Below.refl w.heap.size w).alloc (Nat.le_refl _) _).alloc (by simp) _
  have HK0 : Hid (Blk W0 w.heap.size #[.slice (some ⟨g, o, none⟩) N cap] 69) := by show Blk _ _ _ _; rw [← HW0.out]; exact (Blk.new w _ _).alloc _
  have HK1 : Hid (Blk W0 (w.heap.size + 1) #[.int .i64 n] 3) := by show Blk _ _ _ _; rw [← HW0.out]; exact Blk.new1 w _ _ _
  have HM := hide (hM.below HB0.out)
  have eg : ∀ args w, (callFunc 61 args).run Tryz.prog w = .ok (.enter 61 args) w := enters_of Tryz.func61 (by kernel_rfl) rfl
  have hget : ∀ i (hi : i < M.length), (M.getD i (0, 0)).1 = M[i].1 := fun i hi => by rw [List.getD_eq_getElem?_getD, List.getElem?_eq_getElem hi]; rfl
  have hcl : ∀ (m : Nat) (os : Array Obj) (i : Nat), i < N → Calls Tryz.prog 61 (#[.int .i64 i] ++ #[.pointer (some ⟨w.heap.size, 0, none⟩), .pointer (some ⟨w.heap.size + 1, 0, none⟩)]) (Sort.grow (W0.drewN m) os) fun e w' => e = .returned (.bool (decide (n < (M.getD i (0, 0)).1))) ∧ ∃ q os', w' = Sort.grow ((Sort.grow (W0.drewN m) os).drewN q) os' := fun m os i hi => by
    have hb := grow_belowQ W0 m os
    have hiM : i < M.length := by omega
    rw [hget i hiM]
    refine (pin1_any _ g o N cap _ _ i n M[i].1 (HK0.out.below hb HK0.out.lt) (HK1.out.below hb HK1.out.lt) ((HM.out.below hb).2 i hiM).1.1 hi).mono ?_
    rintro e w' ⟨rfl, q, rfl⟩
    exact ⟨rfl, q, #[], by rw [Sort.grow_empty]⟩
  have hmono : ∀ a b, a ≤ b → b < N → decide (n < (M.getD a (0, 0)).1) = true → decide (n < (M.getD b (0, 0)).1) = true := fun a b hab hb hh => by
    rw [hget b (by omega)]
    rw [hget a (by omega)] at hh
    have e1 := (hP.2 a (by have := hP.1; omega) (by omega)).1
    have e2 := (hP.2 b (by have := hP.1; omega) (by omega)).1
    have : M[a].1 ≤ M[b].1 := by
      by_cases e : a = b
      · subst e; exact Int.le_refl _
      · rw [e1, e2]
        exact hs a b _ _ (by omega)
    simp at hh ⊢
    omega
  have hsr := Any.sort_Search Tryz.sortSearch 61 #[.pointer (some ⟨w.heap.size, 0, none⟩), .pointer (some ⟨w.heap.size + 1, 0, none⟩)] N (fun i => decide (n < (M.getD i (0, 0)).1)) W0 eg (by omega) hcl hmono
  change Calls Tryz.prog 60 _ _ _ at hsr
  obtain ⟨C, hC⟩ : ∃ C, C = (List.range N).countP (fun i => !decide (n < (M.getD i (0, 0)).1)) := ⟨_, rfl⟩
  rw [← hC] at hsr
  rw [← hN] at hC
  obtain ⟨f1, f2, f3⟩ := sp_find hs hP hk hC
  have HSr := hide hsr
  clear hsr hcl hmono eg hC hget
  generalize D.any (spH n) = T at *
  rcases Nat.eq_zero_or_pos C with h0 | h0
  · have hT := f2 h0
    subst hT
    subst h0
    clear f2 f3
    go_enter Tryz.func39, Tryz.ntmps39
    go_wp2_with (first
      | (go_at_call 60; rw [HW0.out]; refine HSr.out.mono ?_; rintro e w1 ⟨rfl, q, os, rfl⟩))
    have hb := grow_belowQ W0 q os
    generalize Sort.grow (W0.drewN q) os = w1 at *
    have HB1 := hide (HB0.out.trans (hb.mono HB0.out.size))
    clear hb
    go_region
    all_goals
      go_wp2
      exact bodyPost_ret (v := .bool false) (by simp [results, Tryz.results39, go_sem]) rfl ⟨rfl, HB1.out.drew⟩
  · obtain ⟨L, rfl⟩ : ∃ L, C = L + 1 := ⟨C - 1, by omega⟩
    have hLM : L < M.length := by omega
    have hT := f3 h0 hLM
    simp only [Nat.add_sub_cancel] at hT
    have q3 := (HM.out.2 L hLM).2.1
    obtain ⟨C, hC⟩ : ∃ C, Hid (C = L + 1) := ⟨_, hide rfl⟩
    rw [← hC.out] at HSr
    have hC1 : (C : Int) - 1 = L := by have := hC.out; omega
    have hC2 : (0 : Int) < C := by have := hC.out; omega
    have hC3 : 0 < C := by have := hC.out; omega
    have hC4 : ¬ C = 0 := by have := hC.out; omega
    have hLN : (L : Int) < N := by omega
    clear f1 f2 f3 h0
    generalize M[L].2 = z at *
    by_cases hz : n ≤ z
    · rw [decide_eq_true hz] at hT
      subst hT
      go_enter Tryz.func39, Tryz.ntmps39
      go_wp2_with (first
        | (go_at_call 60; rw [HW0.out]; refine HSr.out.mono ?_; rintro e w1 ⟨rfl, q, os, rfl⟩))
      have hb := grow_belowQ W0 q os
      generalize Sort.grow (W0.drewN q) os = w1 at *
      have HB1 := hide (HB0.out.trans (hb.mono HB0.out.size))
      have k0 : w1.drew.cell? ⟨w.heap.size, 0, none⟩ = some (.slice (some ⟨g, o, none⟩) N cap) := (HK0.out.below hb HK0.out.lt).cell 0
      have k1 : w1.drew.cell? ⟨w.heap.size + 1, 0, none⟩ = some (.int .i64 n) := (HK1.out.below hb HK1.out.lt).cell 0
      have k2 : w1.drew.cell? ⟨g, o + L * 2 + 1, none⟩ = some (.int .i64 z) := (hb.cell (p := ⟨g, _, none⟩) HM.out.1).trans q3
      clear hb
      go_region
      all_goals
        go_wp2
        exact bodyPost_ret (v := .bool true) (by simp [results, Tryz.results39, go_sem]) rfl ⟨rfl, HB1.out.drew⟩
    · rw [decide_eq_false hz] at hT
      subst hT
      go_enter Tryz.func39, Tryz.ntmps39
      go_wp2_with (first
        | (go_at_call 60; rw [HW0.out]; refine HSr.out.mono ?_; rintro e w1 ⟨rfl, q, os, rfl⟩))
      have hb := grow_belowQ W0 q os
      generalize Sort.grow (W0.drewN q) os = w1 at *
      have HB1 := hide (HB0.out.trans (hb.mono HB0.out.size))
      have k0 : w1.drew.cell? ⟨w.heap.size, 0, none⟩ = some (.slice (some ⟨g, o, none⟩) N cap) := (HK0.out.below hb HK0.out.lt).cell 0
      have k1 : w1.drew.cell? ⟨w.heap.size + 1, 0, none⟩ = some (.int .i64 n) := (HK1.out.below hb HK1.out.lt).cell 0
      have k2 : w1.drew.cell? ⟨g, o + L * 2 + 1, none⟩ = some (.int .i64 z) := (hb.cell (p := ⟨g, _, none⟩) HM.out.1).trans q3
      clear hb
      go_region
      all_goals
        go_wp2
        exact bodyPost_ret (v := .bool false) (by simp [results, Tryz.results39, go_sem] <;> omega) rfl ⟨rfl, HB1.out.drew⟩
set_option maxRecDepth 20000 in
set_option maxHeartbeats 4000000 in
theorem pof_any {w : World} {v u : Value} {rs : List (Int × Int)} {ns : List Int} (hv : RA w v rs) (hu : IA w u ns) (hl : rs.length ≤ 1000000) (hl2 : ns.length ≤ 1000000) :
    Calls Tryz.prog 19 #[v, u] w fun e w' => ∃ v', e = .returned v' ∧ Is w w' v' (sqOf rs ns) := by
  have HX := hide hv
  have HU := hide hu
  obtain ⟨A, c, rfl, _⟩ := hv
  obtain ⟨A2, c2, rfl, _⟩ := hu
  by_cases hns : ns = []
  · subst hns
    go_enter Tryz.func19, Tryz.ntmps19
    go_wp2
    go_ret
    exact ⟨_, rfl, Below.refl _ _, none, Rw.nil _ _, fun g h => by cases h⟩
  have hne : ((ns.length : Int) == 0) = false := by
    rw [beq_eq_false_iff_ne]
    have := List.length_pos_iff.2 hns
    omega
  obtain ⟨L, HL⟩ : ∃ L, Hid (ns.length = L + 1) := ⟨ns.length - 1, by show _ = _; have := List.length_pos_iff.2 hns; omega⟩
  have hL1 : (ns.length : Int) - 1 = L := by have := HL.out; omega
  have hLs : L < ns.length := by have := HL.out; omega
  have hLs' : (L : Int) < ns.length := by omega
  clear hns
  obtain ⟨A', c', e', hcs⟩ := HU.out
  cases e'
  obtain ⟨g2, o2, rfl, hgl2, qL⟩ := hcs L hLs
  have hlast : ns[L] = ns.getLastD 0 := by
    have hl' := HL.out
    rw [List.getLastD_eq_getLast?, List.getLast?_eq_getElem?, List.getElem?_eq_getElem (by omega)]
    simp only [Option.getD_some]
    congr 1
    omega
  obtain ⟨f, Hf⟩ : ∃ f : Int → Bool, Hid (f = fun n => sqIn rs n (ns.getLastD 0)) := ⟨_, hide rfl⟩
  have HE : Hid (sqOf rs ns = ns.filter f) := by show _ = _; rw [Hf.out]; rfl
  rw [HE.out]
  have HSp := hide (pspansOf_any HX.out ns[L] hl)
  have HF : Hid (∀ n, f n = (decide (1 ≤ n) && (rs.map (spn ns[L])).any (spH n))) := fun n => by
    rw [Hf.out, hlast]
    exact sqIn_spn rs n _
  have hpl : (rs.map (spn ns[L])).length = rs.length := List.length_map _
  obtain ⟨i0, hi, hz0, hz1, hz2⟩ := info_three intInfo14
  clear hcs hlast Hf HE
  generalize rs.map (spn ns[L]) = ps at *
  generalize ns[L] = mx at *
  go_enter Tryz.func19, Tryz.ntmps19
  go_wp2_with (first
    | (go_at_call 38; refine HSp.out.mono ?_; rintro e w1 ⟨hb1, g, o, cap, M, D, k, rfl, h1, h2, h3, h4, h5, h6⟩
       rw [hpl] at h1 ⊢
       replace hb1 := hide hb1
       replace h1 := hide h1
       replace h2 := hide h2
       replace h3 := hide h3
       replace h4 := hide h4
       replace h5 := hide h5
       replace h6 := hide h6))
  have HG : Hid (∀ n, 1 ≤ n → f n = D.any (spH n)) := fun n hn => by
    rw [HF.out n, decide_eq_true hn, Bool.true_and, Bool.eq_iff_iff, List.any_eq_true, List.any_eq_true]
    constructor
    · rintro ⟨x, hx, hh⟩; exact ⟨x, h6.out.mem_iff.2 hx, hh⟩
    · rintro ⟨x, hx, hh⟩; exact ⟨x, h6.out.mem_iff.1 hx, hh⟩
  have HG0 : Hid (∀ n, ¬ 1 ≤ n → f n = false) := fun n hn => by
    rw [HF.out n, decide_eq_false hn]
    rfl
  clear HF h6 HSp
  go_loopw [6, 8, 22] (fun v6 _ v22 wr => ∃ k : Nat, v22 = .int .i64 k ∧ k ≤ ns.length ∧ Hid (Is w1 wr v6 ((ns.take k).filter f))) (fun _ _ v22 _ => ns.length - (intOf v22).toNat)
  case atStart => exact ⟨0, rfl, Nat.zero_le _, Below.refl _ _, none, Rw.nil _ _, fun g h => by cases h⟩
  case round =>
    obtain ⟨k, rfl, hk, HT⟩ := hrel
    have HB := hide HT.out.1
    by_cases hlt : k < ns.length
    · have hlt' : (k : Int) < ns.length := by omega
      obtain ⟨A', c', e', hcs⟩ := (HU.out.below hb1.out).below HB.out
      cases e'
      obtain ⟨g', o', e', _, q0⟩ := hcs k hlt
      cases e'
      have HNx := hide (filt_int (f := f) hlt)
      have hfl : ((ns.take k).filter f).length ≤ 1000000 := Nat.le_trans (List.length_filter_le _ _) (by rw [List.length_take]; omega)
      have HIn := hide (pisIn_any (cap := cap) h1.out (h2.out.below HB.out) h3.out h4.out h5.out (by omega) ns[k])
      have hG := HG.out ns[k]
      have hG0 := HG0.out ns[k]
      obtain ⟨T, hT⟩ : ∃ T, D.any (spH ns[k]) = T := ⟨_, rfl⟩
      rw [hT] at HIn hG
      obtain ⟨F, hF⟩ : ∃ F, f ns[k] = F := ⟨_, rfl⟩
      rw [hF] at HNx hG hG0
      clear hcs hT hF
      generalize ns[k] = x at *
      generalize (ns.take k).filter f = xs1 at *
      obtain ⟨A6, c6, rfl⟩ := HT.out.2.choose_spec.1.form
      by_cases hx : 1 ≤ x
      · have hFT := hG hx
        subst hFT
        clear hG hG0
        cases F with
        | true =>
          rw [if_pos rfl] at HNx
          go_wp2_with (first
            | (go_at_call 39; refine HIn.out.mono ?_; rintro e wq ⟨rfl, hbq⟩; obtain ⟨hb, G, hr, hg⟩ := HT.out.below hbq; have HR := hide hr; have HBw := hide hb; have HGg := hide hg; clear hr hb hg hbq HT)
            | (at_builtin; refine wpList_append_rw rfl _ _ 39 39 rfl 3 i0 (.int .i64 0) 1 8 Tryz.underlying39 hi hz0 hz1 hz2 rfl rfl (HR.out.keep (S := fun _ => False) ((Mvs.refl _ _).alloc _) (fun _ _ c => c)) _ 1 _ rfl (src_int _) (by simp only [maxLen]; omega) (by omega) ?_))
          intro v4 w5 G4 hr4 hm5 hg4
          have T4 := hide (Is.grow (x := x) HBw.out HGg.out hr4 hm5 (by simpa using hg4))
          clear hr4 hm5 hg4
          go_wp2
          go_roundw
          case rel => exact ⟨k + 1, by go_num, by omega, by rw [HNx.out]; exact T4.out⟩
          case measure => simp [intOf] <;> omega
        | false =>
          rw [if_neg (by simp), List.append_nil] at HNx
          go_wp2_with (go_at_call 39; refine HIn.out.mono ?_; rintro e wq ⟨rfl, hbq⟩; replace hbq := hide hbq)
          have HTq := hide (HT.out.below hbq.out)
          go_roundw
          case rel => exact ⟨k + 1, by go_num, by omega, by rw [HNx.out]; exact HTq.out⟩
          case measure => simp [intOf] <;> omega
      · have hFT := hG0 hx
        subst hFT
        clear hG hG0 HIn
        rw [if_neg (by simp), List.append_nil] at HNx
        go_wp2
        go_roundw
        case rel => exact ⟨k + 1, by go_num, by omega, by rw [HNx.out]; exact HT.out⟩
        case measure => simp [intOf] <;> omega
    · obtain rfl : k = ns.length := by omega
      have hE := HT.out
      rw [List.take_length] at hE
      have HE2 := hide hE
      clear hE
      go_wp2
      go_ret
      refine ⟨_, rfl, ?_⟩
      obtain ⟨e1, G, e2, e3⟩ := HE2.out
      exact ⟨hb1.out.trans (e1.mono hb1.out.size), G, e2, fun g hg => Nat.le_trans hb1.out.size (e3 g hg)⟩
end Go.Proofs.YtbjencibkkhbhaaGreatDoor
