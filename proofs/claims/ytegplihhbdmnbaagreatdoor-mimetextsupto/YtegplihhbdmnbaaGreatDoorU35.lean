/- slices.EqualFunc of kids, with mime.Same. -/
import Derived.Test.YtegplihhbdmnbaaGreatDoorU34
set_option linter.unusedSimpArgs false
set_option linter.unusedVariables false
namespace Go.Proofs.YtegplihhbdmnbaaGreatDoor
open Go.RowKit Go.Shelf
def SmCall (n : Nat) : Prop := ∀ (p p' : Part) (v v' : Value) (w : World), PA n (fun g => 0 ≤ g) w v p → PA n (fun g => 0 ≤ g) w v' p' → Cnt p → Cnt p' →
  Calls Tryz.prog 16 #[v, v'] w fun e w' => e = .returned (.bool (samP p p')) ∧ Below w.heap.size w w'
set_option maxRecDepth 20000 in
set_option maxHeartbeats 4000000 in
theorem eqF_any (n : Nat) (IH : SmCall n) (ks ks' : List Part) (A A' : Option Addr) (c c' : Nat) (w : World) (hk : KidAt n w A ks) (hk' : KidAt n w A' ks') (hc : ∀ k ∈ ks, Cnt k) (hc' : ∀ k ∈ ks', Cnt k) (hb1 : ks.length ≤ 140737488355328) (hb2 : ks'.length ≤ 140737488355328) :
    Calls Tryz.prog 39 #[.slice A ks.length c, .slice A' ks'.length c', .func (.func 16) #[] #[]] w fun e w' => e = .returned (.bool (samL ks ks')) ∧ Below w.heap.size w w' := by
  obtain ⟨R, hR⟩ : ∃ R, samL ks ks' = R := ⟨_, rfl⟩
  have HRs := hide hR
  obtain ⟨nk, hnk⟩ : ∃ nk, ks.length = nk := ⟨_, rfl⟩
  obtain ⟨nk', hnk'⟩ : ∃ nk', ks'.length = nk' := ⟨_, rfl⟩
  have HNk := hide hnk
  have HNk' := hide hnk'
  have HK := hide hk
  have HK' := hide hk'
  have HCk := hide hc
  have HCk' := hide hc'
  have HIH := hide IH
  rw [hR]
  rw [hnk] at hb1 ⊢
  rw [hnk'] at hb2 ⊢
  clear hR hk hk' hc hc' IH hnk hnk'
  by_cases hne : nk = nk'
  · subst hne
    go_enter Tryz.func39, Tryz.ntmps39
    go_wp2
    go_loopw [17] (fun v wx => ∃ (i : Nat), v = .int .i64 i ∧ i ≤ nk ∧ Hid (R = samL (ks.drop i) (ks'.drop i)) ∧ Hid (Below w.heap.size w wx)) (fun v _ => nk - (intOf v).toNat)
    case atStart => exact ⟨0, rfl, Nat.zero_le _, (by show R = _; rw [← HRs.out]; rfl), Below.refl _ _⟩
    case round =>
      obtain ⟨i, rfl, hin, HRi, HW⟩ := hrel
      have hsw := HW.out.size
      by_cases hlt : i < nk
      · have hlt' : (i : Int) < nk := by omega
        have hik : i < ks.length := by rw [HNk.out]; exact hlt
        have hik' : i < ks'.length := by rw [HNk'.out]; exact hlt
        obtain ⟨g2, o2, vs, rfl, _, hg2, hvs, k2, hp2⟩ := HK.out i hik
        obtain ⟨g3, o3, vs', rfl, _, hg3, hvs', k3, hp3⟩ := HK'.out i hik'
        have HCn := hide (HCk.out _ (List.getElem_mem hik))
        have HCn' := hide (HCk'.out _ (List.getElem_mem hik'))
        have HSd := hide (samL_drop ks ks' i hik hik')
        generalize ks[i] = kid at *
        generalize ks'[i] = kid' at *
        obtain ⟨B1, q1, B2, q2, hv1⟩ := hp2.form
        obtain ⟨B3, q3, B4, q4, hv2⟩ := hp3.form
        injection hv1 with hv1
        injection hv2 with hv2
        subst hv1
        subst hv2
        obtain ⟨n1, hn1⟩ : ∃ n, kid.h.params.length = n := ⟨_, rfl⟩
        obtain ⟨n2, hn2⟩ : ∃ n, kid.kids.length = n := ⟨_, rfl⟩
        obtain ⟨H, hH⟩ : ∃ H, kid.h = H := ⟨_, rfl⟩
        obtain ⟨n3, hn3⟩ : ∃ n, kid'.h.params.length = n := ⟨_, rfl⟩
        obtain ⟨n4, hn4⟩ : ∃ n, kid'.kids.length = n := ⟨_, rfl⟩
        obtain ⟨H', hH'⟩ : ∃ H, kid'.h = H := ⟨_, rfl⟩
        rw [hn1, hn2, hH] at k2 hp2
        rw [hn3, hn4, hH'] at k3 hp3
        obtain ⟨sb, hsb⟩ : ∃ sb, samP kid kid' = sb := ⟨_, rfl⟩
        rw [hsb] at HSd
        have hBw := HW.out
        have a1 : ∀ j, j < 11 → wr.cell? ⟨g2, o2 + i * 11 + j, none⟩ = (phA H (.slice B1 n1 q1) (.slice B2 n2 q2))[j]? := fun j hj => (hBw.cell (p := ⟨g2, o2 + i * 11 + j, none⟩) hg2).trans (k2 j hj)
        have a2 : ∀ j, j < 11 → wr.cell? ⟨g3, o3 + i * 11 + j, none⟩ = (phA H' (.slice B3 n3 q3) (.slice B4 n4 q4))[j]? := fun j hj => (hBw.cell (p := ⟨g3, o3 + i * 11 + j, none⟩) hg3).trans (k3 j hj)
        have s0 : wr.cell? ⟨g2, o2 + i * 11, none⟩ = some (.string ⟨H.type.toArray⟩) := a1 0 (by omega)
        have s1 : wr.cell? ⟨g2, o2 + i * 11 + 1, none⟩ = some (.string ⟨H.sub.toArray⟩) := a1 1 (by omega)
        have s2 : wr.cell? ⟨g2, o2 + i * 11 + 2, none⟩ = some (.slice B1 n1 q1) := a1 2 (by omega)
        have s3 : wr.cell? ⟨g2, o2 + i * 11 + 3, none⟩ = some (.string ⟨H.id.toArray⟩) := a1 3 (by omega)
        have s4 : wr.cell? ⟨g2, o2 + i * 11 + 4, none⟩ = some (.string ⟨H.desc.toArray⟩) := a1 4 (by omega)
        have s5 : wr.cell? ⟨g2, o2 + i * 11 + 5, none⟩ = some (.string ⟨H.enc.toArray⟩) := a1 5 (by omega)
        have s6 : wr.cell? ⟨g2, o2 + i * 11 + 6, none⟩ = some (.int .i64 H.at') := a1 6 (by omega)
        have s7 : wr.cell? ⟨g2, o2 + i * 11 + 7, none⟩ = some (.int .i64 H.body) := a1 7 (by omega)
        have s8 : wr.cell? ⟨g2, o2 + i * 11 + 8, none⟩ = some (.int .i64 H.end') := a1 8 (by omega)
        have s9 : wr.cell? ⟨g2, o2 + i * 11 + 9, none⟩ = some (.int .i64 H.lines) := a1 9 (by omega)
        have s10 : wr.cell? ⟨g2, o2 + i * 11 + 10, none⟩ = some (.slice B2 n2 q2) := a1 10 (by omega)
        have t0 : wr.cell? ⟨g3, o3 + i * 11, none⟩ = some (.string ⟨H'.type.toArray⟩) := a2 0 (by omega)
        have t1 : wr.cell? ⟨g3, o3 + i * 11 + 1, none⟩ = some (.string ⟨H'.sub.toArray⟩) := a2 1 (by omega)
        have t2 : wr.cell? ⟨g3, o3 + i * 11 + 2, none⟩ = some (.slice B3 n3 q3) := a2 2 (by omega)
        have t3 : wr.cell? ⟨g3, o3 + i * 11 + 3, none⟩ = some (.string ⟨H'.id.toArray⟩) := a2 3 (by omega)
        have t4 : wr.cell? ⟨g3, o3 + i * 11 + 4, none⟩ = some (.string ⟨H'.desc.toArray⟩) := a2 4 (by omega)
        have t5 : wr.cell? ⟨g3, o3 + i * 11 + 5, none⟩ = some (.string ⟨H'.enc.toArray⟩) := a2 5 (by omega)
        have t6 : wr.cell? ⟨g3, o3 + i * 11 + 6, none⟩ = some (.int .i64 H'.at') := a2 6 (by omega)
        have t7 : wr.cell? ⟨g3, o3 + i * 11 + 7, none⟩ = some (.int .i64 H'.body) := a2 7 (by omega)
        have t8 : wr.cell? ⟨g3, o3 + i * 11 + 8, none⟩ = some (.int .i64 H'.end') := a2 8 (by omega)
        have t9 : wr.cell? ⟨g3, o3 + i * 11 + 9, none⟩ = some (.int .i64 H'.lines) := a2 9 (by omega)
        have t10 : wr.cell? ⟨g3, o3 + i * 11 + 10, none⟩ = some (.slice B4 n4 q4) := a2 10 (by omega)
        have lt2 : g2 < wr.heap.size := by omega
        have lt3 : g3 < wr.heap.size := by omega
        have HC : Hid (∀ W, Below wr.heap.size wr W → Calls Tryz.prog 16 #[.agg (phA H (.slice B1 n1 q1) (.slice B2 n2 q2)), .agg (phA H' (.slice B3 n3 q3) (.slice B4 n4 q4))] W fun e w' => e = .returned (.bool sb) ∧ Below W.heap.size W w') := fun W hW => by
          have hb := hBw.trans (hW.mono hsw)
          have := HIH.out kid kid' _ _ W (hp2.below hb) (hp3.below hb) HCn.out HCn'.out
          rw [hsb] at this
          exact this
        unfold phA at HC
        clear a1 a2 hp2 hp3 k2 k3 hvs hvs' hn1 hn2 hH hn3 hn4 hH' HK HK' hBw hsb hg2 hg3
        go_wp2_with fail
        refine (HC.out _ (((Below.refl _ _).alloc (Nat.le_refl _) _).alloc (by simp) _)).mono ?_
        rintro e w5 ⟨rfl, hb5⟩
        have HB5 := hide (HW.out.trans (((((Below.refl wr.heap.size wr).alloc (Nat.le_refl _) _).alloc (by simp) _).trans (hb5.mono (by simp; omega))).mono hsw))
        clear hb5 HC s0 s1 s2 s3 s4 s5 s6 s7 s8 s9 s10 t0 t1 t2 t3 t4 t5 t6 t7 t8 t9 t10
        cases sb with
        | true =>
          go_wp2
          go_roundw
          case rel => exact ⟨i + 1, by go_num, by omega, (by show R = _; rw [HRi.out, HSd.out, Bool.true_and]), HB5⟩
          case measure => simp [intOf]; omega
        | false =>
          go_wp2
          go_ret
          exact ⟨congrArg (fun r => Ending.returned (.bool r)) (by rw [HRi.out, HSd.out, Bool.false_and]), HB5.out⟩
      · obtain rfl : nk = i := by omega
        have HT : Hid (R = true) := by
          show R = true
          rw [HRi.out, samL_end ks ks' nk (by rw [HNk.out]; exact Nat.le_refl _) (by rw [HNk'.out]; exact Nat.le_refl _)]
        clear HRi HRs
        go_wp2
        go_ret
        exact ⟨congrArg (fun r => Ending.returned (.bool r)) HT.out.symm, HW.out⟩
  · have hne' : ((nk : Int) == (nk' : Int)) = false := beq_no (by omega)
    have HF : Hid (false = R) := by
      show false = R
      rw [← HRs.out, samL_len ks ks' (by rw [HNk.out, HNk'.out]; exact hne)]
    clear HRs
    go_enter Tryz.func39, Tryz.ntmps39
    go_wp2
    go_ret
    exact ⟨congrArg (fun r => Ending.returned (.bool r)) HF.out, Below.refl _ _⟩
end Go.Proofs.YtegplihhbdmnbaaGreatDoor
