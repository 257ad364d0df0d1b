/- How many parts a part is: Count of package mime, count of the law. -/
import Derived.Test.YtegplihhbdmnbaaGreatDoorU29
set_option linter.unusedSimpArgs false
set_option linter.unusedVariables false
namespace Go.Proofs.YtegplihhbdmnbaaGreatDoor
open Go.RowKit Go.Shelf
theorem countL_snoc (ks : List Part) (i : Nat) (hi : i < ks.length) : countL (ks.take (i + 1)) = countL (ks.take i) + countP ks[i] := by
  have key : ∀ (l : List Part) (k : Part), countL (l ++ [k]) = countL l + countP k := by
    intro l k
    induction l with
    | nil => simp [countL]
    | cons a r ih => rw [List.cons_append, countL, countL, ih]; omega
  rw [List.take_succ_eq_append_getElem hi, key]
theorem countL_take_le (ks : List Part) (i : Nat) : countL (ks.take i) ≤ countL ks := by
  induction ks generalizing i with
  | nil => simp
  | cons a r ih =>
    cases i with
    | zero => simp [countL]
    | succ i => rw [List.take_succ_cons, countL, countL]; have := ih i; omega
theorem countP_pos (p : Part) : 1 ≤ countP p := by
  cases p with
  | mk h ks => rw [countP]; omega
theorem countL_len : ∀ (ks : List Part), ks.length ≤ countL ks
  | [] => Nat.zero_le _
  | a :: r => by
    have := countL_len r
    have h1 := countP_pos a
    rw [countL, List.length_cons]
    omega
def ctCall (n : Nat) : Prop := ∀ (p : Part) (v : Value) (w : World), PA n (fun g => 0 ≤ g) w v p → countP p ≤ 1000000000 → Calls Tryz.prog 14 #[v] w fun e w' => e = .returned (.int .i64 ((countP p : Nat) : Int)) ∧ Below w.heap.size w w'
set_option maxRecDepth 20000 in
set_option maxHeartbeats 2000000 in
theorem ct_any : ∀ n, ctCall n
  | 0 => fun p v w hp _ => hp.elim
  | n + 1 => fun p v w hp hc => by
    cases p with
    | mk h ks =>
      obtain ⟨vp, A, c, rfl, hr, hk⟩ := hp
      obtain ⟨Ap, cp, rfl⟩ := hr.form
      obtain ⟨np, hnp⟩ : ∃ np, h.params.length = np := ⟨_, rfl⟩
      obtain ⟨nk, hnk⟩ : ∃ nk, ks.length = nk := ⟨_, rfl⟩
      have hcl : countP (.mk h ks) = 1 + countL ks := by rw [countP]
      have hnl := countL_len ks
      have IH := ct_any n
      have HIH := hide IH
      have HK := hide hk
      have HNk := hide hnk
      have hnkb : nk ≤ 1000000000 := by omega
      have hK1 := Blk.new w (phA h (.slice Ap np cp) (.slice A nk c)) 40
      have hA1 := (Below.refl w.heap.size w).alloc (Nat.le_refl _) (.cells (phA h (.slice Ap np cp) (.slice A nk c)) 40)
      rw [hnp, hnk]
      rw [hcl] at hc ⊢
      obtain ⟨W1, hW1⟩ : ∃ W1, w.alloc (.cells (phA h (.slice Ap np cp) (.slice A nk c)) 40) = W1 := ⟨_, rfl⟩
      rw [hW1] at hK1 hA1
      have c10 : W1.cell? ⟨w.heap.size, 10, none⟩ = some (.slice A nk c) := hK1.cell 10
      have HA1 := hide hA1
      unfold phA at hW1
      clear hk hr hcl hnk hnp IH hA1 hK1 hnl
      go_enter Tryz.func14, Tryz.ntmps14
      unfold phA
      go_wp2
      clear hW1
      go_loopw [3, 9] (fun v3 v9 wr => ∃ (i a : Nat), v9 = .int .i64 i ∧ i ≤ nk ∧ v3 = .int .i64 a ∧ Hid (a = 1 + countL (ks.take i)) ∧ Hid (Below w.heap.size w wr)) (fun _ v9 _ => nk - (intOf v9).toNat)
      case atStart => exact ⟨0, 1, rfl, Nat.zero_le _, rfl, (by show _ = _; simp [countL]), HA1⟩
      case round =>
        obtain ⟨i, a, rfl, hi, rfl, HS, HB⟩ := hrel
        have hbs := HB.out.size
        have hab : a ≤ 1000000000 := by rw [HS.out]; have := countL_take_le ks i; omega
        by_cases hlt : i < nk
        · have hlt' : (i : Int) < nk := by omega
          have hi1 : i + 1 ≤ nk := hlt
          have hip : i < ks.length := by rw [HNk.out]; exact hlt
          obtain ⟨g, o, vs, rfl, _, hg, hz, hcs, hpk⟩ := HK.out i hip
          obtain ⟨C1, d1, C2, d2, hvs⟩ := hpk.form
          injection hvs with hvs
          subst hvs
          have hsn := countL_snoc ks i hip
          have hle := countL_take_le ks (i + 1)
          have HIk := hide (fun W (hb : Below w.heap.size w W) => HIH.out ks[i] _ W (hpk.below hb) (by omega))
          have HS2 : Hid (a + countP ks[i] = 1 + countL (ks.take (i + 1))) := by show _ = _; rw [hsn, HS.out]; omega
          have hkb : countP ks[i] ≤ 1000000000 := by omega
          obtain ⟨e0, e1, e2, e3, e4, e5, e6, e7, e8, e9, e10⟩ := row11 (fun j hj => (HB.out.cell (p := ⟨g, o + i * 11 + j, none⟩) hg).trans (hcs j hj))
          generalize ks[i] = kid at *
          obtain ⟨k1, hk1⟩ : ∃ m, kid.h.params.length = m := ⟨_, rfl⟩
          obtain ⟨k2, hk2⟩ : ∃ m, kid.kids.length = m := ⟨_, rfl⟩
          obtain ⟨K2, hK2⟩ : ∃ K2, kid.h = K2 := ⟨_, rfl⟩
          rw [hk1, hk2, hK2] at HIk
          rw [hk1] at e2
          rw [hk2] at e10
          rw [hK2] at e0 e1 e3 e4 e5 e6 e7 e8 e9
          unfold phA at HIk
          generalize countP kid = kc at *
          have HAl := hide (HB.out.alloc hbs (.cells #[.string ⟨K2.type.toArray⟩, .string ⟨K2.sub.toArray⟩, .slice C1 k1 d1, .string ⟨K2.id.toArray⟩, .string ⟨K2.desc.toArray⟩, .string ⟨K2.enc.toArray⟩, .int .i64 K2.at', .int .i64 K2.body, .int .i64 K2.end', .int .i64 K2.lines, .slice C2 k2 d2] 40))
          clear hk1 hk2 hK2 hcs hpk hsn hle HS hz
          go_wp2_with fail
          refine (HIk.out _ HAl.out).mono ?_
          rintro e w3 ⟨rfl, hb3⟩
          have HB3 := hide (HAl.out.trans (hb3.mono HAl.out.size))
          clear hb3 HAl
          go_wp2
          go_roundw
          case rel => exact ⟨i + 1, a + kc, by go_num, hi1, by go_num, HS2, HB3⟩
          case measure => simp [intOf]; omega
        · have hlt' : ¬ ((i : Int) < nk) := by omega
          have HE : Hid (a = 1 + countL ks) := by
            have := HS.out
            rw [List.take_of_length_le (by rw [HNk.out]; omega)] at this
            exact this
          go_wp2
          go_ret
          exact ⟨by have e : ((a : Nat) : Int) = 1 + ((countL ks : Nat) : Int) := (by have := HE.out; omega); show Ending.returned (Value.int .i64 ((a : Nat) : Int)) = _; rw [e], HB.out⟩
def lctCall (n : Nat) : Prop := ∀ (p : Part) (v : Value) (w : World), PA n (fun g => 0 ≤ g) w v p → countP p ≤ 1000000000 → Calls Tryz.prog 15 #[v] w fun e w' => e = .returned (.int .i64 ((countP p : Nat) : Int)) ∧ Below w.heap.size w w'
set_option maxRecDepth 20000 in
set_option maxHeartbeats 2000000 in
theorem lct_any : ∀ n, lctCall n
  | 0 => fun p v w hp _ => hp.elim
  | n + 1 => fun p v w hp hc => by
    cases p with
    | mk h ks =>
      obtain ⟨vp, A, c, rfl, hr, hk⟩ := hp
      obtain ⟨Ap, cp, rfl⟩ := hr.form
      obtain ⟨np, hnp⟩ : ∃ np, h.params.length = np := ⟨_, rfl⟩
      obtain ⟨nk, hnk⟩ : ∃ nk, ks.length = nk := ⟨_, rfl⟩
      have hcl : countP (.mk h ks) = 1 + countL ks := by rw [countP]
      have hnl := countL_len ks
      have IH := lct_any n
      have HIH := hide IH
      have HK := hide hk
      have HNk := hide hnk
      have hnkb : nk ≤ 1000000000 := by omega
      have hK1 := Blk.new w (phA h (.slice Ap np cp) (.slice A nk c)) 40
      have hA1 := (Below.refl w.heap.size w).alloc (Nat.le_refl _) (.cells (phA h (.slice Ap np cp) (.slice A nk c)) 40)
      rw [hnp, hnk]
      rw [hcl] at hc ⊢
      obtain ⟨W1, hW1⟩ : ∃ W1, w.alloc (.cells (phA h (.slice Ap np cp) (.slice A nk c)) 40) = W1 := ⟨_, rfl⟩
      rw [hW1] at hK1 hA1
      have c10 : W1.cell? ⟨w.heap.size, 10, none⟩ = some (.slice A nk c) := hK1.cell 10
      have HA1 := hide hA1
      unfold phA at hW1
      clear hk hr hcl hnk hnp IH hA1 hK1 hnl
      go_enter Tryz.func15, Tryz.ntmps15
      unfold phA
      go_wp2
      clear hW1
      go_loopw [3, 9] (fun v3 v9 wr => ∃ (i a : Nat), v9 = .int .i64 i ∧ i ≤ nk ∧ v3 = .int .i64 a ∧ Hid (a = 1 + countL (ks.take i)) ∧ Hid (Below w.heap.size w wr)) (fun _ v9 _ => nk - (intOf v9).toNat)
      case atStart => exact ⟨0, 1, rfl, Nat.zero_le _, rfl, (by show _ = _; simp [countL]), HA1⟩
      case round =>
        obtain ⟨i, a, rfl, hi, rfl, HS, HB⟩ := hrel
        have hbs := HB.out.size
        have hab : a ≤ 1000000000 := by rw [HS.out]; have := countL_take_le ks i; omega
        by_cases hlt : i < nk
        · have hlt' : (i : Int) < nk := by omega
          have hi1 : i + 1 ≤ nk := hlt
          have hip : i < ks.length := by rw [HNk.out]; exact hlt
          obtain ⟨g, o, vs, rfl, _, hg, hz, hcs, hpk⟩ := HK.out i hip
          obtain ⟨C1, d1, C2, d2, hvs⟩ := hpk.form
          injection hvs with hvs
          subst hvs
          have hsn := countL_snoc ks i hip
          have hle := countL_take_le ks (i + 1)
          have HIk := hide (fun W (hb : Below w.heap.size w W) => HIH.out ks[i] _ W (hpk.below hb) (by omega))
          have HS2 : Hid (a + countP ks[i] = 1 + countL (ks.take (i + 1))) := by show _ = _; rw [hsn, HS.out]; omega
          have hkb : countP ks[i] ≤ 1000000000 := by omega
          obtain ⟨e0, e1, e2, e3, e4, e5, e6, e7, e8, e9, e10⟩ := row11 (fun j hj => (HB.out.cell (p := ⟨g, o + i * 11 + j, none⟩) hg).trans (hcs j hj))
          generalize ks[i] = kid at *
          obtain ⟨k1, hk1⟩ : ∃ m, kid.h.params.length = m := ⟨_, rfl⟩
          obtain ⟨k2, hk2⟩ : ∃ m, kid.kids.length = m := ⟨_, rfl⟩
          obtain ⟨K2, hK2⟩ : ∃ K2, kid.h = K2 := ⟨_, rfl⟩
          rw [hk1, hk2, hK2] at HIk
          rw [hk1] at e2
          rw [hk2] at e10
          rw [hK2] at e0 e1 e3 e4 e5 e6 e7 e8 e9
          unfold phA at HIk
          generalize countP kid = kc at *
          have HAl := hide (HB.out.alloc hbs (.cells #[.string ⟨K2.type.toArray⟩, .string ⟨K2.sub.toArray⟩, .slice C1 k1 d1, .string ⟨K2.id.toArray⟩, .string ⟨K2.desc.toArray⟩, .string ⟨K2.enc.toArray⟩, .int .i64 K2.at', .int .i64 K2.body, .int .i64 K2.end', .int .i64 K2.lines, .slice C2 k2 d2] 40))
          clear hk1 hk2 hK2 hcs hpk hsn hle HS hz
          go_wp2_with fail
          refine (HIk.out _ HAl.out).mono ?_
          rintro e w3 ⟨rfl, hb3⟩
          have HB3 := hide (HAl.out.trans (hb3.mono HAl.out.size))
          clear hb3 HAl
          go_wp2
          go_roundw
          case rel => exact ⟨i + 1, a + kc, by go_num, hi1, by go_num, HS2, HB3⟩
          case measure => simp [intOf]; omega
        · have hlt' : ¬ ((i : Int) < nk) := by omega
          have HE : Hid (a = 1 + countL ks) := by
            have := HS.out
            rw [List.take_of_length_le (by rw [HNk.out]; omega)] at this
            exact this
          go_wp2
          go_ret
          exact ⟨by have e : ((a : Nat) : Int) = 1 + ((countL ks : Nat) : Int) := (by have := HE.out; omega); show Ending.returned (Value.int .i64 ((a : Nat) : Int)) = _; rw [e], HB.out⟩
end Go.Proofs.YtegplihhbdmnbaaGreatDoor
