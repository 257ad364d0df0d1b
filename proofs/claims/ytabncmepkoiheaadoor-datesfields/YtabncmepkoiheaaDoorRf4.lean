/- The document's ParseDay is the program's; DatesDays. -/
import Derived.Test.YtabncmepkoiheaaDoorRf3
namespace Go.Proofs.YtabncmepkoiheaaDoor
open Go.RowKit
/-- What the document's reading answers, where the program's finds r. -/
def docR (r : Option RS) : Value := match r with
  | none => .tuple #[.int .i64 0, .int .i64 2]
  | some τ => madeV τ.y τ.m τ.d τ.h τ.mi τ.s τ.a
theorem rep_like (n : Nat) (a : List UInt8) (ha : a.length = n) : likeB a (List.replicate n 48) = true ↔ Digs a := by
  rw [likeB_digs]
  exact ⟨fun h => h.2, fun h => ⟨ha, h⟩⟩
theorem like_year (e0 : UInt8) (y : List UInt8) (hy : y.length = 4) : likeB (e0 :: y) [45, 48, 48, 48, 48] = true ↔ e0 = 45 ∧ Digs y := by
  have h1 := likeB_app [e0] [45] y (List.replicate 4 48) rfl
  have h2 : likeB (e0 :: y) [45, 48, 48, 48, 48] = (likeB [e0] [45] && likeB y (List.replicate 4 48)) := h1
  rw [h2, Bool.and_eq_true, likeB_one e0 45 (by decide), rep_like 4 y hy]
theorem pieces9 (s : List UInt8) (n : Nat) (h : s.length = n + 9) : ∃ a x m e0 y, s = a ++ x :: (m ++ e0 :: y) ∧ a.length = n ∧ m.length = 3 ∧ y.length = 4 := by
  have h1 : n < s.length := by omega
  have h2 : n + 4 < s.length := by omega
  refine ⟨s.take n, s[n], (s.drop (n + 1)).take 3, s[n + 4], s.drop (n + 5), ?_, by simp; omega, by simp; omega, by simp; omega⟩
  have e1 : s.drop (n + 4) = s[n + 4] :: s.drop (n + 5) := List.drop_eq_getElem_cons h2
  have e2 : (s.drop (n + 1)).drop 3 = s.drop (n + 4) := by rw [List.drop_drop]
  rw [← e1, ← e2, List.take_append_drop, ← List.drop_eq_getElem_cons h1, List.take_append_drop]

theorem rday_all1 (s : List UInt8) (hL : s.length = 10) (w : World) : Calls Tryd.prog 11 #[.string ⟨s.toArray⟩] w fun e w' => e = .returned (docR ((pdayF (σz s)).bind endF)) ∧ Below w.heap.size w w' := by
  obtain ⟨a, x, m, e0, y, hs, ha, hm, hy⟩ := pieces9 s 1 hL
  have hlz : likeB a [48] = true ↔ Digs a := rep_like 1 a ha
  have hly := like_year e0 y hy
  have no : (¬ ∃ ds j ys, ShD s ds j ys) → docR ((pdayF (σz s)).bind endF) = .tuple #[.int .i64 0, .int .i64 2] := by
    intro hno
    cases h : (pdayF (σz s)).bind endF with
    | none => rfl
    | some τ => exact absurd (pday_inv h) hno
  have back : ∀ ds j ys, ShD s ds j ys → Digs a ∧ x = 45 ∧ m = nameT monB j ∧ e0 = 45 ∧ Digs y ∧ ds = a ∧ ys = y := by
    rintro ds j ys ⟨hf, hj, hn, hd, hyl, hyd⟩
    have h3 := nameT_len j hj
    have hdl : ds.length = 1 := by
      have := congrArg List.length hf
      simp [hL, h3, hyl] at this
      omega
    rw [hs] at hf
    obtain ⟨p1, p2⟩ := List.append_inj hf (by omega)
    injection p2 with hx p3
    obtain ⟨p4, p5⟩ := List.append_inj p3 (by omega)
    injection p5 with he hys
    subst p1 hys
    exact ⟨hd, hx, p4, he, hyd, rfl, rfl⟩
  by_cases c1 : Digs a
  · by_cases c2 : x = 45
    · rcases findEq_inv m 12 0 with c3 | ⟨j, _, hj, hmj, c3⟩
      · rw [no (by
          rintro ⟨ds, j, ys, h⟩
          have h2 := back ds j ys h
          have := findEq_fwd j h.2.1
          rw [← h2.2.2.1, c3] at this
          omega)]
        exact rday_d1 s a m y x e0 hs ha hm hy w (hlz.2 c1) c2 c3
      · by_cases c4 : e0 = 45 ∧ Digs y
        · have hsh : ShD s a j y := by
            refine ⟨?_, by omega, ?_, c1, hy, c4.2⟩
            · rw [hs, c2, hmj, c4.1]
            · omega
          rw [pday_fwd hsh]
          exact rday_f1 s a m y x e0 hs ha hm hy w (hlz.2 c1) c2 j (by omega) c3 (hly.2 c4) c1 c4.2
        · rw [no (by
            rintro ⟨ds, j, ys, h⟩
            have h2 := back ds j ys h
            exact c4 ⟨h2.2.2.2.1, h2.2.2.2.2.1⟩)]
          refine rday_e1 s a m y x e0 hs ha hm hy w (hlz.2 c1) c2 j c3 ?_
          cases h : likeB (e0 :: y) [45, 48, 48, 48, 48] with
          | false => rfl
          | true => exact absurd (hly.1 h) c4
    · rw [no (by
        rintro ⟨ds, j, ys, h⟩
        exact c2 (back ds j ys h).2.1)]
      exact rday_c1 s a m y x e0 hs ha hm hy w (hlz.2 c1) c2
  · rw [no (by
      rintro ⟨ds, j, ys, h⟩
      exact c1 (back ds j ys h).1)]
    refine rday_b1 s a m y x e0 hs ha hm hy w ?_
    cases h : likeB a [48] with
    | false => rfl
    | true => exact absurd (hlz.1 h) c1
theorem rday_all2 (s : List UInt8) (hL : s.length = 11) (w : World) : Calls Tryd.prog 11 #[.string ⟨s.toArray⟩] w fun e w' => e = .returned (docR ((pdayF (σz s)).bind endF)) ∧ Below w.heap.size w w' := by
  obtain ⟨a, x, m, e0, y, hs, ha, hm, hy⟩ := pieces9 s 2 hL
  have hlz : likeB a [48, 48] = true ↔ Digs a := rep_like 2 a ha
  have hly := like_year e0 y hy
  have no : (¬ ∃ ds j ys, ShD s ds j ys) → docR ((pdayF (σz s)).bind endF) = .tuple #[.int .i64 0, .int .i64 2] := by
    intro hno
    cases h : (pdayF (σz s)).bind endF with
    | none => rfl
    | some τ => exact absurd (pday_inv h) hno
  have back : ∀ ds j ys, ShD s ds j ys → Digs a ∧ x = 45 ∧ m = nameT monB j ∧ e0 = 45 ∧ Digs y ∧ ds = a ∧ ys = y := by
    rintro ds j ys ⟨hf, hj, hn, hd, hyl, hyd⟩
    have h3 := nameT_len j hj
    have hdl : ds.length = 2 := by
      have := congrArg List.length hf
      simp [hL, h3, hyl] at this
      omega
    rw [hs] at hf
    obtain ⟨p1, p2⟩ := List.append_inj hf (by omega)
    injection p2 with hx p3
    obtain ⟨p4, p5⟩ := List.append_inj p3 (by omega)
    injection p5 with he hys
    subst p1 hys
    exact ⟨hd, hx, p4, he, hyd, rfl, rfl⟩
  by_cases c1 : Digs a
  · by_cases c2 : x = 45
    · rcases findEq_inv m 12 0 with c3 | ⟨j, _, hj, hmj, c3⟩
      · rw [no (by
          rintro ⟨ds, j, ys, h⟩
          have h2 := back ds j ys h
          have := findEq_fwd j h.2.1
          rw [← h2.2.2.1, c3] at this
          omega)]
        exact rday_d2 s a m y x e0 hs ha hm hy w (hlz.2 c1) c2 c3
      · by_cases c4 : e0 = 45 ∧ Digs y
        · have hsh : ShD s a j y := by
            refine ⟨?_, by omega, ?_, c1, hy, c4.2⟩
            · rw [hs, c2, hmj, c4.1]
            · omega
          rw [pday_fwd hsh]
          exact rday_f2 s a m y x e0 hs ha hm hy w (hlz.2 c1) c2 j (by omega) c3 (hly.2 c4) c1 c4.2
        · rw [no (by
            rintro ⟨ds, j, ys, h⟩
            have h2 := back ds j ys h
            exact c4 ⟨h2.2.2.2.1, h2.2.2.2.2.1⟩)]
          refine rday_e2 s a m y x e0 hs ha hm hy w (hlz.2 c1) c2 j c3 ?_
          cases h : likeB (e0 :: y) [45, 48, 48, 48, 48] with
          | false => rfl
          | true => exact absurd (hly.1 h) c4
    · rw [no (by
        rintro ⟨ds, j, ys, h⟩
        exact c2 (back ds j ys h).2.1)]
      exact rday_c2 s a m y x e0 hs ha hm hy w (hlz.2 c1) c2
  · rw [no (by
      rintro ⟨ds, j, ys, h⟩
      exact c1 (back ds j ys h).1)]
    refine rday_b2 s a m y x e0 hs ha hm hy w ?_
    cases h : likeB a [48, 48] with
    | false => rfl
    | true => exact absurd (hlz.1 h) c1
theorem rday_any (s : List UInt8) (w : World) : Calls Tryd.prog 11 #[.string ⟨s.toArray⟩] w fun e w' => e = .returned (docR ((pdayF (σz s)).bind endF)) ∧ Below w.heap.size w w' := by
  by_cases h10 : s.length = 10
  · exact rday_all1 s h10 w
  · by_cases h11 : s.length = 11
    · exact rday_all2 s h11 w
    · have : (pdayF (σz s)).bind endF = none := by
        cases h : (pdayF (σz s)).bind endF with
        | none => rfl
        | some τ =>
          obtain ⟨ds, j, ys, hf, hj, hn, hd, hyl, hyd⟩ := pday_inv h
          have := congrArg List.length hf
          simp [nameT_len j hj, hyl] at this
          omega
      rw [this]
      exact rday_len s w h10 h11
theorem len_of (x : ByteArray) (h : x.size ≤ maxLen) : x.data.toList.length ≤ maxLen := by
  rw [Array.length_toList]
  exact h
/-- Program and document answer the same. -/
theorem both_form (ea : Nat → Addr) (r : Option RS) : (∃ T : Int, parV ea r = .tuple #[.int .i64 T, .nilIface] ∧ docR r = .tuple #[.int .i64 T, .int .i64 0]) ∨ ∃ k : Nat, k < 2 ∧ parV ea r = .tuple #[.int .i64 0, .iface 79 (.pointer (some (ea k)))] ∧ docR r = .tuple #[.int .i64 0, .int .i64 ((k : Int) + 1)] := by
  cases r with
  | none => exact .inr ⟨1, by decide, rfl, rfl⟩
  | some τ =>
    show (∃ T : Int, momV ea τ = _ ∧ madeV τ.y τ.m τ.d τ.h τ.mi τ.s τ.a = _) ∨ _
    unfold parV docR momV madeV
    by_cases hc : rightB τ.y τ.m τ.d τ.h τ.mi τ.s = true ∧ 0 ≤ mom τ.y τ.m τ.d τ.h τ.mi τ.s - τ.a ∧ mom τ.y τ.m τ.d τ.h τ.mi τ.s - τ.a ≤ 4102444799
    · simp only [if_pos hc]
      exact .inl ⟨_, rfl, rfl⟩
    · simp only [if_neg hc]
      exact .inr ⟨0, by decide, rfl, rfl⟩
set_option maxRecDepth 8000 in
set_option maxHeartbeats 1000000 in
theorem days_walk (l : List UInt8) (w : World) (ea : Nat → Addr) (hE : Errs w ea) (hs : l.length ≤ maxLen) : Calls Tryd.prog 4 #[.string ⟨l.toArray⟩] w fun e w' => e = .returned (.bool true) ∧ Below w.heap.size w w' := by
  unfold maxLen at hs
  have HE := hide hE
  clear hE
  by_cases hl : 200 < l.length
  · have hl' : (200 : Int) < l.length := by omega
    go_enter Tryd.func4, Tryd.ntmps4
    go_wp2_with (first
      | (go_at_call 6; refine (alive_yes _).mono ?_; rintro e w1 ⟨rfl, hb1⟩; have HE1 := hide (HE.out.below hb1); replace hb1 := hide hb1))
    go_ret
    exact ⟨rfl, hb1.out⟩
  · have hl' : ¬ (200 : Int) < l.length := by omega
    have HD := hide (rday_any l)
    have HP := hide (fun w hE => ParseDay_any l w ea hE (by omega))
    rw [show σ0 l = σz l from rfl] at HP
    generalize (pdayF (σz l)).bind endF = r at HD HP
    rcases both_form ea r with ⟨T, h1, h2⟩ | ⟨k, hk, h1, h2⟩
    · rw [h1] at HP
      rw [h2] at HD
      go_enter Tryd.func4, Tryd.ntmps4
      go_wp2_with (first
        | (go_at_call 6; refine (alive_yes _).mono ?_; rintro e w1 ⟨rfl, hb1⟩; have HE1 := hide (HE.out.below hb1); replace hb1 := hide hb1)
        | (go_at_call 10; refine (HP.out _ HE1.out).mono ?_; rintro e w2 ⟨rfl, hb2⟩; replace hb2 := hide hb2)
        | (go_at_call 11; refine (HD.out _).mono ?_; rintro e w3 ⟨rfl, hb3⟩; replace hb3 := hide hb3)
        | (go_at_call 9; refine (num_nil _).mono ?_; rintro e w' ⟨rfl, rfl⟩))
      go_ret
      have b2 := hb1.out.trans (hb2.out.mono hb1.out.size)
      exact ⟨by simp, b2.trans (hb3.out.mono b2.size)⟩
    · rw [h1] at HP
      rw [h2] at HD
      have HN := hide (fun w hE => num_err k (by omega) w ea hE)
      go_enter Tryd.func4, Tryd.ntmps4
      go_wp2_with (first
        | (go_at_call 6; refine (alive_yes _).mono ?_; rintro e w1 ⟨rfl, hb1⟩; have HE1 := hide (HE.out.below hb1); replace hb1 := hide hb1)
        | (go_at_call 10; refine (HP.out _ HE1.out).mono ?_; rintro e w2 ⟨rfl, hb2⟩; have HE2 := hide (HE1.out.below hb2); replace hb2 := hide hb2)
        | (go_at_call 11; refine (HD.out _).mono ?_; rintro e w3 ⟨rfl, hb3⟩; have HE3 := hide (HE2.out.below hb3); replace hb3 := hide hb3)
        | (go_at_call 9; refine (HN.out _ HE3.out).mono ?_; rintro e w4 ⟨rfl, hb4⟩; replace hb4 := hide hb4))
      go_ret
      have b2 := hb1.out.trans (hb2.out.mono hb1.out.size)
      have b3 := b2.trans (hb3.out.mono b2.size)
      exact ⟨by simp, b3.trans (hb4.out.mono b3.size)⟩
end Go.Proofs.YtabncmepkoiheaaDoor
