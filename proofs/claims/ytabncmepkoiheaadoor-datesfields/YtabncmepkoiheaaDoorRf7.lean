/- The document's ParseInternal is the program's; DatesReads. -/
import Derived.Test.YtabncmepkoiheaaDoorRf6
namespace Go.Proofs.YtabncmepkoiheaaDoor
open Go.RowKit
theorem eq_of_nat {c : UInt8} {d : UInt8} (h : c.toNat = d.toNat) : c = d := UInt8.toNat_inj.1 h
theorem like_q (q : List UInt8) : likeB q [45, 48, 48, 48, 48, 32, 48, 48, 58, 48, 48, 58, 48, 48, 32] = true ↔ ∃ ys hs ms ss, q = 45 :: (ys ++ 32 :: (hs ++ 58 :: (ms ++ 58 :: (ss ++ [32])))) ∧ ys.length = 4 ∧ hs.length = 2 ∧ ms.length = 2 ∧ ss.length = 2 ∧ Digs ys ∧ Digs hs ∧ Digs ms ∧ Digs ss := by
  have key : ∀ (a : UInt8) (ys : List UInt8) (b : UInt8) (hs : List UInt8) (c : UInt8) (ms : List UInt8) (d : UInt8) (ss : List UInt8) (e : UInt8), ys.length = 4 → hs.length = 2 → ms.length = 2 → ss.length = 2 →
      (likeB (a :: (ys ++ b :: (hs ++ c :: (ms ++ d :: (ss ++ [e]))))) [45, 48, 48, 48, 48, 32, 48, 48, 58, 48, 48, 58, 48, 48, 32] = true ↔ a = 45 ∧ Digs ys ∧ b = 32 ∧ Digs hs ∧ c = 58 ∧ Digs ms ∧ d = 58 ∧ Digs ss ∧ e = 32) := by
    intro a ys b hs c ms d ss e h1 h2 h3 h4
    have e1 := likeB_app [a] [45] (ys ++ b :: (hs ++ c :: (ms ++ d :: (ss ++ [e])))) (List.replicate 4 48 ++ 32 :: (List.replicate 2 48 ++ 58 :: (List.replicate 2 48 ++ 58 :: (List.replicate 2 48 ++ [32])))) rfl
    have e2 := likeB_app ys (List.replicate 4 48) (b :: (hs ++ c :: (ms ++ d :: (ss ++ [e])))) (32 :: (List.replicate 2 48 ++ 58 :: (List.replicate 2 48 ++ 58 :: (List.replicate 2 48 ++ [32])))) (by simp [h1])
    have e3 := likeB_app [b] [32] (hs ++ c :: (ms ++ d :: (ss ++ [e]))) (List.replicate 2 48 ++ 58 :: (List.replicate 2 48 ++ 58 :: (List.replicate 2 48 ++ [32]))) rfl
    have e4 := likeB_app hs (List.replicate 2 48) (c :: (ms ++ d :: (ss ++ [e]))) (58 :: (List.replicate 2 48 ++ 58 :: (List.replicate 2 48 ++ [32]))) (by simp [h2])
    have e5 := likeB_app [c] [58] (ms ++ d :: (ss ++ [e])) (List.replicate 2 48 ++ 58 :: (List.replicate 2 48 ++ [32])) rfl
    have e6 := likeB_app ms (List.replicate 2 48) (d :: (ss ++ [e])) (58 :: (List.replicate 2 48 ++ [32])) (by simp [h3])
    have e7 := likeB_app [d] [58] (ss ++ [e]) (List.replicate 2 48 ++ [32]) rfl
    have e8 := likeB_app ss (List.replicate 2 48) [e] [32] (by simp [h4])
    have hall : likeB (a :: (ys ++ b :: (hs ++ c :: (ms ++ d :: (ss ++ [e]))))) [45, 48, 48, 48, 48, 32, 48, 48, 58, 48, 48, 58, 48, 48, 32] = (likeB [a] [45] && (likeB ys (List.replicate 4 48) && (likeB [b] [32] && (likeB hs (List.replicate 2 48) && (likeB [c] [58] && (likeB ms (List.replicate 2 48) && (likeB [d] [58] && (likeB ss (List.replicate 2 48) && likeB [e] [32])))))))) := by
      rw [← e8, ← e7]
      erw [← e6, ← e5, ← e4, ← e3, ← e2, ← e1]
      rfl
    rw [hall]
    simp only [Bool.and_eq_true]
    rw [likeB_one a 45 (by decide), likeB_one b 32 (by decide), likeB_one c 58 (by decide), likeB_one d 58 (by decide), likeB_one e 32 (by decide), rep_like 4 ys h1, rep_like 2 hs h2, rep_like 2 ms h3, rep_like 2 ss h4]
  constructor
  · intro h
    have hl := likeB_len h
    match q, hl with
    | [a0, a1, a2, a3, a4, a5, a6, a7, a8, a9, a10, a11, a12, a13, a14], _ =>
      have := (key a0 [a1, a2, a3, a4] a5 [a6, a7] a8 [a9, a10] a11 [a12, a13] a14 rfl rfl rfl rfl).1 h
      obtain ⟨rfl, d1, rfl, d2, rfl, d3, rfl, d4, rfl⟩ := this
      exact ⟨[a1, a2, a3, a4], [a6, a7], [a9, a10], [a12, a13], rfl, rfl, rfl, rfl, rfl, d1, d2, d3, d4⟩
  · rintro ⟨ys, hs, ms, ss, rfl, h1, h2, h3, h4, d1, d2, d3, d4⟩
    exact (key 45 ys 32 hs 58 ms 58 ss 32 h1 h2 h3 h4).2 ⟨rfl, d1, rfl, d2, rfl, d3, rfl, d4, rfl⟩
theorem like_d1 (c0 c1 : UInt8) : likeB [c0, c1] [32, 48] = true ↔ c0 = 32 ∧ isDig c1 = true := by
  have h : likeB [c0, c1] [32, 48] = (likeB [c0] [32] && likeB [c1] (List.replicate 1 48)) := likeB_app [c0] [32] [c1] [48] rfl
  rw [h, Bool.and_eq_true, likeB_one c0 32 (by decide), rep_like 1 [c1] rfl]
  simp [Digs]
theorem like_d2 (c0 c1 : UInt8) : likeB [c0, c1] [48, 48] = true ↔ Digs [c0, c1] := rep_like 2 [c0, c1] rfl
theorem pieces26 (s : List UInt8) (h : s.length = 26) : ∃ c0 c1 x m q z, s = [c0, c1] ++ x :: (m ++ (q ++ z)) ∧ m.length = 3 ∧ q.length = 15 ∧ z.length = 5 := by
  match s, h with
  | c0 :: c1 :: x :: r, h =>
    have hr : r.length = 23 := by simpa using h
    refine ⟨c0, c1, x, r.take 3, (r.drop 3).take 15, r.drop 18, ?_, by simp; omega, by simp; omega, by simp; omega⟩
    have : (r.drop 3).drop 15 = r.drop 18 := by rw [List.drop_drop]
    rw [← this, List.take_append_drop, List.take_append_drop]
    rfl
theorem day2_len {dd : List UInt8} {v : Nat} (h : Day2 dd v) : dd.length = 2 := by
  rcases h with ⟨c, rfl, _⟩ | ⟨c, c2, rfl, _⟩ <;> rfl
theorem rint_all (s : List UInt8) (hL : s.length = 26) (w : World) : Calls Tryd.prog 8 #[.string ⟨s.toArray⟩] w fun e w' => e = .returned (docR ((pintF (σz s)).bind endF)) ∧ Below w.heap.size w w' := by
  obtain ⟨c0, c1, x, m, q, z, hs, hm, hq, hz⟩ := pieces26 s hL
  have no : (¬ ∃ dd v j ys hs ms ss g zh zm, ShI s dd v j ys hs ms ss g zh zm) → docR ((pintF (σz s)).bind endF) = .tuple #[.int .i64 0, .int .i64 2] := by
    intro hno
    cases h : (pintF (σz s)).bind endF with
    | none => rfl
    | some τ => exact absurd (pint_inv h) hno
  have back : ∀ dd v j ys hs ms ss g zh zm, ShI s dd v j ys hs ms ss g zh zm → dd = [c0, c1] ∧ x = 45 ∧ m = nameT monB j ∧ q = 45 :: (ys ++ 32 :: (hs ++ 58 :: (ms ++ 58 :: (ss ++ [32])))) ∧ z = g :: (zh ++ zm) := by
    intro dd v j ys hs' ms ss g zh zm h
    have h3 := nameT_len j h.mon
    have hf := h.form
    have hdl := day2_len h.day
    rw [hs] at hf
    obtain ⟨p1, p2⟩ := List.append_inj hf (by rw [hdl]; rfl)
    injection p2 with hx p3
    obtain ⟨p4, p5⟩ := List.append_inj p3 (by rw [hm, h3])
    have p6 : q ++ z = (45 :: (ys ++ 32 :: (hs' ++ 58 :: (ms ++ 58 :: (ss ++ [32]))))) ++ (g :: (zh ++ zm)) := by rw [p5]; simp
    obtain ⟨p7, p8⟩ := List.append_inj p6 (by simp [hq, h.ysl, h.hsl, h.msl, h.ssl])
    exact ⟨p1.symm, hx, p4, p7, p8⟩
  have zone : ∃ Z ok, Hid (∀ w, Calls Tryd.prog 26 #[.string ⟨z.toArray⟩] w fun e w' => e = .returned (.tuple #[.int .i64 Z, .bool ok]) ∧ Below w.heap.size w w') ∧ ((ok = true ∧ ZOK z Z) ∨ (ok = false ∧ ∀ Z, ¬ ZOK z Z)) := by
    by_cases hzk : ∃ Z, ZOK z Z
    · obtain ⟨Z, hZ⟩ := hzk
      exact ⟨Z, true, fun w => rzone_yes z Z w (by omega) hZ, .inl ⟨rfl, hZ⟩⟩
    · exact ⟨0, false, fun w => rzone_no z w (by omega) (fun Z hZ => hzk ⟨Z, hZ⟩), .inr ⟨rfl, fun Z hZ => hzk ⟨Z, hZ⟩⟩⟩
  obtain ⟨Z, ok, HZ, hzok⟩ := zone
  obtain ⟨p, hp⟩ : ∃ p, findEq monB m 12 0 = p := ⟨_, rfl⟩
  have hpj : (p < 0 ∧ ∀ j, j < 12 → m ≠ nameT monB j) ∨ ∃ j : Nat, j < 12 ∧ m = nameT monB j ∧ p = j := by
    rcases findEq_inv m 12 0 with h | ⟨j, _, h2, h3, h4⟩
    · refine .inl ⟨by omega, fun j hj e => ?_⟩
      have := findEq_fwd j hj
      rw [← e, h] at this
      omega
    · exact .inr ⟨j, by omega, h3, by omega⟩

  cases h1 : likeB [c0, c1] [32, 48] with
  | true =>
    obtain ⟨h9, hc1⟩ := (like_d1 c0 c1).1 h1
    have dg : Digs [c1] := by intro x hx; simp at hx; rw [hx]; exact hc1
    rcases hpj with ⟨hp0, hpn⟩ | ⟨j, hj, hmj, hpj⟩
    · rw [no (by
        rintro ⟨dd, v, j, ys, hs', ms, ss, g, zh, zm, h⟩
        exact hpn j h.mon (back _ _ _ _ _ _ _ _ _ _ h).2.2.1)]
      exact rint_a1 s [c0, c1] m q z c0 c1 x hs rfl hm hq hz p hp Z ok HZ w h1 hp0
    · rcases hzok with ⟨hok, hZ⟩ | ⟨hok, hZn⟩
      · by_cases hx : x = 45
        · cases h5 : likeB q [45, 48, 48, 48, 48, 32, 48, 48, 58, 48, 48, 58, 48, 48, 32] with
          | false =>
            rw [no (by
              rintro ⟨dd, v, j, ys, hs', ms, ss, g, zh, zm, h⟩
              have hb := (back _ _ _ _ _ _ _ _ _ _ h).2.2.2.1
              have := (like_q q).2 ⟨ys, hs', ms, ss, hb, h.ysl, h.hsl, h.msl, h.ssl, h.ysd, h.hsd, h.msd, h.ssd⟩
              rw [h5] at this
              cases this)]
            exact rint_a4 s [c0, c1] m q z c0 c1 x hs rfl hm hq hz p hp Z ok HZ w h1 (by omega) hok hx h5
          | true =>
            obtain ⟨ys, hs', ms, ss, hqf, y4, h2l, m2, s2, yd, hhd, md, sd⟩ := (like_q q).1 h5
            obtain ⟨g, zh, zm, hzs, k1, k2, hZe⟩ := id hZ
            have hsh : ShI s [c0, c1] (valL [c1] 0) j ys hs' ms ss g zh zm := by
              refine ⟨?_, .inl ⟨c1, by rw [h9], hc1, rfl⟩, hj, y4, yd, h2l, hhd, m2, md, s2, sd, hzs.2.1, hzs.2.2.1, hzs.2.2.2.1, hzs.2.2.2.2.1, hzs.2.2.2.2.2, k1, k2⟩
              rw [hs, hx, hmj, hqf, hzs.1]
              simp
            rw [pint_fwd hsh]
            have := rint_af s [c0, c1] m q z c0 c1 x hs rfl hm hq hz p hp Z ok HZ w h1 h9 (by omega) (by omega) hok (zok_range hZ) hx h5 ys hs' ms ss hqf y4 h2l m2 s2 yd hhd md sd dg
            rw [hpj, hZe] at this
            exact this
        · rw [no (by
            rintro ⟨dd, v, j, ys, hs', ms, ss, g, zh, zm, h⟩
            exact hx (back _ _ _ _ _ _ _ _ _ _ h).2.1)]
          exact rint_a3 s [c0, c1] m q z c0 c1 x hs rfl hm hq hz p hp Z ok HZ w h1 (by omega) hok hx
      · rw [no (by
          rintro ⟨dd, v, j, ys, hs', ms, ss, g, zh, zm, h⟩
          exact hZn _ ⟨g, zh, zm, ⟨(back _ _ _ _ _ _ _ _ _ _ h).2.2.2.2, h.gs, h.zhl, h.zhd, h.zml, h.zmd⟩, h.zh23, h.zm59, rfl⟩)]
        exact rint_a2 s [c0, c1] m q z c0 c1 x hs rfl hm hq hz p hp Z ok HZ w h1 (by omega) hok
  | false =>
    cases h2 : likeB [c0, c1] [48, 48] with
    | true =>
      have dg := (like_d2 c0 c1).1 h2
      have hc0 := dg c0 (by simp)
      have hc1 := dg c1 (by simp)
      by_cases h3 : c0 = 48
      · rw [no (by
          rintro ⟨dd, v, j, ys, hs', ms, ss, g, zh, zm, h⟩
          have hb := (back _ _ _ _ _ _ _ _ _ _ h).1
          rcases h.day with ⟨c, e, _⟩ | ⟨c, c2, e, _, _, hne, _⟩
          · rw [hb] at e
            cases e
            cases h3
          · rw [hb] at e
            cases e
            exact hne h3)]
        exact rint_cx s [c0, c1] m q z c0 c1 x hs rfl hm hq hz p hp Z ok HZ w h1 h2 h3
      · have h9 : c0 ≠ 32 := by
          intro e
          have := dig_ne32 hc0
          rw [e] at this
          exact this rfl
        rcases hpj with ⟨hp0, hpn⟩ | ⟨j, hj, hmj, hpj⟩
        · rw [no (by
            rintro ⟨dd, v, j, ys, hs', ms, ss, g, zh, zm, h⟩
            exact hpn j h.mon (back _ _ _ _ _ _ _ _ _ _ h).2.2.1)]
          exact rint_b1 s [c0, c1] m q z c0 c1 x hs rfl hm hq hz p hp Z ok HZ w h1 h2 h3 hp0
        · rcases hzok with ⟨hok, hZ⟩ | ⟨hok, hZn⟩
          · by_cases hx : x = 45
            · cases h5 : likeB q [45, 48, 48, 48, 48, 32, 48, 48, 58, 48, 48, 58, 48, 48, 32] with
              | false =>
                rw [no (by
                  rintro ⟨dd, v, j, ys, hs', ms, ss, g, zh, zm, h⟩
                  have hb := (back _ _ _ _ _ _ _ _ _ _ h).2.2.2.1
                  have := (like_q q).2 ⟨ys, hs', ms, ss, hb, h.ysl, h.hsl, h.msl, h.ssl, h.ysd, h.hsd, h.msd, h.ssd⟩
                  rw [h5] at this
                  cases this)]
                exact rint_b4 s [c0, c1] m q z c0 c1 x hs rfl hm hq hz p hp Z ok HZ w h1 h2 h3 (by omega) hok hx h5
              | true =>
                obtain ⟨ys, hs', ms, ss, hqf, y4, h2l, m2, s2, yd, hhd, md, sd⟩ := (like_q q).1 h5
                obtain ⟨g, zh, zm, hzs, k1, k2, hZe⟩ := id hZ
                have hsh : ShI s [c0, c1] (valL [c0, c1] 0) j ys hs' ms ss g zh zm := by
                  refine ⟨?_, .inr ⟨c0, c1, rfl, hc0, hc1, h3, rfl⟩, hj, y4, yd, h2l, hhd, m2, md, s2, sd, hzs.2.1, hzs.2.2.1, hzs.2.2.2.1, hzs.2.2.2.2.1, hzs.2.2.2.2.2, k1, k2⟩
                  rw [hs, hx, hmj, hqf, hzs.1]
                  simp
                rw [pint_fwd hsh]
                have := rint_bf s [c0, c1] m q z c0 c1 x hs rfl hm hq hz p hp Z ok HZ w h1 h2 h3 h9 (by omega) (by omega) hok (zok_range hZ) hx h5 ys hs' ms ss hqf y4 h2l m2 s2 yd hhd md sd dg
                rw [hpj, hZe] at this
                exact this
            · rw [no (by
                rintro ⟨dd, v, j, ys, hs', ms, ss, g, zh, zm, h⟩
                exact hx (back _ _ _ _ _ _ _ _ _ _ h).2.1)]
              exact rint_b3 s [c0, c1] m q z c0 c1 x hs rfl hm hq hz p hp Z ok HZ w h1 h2 h3 (by omega) hok hx
          · rw [no (by
              rintro ⟨dd, v, j, ys, hs', ms, ss, g, zh, zm, h⟩
              exact hZn _ ⟨g, zh, zm, ⟨(back _ _ _ _ _ _ _ _ _ _ h).2.2.2.2, h.gs, h.zhl, h.zhd, h.zml, h.zmd⟩, h.zh23, h.zm59, rfl⟩)]
            exact rint_b2 s [c0, c1] m q z c0 c1 x hs rfl hm hq hz p hp Z ok HZ w h1 h2 h3 (by omega) hok
    | false =>
      rw [no (by
        rintro ⟨dd, v, j, ys, hs', ms, ss, g, zh, zm, h⟩
        have hb := (back _ _ _ _ _ _ _ _ _ _ h).1
        rcases h.day with ⟨c, e, hc, _⟩ | ⟨c, c2, e, hc, hc2, hne, _⟩
        · rw [hb] at e
          cases e
          have := (like_d1 32 c1).2 ⟨rfl, hc⟩
          rw [h1] at this
          cases this
        · rw [hb] at e
          cases e
          have := (like_d2 c0 c1).2 (by intro x hx; simp at hx; rcases hx with rfl | rfl <;> assumption)
          rw [h2] at this
          cases this)]
      exact rint_dx s [c0, c1] m q z c0 c1 x hs rfl hm hq hz p hp Z ok HZ w h1 h2
theorem rint_any (s : List UInt8) (w : World) : Calls Tryd.prog 8 #[.string ⟨s.toArray⟩] w fun e w' => e = .returned (docR ((pintF (σz s)).bind endF)) ∧ Below w.heap.size w w' := by
  by_cases h26 : s.length = 26
  · exact rint_all s h26 w
  · have : (pintF (σz s)).bind endF = none := by
      cases h : (pintF (σz s)).bind endF with
      | none => rfl
      | some τ =>
        obtain ⟨dd, v, j, ys, hs', ms, ss, g, zh, zm, h⟩ := pint_inv h
        have := congrArg List.length h.form
        simp [nameT_len j h.mon, day2_len h.day, h.ysl, h.hsl, h.msl, h.ssl, h.zhl, h.zml] at this
        omega
    rw [this]
    exact rint_len s w h26
set_option maxRecDepth 8000 in
set_option maxHeartbeats 1000000 in
theorem reads_walk (l : List UInt8) (w : World) (ea : Nat → Addr) (hE : Errs w ea) (hs : l.length ≤ maxLen) : Calls Tryd.prog 3 #[.string ⟨l.toArray⟩] w fun e w' => e = .returned (.bool true) ∧ Below w.heap.size w w' := by
  unfold maxLen at hs
  have HE := hide hE
  clear hE
  by_cases hl : 200 < l.length
  · have hl' : (200 : Int) < l.length := by omega
    go_enter Tryd.func3, Tryd.ntmps3
    go_wp2_with (first
      | (go_at_call 6; refine (alive_yes _).mono ?_; rintro e w1 ⟨rfl, hb1⟩; have HE1 := hide (HE.out.below hb1); replace hb1 := hide hb1))
    go_ret
    exact ⟨rfl, hb1.out⟩
  · have hl' : ¬ (200 : Int) < l.length := by omega
    have HD := hide (rint_any l)
    have HP := hide (fun w hE => ParseInternal_any l w ea hE (by omega))
    rw [show σ0 l = σz l from rfl] at HP
    generalize (pintF (σz l)).bind endF = r at HD HP
    rcases both_form ea r with ⟨T, h1, h2⟩ | ⟨k, hk, h1, h2⟩
    · rw [h1] at HP
      rw [h2] at HD
      go_enter Tryd.func3, Tryd.ntmps3
      go_wp2_with (first
        | (go_at_call 6; refine (alive_yes _).mono ?_; rintro e w1 ⟨rfl, hb1⟩; have HE1 := hide (HE.out.below hb1); replace hb1 := hide hb1)
        | (go_at_call 7; refine (HP.out _ HE1.out).mono ?_; rintro e w2 ⟨rfl, hb2⟩; replace hb2 := hide hb2)
        | (go_at_call 8; refine (HD.out _).mono ?_; rintro e w3 ⟨rfl, hb3⟩; replace hb3 := hide hb3)
        | (go_at_call 9; refine (num_nil _).mono ?_; rintro e w' ⟨rfl, rfl⟩))
      go_ret
      have b2 := hb1.out.trans (hb2.out.mono hb1.out.size)
      exact ⟨by simp, b2.trans (hb3.out.mono b2.size)⟩
    · rw [h1] at HP
      rw [h2] at HD
      have HN := hide (fun w hE => num_err k (by omega) w ea hE)
      go_enter Tryd.func3, Tryd.ntmps3
      go_wp2_with (first
        | (go_at_call 6; refine (alive_yes _).mono ?_; rintro e w1 ⟨rfl, hb1⟩; have HE1 := hide (HE.out.below hb1); replace hb1 := hide hb1)
        | (go_at_call 7; refine (HP.out _ HE1.out).mono ?_; rintro e w2 ⟨rfl, hb2⟩; have HE2 := hide (HE1.out.below hb2); replace hb2 := hide hb2)
        | (go_at_call 8; refine (HD.out _).mono ?_; rintro e w3 ⟨rfl, hb3⟩; have HE3 := hide (HE2.out.below hb3); replace hb3 := hide hb3)
        | (go_at_call 9; refine (HN.out _ HE3.out).mono ?_; rintro e w4 ⟨rfl, hb4⟩; replace hb4 := hide hb4))
      go_ret
      have b2 := hb1.out.trans (hb2.out.mono hb1.out.size)
      have b3 := b2.trans (hb3.out.mono b2.size)
      exact ⟨by simp, b3.trans (hb4.out.mono b3.size)⟩
end Go.Proofs.YtabncmepkoiheaaDoor
