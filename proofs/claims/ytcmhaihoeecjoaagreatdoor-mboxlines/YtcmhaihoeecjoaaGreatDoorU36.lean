/- The document's own reading: does a text look like a pattern, which name it is, digits' number. -/
/- The document's made: a date's moment less a zone. -/
import Derived.Test.YtcmhaihoeecjoaaGreatDoorU28
import Derived.Test.YtcmhaihoeecjoaaGreatDoorU29
import Derived.Test.YtcmhaihoeecjoaaGreatDoorU26
section
namespace Go.Proofs.YtcmhaihoeecjoaaGreatDoor.Da
open Go.RowKit
theorem below_drewN (w : World) (n : Nat) : Below w.heap.size w (w.drewN n) := ⟨rfl, rfl, rfl, Nat.le_refl _, fun _ _ => rfl⟩
theorem at_str (l : List UInt8) (i : Nat) (hi : i < l.length) : ∃ c, l[i] = c ∧ ∀ h : i < (⟨l.toArray⟩ : ByteArray).size, (⟨l.toArray⟩ : ByteArray)[i]'h = c := ⟨_, rfl, fun _ => rfl⟩
set_option maxRecDepth 20000 in
set_option maxHeartbeats 4000000 in
theorem like_any (s q : List UInt8) (w : World) (hs : s.length ≤ 900) : Calls Tryz.prog 59 #[.string ⟨s.toArray⟩, .string ⟨q.toArray⟩] w fun e w' => e = .returned (.bool (likeB s q)) ∧ Below w.heap.size w w' := by
  by_cases hlen : s.length = q.length
  · go_enter Tryz.func59, Tryz.ntmps59
    have hq : q.length ≤ 900 := by omega
    go_wp2
    go_loopw [5] (fun k wr => ∃ i : Nat, k = .int .i64 i ∧ i ≤ s.length ∧ Hid (likeB (s.drop i) (q.drop i) = likeB s q) ∧ Hid (Below w.heap.size w wr)) (fun k _ => s.length - (intOf k).toNat)
    case atStart => exact ⟨0, rfl, Nat.zero_le _, rfl, Below.refl _ _⟩
    case round =>
      obtain ⟨i, rfl, hi, HK, HB⟩ := hrel
      by_cases hlt : i < s.length
      · have hlt' : (i : Int) < s.length := by omega
        have hltq : i < q.length := by omega
        have hltq' : (i : Int) < q.length := by omega
        obtain ⟨c, hc, hcs⟩ := at_str s i hlt
        obtain ⟨x, hx, hxs⟩ := at_str q i hltq
        have hst : likeB (s.drop i) (q.drop i) = ((if x.toNat = 48 then isDig c else decide (c.toNat = x.toNat)) && likeB (s.drop (i + 1)) (q.drop (i + 1))) := by
          rw [List.drop_eq_getElem_cons hlt, List.drop_eq_getElem_cons hltq, hc, hx]
          rfl
        clear hc hx
        by_cases h48 : x.toNat = 48
        · have g1 : ((x.toNat : Int) == 48) = true := by simp; omega
          have g2 : (x.toNat : Int) = 48 := by omega
          by_cases hd : isDig c = true
          · have hd2 := hd
            unfold isDig at hd2
            simp at hd2
            have d1 : decide ((c.toNat : Int) < 48) = false := by simp; omega
            have d2 : decide (57 < (c.toNat : Int)) = false := by simp; omega
            have d3 : ¬ (c.toNat : Int) < 48 := by omega
            have d4 : ¬ 57 < (c.toNat : Int) := by omega
            have d5 : ((x.toNat : Int) != 48) = false := by simp; omega
            have HS := hide (show likeB (s.drop (i + 1)) (q.drop (i + 1)) = likeB s q by rw [← HK.out, hst, if_pos h48, hd]; simp)
            clear hst hd h48 hd2
            go_wp2_with fail
            go_quiet (fail)
            go_wp2
            exact ⟨⟨i + 1, by go_num, by omega, HS, HB.out.trans ((below_drewN _ _).mono HB.out.size)⟩, by simp [intOf]; omega⟩
          · have hd0 : isDig c = false := by simpa using hd
            have hd2 := hd0
            unfold isDig at hd2
            simp at hd2
            have HN := hide (show likeB s q = false by rw [← HK.out, hst, if_pos h48, hd0]; simp)
            clear hst hd hd0 h48
            by_cases hlow : (c.toNat : Int) < 48
            · have d1 : decide ((c.toNat : Int) < 48) = true := by simp; omega
              clear hd2
              go_wp2_with fail
              go_quiet (fail)
              go_wp2
              go_ret
              exact ⟨by rw [HN.out]; rfl, HB.out.trans ((below_drewN _ _).mono HB.out.size)⟩
            · have d1 : decide ((c.toNat : Int) < 48) = false := by simp; omega
              have d2 : decide (57 < (c.toNat : Int)) = true := by simp; omega
              have d4 : 57 < (c.toNat : Int) := by omega
              clear hd2
              go_wp2_with fail
              go_quiet (fail)
              go_wp2
              go_ret
              exact ⟨by rw [HN.out]; rfl, HB.out.trans ((below_drewN _ _).mono HB.out.size)⟩
        · have g1 : ((x.toNat : Int) == 48) = false := by simp; omega
          have g2 : ¬ (x.toNat : Int) = 48 := by omega
          have g3 : ((x.toNat : Int) != 48) = true := by simp; omega
          by_cases hcx : c.toNat = x.toNat
          · have e1 : ((c.toNat : Int) != (x.toNat : Int)) = false := by simp; omega
            have e2 : (c.toNat : Int) = (x.toNat : Int) := by omega
            have HS := hide (show likeB (s.drop (i + 1)) (q.drop (i + 1)) = likeB s q by rw [← HK.out, hst, if_neg h48, decide_eq_true hcx]; simp)
            obtain rfl : c = x := UInt8.toNat_inj.1 hcx
            clear hst h48 hcx e2 e1
            go_wp2_with fail
            go_quiet (fail)
            go_wp2
            exact ⟨⟨i + 1, by go_num, by omega, HS, HB.out.trans ((below_drewN _ _).mono HB.out.size)⟩, by simp [intOf]; omega⟩
          · have e1 : ((c.toNat : Int) != (x.toNat : Int)) = true := by simp; omega
            have e2 : ¬ (c.toNat : Int) = (x.toNat : Int) := by omega
            have HN := hide (show likeB s q = false by rw [← HK.out, hst, if_neg h48, decide_eq_false hcx]; simp)
            clear hst h48 hcx
            go_wp2_with fail
            go_quiet (fail)
            go_wp2
            go_ret
            exact ⟨by rw [HN.out]; rfl, HB.out.trans ((below_drewN _ _).mono HB.out.size)⟩
      · obtain rfl : i = s.length := by omega
        have HN : Hid (likeB s q = true) := by
          show _ = _
          rw [← HK.out, List.drop_length, List.drop_eq_nil_of_le (by omega)]
          rfl
        have hge : ¬ (s.length : Int) < s.length := by omega
        go_wp2
        go_ret
        exact ⟨by rw [HN.out]; rfl, HB.out⟩
  · have HN : Hid (likeB s q = false) := by
      show _ = _
      cases h : likeB s q with
      | true => exact absurd (likeB_len h) hlen
      | false => rfl
    have hne : ¬ (s.length : Int) = q.length := by omega
    go_enter Tryz.func59, Tryz.ntmps59
    go_wp2
    go_ret
    exact ⟨by rw [HN.out]; rfl, Below.refl _ _⟩
set_option maxRecDepth 20000 in
set_option maxHeartbeats 4000000 in
theorem value_any (s : List UInt8) (w : World) (hs : s.length ≤ 4) (hd : ∀ c ∈ s, isDig c = true) : Calls Tryz.prog 61 #[.string ⟨s.toArray⟩] w fun e w' => e = .returned (.int .i64 (valL s 0)) ∧ w' = w := by
  have HD := hide hd
  clear hd
  go_enter Tryz.func61, Tryz.ntmps61
  go_wp2
  go_loopw [3, 4] (fun v k wr => ∃ i : Nat, k = .int .i64 i ∧ i ≤ s.length ∧ v = .int .i64 (valL (s.take i) 0) ∧ wr = w) (fun _ k _ => s.length - (intOf k).toNat)
  case atStart => exact ⟨0, rfl, Nat.zero_le _, rfl, rfl⟩
  case round =>
    obtain ⟨i, rfl, hi, rfl, rfl⟩ := hrel
    have hv := valL_lt (s.take i) 0 (fun c hc => HD.out c (List.mem_of_mem_take hc))
    have hv4 : valL (s.take i) 0 < 10000 := by
      rw [List.length_take, Nat.min_eq_left hi] at hv
      have h10 : 10 ^ i ≤ 10 ^ 4 := Nat.pow_le_pow_right (by omega) (by omega)
      omega
    clear hv
    by_cases hlt : i < s.length
    · have hlt' : (i : Int) < s.length := by omega
      obtain ⟨c, hc, hcs⟩ := at_str s i hlt
      have hdc := HD.out c (by rw [← hc]; exact List.getElem_mem hlt)
      unfold isDig at hdc
      simp at hdc
      have HS : Hid (valL (s.take (i + 1)) 0 = 10 * valL (s.take i) 0 + (c.toNat - 48)) := by
        show _ = _
        rw [List.take_add_one, List.getElem?_eq_getElem hlt, hc, Option.toList_some, valL_snoc]
      generalize valL (s.take i) 0 = X at *
      have h48 : (48 : Int) ≤ c.toNat := by omega
      have h57 : (c.toNat : Int) ≤ 57 := by omega
      clear hc hdc
      go_wp2
      go_roundw
      case rel => exact ⟨i + 1, by go_num, by omega, by rw [HS.out]; go_num, by trivial⟩
      case measure => simp [intOf]; omega
    · obtain rfl : i = s.length := by omega
      have hge : ¬ (s.length : Int) < s.length := by omega
      rw [List.take_length]
      go_wp2
      go_ret
      exact ⟨rfl, rfl⟩
theorem ext_three (l : List UInt8) (i : Nat) : (⟨l.toArray⟩ : ByteArray).extract i (i + 3) = ⟨((l.drop i).take 3).toArray⟩ := by
  apply ByteArray.ext
  simp [ByteArray.data_extract, List.extract_eq_take_drop]
set_option maxRecDepth 20000 in
set_option maxHeartbeats 4000000 in
theorem place_any (names s : List UInt8) (K : Nat) (hK : names.length = 3 * K) (h12 : K ≤ 12) (w : World) : Calls Tryz.prog 58 #[.string ⟨s.toArray⟩, .string ⟨names.toArray⟩] w fun e w' => e = .returned (.int .i64 (findEq names s K 0)) ∧ w' = w := by
  have HK := hide hK
  have hn36 : names.length ≤ 36 := by omega
  clear hK
  go_enter Tryz.func58, Tryz.ntmps58
  go_wp2
  go_loopw [5] (fun v wr => ∃ i j : Nat, v = .int .i64 i ∧ i = 3 * j ∧ j ≤ K ∧ wr = w ∧ Hid (findEq names s (K - j) j = findEq names s K 0)) (fun v _ => names.length - (intOf v).toNat)
  case atStart => exact ⟨0, 0, rfl, rfl, Nat.zero_le _, rfl, rfl⟩
  case round =>
    obtain ⟨i, j, rfl, hij, hj, rfl, HF⟩ := hrel
    have HIJ := hide hij
    have hi36 : (i : Int) ≤ 36 := by omega
    have hlo : (i : Int) ≤ (i : Int) + 3 := by omega
    by_cases hlt : j < K
    · have hle : i + 3 ≤ names.length := by have := HK.out; omega
      have hle' : (i : Int) + 3 ≤ names.length := by omega
      have e1 := ext_three names i
      have hs : findEq names s (K - j) j = if s = nameT names j then (j : Int) else findEq names s (K - (j + 1)) (j + 1) := by
        rw [show K - j = (K - (j + 1)) + 1 by omega]
        rfl
      have hnt : nameT names j = (names.drop i).take 3 := by rw [hij]; rfl
      rw [hnt] at hs
      clear hnt hij
      generalize (names.drop i).take 3 = t at *
      by_cases he : s = t
      · have HN : Hid (findEq names s K 0 = j) := by
          show _ = _
          rw [← HF.out, hs, if_pos he]
        have HJ : Hid ((i : Int) / 3 = j) := by
          have := HIJ.out
          show _ = _
          omega
        have hi0 : (0 : Int) ≤ i := by omega
        subst he
        clear hs
        go_wp2
        go_ret
        exact ⟨by rw [HN.out, ← HJ.out]; rfl, rfl⟩
      · have HS : Hid (findEq names s (K - (j + 1)) (j + 1) = findEq names s K 0) := by
          show _ = _
          rw [← HF.out, hs, if_neg he]
        have he2 : ¬ s.toArray = t.toArray := fun h => he (by simpa using h)
        have he3 : (s == t) = false := by simpa using he
        clear hs
        go_wp2
        go_roundw
        case rel => exact ⟨i + 3, j + 1, by go_num, by have := HIJ.out; omega, by omega, by trivial, HS⟩
        case measure => simp [intOf]; omega
    · obtain rfl : j = K := by omega
      have hgt : ¬ (i : Int) + 3 ≤ names.length := by have := HK.out; omega
      clear hij
      have HN : Hid (findEq names s j 0 = -1) := by
        show _ = _
        rw [← HF.out, Nat.sub_self]
        rfl
      go_wp2
      go_ret
      exact ⟨by rw [HN.out]; rfl, rfl⟩
end Go.Proofs.YtcmhaihoeecjoaaGreatDoor.Da

end
section
namespace Go.Proofs.YtcmhaihoeecjoaaGreatDoor.Da
open Go.RowKit
/-- What made answers: the moment, and the error's number. -/
def madeV (y m d h mi s z : Int) : Value := if rightB y m d h mi s = true ∧ 0 ≤ mom y m d h mi s - z ∧ mom y m d h mi s - z ≤ 4102444799 then .tuple #[.int .i64 (mom y m d h mi s - z), .int .i64 0] else .tuple #[.int .i64 0, .int .i64 1]
set_option maxHeartbeats 2000000 in
theorem made_any (y m d h mi s wk z : Int) (w : World) (hz : -90000 ≤ z ∧ z ≤ 90000) : Calls Tryz.prog 62 #[.agg #[.int .i64 y, .int .i64 m, .int .i64 d, .int .i64 h, .int .i64 mi, .int .i64 s, .int .i64 wk], .int .i64 z] w fun e w' => e = .returned (madeV y m d h mi s z) ∧ Below w.heap.size w w' := by
  obtain ⟨hz1, hz2⟩ := hz
  unfold madeV
  cases hr : rightB y m d h mi s with
  | false =>
    rw [if_neg (by simp)]
    go_enter Tryz.func62, Tryz.ntmps62
    go_wp2_with fail
    refine (rright_any _ _ _ _ _ _ _ _).mono ?_
    rw [hr]
    rintro e w1 ⟨rfl, hb1⟩
    replace hb1 := hide hb1
    go_wp2
    go_ret2
    exact ⟨rfl, ((Below.refl _ _).alloc (Nat.le_refl _) _).trans (hb1.out.mono (by simp))⟩
  | true =>
    have hmb := mom_bound hr
    obtain ⟨T, hT⟩ : ∃ T, mom y m d h mi s = T := ⟨_, rfl⟩
    rw [hT] at hmb ⊢
    have HMY : Hid (∀ u : World, Calls Tryz.prog 94 #[.agg #[.int .i64 y, .int .i64 m, .int .i64 d, .int .i64 h, .int .i64 mi, .int .i64 s, .int .i64 wk]] u fun e w' => e = .returned (.int .i64 T) ∧ Below u.heap.size u w') := fun u => by
      have := rmoment_any y m d h mi s wk u hr
      rw [hT] at this
      exact this
    have HRT : Hid (∀ u : World, Calls Tryz.prog 93 #[.agg #[.int .i64 y, .int .i64 m, .int .i64 d, .int .i64 h, .int .i64 mi, .int .i64 s, .int .i64 wk]] u fun e w' => e = .returned (.bool true) ∧ Below u.heap.size u w') := fun u => by
      have := rright_any y m d h mi s wk u
      rw [hr] at this
      exact this
    clear hr hT
    by_cases hin : 0 ≤ T - z ∧ T - z ≤ 4102444799
    · rw [if_pos ⟨rfl, hin⟩]
      obtain ⟨hin1, hin2⟩ := hin
      have hn1 : ¬ T - z < 0 := by omega
      have hn2 : ¬ 4102444799 < T - z := by omega
      go_enter Tryz.func62, Tryz.ntmps62
      go_wp2_with fail
      refine (HRT.out _).mono ?_
      rintro e w1 ⟨rfl, hb1⟩
      have hk1 := (Blk.new w #[.int .i64 y, .int .i64 m, .int .i64 d, .int .i64 h, .int .i64 mi, .int .i64 s, .int .i64 wk] 81).below hb1 (by simp)
      have hc1 := hk1.cell
      have HB1 := hide (((Below.refl w.heap.size w).alloc (Nat.le_refl _) (.cells #[.int .i64 y, .int .i64 m, .int .i64 d, .int .i64 h, .int .i64 mi, .int .i64 s, .int .i64 wk] 81)).trans (hb1.mono (by simp)))
      clear hb1 hk1
      go_wp2_with fail
      refine (HMY.out _).mono ?_
      rintro e w2 ⟨rfl, hb2⟩
      have HB2 := hide (HB1.out.trans (hb2.mono HB1.out.size))
      clear hb2
      go_wp2
      go_ret2
      exact ⟨rfl, HB2.out⟩
    · rw [if_neg (fun h => hin h.2)]
      by_cases hlow : T - z < 0
      · go_enter Tryz.func62, Tryz.ntmps62
        go_wp2_with fail
        refine (HRT.out _).mono ?_
        rintro e w1 ⟨rfl, hb1⟩
        have hk1 := (Blk.new w #[.int .i64 y, .int .i64 m, .int .i64 d, .int .i64 h, .int .i64 mi, .int .i64 s, .int .i64 wk] 81).below hb1 (by simp)
        have hc1 := hk1.cell
        have HB1 := hide (((Below.refl w.heap.size w).alloc (Nat.le_refl _) (.cells #[.int .i64 y, .int .i64 m, .int .i64 d, .int .i64 h, .int .i64 mi, .int .i64 s, .int .i64 wk] 81)).trans (hb1.mono (by simp)))
        clear hb1 hk1
        go_wp2_with fail
        refine (HMY.out _).mono ?_
        rintro e w2 ⟨rfl, hb2⟩
        have HB2 := hide (HB1.out.trans (hb2.mono HB1.out.size))
        clear hb2
        go_wp2
        go_ret2
        exact ⟨rfl, HB2.out⟩
      · have hhi : 4102444799 < T - z := by omega
        go_enter Tryz.func62, Tryz.ntmps62
        go_wp2_with fail
        refine (HRT.out _).mono ?_
        rintro e w1 ⟨rfl, hb1⟩
        have hk1 := (Blk.new w #[.int .i64 y, .int .i64 m, .int .i64 d, .int .i64 h, .int .i64 mi, .int .i64 s, .int .i64 wk] 81).below hb1 (by simp)
        have hc1 := hk1.cell
        have HB1 := hide (((Below.refl w.heap.size w).alloc (Nat.le_refl _) (.cells #[.int .i64 y, .int .i64 m, .int .i64 d, .int .i64 h, .int .i64 mi, .int .i64 s, .int .i64 wk] 81)).trans (hb1.mono (by simp)))
        clear hb1 hk1
        go_wp2_with fail
        refine (HMY.out _).mono ?_
        rintro e w2 ⟨rfl, hb2⟩
        have HB2 := hide (HB1.out.trans (hb2.mono HB1.out.size))
        clear hb2
        go_wp2
        go_ret2
        exact ⟨rfl, HB2.out⟩
end Go.Proofs.YtcmhaihoeecjoaaGreatDoor.Da

end
