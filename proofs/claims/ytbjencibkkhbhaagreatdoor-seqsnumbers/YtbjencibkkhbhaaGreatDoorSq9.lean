/- The document's Text of layer 14, of any ranges. -/
import Derived.Test.YtbjencibkkhbhaaGreatDoorSq8
import Derived.Deep.CutBlock
import Derived.Deep.CutRange
set_option linter.unusedSimpArgs false
set_option linter.unusedVariables false
namespace Go.Proofs.YtbjencibkkhbhaaGreatDoor
open Go.RowKit Go.Shelf
def txV (o : Option (List UInt8)) : Ending := .returned (.tuple #[.string ⟨(o.getD []).toArray⟩, .bool o.isSome])
/-- One end is put behind a text: a star, or its digits. -/
theorem end_digits {n : Nat} (h0 : n ≠ 0) : sqT1 n = Lib.decDigits n := by unfold sqT1; rw [if_neg h0]
set_option maxRecDepth 20000 in
set_option maxHeartbeats 4000000 in
theorem rtext14_any {w : World} {v : Value} {rs : List (Int × Int)} (hv : RA w v rs) (hl : rs.length ≤ 1000) : Calls Tryz.prog 15 #[v] w fun e w' => e = txV (txO rs) ∧ Below w.heap.size w w' := by
  have HX := hide hv
  obtain ⟨A, c, rfl, _⟩ := hv
  have HBd : Hid (∀ k (hk : k < rs.length), rgOk rs[k] = false → txV (txO rs) = .returned (.tuple #[.string ⟨#[]⟩, .bool false])) := fun k hk h => by
    have : ¬ (rs.all rgOk = true ∧ 1 ≤ rs.length ∧ rs.length ≤ 50) := fun h2 => by
      have := List.all_eq_true.1 h2.1 rs[k] (List.getElem_mem hk)
      rw [h] at this
      cases this
    unfold txO
    rw [if_neg this]
    rfl
  have HBl : Hid (¬ (1 ≤ rs.length ∧ rs.length ≤ 50) → txV (txO rs) = .returned (.tuple #[.string ⟨#[]⟩, .bool false])) := fun h => by
    unfold txO
    rw [if_neg (fun h2 => h h2.2)]
    rfl
  have HYe : Hid (rs.all rgOk = true → 1 ≤ rs.length → rs.length ≤ 50 → txV (txO rs) = .returned (.tuple #[.string ⟨(sqT (rs.map ratN)).toArray⟩, .bool true])) := fun h1 h2 h3 => by
    unfold txO
    rw [if_pos ⟨h1, h2, h3⟩]
    rfl
  generalize txV (txO rs) = OUT at *
  go_enter Tryz.func15, Tryz.ntmps15
  go_wp2
  go_loopw [4, 11] (fun v4 v11 wr => ∃ (i : Nat) (T : List UInt8), v11 = .int .i64 i ∧ i ≤ rs.length ∧ v4 = .string ⟨T.toArray⟩ ∧ T.length ≤ 22 * i ∧ Hid (T = sqT ((rs.map ratN).take i)) ∧ Hid ((rs.take i).all rgOk = true) ∧ Hid (Below w.heap.size w wr)) (fun _ v11 _ => rs.length - (intOf v11).toNat)
  case atStart => exact ⟨0, [], rfl, Nat.zero_le _, rfl, Nat.le_refl _, rfl, rfl, Below.refl _ _⟩
  case round =>
    obtain ⟨i, T, rfl, hi, rfl, hTl, HT, Hok, HB⟩ := hrel
    by_cases hlt : i < rs.length
    · have hlt' : (i : Int) < rs.length := by omega
      obtain ⟨A', c', e', hcs⟩ := HX.out.below HB.out
      cases e'
      obtain ⟨g, o, rfl, hgl, q0, q1⟩ := hcs i hlt
      have HBi := hide (HBd.out i hlt)
      have HNx : Hid (sqT ((rs.map ratN).take (i + 1)) = (if i = 0 then [] else T ++ [44]) ++ sqTI (ratN rs[i])) := by
        have h := sqT_next (rs := rs.map ratN) (i := i) (by rw [List.length_map]; exact hlt)
        rw [List.getElem_map, ← HT.out] at h
        exact h
      have HOk2 : Hid (rgOk rs[i] = true → (rs.take (i + 1)).all rgOk = true) := fun h => by
        rw [List.take_succ_eq_append_getElem hlt, List.all_append, Hok.out]
        simp [h]
      clear hcs HT Hok
      generalize rs[i] = r at *
      obtain ⟨x, y⟩ := r
      dsimp only at *
      have HBb : Hid (Below w.heap.size w (wr.alloc (.cells #[.int .i64 x, .int .i64 y] 53))) := HB.out.alloc HB.out.size _
      by_cases b1 : x < 0
      · have HE := hide (HBi.out (by unfold rgOk; rw [decide_eq_false (by simpa using b1)]; rfl))
        go_wp2
        go_ret2
        exact ⟨by rw [HE.out]; rfl, HBb.out⟩
      by_cases b2 : y < 0
      · have HE := hide (HBi.out (by unfold rgOk; rw [decide_eq_false (p := 0 ≤ (x, y).2) (by simpa using b2)]; simp))
        go_wp2
        go_ret2
        exact ⟨by rw [HE.out]; rfl, HBb.out⟩
      by_cases b3 : 2147483648 < x
      · have HE := hide (HBi.out (by unfold rgOk; rw [decide_eq_false (p := (x, y).1 ≤ 2147483648) (by simpa using b3)]; simp))
        go_wp2
        go_ret2
        exact ⟨by rw [HE.out]; rfl, HBb.out⟩
      by_cases b4 : 2147483648 < y
      · have HE := hide (HBi.out (by unfold rgOk; rw [decide_eq_false (p := (x, y).2 ≤ 2147483648) (by simpa using b4)]; simp))
        go_wp2
        go_ret2
        exact ⟨by rw [HE.out]; rfl, HBb.out⟩
      have HOk3 := hide (HOk2.out (by unfold rgOk; simp; omega))
      clear HOk2 HBi
      obtain ⟨xn, hxn⟩ := Int.eq_ofNat_of_zero_le (by omega : 0 ≤ x)
      obtain ⟨yn, hyn⟩ := Int.eq_ofNat_of_zero_le (by omega : 0 ≤ y)
      subst hxn
      subst hyn
      have hxb : xn ≤ 2147483648 := by omega
      have hyb : yn ≤ 2147483648 := by omega
      have hra : ratN ((xn : Int), (yn : Int)) = (xn, yn) := by simp [ratN]
      rw [hra] at HNx
      clear hra
      obtain ⟨S0, hS0⟩ : ∃ S0, (if i = 0 then [] else T ++ [44]) = S0 := ⟨_, rfl⟩
      rw [hS0] at HNx
      have hS0l : S0.length ≤ 22 * i + 1 := by rw [← hS0]; split <;> simp <;> omega
      have HS0 := hide hS0
      clear hS0
      obtain ⟨W1, HW1⟩ : ∃ W1, Hid (wr.alloc (.cells #[.int .i64 (xn : Int), .int .i64 (yn : Int)] 53) = W1) := ⟨_, hide rfl⟩
      have k0 : W1.cell? ⟨wr.heap.size, 0, none⟩ = some (.int .i64 (xn : Int)) := by rw [← HW1.out]; exact (Blk.new wr _ _).cell 0
      have k1 : W1.cell? ⟨wr.heap.size, 1, none⟩ = some (.int .i64 (yn : Int)) := by rw [← HW1.out]; exact (Blk.new wr _ _).cell 1
      have kl : wr.heap.size < W1.heap.size := by rw [← HW1.out]; simp
      rw [HW1.out] at HBb
      have HD : Hid (∀ (n : Nat) (W : World), n ≤ 2147483648 → Calls Tryz.prog 33 #[.int .i64 (n : Int)] W fun e w' => e = .returned (.string ⟨(Lib.decDigits n).toArray⟩) ∧ Below W.heap.size W w') := fun n W hn => rdigits14 n W (by omega)
      go_upto_if 35 with fail
      rw [HW1.out]
      go_cut [4] from 12 to 71 (fun v4 wx => v4 = .string ⟨S0.toArray⟩ ∧ W1 = wx)
      case first =>
        by_cases h0 : i = 0
        · have e := HS0.out
          rw [if_pos h0] at e
          have hT0 : T = [] := List.length_eq_zero_iff.1 (by omega)
          subst h0
          subst hT0
          have He := hide e
          clear e
          go_wp2
          go_meet
          case rel => exact ⟨by rw [← He.out], rfl⟩
        · have e := HS0.out
          rw [if_neg h0] at e
          have hpos : (0 : Int) < i := by omega
          have ec : (⟨T.toArray⟩ : ByteArray) ++ ⟨#[44]⟩ = ⟨S0.toArray⟩ := by rw [← e]; exact cat_lit T [44]
          have hz := size_lit T
          have hbx : T.length + 1 ≤ 9223372036854775807 := by omega
          clear e
          go_wp2
          go_meet
          case rel => exact ⟨rfl, rfl⟩
      case rest =>
        obtain ⟨rfl, hw1⟩ := hcut
        subst hw1
        obtain ⟨W2, HW2⟩ : ∃ W2, Hid (W1.alloc (.cells #[.int .i64 (xn : Int), .int .i64 (yn : Int)] 3) = W2) := ⟨_, hide rfl⟩
        have HB2 : Hid (Below W1.heap.size W1 W2) := by show Below _ _ _; rw [← HW2.out]; exact (Below.refl _ _).alloc (Nat.le_refl _) _
        have HK : Hid (∀ W, Below W2.heap.size W2 W → (W.cell? ⟨wr.heap.size, 0, none⟩ = some (.int .i64 (xn : Int)) ∧ W.cell? ⟨wr.heap.size, 1, none⟩ = some (.int .i64 (yn : Int))) ∧ W.cell? ⟨W1.heap.size, 0, none⟩ = some (.int .i64 (xn : Int)) ∧ W.cell? ⟨W1.heap.size, 1, none⟩ = some (.int .i64 (yn : Int))) := fun W hW => by
          have hs2 := HB2.out.size
          have n0 : W2.cell? ⟨W1.heap.size, 0, none⟩ = some (.int .i64 (xn : Int)) := by rw [← HW2.out]; exact (Blk.new W1 _ _).cell 0
          have n1 : W2.cell? ⟨W1.heap.size, 1, none⟩ = some (.int .i64 (yn : Int)) := by rw [← HW2.out]; exact (Blk.new W1 _ _).cell 1
          have nl : W1.heap.size < W2.heap.size := by rw [← HW2.out]; simp
          refine ⟨⟨?_, ?_⟩, ?_, ?_⟩
          · exact (hW.cell (p := ⟨wr.heap.size, 0, none⟩) (show wr.heap.size < _ by omega)).trans ((HB2.out.cell (p := ⟨wr.heap.size, 0, none⟩) kl).trans k0)
          · exact (hW.cell (p := ⟨wr.heap.size, 1, none⟩) (show wr.heap.size < _ by omega)).trans ((HB2.out.cell (p := ⟨wr.heap.size, 1, none⟩) kl).trans k1)
          · exact (hW.cell (p := ⟨W1.heap.size, 0, none⟩) nl).trans n0
          · exact (hW.cell (p := ⟨W1.heap.size, 1, none⟩) nl).trans n1
        have lx := sqT1_len hxb
        have ly := sqT1_len hyb
        obtain ⟨U1, HU1⟩ : ∃ U1, Hid (U1 = S0 ++ sqTI (xn, yn)) := ⟨_, hide rfl⟩
        have hU1l : U1.length ≤ 22 * i + 22 := by
          rw [HU1.out, List.length_append]
          have : (sqTI (xn, yn)).length ≤ 21 := by unfold sqTI; split <;> simp <;> omega
          omega
        go_upto_block 2 with fail
        rw [HW2.out]
        have HUn : Hid (U1 = sqT ((rs.map ratN).take (i + 1))) := by show _ = _; rw [HNx.out, HU1.out]
        clear k0 k1 kl
        go_wp2
        go_loopw [4, 44] (fun v4 v44 wx => ∃ (k : Nat) (U : List UInt8), v44 = .int .i64 k ∧ v4 = .string ⟨U.toArray⟩ ∧ Hid ((k = 0 ∧ U = S0) ∨ (k = 1 ∧ U = S0 ++ sqT1 xn) ∨ (k = 2 ∧ xn ≠ yn ∧ U = S0 ++ (sqT1 xn ++ 58 :: sqT1 yn))) ∧ Hid (Below W2.heap.size W2 wx)) (fun _ v44 _ => 2 - (intOf v44).toNat)
        case atStart => exact ⟨0, S0, rfl, rfl, .inl ⟨rfl, rfl⟩, Below.refl _ _⟩
        case round =>
          obtain ⟨k, U, rfl, rfl, HU, HBx⟩ := hrel
          obtain ⟨⟨k0, k1⟩, m0, m1⟩ := HK.out _ HBx.out
          have hz0 := size_lit S0
          have HDx := hide (HD.out xn)
          have HDy := hide (HD.out yn)
          rcases HU.out with ⟨rfl, hU⟩ | ⟨rfl, hU⟩ | ⟨rfl, hne, hU⟩
          · subst hU
            by_cases x0 : xn = 0
            · subst x0
              have ec : (⟨U.toArray⟩ : ByteArray) ++ ⟨#[42]⟩ = ⟨(U ++ [42]).toArray⟩ := cat_lit U [42]
              have hbx : U.length + 1 ≤ 9223372036854775807 := by omega
              go_wp2_with fail
              go_roundw
              case rel => exact ⟨1, U ++ [42], by go_num, rfl, .inr (.inl ⟨rfl, rfl⟩), HBx.out⟩
              case measure => simp [intOf]
            · have x0b : ((xn : Int) == 0) = false := beq_eq_false_iff_ne.2 (by omega)
              have x0n : ¬ (xn : Int) = 0 := by omega
              have HT1 := hide (end_digits x0)
              have dl : (Lib.decDigits xn).length ≤ 10 := sq_len hxb
              obtain ⟨D, hD⟩ : ∃ D, Lib.decDigits xn = D := ⟨_, rfl⟩
              rw [hD] at HDx HT1 dl
              clear hD x0
              have ec : (⟨U.toArray⟩ : ByteArray) ++ ⟨D.toArray⟩ = ⟨(U ++ D).toArray⟩ := cat_lit U D
              have hzD := size_lit D
              have hbx : U.length + D.length ≤ 9223372036854775807 := by omega
              go_wp2_with (go_at_call 33; refine (HDx.out _ hxb).mono ?_; rintro e w3 ⟨rfl, hb3⟩; replace hb3 := hide hb3)
              go_roundw
              case rel => exact ⟨1, U ++ D, by go_num, rfl, .inr (.inl ⟨rfl, by rw [HT1.out]⟩), HBx.out.trans (hb3.out.mono HBx.out.size)⟩
              case measure => simp [intOf]
          · by_cases hxy : xn = yn
            · subst hxy
              have HE : Hid (U = U1) := by show _ = _; rw [HU1.out, hU]; unfold sqTI; rw [if_pos rfl]
              clear hU
              go_wp2_with fail
              have hb12 := HB2.out.trans (HBx.out.mono HB2.out.size)
              have HBn := hide (HBb.out.trans (hb12.mono HBb.out.size))
              go_roundw
              case rel => exact ⟨i + 1, U, by go_num, by omega, rfl, by rw [HE.out]; omega, by rw [HE.out]; exact HUn.out, HOk3.out, HBn.out⟩
              case measure => simp [intOf] <;> omega
            · have hxb2 : ((xn : Int) == (yn : Int)) = false := beq_eq_false_iff_ne.2 (by omega)
              have hxn2 : ¬ (xn : Int) = (yn : Int) := by omega
              have hUl : U.length ≤ 22 * i + 11 := by rw [hU, List.length_append]; omega
              have HUe := hide hU
              have hzU := size_lit U
              clear hU
              obtain ⟨V, hV⟩ : ∃ V, U ++ [58] = V := ⟨_, rfl⟩
              have ec1 : (⟨U.toArray⟩ : ByteArray) ++ ⟨#[58]⟩ = ⟨V.toArray⟩ := by rw [← hV]; exact cat_lit U [58]
              have hVl : V.length ≤ 22 * i + 12 := by rw [← hV]; simp; omega
              have hbx1 : U.length + 1 ≤ 9223372036854775807 := by omega
              have hzV := size_lit V
              have HVe := hide hV
              clear hV
              by_cases y0 : yn = 0
              · subst y0
                have ec : (⟨V.toArray⟩ : ByteArray) ++ ⟨#[42]⟩ = ⟨(V ++ [42]).toArray⟩ := cat_lit V [42]
                have hbx : V.length + 1 ≤ 9223372036854775807 := by omega
                go_wp2_with fail
                go_roundw
                case rel => exact ⟨2, V ++ [42], by go_num, rfl, .inr (.inr ⟨rfl, hxy, by rw [← HVe.out, HUe.out]; simp [sqT1]⟩), HBx.out⟩
                case measure => simp [intOf]
              · have y0b : ((yn : Int) == 0) = false := beq_eq_false_iff_ne.2 (by omega)
                have y0n : ¬ (yn : Int) = 0 := by omega
                have HT1 := hide (end_digits y0)
                have dl : (Lib.decDigits yn).length ≤ 10 := sq_len hyb
                obtain ⟨D, hD⟩ : ∃ D, Lib.decDigits yn = D := ⟨_, rfl⟩
                rw [hD] at HDy HT1 dl
                clear hD y0
                have ec : (⟨V.toArray⟩ : ByteArray) ++ ⟨D.toArray⟩ = ⟨(V ++ D).toArray⟩ := cat_lit V D
                have hzD := size_lit D
                have hbx : V.length + D.length ≤ 9223372036854775807 := by omega
                go_wp2_with (go_at_call 33; refine (HDy.out _ hyb).mono ?_; rintro e w3 ⟨rfl, hb3⟩; replace hb3 := hide hb3)
                go_roundw
                case rel => exact ⟨2, V ++ D, by go_num, rfl, .inr (.inr ⟨rfl, hxy, by rw [← HVe.out, HUe.out, HT1.out]; simp⟩), HBx.out.trans (hb3.out.mono HBx.out.size)⟩
                case measure => simp [intOf]
          · have HE : Hid (U = U1) := by show _ = _; rw [HU1.out, hU]; unfold sqTI; rw [if_neg hne]
            clear hU hne
            go_wp2_with fail
            have hb12 := HB2.out.trans (HBx.out.mono HB2.out.size)
            have HBn := hide (HBb.out.trans (hb12.mono HBb.out.size))
            go_roundw
            case rel => exact ⟨i + 1, U, by go_num, by omega, rfl, by rw [HE.out]; omega, by rw [HE.out]; exact HUn.out, HOk3.out, HBn.out⟩
            case measure => simp [intOf] <;> omega
    · obtain rfl : i = rs.length := by omega
      have hok := Hok.out
      have hT := HT.out
      rw [List.take_length] at hok
      rw [show rs.length = (rs.map ratN).length from (List.length_map ..).symm, List.take_length] at hT
      by_cases c1 : rs.length < 1
      · have c1' : (rs.length : Int) < 1 := by omega
        have HE := hide (HBl.out (by omega))
        clear hok hT
        go_wp2
        go_ret2
        exact ⟨by rw [HE.out]; rfl, HB.out⟩
      · have c1' : ¬ (rs.length : Int) < 1 := by omega
        by_cases c2 : 50 < rs.length
        · have c2' : (50 : Int) < rs.length := by omega
          have HE := hide (HBl.out (by omega))
          clear hok hT
          go_wp2
          go_ret2
          exact ⟨by rw [HE.out]; rfl, HB.out⟩
        · have c2' : ¬ (50 : Int) < rs.length := by omega
          have HE := hide (HYe.out hok (by omega) (by omega))
          rw [← hT] at HE
          clear hok hT
          go_wp2
          go_ret2
          exact ⟨by rw [HE.out]; rfl, HB.out⟩
end Go.Proofs.YtbjencibkkhbhaaGreatDoor
