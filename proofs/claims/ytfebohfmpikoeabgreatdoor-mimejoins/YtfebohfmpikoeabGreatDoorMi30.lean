/- MimeJoins. -/
import Derived.Test.YtfebohfmpikoeabGreatDoorMiJ
import Derived.Test.YtfebohfmpikoeabGreatDoorMi17
import Derived.Deep.Cut
set_option linter.unusedSimpArgs false
set_option linter.unusedVariables false
namespace Go.Proofs.YtfebohfmpikoeabGreatDoor
open Go.RowKit Go.Shelf
theorem free_of {s : List UInt8} {i : Nat} (h : ∀ j, j < i → (s.drop j).take 6 ≠ zq) (hi : s.length < i + 6) : FreeJ s := by
  intro p r e
  have hl := congrArg List.length e
  simp only [List.length_append] at hl
  have hz : zq.length = 6 := rfl
  refine h p.length (by omega) ?_
  rw [e, List.drop_left' rfl, List.take_left' hz]
def HasOut (s : List UInt8) (w : World) (e : Ending) (w' : World) : Prop := ∃ b : Bool, e = .returned (.bool b) ∧ w' = w ∧ (b = false → FreeJ s)
set_option maxRecDepth 20000 in
set_option maxHeartbeats 1000000 in
theorem has_any (s : List UInt8) (w : World) (hs : s.length ≤ 1000) : Calls Tryz.prog 5 #[.string ⟨s.toArray⟩, .string ⟨#[122, 113, 122, 113, 122, 113]⟩] w (HasOut s w) := by
  have hsz := size_lit s
  go_enter Tryz.func5, Tryz.ntmps5
  go_wp2
  go_loopw [5] (fun v wr => ∃ i : Nat, v = .int .i64 i ∧ wr = w ∧ i ≤ s.length + 1 ∧ Hid (∀ j, j < i → (s.drop j).take 6 ≠ zq)) (fun v _ => s.length + 1 - (intOf v).toNat)
  case atStart => exact ⟨0, rfl, rfl, Nat.zero_le _, fun j hj => by omega⟩
  case round =>
    obtain ⟨i, rfl, rfl, hi, HN⟩ := hrel
    by_cases hlt : i + 6 ≤ s.length
    · have g1 : (i : Int) + 6 ≤ s.length := by omega
      have g2 : (i : Int) ≤ (i : Int) + 6 := by omega
      have eE : (⟨s.toArray⟩ : ByteArray).extract i (i + 6) = ⟨((s.drop i).take 6).toArray⟩ := by
        rw [ext_mid, show i + 6 - i = 6 by omega]
      by_cases hz : (s.drop i).take 6 = zq
      · rw [hz] at eE
        unfold zq at eE
        go_wp2
        go_ret
        exact ⟨true, rfl, rfl, fun h => by cases h⟩
      · have HN2 : Hid (∀ j, j < i + 1 → (s.drop j).take 6 ≠ zq) := fun j hj => by
          by_cases h : j = i
          · subst h
            exact hz
          · exact HN.out j (by omega)
        have hzb : ((s.drop i).take 6 == zq) = false := by rw [beq_eq_false_iff_ne]; exact hz
        unfold zq at hzb
        generalize (s.drop i).take 6 = T at *
        clear hz
        go_wp2
        go_roundw
        case rel => exact ⟨i + 1, by go_num, trivial, by omega, HN2⟩
        case measure => simp [intOf]; omega
    · have g1 : ¬ ((i : Int) + 6 ≤ s.length) := by omega
      have HF := hide (free_of HN.out (by omega))
      go_wp2
      go_ret
      exact ⟨false, rfl, rfl, fun _ => HF.out⟩
set_option maxRecDepth 20000 in
set_option maxHeartbeats 4000000 in
/-- All of the law. -/
theorem mimeJoins_walk (v0 : Value) (xs : List (List UInt8)) (cl : Bool) (w : World) (hx : TX w v0 xs) (ht : TabM w) (ea ef : Addr) (hE : EF w ea) (hF : EFm w ef) : Calls Tryz.prog 3 #[v0, .bool cl] w fun e w' => e = .returned (.bool true) ∧ Below w.heap.size w w' := by
  have HA := hide (alive10 w ea ef hE hF ht)
  have HX := hide hx
  obtain ⟨A, c, rfl, hr⟩ := hx
  have HP : Hid (∀ (m : List UInt8) W, m.length ≤ 1000000 → Below w.heap.size w W → Calls Tryz.prog 6 #[.string ⟨m.toArray⟩] W fun e w' => Below W.heap.size W w' ∧ ∃ v, e = .returned v ∧ PA 33 (fun g => W.heap.size ≤ g) w' v (parseP 32 m 0 m.length)) := fun m W hm hW => pparse_any m W ea ef (hE.below hW) (hF.below hW) hm
  have HRd := hide hr
  clear hE hF ht hr
  obtain ⟨n, hn⟩ : ∃ n, xs.length = n := ⟨_, rfl⟩
  have HN := hide hn
  rw [hn]
  clear hn
  by_cases h1 : 1 ≤ n ∧ n ≤ 30
  · have g1 : ¬ ((n : Int) < 1) := by omega
    have g2 : ¬ ((n : Int) > 30) := by omega
    have hn30 := h1.2
    have hn1 := h1.1
    go_enter Tryz.func3, Tryz.ntmps3
    go_wp2_with fail
    refine HA.out.mono ?_
    rintro e w1 ⟨rfl, hb1⟩
    have HB1 := hide hb1
    clear hb1 h1
    go_wp2
    clear g1 g2
    go_loopw [24, 5] (fun v24 v5 wr => wr = w1 ∧ ∃ (k : Nat) (M : List UInt8), v24 = .int .i64 k ∧ v5 = .string ⟨M.toArray⟩ ∧ k ≤ n ∧ Hid (M = (hl1 ++ crlf) ++ bodyJ (xs.take k)) ∧ Hid (∀ x ∈ xs.take k, FreeJ x ∧ x.length ≤ 1000)) (fun v24 _ _ => n - (intOf v24).toNat)
    case atStart => exact ⟨rfl, 0, hl1 ++ crlf, rfl, rfl, Nat.zero_le _, by show _ = _; simp [bodyJ], fun x hx => by simp at hx⟩
    case round =>
      obtain ⟨rfl, k, M, rfl, rfl, hk, HM, HF⟩ := hrel
      have hML : M.length ≤ 50 + 30 * 1014 := by
        rw [HM.out, List.length_append]
        have := body_len (xs.take k) (fun x hx => (HF.out x hx).2)
        rw [List.length_take, HN.out] at this
        have h5 : (hl1 ++ crlf).length = 50 := rfl
        have h6 : min k n * 1014 ≤ 30 * 1014 := Nat.mul_le_mul_right _ (by omega)
        omega
      have hsM := size_lit M
      by_cases hlt : k < n
      · have hlt' : (k : Int) < n := by omega
        have hkx : k < xs.length := by rw [HN.out]; exact hlt
        obtain ⟨g, o, rfl, hg, hc⟩ := HRd.out k hkx
        have hcx := (HB1.out.cell (p := ⟨g, o + k, none⟩) hg).trans hc
        have HTk := hide (List.take_succ_eq_append_getElem hkx)
        generalize xs[k] = x at *
        have hsx := size_lit x
        clear hc
        by_cases hxl : x.length ≤ 1000
        · have g3 : ¬ ((x.length : Int) > 1000) := by omega
          have HH := hide (has_any x wr hxl)
          go_wp2_with fail
          refine HH.out.mono ?_
          rintro e w2 ⟨b, rfl, rfl, hfr⟩
          have HFr := hide hfr
          clear hfr HH
          cases b with
          | true =>
            go_wp2
            go_ret
            exact ⟨rfl, HB1.out⟩
          | false =>
            have c1 : (⟨#[45, 45, 122, 113, 122, 113, 122, 113, 13, 10, 13, 10]⟩ : ByteArray) ++ ⟨x.toArray⟩ = ⟨([45, 45, 122, 113, 122, 113, 122, 113, 13, 10, 13, 10] ++ x).toArray⟩ := cat_lit [45, 45, 122, 113, 122, 113, 122, 113, 13, 10, 13, 10] x
            have hY1l : ([45, 45, 122, 113, 122, 113, 122, 113, 13, 10, 13, 10] ++ x).length = 12 + x.length := by rw [List.length_append]; rfl
            obtain ⟨Y1, hY1⟩ : ∃ Y1 : List UInt8, [45, 45, 122, 113, 122, 113, 122, 113, 13, 10, 13, 10] ++ x = Y1 := ⟨_, rfl⟩
            rw [hY1] at c1 hY1l
            have c2 : (⟨Y1.toArray⟩ : ByteArray) ++ ⟨#[13, 10]⟩ = ⟨(Y1 ++ [13, 10]).toArray⟩ := cat_lit Y1 [13, 10]
            have hY2l : (Y1 ++ [13, 10]).length = 14 + x.length := by rw [List.length_append, hY1l]; simp; omega
            obtain ⟨Y2, hY2⟩ : ∃ Y2 : List UInt8, Y1 ++ [13, 10] = Y2 := ⟨_, rfl⟩
            rw [hY2] at c2 hY2l
            have c3 : (⟨M.toArray⟩ : ByteArray) ++ ⟨Y2.toArray⟩ = ⟨(M ++ Y2).toArray⟩ := cat_lit M Y2
            obtain ⟨M2, hM2⟩ : ∃ M2 : List UInt8, M ++ Y2 = M2 := ⟨_, rfl⟩
            rw [hM2] at c3
            have hz1 := size_lit Y1
            have hz2 := size_lit Y2
            have b1 : Y1.length ≤ 2000 := by omega
            have b2 : Y2.length ≤ 2000 := by omega
            have HM3 : Hid (M2 = (hl1 ++ crlf) ++ bodyJ (xs.take (k + 1))) := by
              show _ = _
              rw [HTk.out, body_snoc, ← hM2, ← hY2, ← hY1, HM.out]
              simp [inJ, dlJ, crlf]
            have HF3 : Hid (∀ y ∈ xs.take (k + 1), FreeJ y ∧ y.length ≤ 1000) := fun y hy => by
              rw [HTk.out] at hy
              rcases List.mem_append.1 hy with h | h
              · exact HF.out y h
              · rw [List.mem_singleton.1 h]
                exact ⟨HFr.out rfl, hxl⟩
            clear hY1 hY2 hM2 hY1l hY2l
            go_wp2
            go_roundw
            case rel => exact ⟨trivial, k + 1, M2, by go_num, rfl, by omega, HM3, HF3⟩
            case measure => simp [intOf]; omega
        · have g3 : ((x.length : Int) > 1000) := by omega
          go_wp2
          go_ret
          exact ⟨rfl, HB1.out⟩
      · obtain rfl : n = k := by omega
        rw [List.take_of_length_le (by rw [HN.out]; exact Nat.le_refl _)] at HM HF
        have hmsg : msgJ cl xs = M ++ tailJ cl := by
          rw [HM.out]
          simp [msgJ]
        obtain ⟨m, hm⟩ : ∃ m, msgJ cl xs = m := ⟨_, rfl⟩
        have hml : m.length ≤ 100000 := by
          rw [← hm, hmsg, List.length_append]
          have : (tailJ cl).length ≤ 12 := by cases cl <;> decide
          omega
        have hPm := HP.out m wr (by omega) HB1.out
        obtain ⟨P, hP⟩ : ∃ P, parseP 32 m 0 m.length = P := ⟨_, rfl⟩
        obtain ⟨j1, j2, j3⟩ := joins_all cl xs (fun b hb => (HF.out b hb).1) (by intro e; have := HN.out; rw [e] at this; simp at this; omega) (by rw [HN.out]; exact hn30) m hm P hP
        rw [hP] at hPm
        have HPm := hide hPm
        have HJ3 := hide j3
        have hsm := size_lit m
        have HMm : Hid (m = M ++ tailJ cl) := by
          show _ = _
          rw [← hm, hmsg]
        have HP2 : Hid (P.h.sub = [109, 105, 120, 101, 100] ∧ P.kids.length = n) := ⟨j1, by rw [j2, HN.out]⟩
        clear hm hP hPm j1 j2 j3 hmsg HM HF HP
        have hcutM : 0 = 0 := rfl
        clear hcutM
        go_upto_if 41 with fail
        go_cut [5] from 41 (fun v5 wq => v5 = .string ⟨m.toArray⟩ ∧ wr = wq)
        case first =>
          cases cl with
          | true =>
            have c1 : (⟨M.toArray⟩ : ByteArray) ++ ⟨#[45, 45, 122, 113, 122, 113, 122, 113, 45, 45, 13, 10]⟩ = ⟨m.toArray⟩ := by
              rw [HMm.out]
              exact cat_lit M clJ
            go_wp2
            go_meet
            case rel => exact ⟨rfl, rfl⟩
          | false =>
            have e1 : m = M := by rw [HMm.out]; simp [tailJ]
            subst e1
            go_wp2
            go_meet
            case rel => exact ⟨rfl, rfl⟩
        case rest =>
          obtain ⟨rfl, rfl⟩ := hcut
          go_wp2_with fail
          refine HPm.out.mono ?_
          rintro e w2 ⟨hb2, v, rfl, hp⟩
          have HB2 := hide (HB1.out.trans (hb2.mono HB1.out.size))
          obtain ⟨Ap, cp, Ak, ck, rfl⟩ := hp.form
          obtain ⟨n1, hn1'⟩ : ∃ n, P.h.params.length = n := ⟨_, rfl⟩
          obtain ⟨H, hH⟩ : ∃ H, P.h = H := ⟨_, rfl⟩
          rw [hn1', HP2.out.2, hH] at hp
          rw [hn1', HP2.out.2, hH]
          have hsub : H.sub = [109, 105, 120, 101, 100] := by rw [← hH]; exact HP2.out.1
          have hAl := (Below.refl w2.heap.size w2).alloc (Nat.le_refl _) (.cells (phA H (.slice Ap n1 cp) (.slice Ak n ck)) 28)
          have HB3 := hide (HB2.out.trans (hAl.mono HB2.out.size))
          have HP3 := hide (hp.below hAl)
          have HKl : Hid (P.kids.length = n) := HP2.out.2
          have HK := hide (Blk.new w2 (phA H (.slice Ap n1 cp) (.slice Ak n ck)) 28)
          obtain ⟨W5, hW5⟩ : ∃ W5, w2.alloc (.cells (phA H (.slice Ap n1 cp) (.slice Ak n ck)) 28) = W5 := ⟨_, rfl⟩
          rw [hW5] at HB3 HP3 HK
          obtain ⟨d0, d1, d2, d3, d4, d5, d6, d7, d8, d9, d10⟩ := blk11 HK.out
          rw [hsub] at d1
          have HKd : Hid (∀ i (hi : i < P.kids.length), ∃ g o vs, Ak = some ⟨g, o, none⟩ ∧ g < W5.heap.size ∧ vs.size = 11 ∧ (∀ j, j < 11 → W5.cell? ⟨g, o + i * 11 + j, none⟩ = vs[j]?) ∧ PA 32 (fun g => wr.heap.size ≤ g) W5 (.agg vs) P.kids[i]) := fun i hi => by
            have h9 := HP3.out
            cases P with
            | mk ph ks =>
              obtain ⟨vp, A', c', e9, _, hk⟩ := h9
              obtain ⟨g, o, vs, e1, _, hg, hz, hc, hpa⟩ := hk i hi
              refine ⟨g, o, vs, ?_, hg, hz, hc, hpa⟩
              have := congrArg (fun v => match v with | .agg xs => xs[10]? | _ => none) e9
              simp [phA] at this
              rw [this.1]
              exact e1
          unfold phA at hW5
          rw [hsub] at hW5
          clear hp hAl hn1' hH hb2 HPm HP3
          unfold phA
          rw [hsub]
          clear hsub
          go_wp2
          clear d0 d1 d2 d3 d4 d5 d6 d7 d8 d9 d10 hW5
          go_loopw [60] (fun v60 wx => ∃ i : Nat, v60 = .int .i64 i ∧ i ≤ n ∧ Hid (Below W5.heap.size W5 wx)) (fun v60 _ => n - (intOf v60).toNat)
          case atStart => exact ⟨0, rfl, Nat.zero_le _, Below.refl _ _⟩
          case round =>
            obtain ⟨i, rfl, hin, HW⟩ := hrel
            have HBw := hide (HB3.out.trans (HW.out.mono HB3.out.size))
            by_cases hlt : i < n
            · have hlt' : (i : Int) < n := by omega
              have hik : i < P.kids.length := by rw [HKl.out]; exact hlt
              have hix : i < xs.length := by rw [HN.out]; exact hlt
              obtain ⟨g, o, vs, rfl, hgw, hvs, hcs, hpa⟩ := HKd.out i hik
              obtain ⟨x, y, k1, k2, k3, k4, k5, k6⟩ := HJ3.out i hix hik
              obtain ⟨gx, ox, rfl, hgx, hcx⟩ := HRd.out i hix
              generalize P.kids[i] = kid at *
              rw [HN.out] at k6
              generalize xs[i] = b at *
              obtain ⟨A1, q1, A2, q2, hvs2⟩ := hpa.form
              injection hvs2 with hvs2
              subst hvs2
              obtain ⟨m1, hm1⟩ : ∃ n, kid.h.params.length = n := ⟨_, rfl⟩
              obtain ⟨m2, hm2⟩ : ∃ n, kid.kids.length = n := ⟨_, rfl⟩
              rw [hm1, hm2] at hcs
              obtain ⟨H2, hH2⟩ : ∃ H, kid.h = H := ⟨_, rfl⟩
              rw [hH2] at hcs k1 k2 k3
              obtain ⟨c0, c1, c2, c3, c4, c5, c6, c7, c8, c9, c10⟩ := row11 (fun j hj => (HW.out.cell (p := ⟨g, o + i * 11 + j, none⟩) hgw).trans (hcs j hj))
              rw [k1] at c0
              rw [k2] at c7
              rw [k3] at c8
              unfold tText at c0
              have cb := (HBw.out.cell (p := ⟨gx, ox + i, none⟩) hgx).trans hcx
              have hK3 := Blk.new wr (phA H2 (.slice A1 m1 q1) (.slice A2 m2 q2)) 28
              have hAl := (Below.refl wr.heap.size wr).alloc (Nat.le_refl _) (.cells (phA H2 (.slice A1 m1 q1) (.slice A2 m2 q2)) 28)
              have cb5 := (hAl.cell (p := ⟨gx, ox + i, none⟩) (by have := HBw.out.size; show gx < _; omega)).trans cb
              have HAl := hide (HW.out.trans (hAl.mono HW.out.size))
              have eE : (⟨m.toArray⟩ : ByteArray).extract x y = ⟨(seg m x y).toArray⟩ := ext_mid m x y
              have hxy : (x : Int) ≤ y := by omega
              have hym : (y : Int) ≤ m.length := by omega
              obtain ⟨T, hT⟩ : ∃ T, seg m x y = T := ⟨_, rfl⟩
              have hTl : T.length ≤ 100000 := by rw [← hT, seg_len m x y k5]; omega
              rw [hT] at eE k6
              obtain ⟨W6, hW6⟩ : ∃ W6, wr.alloc (.cells (phA H2 (.slice A1 m1 q1) (.slice A2 m2 q2)) 28) = W6 := ⟨_, rfl⟩
              rw [hW6] at cb5 HAl hK3
              obtain ⟨d0, d1, d2, d3, d4, d5, d6, d7, d8, d9, d10⟩ := blk11 hK3
              rw [k1] at d0
              rw [k2] at d7
              rw [k3] at d8
              unfold tText at d0
              unfold phA at hW6
              rw [k1, k2, k3] at hW6
              unfold tText at hW6
              have hsT := size_lit T
              have HK6 := hide k6
              clear hcs hpa hvs hm1 hm2 hH2 hAl hK3 hcx cb hT k1 k2 k3 k6 HKd HJ3 HP2 HMm
              cases cl with
              | true =>
                have e1 : T = b := by rw [HK6.out, if_neg (by simp), List.append_nil]
                subst e1
                go_wp2
                go_roundw
                case rel => exact ⟨i + 1, by go_num, by omega, HAl⟩
                case measure => simp [intOf]; omega
              | false =>
                by_cases hla : i + 1 = n
                · have e1 : T = b ++ [13, 10] := by rw [HK6.out, if_pos ⟨hla, rfl⟩]; rfl
                  have hTl2 : T.length = b.length + 2 := by rw [e1, List.length_append]; rfl
                  have eT : (⟨T.toArray⟩ : ByteArray).extract 0 b.length = ⟨b.toArray⟩ := by rw [ext_take, e1, List.take_left' rfl]
                  have q : ((i : Int) == (n : Int) - 1) = true := by rw [beq_iff_eq]; omega
                  obtain ⟨bl, hbl⟩ : ∃ bl, b.length = bl := ⟨_, rfl⟩
                  rw [hTl2, hbl] at hsT
                  rw [hbl] at eT
                  have hblt : bl ≤ 100000 := by omega
                  have hb2 : ((bl : Int) + 2 - 2) = bl := by omega
                  clear e1 hTl2 hbl hla hTl
                  go_wp2
                  go_roundw
                  case rel => exact ⟨i + 1, by go_num, by omega, HAl⟩
                  case measure => simp [intOf]; omega
                · have e1 : T = b := by rw [HK6.out, if_neg (fun h => hla h.1), List.append_nil]
                  subst e1
                  have q : ((i : Int) == (n : Int) - 1) = false := by rw [beq_eq_false_iff_ne]; omega
                  clear hla
                  go_wp2
                  go_roundw
                  case rel => exact ⟨i + 1, by go_num, by omega, HAl⟩
                  case measure => simp [intOf]; omega
            · obtain rfl : n = i := by omega
              go_wp2
              go_ret
              exact ⟨rfl, HBw.out⟩
  · by_cases h0 : n < 1
    · have g1 : ((n : Int) < 1) := by omega
      go_enter Tryz.func3, Tryz.ntmps3
      go_wp2_with fail
      refine HA.out.mono ?_
      rintro e w1 ⟨rfl, hb1⟩
      have HB1 := hide hb1
      clear hb1
      go_wp2
      go_ret
      exact ⟨rfl, HB1.out⟩
    · have g1 : ¬ ((n : Int) < 1) := by omega
      have g2 : ((n : Int) > 30) := by omega
      go_enter Tryz.func3, Tryz.ntmps3
      go_wp2_with fail
      refine HA.out.mono ?_
      rintro e w1 ⟨rfl, hb1⟩
      have HB1 := hide hb1
      clear hb1
      go_wp2
      go_ret
      exact ⟨rfl, HB1.out⟩
end Go.Proofs.YtfebohfmpikoeabGreatDoor
