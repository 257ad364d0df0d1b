/- The document's Flags of layer 14, of any text. -/
import Derived.Test.YtbjencibkkhbhaaGreatDoorSq4
import Derived.Deep.CutBlock
set_option linter.unusedSimpArgs false
set_option linter.unusedVariables false
namespace Go.Proofs.YtbjencibkkhbhaaGreatDoor
open Go.RowKit Go.Shelf
set_option maxRecDepth 20000 in
set_option maxHeartbeats 4000000 in
theorem rflags_any (s : List UInt8) (w : World) (hs : s.length ≤ 1000000) : Calls Tryz.prog 22 #[.string ⟨s.toArray⟩] w fun e w' => e = flV (flO s) ∧ Below w.heap.size w w' := by
  have hsz := size_lit s
  have HNo : Hid (s.length < 2 ∨ s.head? ≠ some 40 ∨ s.getLast? ≠ some 41 → flV (flO s) = .returned (.tuple #[.int .i64 0, .bool false])) := fun h => by
    unfold flO
    rw [if_pos h]
    rfl
  by_cases h1 : s.length < 2
  · have h1' : (s.length : Int) < 2 := by omega
    have HV := hide (HNo.out (.inl h1))
    go_enter Tryz.func22, Tryz.ntmps22
    go_wp2
    go_ret2
    exact ⟨by rw [HV.out]; rfl, Below.refl _ _⟩
  have h1' : ¬ (s.length : Int) < 2 := by omega
  obtain ⟨L, HL⟩ : ∃ L, Hid (s.length = L + 1) := ⟨s.length - 1, by show _ = _; omega⟩
  have hL1 : (s.length : Int) - 1 = L := by have := HL.out; omega
  have hLs : L < s.length := by have := HL.out; omega
  have hLs' : (L : Int) < s.length := by omega
  have h0s : 0 < s.length := by omega
  have h0s' : (0 : Int) < s.length := by omega
  obtain ⟨d0, hd0, hat0⟩ : ∃ c, s[0] = c ∧ ∀ h : 0 < (⟨s.toArray⟩ : ByteArray).size, (⟨s.toArray⟩ : ByteArray)[0]'h = c := ⟨_, rfl, fun _ => rfl⟩
  obtain ⟨dl, hdl, hatl⟩ : ∃ c, s[L] = c ∧ ∀ h : L < (⟨s.toArray⟩ : ByteArray).size, (⟨s.toArray⟩ : ByteArray)[L]'h = c := ⟨_, rfl, fun _ => rfl⟩
  have hh : s.head? = some d0 := by rw [List.head?_eq_getElem?, List.getElem?_eq_getElem h0s, hd0]
  have hla : s.getLast? = some dl := by
    have := HL.out
    rw [List.getLast?_eq_getElem?, show s.length - 1 = L from by omega, List.getElem?_eq_getElem hLs, hdl]
  clear hd0 hdl
  by_cases k0 : d0 = 40
  case neg =>
    have b0 : ((d0.toNat : Int) == 40) = false := beq_eq_false_iff_ne.2 (u8_num d0 40 (by omega) k0)
    have b0n : ((d0.toNat : Int) != 40) = true := by simp [bne, b0]
    have HV := hide (HNo.out (.inr (.inl (by rw [hh]; intro e; exact k0 (Option.some.inj e)))))
    clear hh hla
    go_enter Tryz.func22, Tryz.ntmps22
    go_wp2
    go_ret2
    exact ⟨by rw [HV.out]; rfl, Below.refl _ _⟩
  subst k0
  by_cases kl : dl = 41
  case neg =>
    have bl : ((dl.toNat : Int) == 41) = false := beq_eq_false_iff_ne.2 (u8_num dl 41 (by omega) kl)
    have bln : ((dl.toNat : Int) != 41) = true := by simp [bne, bl]
    have HV := hide (HNo.out (.inr (.inr (by rw [hla]; intro e; exact kl (Option.some.inj e)))))
    clear hh hla
    go_enter Tryz.func22, Tryz.ntmps22
    go_wp2
    go_ret2
    exact ⟨by rw [HV.out]; rfl, Below.refl _ _⟩
  subst kl
  have HYe : Hid (flO s = if s.length = 2 then some 0 else flF 0 (spc 32 ((s.drop 1).take (s.length - 2)))) := by
    show _ = _
    have hno : ¬ (s.length < 2 ∨ s.head? ≠ some 40 ∨ s.getLast? ≠ some 41) := by rw [hh, hla]; simp; omega
    unfold flO
    rw [if_neg hno]
  clear HNo hh hla
  by_cases h2 : s.length = 2
  · have HV : Hid (flV (flO s) = .returned (.tuple #[.int .i64 0, .bool true])) := by
      show _ = _
      rw [HYe.out, if_pos h2]
      rfl
    have h2' : ((s.length : Int) == 2) = true := beq_iff_eq.2 (by omega)
    have h2x : (s.length : Int) = 2 := by omega
    obtain rfl : L = 1 := by have := HL.out; omega
    clear h2
    go_enter Tryz.func22, Tryz.ntmps22
    go_wp2
    go_ret2
    exact ⟨by rw [HV.out]; rfl, Below.refl _ _⟩
  have h2' : ((s.length : Int) == 2) = false := beq_eq_false_iff_ne.2 (by omega)
  have h2x : ¬ (s.length : Int) = 2 := by omega
  have HY2 : Hid (flO s = flF 0 (spc 32 ((s.drop 1).take (s.length - 2)))) := by show _ = _; rw [HYe.out, if_neg h2]
  have hsl : ∀ w0, (Instr.slice 9 (.string ⟨s.toArray⟩) (some (.int .i64 1)) (some (.int .i64 (L : Int))) none).run Tryz.prog w0 = .ok (.string ⟨((s.drop 1).take (s.length - 2)).toArray⟩) w0 := fun w0 => by
    have h := slice_sq s 1 L (by have := HL.out; omega) (by omega) w0
    rw [show L - 1 = s.length - 2 from by have := HL.out; omega] at h
    exact h
  have hml : ((s.drop 1).take (s.length - 2)).length ≤ 1000000 := by simp; omega
  generalize (s.drop 1).take (s.length - 2) = md at *
  have HCu : Hid (∀ W, Calls Tryz.prog 28 #[.string ⟨md.toArray⟩, .int .u8 32] W fun e w' => ∃ A c, e = .returned (.slice A (spc 32 md).length c) ∧ Below W.heap.size W w' ∧ ∀ k (hk : k < (spc 32 md).length), ∃ g o, A = some ⟨g, o, none⟩ ∧ g < w'.heap.size ∧ w'.cell? ⟨g, o + k, none⟩ = some (.string ⟨(spc 32 md)[k].toArray⟩)) := fun W => (rcut_any md 32 W hml).mono fun e w' h => by
    obtain ⟨v, he, hb, G, hr, hg⟩ := h
    obtain ⟨A, c, rfl⟩ := hr.form
    refine ⟨A, c, he, hb, fun k hk => ?_⟩
    rcases hr.2 with ⟨_, h0, _⟩ | ⟨g, o, cap, _, e, _, _, h3, h4, _⟩
    · omega
    · exact ⟨g, o, by cases e; rfl, h3, h4 k _ (by rw [List.getElem?_map, List.getElem?_eq_getElem hk]; rfl)⟩
  have hwl : (spc 32 md).length ≤ 1000001 := by have := spc_len 32 md; omega
  have HWs : Hid (∀ x ∈ spc 32 md, x.length ≤ 1000000) := fun x hx => Nat.le_trans (spc_size md x hx) hml
  obtain ⟨ws, hws⟩ : ∃ ws, spc 32 md = ws := ⟨_, rfl⟩
  rw [hws] at HCu hwl HWs HY2
  clear hws h2 HYe
  go_enter Tryz.func22, Tryz.ntmps22
  go_wp2_with (go_at_call 28; refine (HCu.out _).mono ?_; rintro e w1 ⟨A, c, rfl, hb1, hc1⟩; replace hb1 := hide hb1; replace hc1 := hide hc1)
  go_loopw [4, 35] (fun v4 v35 wr => ∃ k F : Nat, v35 = .int .i64 k ∧ k ≤ ws.length ∧ v4 = .int .i64 F ∧ F < 32 ∧ Hid (flF F (ws.drop k) = flF 0 ws) ∧ Hid (Below w1.heap.size w1 wr)) (fun _ v35 _ => ws.length - (intOf v35).toNat)
  case atStart => exact ⟨0, 0, rfl, Nat.zero_le _, rfl, by omega, rfl, Below.refl _ _⟩
  case round =>
    obtain ⟨k, F, rfl, hk, rfl, hF, HQ, HB⟩ := hrel
    by_cases hlt : k < ws.length
    · have hlt' : (k : Int) < ws.length := by omega
      obtain ⟨g, o, rfl, hgl, hcell0⟩ := hc1.out k hlt
      have hcell := (HB.out.cell (p := ⟨g, o + k, none⟩) hgl).trans hcell0
      have HNx := hide (flF_next (F := F) hlt)
      rw [HQ.out] at HNx
      have hxl := HWs.out _ (List.getElem_mem hlt)
      clear hcell0 HQ
      generalize ws[k] = x at *
      have HSm := hide (fun W => rsmall_any x W hxl)
      obtain ⟨l, hl⟩ : ∃ l, x.map lowB = l := ⟨_, rfl⟩
      rw [hl] at HSm
      have HW : Hid (flW x = if flK l 5 then some (flA l 5) else none) := by show _ = _; unfold flW; rw [hl]
      clear hl
      go_upto_block 2 with fail
      go_cut [4, 7, 8] from 36 to 55 (fun v4 v7 v8 wx => v4 = .int .i64 ((F ||| flA l 5 : Nat) : Int) ∧ v7 = .bool (flK l 5) ∧ v8 = .int .i64 5 ∧ Hid (Below wr.heap.size wr wx))
      case first =>
        go_wp2
        go_loopw [4, 7, 8] (fun v4 v7 v8 wx => ∃ i : Nat, v8 = .int .i64 i ∧ i ≤ 5 ∧ v4 = .int .i64 ((F ||| flA l i : Nat) : Int) ∧ v7 = .bool (flK l i) ∧ Hid (Below wr.heap.size wr wx)) (fun _ _ v8 _ => 5 - (intOf v8).toNat)
        case atStart => exact ⟨0, rfl, by omega, by simp [flA], rfl, Below.refl _ _⟩
        case round =>
          obtain ⟨i, rfl, hi5, rfl, rfl, HBx⟩ := hrel
          by_cases hlt5 : i < 5
          · have hlt5' : (i : Int) < 5 := by omega
            have HNm := hide (fun W => rname14 i hlt5 W)
            obtain ⟨nm, hnm⟩ : ∃ nm, flN.getD i [] = nm := ⟨_, rfl⟩
            have hnl : nm.length ≤ 1000000 := by
              rw [← hnm]
              obtain rfl | rfl | rfl | rfl | rfl : i = 0 ∨ i = 1 ∨ i = 2 ∨ i = 3 ∨ i = 4 := by omega
              all_goals decide
            rw [hnm] at HNm
            have HSn := hide (fun W => rsmall_any nm W hnl)
            obtain ⟨ln, hln⟩ : ∃ ln, nm.map lowB = ln := ⟨_, rfl⟩
            rw [hln] at HSn
            obtain ⟨Gv, hGv⟩ : ∃ Gv, F ||| flA l i = Gv := ⟨_, rfl⟩
            obtain ⟨Kv, hKv⟩ : ∃ Kv, flK l i = Kv := ⟨_, rfl⟩
            have hG32 : Gv < 32 := by rw [← hGv]; exact Nat.or_lt_two_pow (n := 5) hF (flA_lt l i hi5)
            by_cases hll : l = ln
            · have HA : Hid (F ||| flA l (i + 1) = Gv ||| 2 ^ i ∧ flK l (i + 1) = true) := by
                have e : l = (flN.getD i []).map lowB := by rw [hnm, hln]; exact hll
                refine ⟨?_, ?_⟩
                · rw [flA, if_pos e, ← Nat.or_assoc, hGv]
                · rw [flK, if_pos e]
              have eo1 : bits .or .i64 (Gv : Int) 1 = ((Gv ||| 1 : Nat) : Int) := or_nat Gv 1 (by omega) (by omega)
              have eo2 : bits .or .i64 (Gv : Int) 2 = ((Gv ||| 2 : Nat) : Int) := or_nat Gv 2 (by omega) (by omega)
              have eo3 : bits .or .i64 (Gv : Int) 4 = ((Gv ||| 4 : Nat) : Int) := or_nat Gv 4 (by omega) (by omega)
              have eo4 : bits .or .i64 (Gv : Int) 8 = ((Gv ||| 8 : Nat) : Int) := or_nat Gv 8 (by omega) (by omega)
              have eo5 : bits .or .i64 (Gv : Int) 16 = ((Gv ||| 16 : Nat) : Int) := or_nat Gv 16 (by omega) (by omega)
              rw [hGv, hKv]
              clear hnm hln hGv hKv
              subst hll
              obtain rfl | rfl | rfl | rfl | rfl : i = 0 ∨ i = 1 ∨ i = 2 ∨ i = 3 ∨ i = 4 := by omega
              · have EO := hide eo1
                clear eo1 eo2 eo3 eo4 eo5
                go_wp2_with (first
                  | (go_at_call 44; refine (HNm.out _).mono ?_; rintro e w3 ⟨rfl, hb3⟩; replace hb3 := hide hb3)
                  | (go_at_call 43; refine (HSm.out _).mono ?_; rintro e w2 ⟨rfl, hb2⟩; replace hb2 := hide hb2; clear HSm)
                  | (go_at_call 43; refine (HSn.out _).mono ?_; rintro e w4 ⟨rfl, hb4⟩; replace hb4 := hide hb4; clear HSn))
                have hq := hb2.out.trans (hb3.out.mono hb2.out.size)
                have HBn := hide (HBx.out.trans ((hq.trans (hb4.out.mono hq.size)).mono HBx.out.size))
                go_roundw
                case rel => exact ⟨1, by go_num, by omega, by rw [HA.out.1]; exact congrArg (Value.int .i64) EO.out, by rw [HA.out.2], HBn.out⟩
                case measure => simp [intOf]
              · have EO := hide eo2
                clear eo1 eo2 eo3 eo4 eo5
                go_wp2_with (first
                  | (go_at_call 44; refine (HNm.out _).mono ?_; rintro e w3 ⟨rfl, hb3⟩; replace hb3 := hide hb3)
                  | (go_at_call 43; refine (HSm.out _).mono ?_; rintro e w2 ⟨rfl, hb2⟩; replace hb2 := hide hb2; clear HSm)
                  | (go_at_call 43; refine (HSn.out _).mono ?_; rintro e w4 ⟨rfl, hb4⟩; replace hb4 := hide hb4; clear HSn))
                have hq := hb2.out.trans (hb3.out.mono hb2.out.size)
                have HBn := hide (HBx.out.trans ((hq.trans (hb4.out.mono hq.size)).mono HBx.out.size))
                go_roundw
                case rel => exact ⟨2, by go_num, by omega, by rw [HA.out.1]; exact congrArg (Value.int .i64) EO.out, by rw [HA.out.2], HBn.out⟩
                case measure => simp [intOf]
              · have EO := hide eo3
                clear eo1 eo2 eo3 eo4 eo5
                go_wp2_with (first
                  | (go_at_call 44; refine (HNm.out _).mono ?_; rintro e w3 ⟨rfl, hb3⟩; replace hb3 := hide hb3)
                  | (go_at_call 43; refine (HSm.out _).mono ?_; rintro e w2 ⟨rfl, hb2⟩; replace hb2 := hide hb2; clear HSm)
                  | (go_at_call 43; refine (HSn.out _).mono ?_; rintro e w4 ⟨rfl, hb4⟩; replace hb4 := hide hb4; clear HSn))
                have hq := hb2.out.trans (hb3.out.mono hb2.out.size)
                have HBn := hide (HBx.out.trans ((hq.trans (hb4.out.mono hq.size)).mono HBx.out.size))
                go_roundw
                case rel => exact ⟨3, by go_num, by omega, by rw [HA.out.1]; exact congrArg (Value.int .i64) EO.out, by rw [HA.out.2], HBn.out⟩
                case measure => simp [intOf]
              · have EO := hide eo4
                clear eo1 eo2 eo3 eo4 eo5
                go_wp2_with (first
                  | (go_at_call 44; refine (HNm.out _).mono ?_; rintro e w3 ⟨rfl, hb3⟩; replace hb3 := hide hb3)
                  | (go_at_call 43; refine (HSm.out _).mono ?_; rintro e w2 ⟨rfl, hb2⟩; replace hb2 := hide hb2; clear HSm)
                  | (go_at_call 43; refine (HSn.out _).mono ?_; rintro e w4 ⟨rfl, hb4⟩; replace hb4 := hide hb4; clear HSn))
                have hq := hb2.out.trans (hb3.out.mono hb2.out.size)
                have HBn := hide (HBx.out.trans ((hq.trans (hb4.out.mono hq.size)).mono HBx.out.size))
                go_roundw
                case rel => exact ⟨4, by go_num, by omega, by rw [HA.out.1]; exact congrArg (Value.int .i64) EO.out, by rw [HA.out.2], HBn.out⟩
                case measure => simp [intOf]
              · have EO := hide eo5
                clear eo1 eo2 eo3 eo4 eo5
                go_wp2_with (first
                  | (go_at_call 44; refine (HNm.out _).mono ?_; rintro e w3 ⟨rfl, hb3⟩; replace hb3 := hide hb3)
                  | (go_at_call 43; refine (HSm.out _).mono ?_; rintro e w2 ⟨rfl, hb2⟩; replace hb2 := hide hb2; clear HSm)
                  | (go_at_call 43; refine (HSn.out _).mono ?_; rintro e w4 ⟨rfl, hb4⟩; replace hb4 := hide hb4; clear HSn))
                have hq := hb2.out.trans (hb3.out.mono hb2.out.size)
                have HBn := hide (HBx.out.trans ((hq.trans (hb4.out.mono hq.size)).mono HBx.out.size))
                go_roundw
                case rel => exact ⟨5, by go_num, by omega, by rw [HA.out.1]; exact congrArg (Value.int .i64) EO.out, by rw [HA.out.2], HBn.out⟩
                case measure => simp [intOf]
            · have HA : Hid (F ||| flA l (i + 1) = Gv ∧ flK l (i + 1) = Kv) := by
                have e : ¬ l = (flN.getD i []).map lowB := by rw [hnm, hln]; exact hll
                refine ⟨?_, ?_⟩
                · rw [flA, if_neg e, hGv]
                · rw [flK, if_neg e, hKv]
              rw [hGv, hKv]
              have hlb : (l == ln) = false := beq_eq_false_iff_ne.2 hll
              clear hnm hln hGv hKv hll
              go_wp2_with (first
                | (go_at_call 44; refine (HNm.out _).mono ?_; rintro e w3 ⟨rfl, hb3⟩; replace hb3 := hide hb3)
                | (go_at_call 43; refine (HSm.out _).mono ?_; rintro e w2 ⟨rfl, hb2⟩; replace hb2 := hide hb2; clear HSm)
                | (go_at_call 43; refine (HSn.out _).mono ?_; rintro e w4 ⟨rfl, hb4⟩; replace hb4 := hide hb4; clear HSn))
              have hq := hb2.out.trans (hb3.out.mono hb2.out.size)
              have HBn := hide (HBx.out.trans ((hq.trans (hb4.out.mono hq.size)).mono HBx.out.size))
              go_roundw
              case rel => exact ⟨i + 1, by go_num, by omega, by rw [HA.out.1], by rw [HA.out.2], HBn.out⟩
              case measure => simp [intOf] <;> omega
          · obtain rfl : i = 5 := by omega
            go_wp2
            go_meet
            case rel => exact ⟨rfl, rfl, rfl, HBx.out⟩
      case rest =>
        obtain ⟨rfl, rfl, rfl, HBx⟩ := hcut
        have HBn := hide (HB.out.trans (HBx.out.mono HB.out.size))
        have hG32 : (F ||| flA l 5) < 32 := Nat.or_lt_two_pow (n := 5) hF (flA_lt l 5 (by omega))
        cases hK : flK l 5 with
        | true =>
          have HNy : Hid (flF (F ||| flA l 5) (ws.drop (k + 1)) = flF 0 ws) := by
            show _ = _
            rw [HNx.out, HW.out, hK]
            rfl
          clear hK HW HNx
          generalize F ||| flA l 5 = Gv at *
          go_wp2
          go_roundw
          case rel => exact ⟨k + 1, Gv, by go_num, by omega, rfl, hG32, HNy.out, HBn.out⟩
          case measure => simp [intOf] <;> omega
        | false =>
          have HNy : Hid (flV (flO s) = .returned (.tuple #[.int .i64 0, .bool false])) := by
            show _ = _
            rw [HY2.out, HNx.out, HW.out, hK]
            rfl
          clear hK HW HNx
          generalize F ||| flA l 5 = Gv at *
          go_wp2
          go_ret2
          exact ⟨by rw [HNy.out]; rfl, hb1.out.trans (HBn.out.mono hb1.out.size)⟩
    · obtain rfl : k = ws.length := by omega
      have HNy : Hid (flV (flO s) = .returned (.tuple #[.int .i64 (F : Nat), .bool true])) := by
        show _ = _
        have := HQ.out
        rw [List.drop_length] at this
        rw [HY2.out, ← this]
        rfl
      go_wp2
      go_ret2
      exact ⟨by rw [HNy.out]; rfl, hb1.out.trans (HB.out.mono hb1.out.size)⟩
end Go.Proofs.YtbjencibkkhbhaaGreatDoor
