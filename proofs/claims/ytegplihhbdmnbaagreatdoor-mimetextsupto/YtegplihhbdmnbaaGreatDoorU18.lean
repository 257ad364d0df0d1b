/- The reader of package mime: quoted texts, parameters. -/
import Derived.Test.YtegplihhbdmnbaaGreatDoorU17
namespace Go.Proofs.YtegplihhbdmnbaaGreatDoor
open Go.RowKit Go.Shelf
theorem quoS_shift {f : Bool} {r : List UInt8} {ms : List UInt8} {q : Option (List UInt8 × List UInt8)} {c : UInt8} (h : (Option.map (fun x => (c :: x.1, x.2)) (quoS f r)).map (fun x => (ms ++ x.1, x.2)) = q) : (quoS f r).map (fun x => ((ms ++ [c]) ++ x.1, x.2)) = q := by
  rw [← h]
  cases quoS f r with
  | none => rfl
  | some x => simp
theorem quoS_start (r : List UInt8) {Q : Option (List UInt8 × List UInt8)} (h : quoS false r = Q) : (quoS false (r.drop 0)).map (fun x => ([] ++ x.1, x.2)) = Q := by
  rw [List.drop_zero, h]
  cases Q <;> rfl
theorem Mvs.below_then {S : Nat → Prop} {x y z : World} {B : Nat} (h : Mvs S x y) (k : Below B y z) (hB : x.heap.size ≤ B) : Mvs S x z :=
  h.trans' (S' := fun k => B ≤ k) ⟨k.os, k.tape, k.output, k.size, fun i _ hi => k.block i (by omega)⟩ (fun i hi h => by omega)
/-- A builder is one still behind a step that turns a reader's block alone. -/
theorem builder_rd {B b k : Nat} {bs : List Value} {W W' : World} {r : List UInt8} (h : Lib.IsBuilderF 72 5 B b bs W) (hm : Mvs (fun i => i = k) W W') (hk : RDm W k r) (hb : b ≠ k) : Lib.IsBuilderF 72 5 B b bs W' := by
  refine isBuilder_mvs h hm hb ?_
  rintro i rfl c fz e
  have : W.heap[i]? = _ := hk
  rw [this] at e
  simp at e
set_option maxRecDepth 20000 in
set_option maxHeartbeats 2000000 in
theorem quoted_any (b : Nat) (r : List UInt8) (w : World) (h : RDm w b (34 :: r)) (hl : r.length ≤ 1000000) :
    Calls Tryz.prog 79 #[.pointer (some ⟨b, 0, none⟩)] w (OutM b w ((quoS false r).map fun x => (.string ⟨x.1.toArray⟩, skb x.2))) := by
  have hsz : (⟨(34 :: r).toArray⟩ : ByteArray).size = r.length + 1 := by rw [size_lit]; simp
  have H := hide h
  have hlt := Blk.lt h
  clear h
  obtain ⟨Q, hQ⟩ : ∃ Q, quoS false r = Q := ⟨_, rfl⟩
  have HQ := hide hQ
  rw [hQ]
  clear hQ
  go_enter Tryz.func79, Tryz.ntmps79
  go_wp2
  go_loopw [4, 5] (fun v4 v5 wr => ∃ (k : Nat) (f : Bool) (ms : List UInt8), k ≤ r.length ∧ ms.length ≤ k ∧ v4 = .bool f ∧ v5 = .int .i64 ((k + 1 : Nat) : Int) ∧ Hid ((quoS f (r.drop k)).map (fun x => (ms ++ x.1, x.2)) = Q) ∧ Hid (RDm wr b (34 :: r)) ∧ Hid (Lib.IsBuilderF 72 5 w.heap.size w.heap.size (Lib.byteCells ms) wr) ∧ Hid (Below w.heap.size w wr)) (fun _ v5 _ => r.length + 1 - (intOf v5).toNat)
  case atStart => exact ⟨0, false, [], Nat.zero_le _, Nat.zero_le _, rfl, rfl, quoS_start r HQ.out, Blk.alloc H.out _, Lib.IsBuilderF.of (Lib.fresh_isBuilder _ _ w), (Below.refl _ _).alloc (Nat.le_refl _) _⟩
  case round =>
    obtain ⟨k, f, ms, hk, hmk, rfl, rfl, HE, HR, HB, HW⟩ := hrel
    have hc := Blk.cell HR.out
    have hf := Blk.frozen HR.out
    have hbs := HW.out.size
    by_cases hlt2 : k < r.length
    · have hlt' : ((k + 1 : Nat) : Int) < ((r.length + 1 : Nat) : Int) := by omega
      obtain ⟨c, hcc⟩ : ∃ c, r[k] = c := ⟨_, rfl⟩
      have hat : ∀ h : k + 1 < (⟨(34 :: r).toArray⟩ : ByteArray).size, (⟨(34 :: r).toArray⟩ : ByteArray)[k + 1]'h = c := fun h => hcc
      have hd : r.drop k = c :: r.drop (k + 1) := by rw [List.drop_eq_getElem_cons hlt2, hcc]
      have HWr := hide (fun w1 (h : w1 = wr) => Tryz.Builder_WriteByte_k w.heap.size w.heap.size _ (c.toNat : Int) w1 (h ▸ HB.out) (by rw [Lib.byteCells_length]; omega) (h ▸ HW.out.size))
      have HTX : Hid (Lib.byteCells ms ++ [.int .u8 (c.toNat : Int)] = Lib.byteCells (ms ++ [c])) := by
        show _ = _
        simp [Lib.byteCells]
      cases f with
      | true =>
        have HE2 : Hid ((quoS false (r.drop (k + 1))).map (fun x => ((ms ++ [c]) ++ x.1, x.2)) = Q) := by
          have := HE.out
          rw [hd, quoS] at this
          exact quoS_shift this
        clear hcc hd HE
        go_wp2_with (first
          | (go_at_call 59; refine (HWr.out _ rfl).mono ?_; rintro e w3 ⟨rfl, hbl3, hb3, hok3⟩; replace hbl3 := hide hbl3; replace hb3 := hide hb3; replace hok3 := hide hok3))
        go_roundw
        case rel => exact ⟨k + 1, false, ms ++ [c], by omega, by simp; omega, rfl, by go_num, HE2, Blk.below HR.out hb3.out hlt, (show Lib.IsBuilderF _ _ _ _ _ _ from HTX.out ▸ .inr hbl3.out), HW.out.trans hb3.out⟩
        case measure => simp [intOf]; omega
      | false =>
        by_cases h92 : c = 92
        · have HE2 : Hid ((quoS true (r.drop (k + 1))).map (fun x => (ms ++ x.1, x.2)) = Q) := by
            have := HE.out
            rw [hd, quoS, if_neg (by rw [h92]; decide), if_pos h92] at this
            exact this
          subst h92
          clear hcc hd HE HWr HTX
          go_wp2
          go_roundw
          case rel => exact ⟨k + 1, true, ms, by omega, by omega, rfl, by go_num, HE2, HR, HB, HW⟩
          case measure => simp [intOf]; omega
        · have h92' : ¬ ((c.toNat : Int) = 92) := fun e => h92 (UInt8.toNat_inj.1 (by simpa using (by omega : c.toNat = 92)))
          by_cases h34 : c = 34
          · have HV : Hid (Q = some (ms, r.drop (k + 1))) := by
              have := HE.out
              rw [hd, quoS, if_pos h34] at this
              rw [← this]
              simp [Hid]
            subst h34
            have e5 : (⟨(34 :: r).toArray⟩ : ByteArray).extract (k + 2) (r.length + 1) = ⟨(r.drop (k + 1)).toArray⟩ := by
              have := ext_drop (34 :: r) (k + 2)
              simpa using this
            have hle : ((k + 1 : Nat) : Int) + 1 ≤ ((r.length + 1 : Nat) : Int) := by omega
            have HRs := hide (Blk.set HR.out 0 (.string ⟨(r.drop (k + 1)).toArray⟩))
            have HS := hide (fun w h => skip_any b (r.drop (k + 1)) w h)
            have HB1 := hide (builder_rd HB.out (Mvs.setCell (S := fun k => k = b) (Mvs.refl _ _) ⟨b, 0, none⟩ (.string ⟨(r.drop (k + 1)).toArray⟩) (fun _ => rfl)) HR.out (by omega))
            generalize r.drop (k + 1) = s at *
            clear hcc hd HE HWr HTX
            go_wp2_with (first
              | (go_at_call 54; refine (HS.out _ HRs.out).mono ?_; rintro e w2 ⟨rfl, hm2, hr2⟩
                 have HB2 := hide (builder_rd HB1.out hm2 HRs.out (by omega)); have hs2 := hm2.size; replace hm2 := hide hm2; replace hr2 := hide hr2; have HST := hide (Tryz.Builder_String_any_k w.heap.size w.heap.size ms w2 HB2.out (by simp at hs2; omega)))
              | (go_at_call 34; refine (HST.out).mono ?_; rintro e w3 ⟨rfl, _, hb3, _⟩; replace hb3 := hide hb3))
            go_ret
            refine ⟨?_, ?_⟩
            · have hm0 : Mvs (fun k => k = b) w (wr.setCell ⟨b, 0, none⟩ (.string ⟨s.toArray⟩)) := (Mvs.of_below HW.out).setCell ⟨b, 0, none⟩ _ (fun _ => rfl)
              have hm := hm0.trans hm2.out
              exact hm.below_then hb3.out (Nat.le_refl _)
            · rw [HV.out]
              exact ⟨rfl, Blk.below hr2.out hb3.out hlt⟩
          · have h34' : ¬ ((c.toNat : Int) = 34) := fun e => h34 (UInt8.toNat_inj.1 (by simpa using (by omega : c.toNat = 34)))
            have HE2 : Hid ((quoS false (r.drop (k + 1))).map (fun x => ((ms ++ [c]) ++ x.1, x.2)) = Q) := by
              have := HE.out
              rw [hd, quoS, if_neg h34, if_neg h92] at this
              exact quoS_shift this
            clear hcc hd HE
            go_wp2_with (first
              | (go_at_call 59; refine (HWr.out _ rfl).mono ?_; rintro e w3 ⟨rfl, hbl3, hb3, hok3⟩; replace hbl3 := hide hbl3; replace hb3 := hide hb3; replace hok3 := hide hok3))
            go_roundw
            case rel => exact ⟨k + 1, false, ms ++ [c], by omega, by simp; omega, rfl, by go_num, HE2, Blk.below HR.out hb3.out hlt, (show Lib.IsBuilderF _ _ _ _ _ _ from HTX.out ▸ .inr hbl3.out), HW.out.trans hb3.out⟩
            case measure => simp [intOf]; omega
    · obtain rfl : k = r.length := by omega
      have HV : Hid (Q = none) := by
        have := HE.out
        rw [List.drop_of_length_le (Nat.le_refl _)] at this
        rw [← this]
        cases f <;> rfl
      go_wp2
      refine go_panicM rfl ⟨Mvs.of_below HW.out, ?_⟩
      rw [HV.out]
      rfl
theorem hasQ (r : List UInt8) (w : World) : Calls Tryz.prog 78 #[.string ⟨r.toArray⟩, .string ⟨#[34]⟩] w fun e w' => e = .returned (.bool (Lib.hasPrefix r [34])) ∧ w' = w := Tryz.strings_HasPrefix ⟨r.toArray⟩ ⟨#[34]⟩ w
theorem OutM.some {b : Nat} {w w' : World} {x : Value} {s : List UInt8} {e : Ending} (h : OutM b w (.some (x, s)) e w') : Mvs (fun k => k = b) w w' ∧ e = .returned x ∧ RDm w' b s := h
theorem OutM.none {b : Nat} {w w' : World} {e : Ending} (h : OutM b w .none e w') : Mvs (fun k => k = b) w w' ∧ e = .panicked pnc := h
/-- What quoted or token answers at a value. -/
def pmV (p : Pm) : Value := .agg #[.string ⟨p.name.toArray⟩, .string ⟨p.value.toArray⟩]
set_option maxRecDepth 20000 in
set_option maxHeartbeats 2000000 in
theorem param_any (b : Nat) (r : List UInt8) (w : World) (h : RDm w b r) (hl : r.length ≤ 1000000) :
    Calls Tryz.prog 57 #[.pointer (some ⟨b, 0, none⟩)] w (OutM b w ((paramO r).map fun x => (pmV x.1, x.2))) := by
  have hlt := Blk.lt h
  have HM1 := hide (mark_any b 59 r (w.alloc (.cells #[.string ⟨#[]⟩, .string ⟨#[]⟩] 65)) (Blk.alloc h _))
  have hnb : w.heap.size ≠ b := by omega
  have HB0 := hide (Blk.new w #[.string ⟨#[]⟩, .string ⟨#[]⟩] 65)
  have HV : Hid (paramO r = (markO 59 r).bind fun r1 => (tokO r1).bind fun n => (markO 61 n.2).bind fun r3 => (valO r3).map fun v => (⟨n.1.map lowB, v.1⟩, v.2)) := rfl
  have HA : Hid (Mvs (fun k => k = b) w (w.alloc (.cells #[.string ⟨#[]⟩, .string ⟨#[]⟩] 65))) := (Mvs.refl _ _).alloc _
  obtain ⟨P0, hP0⟩ : ∃ P0, paramO r = P0 := ⟨_, rfl⟩
  rw [hP0] at HV ⊢
  clear hP0
  go_enter Tryz.func57, Tryz.ntmps57
  go_wp2_with fail
  refine HM1.out.mono ?_
  intro e w1 ho1
  cases h1 : markO 59 r with
  | none =>
    rw [h1] at ho1 HV
    obtain ⟨hm1, rfl⟩ := OutM.none ho1
    have hz : P0 = none := HV.out
    subst hz
    exact go_panicM rfl ⟨HA.out.trans hm1, rfl⟩
  | some r1 =>
    rw [h1] at ho1 HV
    obtain ⟨hm1, rfl, hr1⟩ := OutM.some ho1
    have l1 := markO_len h1
    have HA1 := hide (HA.out.trans hm1)
    have HB1 := hide (hm1.blk HB0.out hnb)
    have HN := hide (name_any b r1 w1 hr1 (by omega))
    replace HV : Hid (P0 = (tokO r1).bind fun n => (markO 61 n.2).bind fun r3 => (valO r3).map fun v => (⟨n.1.map lowB, v.1⟩, v.2)) := HV.out
    clear ho1 hm1 hr1 h1 HM1 HA HB0
    go_wp2_with fail
    refine HN.out.mono ?_
    intro e w2 ho2
    cases h2 : tokO r1 with
    | none =>
      rw [h2] at ho2 HV
      obtain ⟨hm2, rfl⟩ := OutM.none ho2
      have hz : P0 = none := HV.out
      subst hz
      exact go_panicM rfl ⟨HA1.out.trans hm2, rfl⟩
    | some x =>
      obtain ⟨n, r2⟩ := x
      rw [h2] at ho2 HV
      obtain ⟨hm2, rfl, hr2⟩ := OutM.some ho2
      have l2 := (tokO_len h2).1
      have HA2 := hide (HA1.out.trans hm2)
      have HB2 := hide (hm2.blk HB1.out hnb)
      have HM3 := hide (mark_any b 61 r2 w2 hr2)
      clear ho2 hm2 hr2 h2 HN HA1 HB1
      obtain ⟨nl, hnl⟩ : ∃ nl, n.map lowB = nl := ⟨_, rfl⟩
      have HV2 : Hid (P0 = (markO 61 r2).bind fun r3 => (valO r3).map fun v => (⟨nl, v.1⟩, v.2)) := by
        rw [← hnl]
        exact HV.out
      have hval : Value.string ⟨(List.map lowB (n, r2).fst).toArray⟩ = .string ⟨nl.toArray⟩ := by rw [← hnl]
      rw [hval]
      clear HV hnl hval
      go_wp2_with fail
      refine HM3.out.mono ?_
      intro e w3 ho3
      cases h3 : markO 61 r2 with
      | none =>
        rw [h3] at ho3 HV2
        obtain ⟨hm3, rfl⟩ := OutM.none ho3
        have hz : P0 = none := HV2.out
        subst hz
        exact go_panicM rfl ⟨HA2.out.trans hm3, rfl⟩
      | some r3 =>
        rw [h3] at ho3 HV2
        obtain ⟨hm3, rfl, hr3⟩ := OutM.some ho3
        have l3 := markO_len h3
        have HA3 := hide (HA2.out.trans hm3)
        have HB3 := hide (hm3.blk HB2.out hnb)
        have HV3 : Hid (P0 = (valO r3).map fun v => (⟨nl, v.1⟩, v.2)) := HV2.out
        have HH := hide (hasQ r3)
        have hc3 := Blk.cell hr3
        clear ho3 hm3 h3 HM3 HA2 HB2 HV2
        by_cases hq : ∃ s, r3 = 34 :: s
        · obtain ⟨s, rfl⟩ := hq
          have e2 : Lib.hasPrefix (34 :: s) [34] = true := by simp [Lib.hasPrefix, List.isPrefixOf]
          have ev : valO (34 :: s) = (quoS false s).map fun x => (x.1, skb x.2) := by rw [valO, if_pos rfl]
          rw [e2] at HH
          rw [ev] at HV3
          have HQ := hide (quoted_any b s w3 hr3 (by simp at l3; omega))
          clear e2 ev hr3
          go_wp2_with (first
            | (go_at_call 78; refine (HH.out _).mono ?_; rintro e w4 ⟨rfl, rfl⟩)
            | fail)
          refine HQ.out.mono ?_
          intro e w4 ho4
          cases h4 : quoS false s with
          | none =>
            rw [h4] at ho4 HV3
            obtain ⟨hm4, rfl⟩ := OutM.none ho4
            have hz : P0 = none := HV3.out
            subst hz
            exact go_panicM rfl ⟨HA3.out.trans hm4, rfl⟩
          | some y =>
            obtain ⟨v, r4⟩ := y
            rw [h4] at ho4 HV3
            obtain ⟨hm4, rfl, hr4⟩ := OutM.some ho4
            have hz : P0 = some (⟨nl, v⟩, skb r4) := HV3.out
            subst hz
            have HA4 := hide (HA3.out.trans hm4)
            have HB4 := hide (hm4.blk HB3.out hnb)
            have hc4 := HB4.out.cell
            have hf4 := HB4.out.frozen
            have hlt4 := HB4.out.lt
            have HR4 := hide hr4
            have hv : Value.string ⟨((v, r4) : List UInt8 × List UInt8).fst.toArray⟩ = .string ⟨v.toArray⟩ := rfl
            rw [hv]
            clear ho4 hm4 hr4 h4 HV3 HQ HH hv
            go_wp2
            have h9 := ((HB4.out.set 0 (.string ⟨nl.toArray⟩)).set 1 (.string ⟨v.toArray⟩)).cell
            refine bodyPost_ret (v := .agg #[.string ⟨nl.toArray⟩, .string ⟨v.toArray⟩]) (by simp [results, Tryz.results57, go_sem, h9]) rfl ?_
            refine ⟨?_, rfl, ?_⟩
            · exact (HA4.out.setCell _ _ (fun h => by dsimp only at h; omega)).setCell _ _ (fun h => by dsimp only at h; omega)
            · exact Blk.set_other (Blk.set_other HR4.out _ _ (by dsimp only; omega)) _ _ (by dsimp only; omega)
        · have e2 : Lib.hasPrefix r3 [34] = false := by
            cases r3 with
            | nil => rfl
            | cons x s =>
              have : ¬ (34 : UInt8) = x := fun e => hq ⟨s, by rw [e]⟩
              simp [Lib.hasPrefix, List.isPrefixOf, this]
          have ev : valO r3 = tokO r3 := by
            cases r3 with
            | nil => rfl
            | cons x s => rw [valO, if_neg (fun e => hq ⟨s, by rw [e]⟩)]
          rw [e2] at HH
          rw [ev] at HV3
          have HQ := hide (token_any b r3 w3 hr3 (by omega))
          clear e2 ev hr3 hq
          go_wp2_with (first
            | (go_at_call 78; refine (HH.out _).mono ?_; rintro e w4 ⟨rfl, rfl⟩)
            | fail)
          refine HQ.out.mono ?_
          intro e w4 ho4
          cases h4 : tokO r3 with
          | none =>
            rw [h4] at ho4 HV3
            obtain ⟨hm4, rfl⟩ := OutM.none ho4
            have hz : P0 = none := HV3.out
            subst hz
            exact go_panicM rfl ⟨HA3.out.trans hm4, rfl⟩
          | some y =>
            obtain ⟨v, r4⟩ := y
            rw [h4] at ho4 HV3
            obtain ⟨hm4, rfl, hr4⟩ := OutM.some ho4
            have hz : P0 = some (⟨nl, v⟩, r4) := HV3.out
            subst hz
            have HA4 := hide (HA3.out.trans hm4)
            have HB4 := hide (hm4.blk HB3.out hnb)
            have hc4 := HB4.out.cell
            have hf4 := HB4.out.frozen
            have hlt4 := HB4.out.lt
            have HR4 := hide hr4
            have hv : Value.string ⟨((v, r4) : List UInt8 × List UInt8).fst.toArray⟩ = .string ⟨v.toArray⟩ := rfl
            rw [hv]
            clear ho4 hm4 hr4 h4 HV3 HQ HH hv
            go_wp2
            have h9 := ((HB4.out.set 0 (.string ⟨nl.toArray⟩)).set 1 (.string ⟨v.toArray⟩)).cell
            refine bodyPost_ret (v := .agg #[.string ⟨nl.toArray⟩, .string ⟨v.toArray⟩]) (by simp [results, Tryz.results57, go_sem, h9]) rfl ?_
            refine ⟨?_, rfl, ?_⟩
            · exact (HA4.out.setCell _ _ (fun h => by dsimp only at h; omega)).setCell _ _ (fun h => by dsimp only at h; omega)
            · exact Blk.set_other (Blk.set_other HR4.out _ _ (by dsimp only; omega)) _ _ (by dsimp only; omega)
end Go.Proofs.YtegplihhbdmnbaaGreatDoor
