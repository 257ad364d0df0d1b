/- Quote of package mime. -/
import Derived.Test.YtegplihhbdmnbaaGreatDoorU14
import Derived.Test.YtegplihhbdmnbaaGreatDoorU15
import Derived.Test.YtegplihhbdmnbaaGreatDoorShelf2
import Derived.Test.YtegplihhbdmnbaaGreatDoorU08
import Derived.Lib.Itoa
import Derived.Lib.ItoaLen
import Derived.Lib.OthersKept
import Derived.Deep.LoopGhost
namespace Go.Proofs.YtegplihhbdmnbaaGreatDoor
open Go.RowKit Go.Shelf
/-- The table by which the library writes numbers lies in this world. -/
def TabM (w : World) : Prop := Lib.TabIs Tryz.prog w "internal/strconv.uint64pow10" .u64 Lib.pow10Tab ∧ 18 < w.heap.size
theorem tabGlobalM : Tryz.prog.globalNamed "internal/strconv.uint64pow10" = some 18 := by kernel_rfl
theorem TabM.below {w w' : World} (h : TabM w) (hb : Below w.heap.size w w') : TabM w' :=
  ⟨var?_below hb tabGlobalM h.2 h.1, Nat.lt_of_lt_of_le h.2 hb.size⟩
theorem grow_belowM (w : World) (k : Nat) (os : Array Obj) : Below w.heap.size w (Sort.grow (w.drewN k) os) :=
  ⟨rfl, rfl, rfl, by simp [Sort.grow], fun j hj => by simp [Sort.grow, Array.getElem?_append_left hj]⟩
theorem itoaM (n : Int) (h0 : 0 ≤ n) (h1 : n ≤ 9223372036854775807) (w : World) (ht : TabM w) :
    Calls Tryz.prog 84 #[.int .i64 n] w fun e w' => e = .returned (.string ⟨(Lib.decDigits n.toNat).toArray⟩) ∧ Below w.heap.size w w' := by
  refine (Tryz.strconv_Itoa n (by omega) h1 w ht.1).mono ?_
  rintro e w' ⟨rfl, k, os, rfl⟩
  refine ⟨?_, grow_belowM w k os⟩
  have : Lib.itoa n = Lib.decDigits n.toNat := by
    unfold Lib.itoa
    rw [if_neg (by omega)]
  rw [this]
theorem dec_len (n : Nat) (h : n ≤ 1000000) : (Lib.decDigits n).length ≤ 100 := by
  rw [Lib.decDigits_length]
  have := Lib.nDigits_le20 n (by omega)
  omega
theorem prB_lo {c : UInt8} (h : prB c = true) : 32 ≤ c.toNat ∧ c.toNat ≤ 126 := by simpa [prB] using h
theorem prB_no {c : UInt8} (h : prB c = false) : c.toNat < 32 ∨ 126 < c.toNat := by
  simp [prB] at h
  omega
theorem all_next {l : List UInt8} {k : Nat} (hk : k < l.length) (h : (l.take k).all prB = true) (hc : prB l[k] = true) : (l.take (k + 1)).all prB = true := by
  rw [List.take_succ_eq_append_getElem hk, List.all_append, h]
  simp [hc]
theorem all_not {l : List UInt8} {k : Nat} (hk : k < l.length) (hc : prB l[k] = false) : l.all prB = false := by
  cases h : l.all prB with
  | false => rfl
  | true =>
    rw [List.all_eq_true] at h
    rw [h _ (List.getElem_mem hk)] at hc
    cases hc
theorem esc_take {l : List UInt8} {k : Nat} (hk : k < l.length) : escL (l.take (k + 1)) = escL (l.take k) ++ (if l[k] = 34 ∨ l[k] = 92 then [92, l[k]] else [l[k]]) := by
  unfold escL
  rw [List.take_succ_eq_append_getElem hk, List.flatMap_append]
  simp
theorem esc_len (l : List UInt8) : (escL l).length ≤ 2 * l.length := by
  unfold escL
  induction l with
  | nil => simp
  | cons c r ih =>
    rw [List.flatMap_cons, List.length_append, List.length_cons]
    split
    · simp only [List.length_cons, List.length_nil]
      omega
    · simp only [List.length_cons, List.length_nil]
      omega
set_option maxRecDepth 20000 in
set_option maxHeartbeats 2000000 in
theorem quote_any (l : List UInt8) (w : World) (ht : TabM w) (hl : l.length ≤ 1000000) :
    Calls Tryz.prog 61 #[.string ⟨l.toArray⟩] w fun e w' => e = .returned (.string ⟨(quoI l).toArray⟩) ∧ Below w.heap.size w w' := by
  have hsz := size_lit l
  have HTab := hide ht
  clear ht
  go_enter Tryz.func61, Tryz.ntmps61
  go_wp2
  go_loopg [] l.length (fun gk wx => ∃ pos : Nat, pos ≤ l.length ∧ l.length ≤ pos + gk ∧ wx.heap[w.heap.size]? = some (.stringIter ⟨l.toArray⟩ pos) ∧ Hid (Below w.heap.size w wx) ∧ Hid ((l.take pos).all prB = true))
  case atStart => exact ⟨0, Nat.zero_le _, by omega, World.iter_heap w ⟨l.toArray⟩ 0, (Below.refl _ w).alloc (Nat.le_refl _) _, rfl⟩
  case round =>
    obtain ⟨pos, hpl, hgk, hit, HB, HA⟩ := hrel
    by_cases hps : pos < l.length
    · have hps' : pos < (⟨l.toArray⟩ : ByteArray).size := by rw [hsz]; exact hps
      have hnx : ∀ ty, (Instr.next (.pointer (some ⟨w.heap.size, 0, none⟩)) true ty).run Tryz.prog wr = _ := fun ty => Lib.run_next_any_at wr w.heap.size ⟨l.toArray⟩ pos ty hit hps'
      obtain ⟨c, hcc⟩ : ∃ c, l[pos] = c := ⟨_, rfl⟩
      have hat : (⟨l.toArray⟩ : ByteArray)[pos]'hps' = c := hcc
      have hit2 := Lib.iterAt_heap wr w.heap.size ⟨l.toArray⟩ pos (pos + (Utf8.decode ⟨l.toArray⟩ pos).2) hit
      have hbw2 := Lib.below_iterAt HB.out (k := w.heap.size) (Nat.le_refl _) ⟨l.toArray⟩ (pos + (Utf8.decode ⟨l.toArray⟩ pos).2)
      cases hp : prB c with
      | true =>
        have hlo := prB_lo hp
        have hdec := decode_ascii ⟨l.toArray⟩ pos hps' (by rw [hat]; omega)
        rw [hat] at hdec
        rw [hdec] at hnx hit2 hbw2
        have HA2 := hide (all_next hps HA.out (by rw [hcc]; exact hp))
        obtain ⟨W, hWd⟩ : ∃ W, wr.iterAt w.heap.size ⟨l.toArray⟩ (pos + 1) = W := ⟨_, rfl⟩
        dsimp only at hnx hit2 hbw2
        rw [hWd] at hnx hit2 hbw2
        have b1 : ¬ (c.toNat : Int) < 32 := by omega
        have b2 : ¬ (c.toNat : Int) > 126 := by omega
        replace hbw2 := hide hbw2
        clear hWd hdec hat hcc hp hit
        go_wp2
        go_roundg (gk - 1)
        case rel => exact ⟨pos + 1, by omega, by omega, hit2, hbw2, HA2⟩
        case measure => omega
      | false =>
        have hno := prB_no hp
        have HQ : Hid (quoI l = 123 :: (Lib.decDigits l.length ++ (125 :: 13 :: 10 :: l))) := by
          show _ = _
          unfold quoI
          rw [all_not hps (by rw [hcc]; exact hp)]
          rfl
        obtain ⟨R, hR⟩ : ∃ R, (Utf8.decode ⟨l.toArray⟩ pos).1 = R := ⟨_, rfl⟩
        have hR2 : R < 32 ∨ 126 < R := by
          by_cases h128 : c.toNat < 128
          · have hdec := decode_ascii ⟨l.toArray⟩ pos hps' (by rw [hat]; exact h128)
            rw [hat] at hdec
            rw [← hR, hdec]
            exact hno
          · have := decode_high ⟨l.toArray⟩ pos hps' (by rw [hat]; omega)
            omega
        obtain ⟨K, hK⟩ : ∃ K, (Utf8.decode ⟨l.toArray⟩ pos).2 = K := ⟨_, rfl⟩
        rw [hR, hK] at hnx
        rw [hK] at hbw2
        obtain ⟨W, hWd⟩ : ∃ W, wr.iterAt w.heap.size ⟨l.toArray⟩ (pos + K) = W := ⟨_, rfl⟩
        rw [hWd] at hnx hbw2
        have HIt := hide (itoaM (l.length : Int) (by omega) (by omega) W (HTab.out.below hbw2))
        have hln : ((l.length : Int)).toNat = l.length := by omega
        rw [hln] at HIt
        have hdl : (Lib.decDigits l.length).length ≤ 100 := dec_len l.length (by omega)
        have hc1 : (⟨#[123]⟩ : ByteArray) ++ ⟨(Lib.decDigits l.length).toArray⟩ = ⟨(123 :: Lib.decDigits l.length).toArray⟩ := cat_lit [123] _
        have hc2 : (⟨(123 :: Lib.decDigits l.length).toArray⟩ : ByteArray) ++ ⟨#[125, 13, 10]⟩ = ⟨((123 :: Lib.decDigits l.length) ++ [125, 13, 10]).toArray⟩ := cat_lit _ [125, 13, 10]
        have hc3 : (⟨((123 :: Lib.decDigits l.length) ++ [125, 13, 10]).toArray⟩ : ByteArray) ++ ⟨l.toArray⟩ = ⟨(quoI l).toArray⟩ := by
          rw [cat_lit, HQ.out]
          simp
        obtain ⟨d1, hd1⟩ : ∃ d1, Lib.decDigits l.length = d1 := ⟨_, rfl⟩
        rw [hd1] at HIt hc1 hc2 hc3 hdl
        obtain ⟨d2, hd2⟩ : ∃ d2, 123 :: d1 = d2 := ⟨_, rfl⟩
        have hd2l : d2.length ≤ 101 := by rw [← hd2]; simp; omega
        rw [hd2] at hc1 hc2 hc3
        obtain ⟨d3, hd3⟩ : ∃ d3, d2 ++ [125, 13, 10] = d3 := ⟨_, rfl⟩
        have hd3l : d3.length ≤ 104 := by rw [← hd3]; simp; omega
        rw [hd3] at hc2 hc3
        have hz1 := size_lit d1
        have hz2 := size_lit d2
        have hz3 := size_lit d3
        replace hbw2 := hide hbw2
        obtain ⟨QL, hQL⟩ : ∃ QL, quoI l = QL := ⟨_, rfl⟩
        rw [hQL] at hc3
        have HQL := hide hQL
        clear hQL
        clear hWd hR hK hd1 hd2 hd3 hat hcc hp hno hit hit2 hln HQ
        rcases hR2 with hR2 | hR2
        · have b1 : (R : Int) < 32 := by omega
          go_wp2_with (first
            | (go_at_call 84; refine HIt.out.mono ?_; rintro e w3 ⟨rfl, hb3⟩; replace hb3 := hide hb3))
          go_ret
          exact ⟨by rw [HQL.out]; rfl, hbw2.out.trans (hb3.out.mono hbw2.out.size)⟩
        · have b1 : ¬ (R : Int) < 32 := by omega
          have b2 : (R : Int) > 126 := by omega
          go_wp2_with (first
            | (go_at_call 84; refine HIt.out.mono ?_; rintro e w3 ⟨rfl, hb3⟩; replace hb3 := hide hb3))
          go_ret
          exact ⟨by rw [HQL.out]; rfl, hbw2.out.trans (hb3.out.mono hbw2.out.size)⟩
    · obtain rfl : pos = l.length := by omega
      have hps' : ¬ l.length < (⟨l.toArray⟩ : ByteArray).size := by rw [hsz]; exact hps
      have hnx : ∀ ty, (Instr.next (.pointer (some ⟨w.heap.size, 0, none⟩)) true ty).run Tryz.prog wr = _ := fun ty => Lib.run_next_end_at wr w.heap.size ⟨l.toArray⟩ l.length ty hit hps'
      have HQ : Hid (quoI l = 34 :: (escL l ++ [34])) := by
        have := HA.out
        rw [List.take_length] at this
        show _ = _
        unfold quoI
        rw [this]
        rfl
      have hbs := HB.out.size
      have HB0 : Hid (Lib.IsBuilderF 72 5 wr.heap.size wr.heap.size (Lib.byteCells []) (wr.alloc (.cells #[.pointer none, .slice none 0 0] 72))) := Lib.IsBuilderF.of (Lib.fresh_isBuilder _ _ wr)
      have HW1 := hide (Tryz.Builder_WriteString_k wr.heap.size wr.heap.size _ ⟨#[34]⟩ _ HB0.out (by simp [Lib.byteCells, ByteArray.size]) (by simp))
      have HW0 := hide (((Below.refl wr.heap.size wr).alloc (Nat.le_refl _) (.cells #[.pointer none, .slice none 0 0] 72)))
      clear hps hps' hit HA HB0
      go_wp2_with (first
        | (go_at_call 60; refine HW1.out.mono ?_; rintro e w2 ⟨rfl, hbl2, hb2, _⟩; replace hbl2 := hide hbl2; replace hb2 := hide hb2))
      have HS2 : Hid (wr.heap.size ≤ w2.heap.size) := (HW0.out.trans hb2.out).size
      have HBw2 := hide (HB.out.trans ((HW0.out.trans hb2.out).mono hbs))
      have HI2 : Hid (Lib.IsBuilderF 72 5 wr.heap.size wr.heap.size (Lib.byteCells (34 :: escL (l.take 0))) w2) := .inr hbl2.out
      have HBS := hide hbs
      clear HW0 HW1 hb2 hbl2 HB hbs hnx
      obtain ⟨B, hBd⟩ : ∃ B, wr.heap.size = B := ⟨_, rfl⟩
      rw [hBd] at HS2 HI2 HBS ⊢
      clear hBd
      go_loopw [28] (fun v wx => ∃ i : Nat, v = .int .i64 i ∧ i ≤ l.length ∧ Hid (Lib.IsBuilderF 72 5 B B (Lib.byteCells (34 :: escL (l.take i))) wx) ∧ Hid (Below w.heap.size w wx) ∧ Hid (B ≤ wx.heap.size)) (fun v _ => l.length - (intOf v).toNat)
      case atStart => exact ⟨0, rfl, Nat.zero_le _, HI2, HBw2, HS2⟩
      case round =>
        obtain ⟨i, rfl, hi, HI, HB, HS⟩ := hrel
        clear HI2 HBw2 HS2
        have hel := esc_len (l.take i)
        rw [List.length_take] at hel
        by_cases hlt : i < l.length
        · have hlt' : (i : Int) < l.length := by omega
          have HX := hide (esc_take hlt)
          obtain ⟨c, hcc, hat⟩ : ∃ c, l[i] = c ∧ ∀ h : i < (⟨l.toArray⟩ : ByteArray).size, (⟨l.toArray⟩ : ByteArray)[i]'h = c := ⟨_, rfl, fun _ => rfl⟩
          rw [hcc] at HX
          obtain ⟨ys, hys⟩ : ∃ ys, 34 :: escL (l.take i) = ys := ⟨_, rfl⟩
          have hyl : ys.length ≤ 2000001 := by rw [← hys]; simp; omega
          rw [hys] at HI
          have HX2 : Hid (34 :: escL (l.take (i + 1)) = ys ++ (if c = 34 ∨ c = 92 then [92, c] else [c])) := by
            show _ = _
            rw [HX.out, ← hys]
            rfl
          by_cases hq : c = 34 ∨ c = 92
          · rw [if_pos hq] at HX2
            have HWa := hide (Tryz.Builder_WriteByte_k B B _ 92 wr HI.out (by rw [Lib.byteCells_length]; omega) HS.out)
            have hcb : Lib.byteCells ys ++ [.int .u8 92] = Lib.byteCells (ys ++ [92]) := by simp [Lib.byteCells]
            rw [hcb] at HWa
            have HWb := hide (fun (w3 : World) (h : Lib.BuilderAtF 72 5 B B _ (Lib.byteCells (ys ++ [92])) w3) hs => Tryz.Builder_WriteByte_k B B _ (c.toNat : Int) w3 (Or.inr h) (by rw [Lib.byteCells_length, List.length_append]; simp; omega) hs)
            have hcb2 : Lib.byteCells (ys ++ [92]) ++ [.int .u8 (c.toNat : Int)] = Lib.byteCells (34 :: escL (l.take (i + 1))) := by rw [HX2.out]; simp [Lib.byteCells]
            rw [hcb2] at HWb
            clear hcb hcb2 HX HX2 hys hcc HI hel
            rcases hq with rfl | rfl
            · go_wp2_with (first
                | (go_at_call 59; refine HWa.out.mono ?_; rintro e w3 ⟨rfl, hbl3, hb3, _⟩; replace hbl3 := hide hbl3; replace hb3 := hide hb3; replace HWb := hide (HWb.out w3 hbl3.out (Nat.le_trans HS.out hb3.out.size)); clear HWa)
                | (go_at_call 59; refine HWb.out.mono ?_; rintro e w4 ⟨rfl, hbl4, hb4, _⟩; replace hbl4 := hide hbl4; replace hb4 := hide hb4))
              go_roundw
              case rel => exact ⟨i + 1, by go_num, by omega, .inr hbl4.out, HB.out.trans ((hb3.out.trans hb4.out).mono HBS.out), Nat.le_trans HS.out (hb3.out.trans hb4.out).size⟩
              case measure => simp [intOf]; omega
            · go_wp2_with (first
                | (go_at_call 59; refine HWa.out.mono ?_; rintro e w3 ⟨rfl, hbl3, hb3, _⟩; replace hbl3 := hide hbl3; replace hb3 := hide hb3; replace HWb := hide (HWb.out w3 hbl3.out (Nat.le_trans HS.out hb3.out.size)); clear HWa)
                | (go_at_call 59; refine HWb.out.mono ?_; rintro e w4 ⟨rfl, hbl4, hb4, _⟩; replace hbl4 := hide hbl4; replace hb4 := hide hb4))
              go_roundw
              case rel => exact ⟨i + 1, by go_num, by omega, .inr hbl4.out, HB.out.trans ((hb3.out.trans hb4.out).mono HBS.out), Nat.le_trans HS.out (hb3.out.trans hb4.out).size⟩
              case measure => simp [intOf]; omega
          · rw [if_neg hq] at HX2
            have HWb := hide (Tryz.Builder_WriteByte_k B B _ (c.toNat : Int) wr HI.out (by rw [Lib.byteCells_length]; omega) HS.out)
            have hcb2 : Lib.byteCells ys ++ [.int .u8 (c.toNat : Int)] = Lib.byteCells (34 :: escL (l.take (i + 1))) := by rw [HX2.out]; simp [Lib.byteCells]
            rw [hcb2] at HWb
            have q1 : ((c.toNat : Int) == 34) = false := beq_eq_false_iff_ne.2 fun h => hq (.inl (by rw [← UInt8.toNat_inj]; exact Int.ofNat.inj h))
            have q2 : ((c.toNat : Int) == 92) = false := beq_eq_false_iff_ne.2 fun h => hq (.inr (by rw [← UInt8.toNat_inj]; exact Int.ofNat.inj h))
            clear hcb2 HX HX2 hys hcc HI hel hq
            go_wp2_with (first
              | (go_at_call 59; refine HWb.out.mono ?_; rintro e w4 ⟨rfl, hbl4, hb4, _⟩; replace hbl4 := hide hbl4; replace hb4 := hide hb4))
            go_roundw
            case rel => exact ⟨i + 1, by go_num, by omega, .inr hbl4.out, HB.out.trans (hb4.out.mono HBS.out), Nat.le_trans HS.out hb4.out.size⟩
            case measure => simp [intOf]; omega
        · obtain rfl : i = l.length := by omega
          rw [List.take_length] at HI hel
          have HWa := hide (Tryz.Builder_WriteString_k B B _ ⟨#[34]⟩ wr HI.out (by rw [Lib.byteCells_length]; simp [ByteArray.size]; omega) HS.out)
          have hcb : Lib.byteCells (34 :: escL l) ++ Lib.strCells ⟨#[34]⟩ = Lib.byteCells (quoI l) := by
            rw [HQ.out]
            exact byteCells_app (34 :: escL l) [34]
          rw [hcb] at HWa
          have HWb := hide (fun (w3 : World) (h : Lib.BuilderAtF 72 5 B B _ (Lib.byteCells (quoI l)) w3) hs => Tryz.Builder_String_any_k B B (quoI l) w3 (Or.inr h) hs)
          clear hcb HI hel
          go_wp2_with (first
            | (go_at_call 60; refine HWa.out.mono ?_; rintro e w3 ⟨rfl, hbl3, hb3, _⟩; replace hbl3 := hide hbl3; replace hb3 := hide hb3; replace HWb := hide (HWb.out w3 hbl3.out (Nat.le_trans HS.out hb3.out.size)))
            | (go_at_call 34; refine HWb.out.mono ?_; rintro e w4 ⟨rfl, _, hb4, _⟩; replace hb4 := hide hb4))
          go_ret
          exact ⟨rfl, HB.out.trans ((hb3.out.trans hb4.out).mono HBS.out)⟩
end Go.Proofs.YtegplihhbdmnbaaGreatDoor
