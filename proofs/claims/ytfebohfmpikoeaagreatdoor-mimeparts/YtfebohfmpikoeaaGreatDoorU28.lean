/- Quote of package mime. -/
/- quoteOrNil and paramsText of package mime. -/
import Derived.Test.YtfebohfmpikoeaaGreatDoorU15
import Derived.Test.YtfebohfmpikoeaaGreatDoorU10
import Derived.Test.YtfebohfmpikoeaaGreatDoorShelf2
import Derived.Test.YtfebohfmpikoeaaGreatDoorU06
import Derived.Lib.Itoa
import Derived.Lib.ItoaLen
import Derived.Lib.OthersKept
import Derived.Deep.LoopGhost
import Derived.Test.YtfebohfmpikoeaaGreatDoorU24
section
namespace Go.Proofs.YtfebohfmpikoeaaGreatDoor
open Go.RowKit Go.Shelf
/-- The table by which the library writes numbers lies in this world. -/
def TabM (w : World) : Prop := Lib.TabIs Tryz.prog w "internal/strconv.uint64pow10" .u64 Lib.pow10Tab ∧ 13 < w.heap.size
theorem tabGlobalM : Tryz.prog.globalNamed "internal/strconv.uint64pow10" = some 13 := by kernel_rfl
theorem TabM.below {w w' : World} (h : TabM w) (hb : Below w.heap.size w w') : TabM w' :=
  ⟨var?_below hb tabGlobalM h.2 h.1, Nat.lt_of_lt_of_le h.2 hb.size⟩
theorem grow_belowM (w : World) (k : Nat) (os : Array Obj) : Below w.heap.size w (Sort.grow (w.drewN k) os) :=
  ⟨rfl, rfl, rfl, by simp [Sort.grow], fun j hj => by simp [Sort.grow, Array.getElem?_append_left hj]⟩
theorem itoaM (n : Int) (h0 : 0 ≤ n) (h1 : n ≤ 9223372036854775807) (w : World) (ht : TabM w) :
    Calls Tryz.prog 47 #[.int .i64 n] w fun e w' => e = .returned (.string ⟨(Lib.decDigits n.toNat).toArray⟩) ∧ Below w.heap.size w w' := by
  refine (Tryz.strconv_Itoa n (by omega) h1 w ht.1).mono ?_
  rintro e w' ⟨rfl, k, os, rfl⟩
  refine ⟨?_, grow_belowM w k os⟩
  have : Lib.itoa n = Lib.decDigits n.toNat := by
    unfold Lib.itoa
    rw [if_neg (by omega)]
  rw [this]
theorem dec_len (n : Nat) (h : n ≤ 1000000) : (Lib.decDigits n).length ≤ 100 := by
  rw [Lib.decDigits_length]
  have := Lib.nDigits_le20 n (by omega)
  omega
theorem prB_lo {c : UInt8} (h : prB c = true) : 32 ≤ c.toNat ∧ c.toNat ≤ 126 := by simpa [prB] using h
theorem prB_no {c : UInt8} (h : prB c = false) : c.toNat < 32 ∨ 126 < c.toNat := by
  simp [prB] at h
  omega
theorem all_next {l : List UInt8} {k : Nat} (hk : k < l.length) (h : (l.take k).all prB = true) (hc : prB l[k] = true) : (l.take (k + 1)).all prB = true := by
  rw [List.take_succ_eq_append_getElem hk, List.all_append, h]
  simp [hc]
theorem all_not {l : List UInt8} {k : Nat} (hk : k < l.length) (hc : prB l[k] = false) : l.all prB = false := by
  cases h : l.all prB with
  | false => rfl
  | true =>
    rw [List.all_eq_true] at h
    rw [h _ (List.getElem_mem hk)] at hc
    cases hc
theorem esc_take {l : List UInt8} {k : Nat} (hk : k < l.length) : escL (l.take (k + 1)) = escL (l.take k) ++ (if l[k] = 34 ∨ l[k] = 92 then [92, l[k]] else [l[k]]) := by
  unfold escL
  rw [List.take_succ_eq_append_getElem hk, List.flatMap_append]
  simp
theorem esc_len (l : List UInt8) : (escL l).length ≤ 2 * l.length := by
  unfold escL
  induction l with
  | nil => simp
  | cons c r ih =>
    rw [List.flatMap_cons, List.length_append, List.length_cons]
    split
    · simp only [List.length_cons, List.length_nil]
      omega
    · simp only [List.length_cons, List.length_nil]
      omega
set_option maxRecDepth 20000 in
set_option maxHeartbeats 2000000 in
theorem quote_any (l : List UInt8) (w : World) (ht : TabM w) (hl : l.length ≤ 1000000) :
    Calls Tryz.prog 22 #[.string ⟨l.toArray⟩] w fun e w' => e = .returned (.string ⟨(quoI l).toArray⟩) ∧ Below w.heap.size w w' := by
  have hsz := size_lit l
  have HTab := hide ht
  clear ht
  go_enter Tryz.func22, Tryz.ntmps22
  go_wp2
  go_loopg [] l.length (fun gk wx => ∃ pos : Nat, pos ≤ l.length ∧ l.length ≤ pos + gk ∧ wx.heap[w.heap.size]? = some (.stringIter ⟨l.toArray⟩ pos) ∧ Hid (Below w.heap.size w wx) ∧ Hid ((l.take pos).all prB = true))
  case atStart => exact ⟨0, Nat.zero_le _, by omega, World.iter_heap w ⟨l.toArray⟩ 0, (Below.refl _ w).alloc (Nat.le_refl _) _, rfl⟩
  case round =>
    obtain ⟨pos, hpl, hgk, hit, HB, HA⟩ := hrel
    by_cases hps : pos < l.length
    · have hps' : pos < (⟨l.toArray⟩ : ByteArray).size := by rw [hsz]; exact hps
      have hnx : ∀ ty, (Instr.next (.pointer (some ⟨w.heap.size, 0, none⟩)) true ty).run Tryz.prog wr = _ := fun ty => Lib.run_next_any_at wr w.heap.size ⟨l.toArray⟩ pos ty hit hps'
      obtain ⟨c, hcc⟩ : ∃ c, l[pos] = c := ⟨_, rfl⟩
      have hat : (⟨l.toArray⟩ : ByteArray)[pos]'hps' = c := hcc
      have hit2 := Lib.iterAt_heap wr w.heap.size ⟨l.toArray⟩ pos (pos + (Utf8.decode ⟨l.toArray⟩ pos).2) hit
      have hbw2 := Lib.below_iterAt HB.out (k := w.heap.size) (Nat.le_refl _) ⟨l.toArray⟩ (pos + (Utf8.decode ⟨l.toArray⟩ pos).2)
      cases hp : prB c with
      | true =>
        have hlo := prB_lo hp
        have hdec := decode_ascii ⟨l.toArray⟩ pos hps' (by rw [hat]; omega)
        rw [hat] at hdec
        rw [hdec] at hnx hit2 hbw2
        have HA2 := hide (all_next hps HA.out (by rw [hcc]; exact hp))
        obtain ⟨W, hWd⟩ : ∃ W, wr.iterAt w.heap.size ⟨l.toArray⟩ (pos + 1) = W := ⟨_, rfl⟩
        dsimp only at hnx hit2 hbw2
        rw [hWd] at hnx hit2 hbw2
        have b1 : ¬ (c.toNat : Int) < 32 := by omega
        have b2 : ¬ (c.toNat : Int) > 126 := by omega
        replace hbw2 := hide hbw2
        clear hWd hdec hat hcc hp hit
        go_wp2
        go_roundg (gk - 1)
        case rel => exact ⟨pos + 1, by omega, by omega, hit2, hbw2, HA2⟩
        case measure => omega
      | false =>
        have hno := prB_no hp
        have HQ : Hid (quoI l = 123 :: (Lib.decDigits l.length ++ (125 :: 13 :: 10 :: l))) := by
          show _ = _
          unfold quoI
          rw [all_not hps (by rw [hcc]; exact hp)]
          rfl
        obtain ⟨R, hR⟩ : ∃ R, (Utf8.decode ⟨l.toArray⟩ pos).1 = R := ⟨_, rfl⟩
        have hR2 : R < 32 ∨ 126 < R := by
          by_cases h128 : c.toNat < 128
          · have hdec := decode_ascii ⟨l.toArray⟩ pos hps' (by rw [hat]; exact h128)
            rw [hat] at hdec
            rw [← hR, hdec]
            exact hno
          · have := decode_high ⟨l.toArray⟩ pos hps' (by rw [hat]; omega)
            omega
        obtain ⟨K, hK⟩ : ∃ K, (Utf8.decode ⟨l.toArray⟩ pos).2 = K := ⟨_, rfl⟩
        rw [hR, hK] at hnx
        rw [hK] at hbw2
        obtain ⟨W, hWd⟩ : ∃ W, wr.iterAt w.heap.size ⟨l.toArray⟩ (pos + K) = W := ⟨_, rfl⟩
        rw [hWd] at hnx hbw2
        have HIt := hide (itoaM (l.length : Int) (by omega) (by omega) W (HTab.out.below hbw2))
        have hln : ((l.length : Int)).toNat = l.length := by omega
        rw [hln] at HIt
        have hdl : (Lib.decDigits l.length).length ≤ 100 := dec_len l.length (by omega)
        have hc1 : (⟨#[123]⟩ : ByteArray) ++ ⟨(Lib.decDigits l.length).toArray⟩ = ⟨(123 :: Lib.decDigits l.length).toArray⟩ := cat_lit [123] _
        have hc2 : (⟨(123 :: Lib.decDigits l.length).toArray⟩ : ByteArray) ++ ⟨#[125, 13, 10]⟩ = ⟨((123 :: Lib.decDigits l.length) ++ [125, 13, 10]).toArray⟩ := cat_lit _ [125, 13, 10]
        have hc3 : (⟨((123 :: Lib.decDigits l.length) ++ [125, 13, 10]).toArray⟩ : ByteArray) ++ ⟨l.toArray⟩ = ⟨(quoI l).toArray⟩ := by
          rw [cat_lit, HQ.out]
          simp
        obtain ⟨d1, hd1⟩ : ∃ d1, Lib.decDigits l.length = d1 := ⟨_, rfl⟩
        rw [hd1] at HIt hc1 hc2 hc3 hdl
        obtain ⟨d2, hd2⟩ : ∃ d2, 123 :: d1 = d2 := ⟨_, rfl⟩
        have hd2l : d2.length ≤ 101 := by rw [← hd2]; simp; omega
        rw [hd2] at hc1 hc2 hc3
        obtain ⟨d3, hd3⟩ : ∃ d3, d2 ++ [125, 13, 10] = d3 := ⟨_, rfl⟩
        have hd3l : d3.length ≤ 104 := by rw [← hd3]; simp; omega
        rw [hd3] at hc2 hc3
        have hz1 := size_lit d1
        have hz2 := size_lit d2
        have hz3 := size_lit d3
        replace hbw2 := hide hbw2
        obtain ⟨QL, hQL⟩ : ∃ QL, quoI l = QL := ⟨_, rfl⟩
        rw [hQL] at hc3
        have HQL := hide hQL
        clear hQL
        clear hWd hR hK hd1 hd2 hd3 hat hcc hp hno hit hit2 hln HQ
        rcases hR2 with hR2 | hR2
        · have b1 : (R : Int) < 32 := by omega
          go_wp2_with (first
            | (go_at_call 47; refine HIt.out.mono ?_; rintro e w3 ⟨rfl, hb3⟩; replace hb3 := hide hb3))
          go_ret
          exact ⟨by rw [HQL.out]; rfl, hbw2.out.trans (hb3.out.mono hbw2.out.size)⟩
        · have b1 : ¬ (R : Int) < 32 := by omega
          have b2 : (R : Int) > 126 := by omega
          go_wp2_with (first
            | (go_at_call 47; refine HIt.out.mono ?_; rintro e w3 ⟨rfl, hb3⟩; replace hb3 := hide hb3))
          go_ret
          exact ⟨by rw [HQL.out]; rfl, hbw2.out.trans (hb3.out.mono hbw2.out.size)⟩
    · obtain rfl : pos = l.length := by omega
      have hps' : ¬ l.length < (⟨l.toArray⟩ : ByteArray).size := by rw [hsz]; exact hps
      have hnx : ∀ ty, (Instr.next (.pointer (some ⟨w.heap.size, 0, none⟩)) true ty).run Tryz.prog wr = _ := fun ty => Lib.run_next_end_at wr w.heap.size ⟨l.toArray⟩ l.length ty hit hps'
      have HQ : Hid (quoI l = 34 :: (escL l ++ [34])) := by
        have := HA.out
        rw [List.take_length] at this
        show _ = _
        unfold quoI
        rw [this]
        rfl
      have hbs := HB.out.size
      have HB0 : Hid (Lib.IsBuilderF 78 5 wr.heap.size wr.heap.size (Lib.byteCells []) (wr.alloc (.cells #[.pointer none, .slice none 0 0] 78))) := Lib.IsBuilderF.of (Lib.fresh_isBuilder _ _ wr)
      have HW1 := hide (Tryz.Builder_WriteString_k wr.heap.size wr.heap.size _ ⟨#[34]⟩ _ HB0.out (by simp [Lib.byteCells, ByteArray.size]) (by simp))
      have HW0 := hide (((Below.refl wr.heap.size wr).alloc (Nat.le_refl _) (.cells #[.pointer none, .slice none 0 0] 78)))
      clear hps hps' hit HA HB0
      go_wp2_with (first
        | (go_at_call 48; refine HW1.out.mono ?_; rintro e w2 ⟨rfl, hbl2, hb2, _⟩; replace hbl2 := hide hbl2; replace hb2 := hide hb2))
      have HS2 : Hid (wr.heap.size ≤ w2.heap.size) := (HW0.out.trans hb2.out).size
      have HBw2 := hide (HB.out.trans ((HW0.out.trans hb2.out).mono hbs))
      have HI2 : Hid (Lib.IsBuilderF 78 5 wr.heap.size wr.heap.size (Lib.byteCells (34 :: escL (l.take 0))) w2) := .inr hbl2.out
      have HBS := hide hbs
      clear HW0 HW1 hb2 hbl2 HB hbs hnx
      obtain ⟨B, hBd⟩ : ∃ B, wr.heap.size = B := ⟨_, rfl⟩
      rw [hBd] at HS2 HI2 HBS ⊢
      clear hBd
      go_loopw [28] (fun v wx => ∃ i : Nat, v = .int .i64 i ∧ i ≤ l.length ∧ Hid (Lib.IsBuilderF 78 5 B B (Lib.byteCells (34 :: escL (l.take i))) wx) ∧ Hid (Below w.heap.size w wx) ∧ Hid (B ≤ wx.heap.size)) (fun v _ => l.length - (intOf v).toNat)
      case atStart => exact ⟨0, rfl, Nat.zero_le _, HI2, HBw2, HS2⟩
      case round =>
        obtain ⟨i, rfl, hi, HI, HB, HS⟩ := hrel
        clear HI2 HBw2 HS2
        have hel := esc_len (l.take i)
        rw [List.length_take] at hel
        by_cases hlt : i < l.length
        · have hlt' : (i : Int) < l.length := by omega
          have HX := hide (esc_take hlt)
          obtain ⟨c, hcc, hat⟩ : ∃ c, l[i] = c ∧ ∀ h : i < (⟨l.toArray⟩ : ByteArray).size, (⟨l.toArray⟩ : ByteArray)[i]'h = c := ⟨_, rfl, fun _ => rfl⟩
          rw [hcc] at HX
          obtain ⟨ys, hys⟩ : ∃ ys, 34 :: escL (l.take i) = ys := ⟨_, rfl⟩
          have hyl : ys.length ≤ 2000001 := by rw [← hys]; simp; omega
          rw [hys] at HI
          have HX2 : Hid (34 :: escL (l.take (i + 1)) = ys ++ (if c = 34 ∨ c = 92 then [92, c] else [c])) := by
            show _ = _
            rw [HX.out, ← hys]
            rfl
          by_cases hq : c = 34 ∨ c = 92
          · rw [if_pos hq] at HX2
            have HWa := hide (Tryz.Builder_WriteByte_k B B _ 92 wr HI.out (by rw [Lib.byteCells_length]; omega) HS.out)
            have hcb : Lib.byteCells ys ++ [.int .u8 92] = Lib.byteCells (ys ++ [92]) := by simp [Lib.byteCells]
            rw [hcb] at HWa
            have HWb := hide (fun (w3 : World) (h : Lib.BuilderAtF 78 5 B B _ (Lib.byteCells (ys ++ [92])) w3) hs => Tryz.Builder_WriteByte_k B B _ (c.toNat : Int) w3 (Or.inr h) (by rw [Lib.byteCells_length, List.length_append]; simp; omega) hs)
            have hcb2 : Lib.byteCells (ys ++ [92]) ++ [.int .u8 (c.toNat : Int)] = Lib.byteCells (34 :: escL (l.take (i + 1))) := by rw [HX2.out]; simp [Lib.byteCells]
            rw [hcb2] at HWb
            clear hcb hcb2 HX HX2 hys hcc HI hel
            rcases hq with rfl | rfl
            · go_wp2_with (first
                | (go_at_call 49; refine HWa.out.mono ?_; rintro e w3 ⟨rfl, hbl3, hb3, _⟩; replace hbl3 := hide hbl3; replace hb3 := hide hb3; replace HWb := hide (HWb.out w3 hbl3.out (Nat.le_trans HS.out hb3.out.size)); clear HWa)
                | (go_at_call 49; refine HWb.out.mono ?_; rintro e w4 ⟨rfl, hbl4, hb4, _⟩; replace hbl4 := hide hbl4; replace hb4 := hide hb4))
              go_roundw
              case rel => exact ⟨i + 1, by go_num, by omega, .inr hbl4.out, HB.out.trans ((hb3.out.trans hb4.out).mono HBS.out), Nat.le_trans HS.out (hb3.out.trans hb4.out).size⟩
              case measure => simp [intOf]; omega
            · go_wp2_with (first
                | (go_at_call 49; refine HWa.out.mono ?_; rintro e w3 ⟨rfl, hbl3, hb3, _⟩; replace hbl3 := hide hbl3; replace hb3 := hide hb3; replace HWb := hide (HWb.out w3 hbl3.out (Nat.le_trans HS.out hb3.out.size)); clear HWa)
                | (go_at_call 49; refine HWb.out.mono ?_; rintro e w4 ⟨rfl, hbl4, hb4, _⟩; replace hbl4 := hide hbl4; replace hb4 := hide hb4))
              go_roundw
              case rel => exact ⟨i + 1, by go_num, by omega, .inr hbl4.out, HB.out.trans ((hb3.out.trans hb4.out).mono HBS.out), Nat.le_trans HS.out (hb3.out.trans hb4.out).size⟩
              case measure => simp [intOf]; omega
          · rw [if_neg hq] at HX2
            have HWb := hide (Tryz.Builder_WriteByte_k B B _ (c.toNat : Int) wr HI.out (by rw [Lib.byteCells_length]; omega) HS.out)
            have hcb2 : Lib.byteCells ys ++ [.int .u8 (c.toNat : Int)] = Lib.byteCells (34 :: escL (l.take (i + 1))) := by rw [HX2.out]; simp [Lib.byteCells]
            rw [hcb2] at HWb
            have q1 : ((c.toNat : Int) == 34) = false := beq_eq_false_iff_ne.2 fun h => hq (.inl (by rw [← UInt8.toNat_inj]; exact Int.ofNat.inj h))
            have q2 : ((c.toNat : Int) == 92) = false := beq_eq_false_iff_ne.2 fun h => hq (.inr (by rw [← UInt8.toNat_inj]; exact Int.ofNat.inj h))
            clear hcb2 HX HX2 hys hcc HI hel hq
            go_wp2_with (first
              | (go_at_call 49; refine HWb.out.mono ?_; rintro e w4 ⟨rfl, hbl4, hb4, _⟩; replace hbl4 := hide hbl4; replace hb4 := hide hb4))
            go_roundw
            case rel => exact ⟨i + 1, by go_num, by omega, .inr hbl4.out, HB.out.trans (hb4.out.mono HBS.out), Nat.le_trans HS.out hb4.out.size⟩
            case measure => simp [intOf]; omega
        · obtain rfl : i = l.length := by omega
          rw [List.take_length] at HI hel
          have HWa := hide (Tryz.Builder_WriteString_k B B _ ⟨#[34]⟩ wr HI.out (by rw [Lib.byteCells_length]; simp [ByteArray.size]; omega) HS.out)
          have hcb : Lib.byteCells (34 :: escL l) ++ Lib.strCells ⟨#[34]⟩ = Lib.byteCells (quoI l) := by
            rw [HQ.out]
            exact byteCells_app (34 :: escL l) [34]
          rw [hcb] at HWa
          have HWb := hide (fun (w3 : World) (h : Lib.BuilderAtF 78 5 B B _ (Lib.byteCells (quoI l)) w3) hs => Tryz.Builder_String_any_k B B (quoI l) w3 (Or.inr h) hs)
          clear hcb HI hel
          go_wp2_with (first
            | (go_at_call 48; refine HWa.out.mono ?_; rintro e w3 ⟨rfl, hbl3, hb3, _⟩; replace hbl3 := hide hbl3; replace hb3 := hide hb3; replace HWb := hide (HWb.out w3 hbl3.out (Nat.le_trans HS.out hb3.out.size)))
            | (go_at_call 41; refine HWb.out.mono ?_; rintro e w4 ⟨rfl, _, hb4, _⟩; replace hb4 := hide hb4))
          go_ret
          exact ⟨rfl, HB.out.trans ((hb3.out.trans hb4.out).mono HBS.out)⟩
end Go.Proofs.YtfebohfmpikoeaaGreatDoor

end
section
set_option linter.unusedSimpArgs false
namespace Go.Proofs.YtfebohfmpikoeaaGreatDoor
open Go.RowKit Go.Shelf
theorem eq_nil_lit (l : List UInt8) : ((⟨l.toArray⟩ : ByteArray) = ⟨#[]⟩) ↔ l = [] := by
  constructor
  · intro h
    have := congrArg (fun b : ByteArray => b.data.toList) h
    simpa using this
  · rintro rfl
    rfl
set_option maxHeartbeats 1000000 in
theorem nil_any (l : List UInt8) (w : World) (ht : TabM w) (hl : l.length ≤ 1000000) :
    Calls Tryz.prog 94 #[.string ⟨l.toArray⟩] w fun e w' => e = .returned (.string ⟨(nilI l).toArray⟩) ∧ Below w.heap.size w w' := by
  have HQ := hide (quote_any l w ht hl)
  have HN : Hid (nilI l = if l = [] then tNil else quoI l) := rfl
  generalize nilI l = N at *
  generalize quoI l = q at *
  by_cases h : l = []
  · subst h
    rw [if_pos rfl] at HN
    go_enter Tryz.func94, Tryz.ntmps94
    go_wp2
    go_ret
    exact ⟨by rw [HN.out]; rfl, Below.refl _ _⟩
  · rw [if_neg h] at HN
    have h1 : l.isEmpty = false := by simpa using h
    clear h
    go_enter Tryz.func94, Tryz.ntmps94
    go_wp2_with (first
      | (go_at_call 22; refine HQ.out.mono ?_; rintro e w2 ⟨rfl, hb2⟩))
    go_ret
    exact ⟨by rw [HN.out]; rfl, hb2⟩
def strF (x : List UInt8) : List Value := [.string ⟨x.toArray⟩]
theorem strF_len (x : List UInt8) : (strF x).length = 1 := rfl
theorem flat_str (xs : List (List UInt8)) : xs.flatMap strF = xs.map fun x => .string ⟨x.toArray⟩ := by
  induction xs with
  | nil => rfl
  | cons x r ih => rw [List.flatMap_cons, ih]; rfl
theorem RowOf.grow2 {B N : Nat} {xs : List (List UInt8)} {x y : List UInt8} {w1 : World} {v1 : Value} {G G1 : Option Nat} (hg : ∀ g, G = some g → B ≤ g) (hr : Rw w1 1 v1 (xs.length + 2) (xs.flatMap strF ++ [.string ⟨x.toArray⟩, .string ⟨y.toArray⟩]) G1) (hG : G1 = G ∨ G1 = some N) (hB : B ≤ N) : RowOf strF 1 B w1 v1 (xs ++ [x, y]) := by
  refine ⟨G1, ?_, ?_⟩
  · rw [List.length_append, List.flatMap_append]
    exact hr
  · rintro g rfl
    rcases hG with h | h
    · exact hg g h.symm
    · cases h
      exact hB
theorem join_row {B : Nat} {v : Value} {xs : List (List UInt8)} (w : World) (h : RowOf strF 1 B w v xs) (h0 : xs ≠ []) (hl : xs.length ≤ 100000000) (hj : (Lib.join xs [32]).length ≤ 140737488355328) :
    Calls Tryz.prog 70 #[v, .string ⟨#[32]⟩] w fun e w' => e = .returned (.string ⟨(Lib.join xs [32]).toArray⟩) ∧ Below w.heap.size w w' := by
  obtain ⟨G, hr, hg⟩ := h
  have hm : (xs.map (fun x => (⟨x.toArray⟩ : ByteArray))).map (·.data.toList) = xs := by
    rw [List.map_map]
    exact (List.map_congr_left (fun x _ => by simp)).trans (List.map_id _)
  rcases hr.2 with ⟨_, hn, _⟩ | ⟨g, o, cap, _, rfl, h1, h2, h3, h4, _⟩
  · exact absurd (List.length_eq_zero_iff.1 hn) h0
  · have := Tryz.strings_Join g o cap (xs.map fun x => ⟨x.toArray⟩) ⟨#[32]⟩ w (fun j x hx => by
      refine h4 j _ ?_
      rw [flat_str, List.getElem?_map]
      rw [List.getElem?_map] at hx
      cases hq : xs[j]? with
      | none => rw [hq] at hx; cases hx
      | some q => rw [hq] at hx; cases hx; rfl) h3 (by simpa using (by omega : xs.length ≤ 140737488355328)) (by simpa using h1) (by rw [hm]; exact hj)
    rw [hm, List.length_map] at this
    exact this
theorem Rw.of_makes {w : World} {base : Nat} {e : TypeId} {v : Value} {n : Nat} {xs : List Value} (h : w.ownsRow base e 1 v n xs) : Rw w 1 v n xs v.ownBlock := by
  refine ⟨by rw [h.1], ?_⟩
  rcases h.2 with ⟨rfl, hn⟩ | ⟨g, cap, cur, rfl, _, hg, h1, h2, h3, h4⟩
  · exact .inl ⟨rfl, hn, rfl⟩
  · have hk : Blk w g cur e := hg
    refine .inr ⟨g, 0, cap, rfl, rfl, h1, h2, hk.lt, fun j u hu => ?_, fun j hj => ⟨?_, hk.frozen _⟩⟩
    · have hj := (List.getElem?_eq_some_iff.1 hu).1
      rw [← h4] at hu
      simp only [Nat.mul_one] at hu
      rw [hk.cell, Nat.zero_add]
      have hjn : j < n := by rw [h.1] at hj; omega
      rw [List.getElem?_take_of_lt hjn] at hu
      simpa using hu
    · rw [hk.cell, Nat.zero_add, Array.getElem?_eq_getElem (by omega)]
      rfl
theorem two_len (ps : List Pm) : (ps.flatMap fun p => [quoI p.name, quoI p.value]).length = 2 * ps.length := by
  induction ps with
  | nil => rfl
  | cons p r ih => rw [List.flatMap_cons, List.length_append, ih, List.length_cons]; simp; omega
theorem src_two {w : World} (x y : List UInt8) {c : Nat} : Src Tryz.prog 1 69 (.slice (some ⟨w.heap.size, 0, none⟩) 2 c) 2 [.string ⟨x.toArray⟩, .string ⟨y.toArray⟩] (w.alloc (.cells #[.string ⟨x.toArray⟩, .string ⟨y.toArray⟩] 9)) := by
  refine Src.ofSlice _ Tryz.underlying69 ⟨w.heap.size, 0, none⟩ 2 c _ (by simp) (fun j u hu => ?_) (by simp [Value.oneCell'])
  have hk := Blk.new w #[.string ⟨x.toArray⟩, .string ⟨y.toArray⟩] 9
  have hj := (List.getElem?_eq_some_iff.1 hu).1
  simp only [Addr.add_lit, Nat.zero_add]
  rw [hk.cell]
  simpa using hu
set_option maxRecDepth 20000 in
set_option maxHeartbeats 2000000 in
theorem par_any (ps : List Pm) (v : Value) (w : World) (ht : TabM w) (hr : ReadOf Pm.cs 2 w v ps) (hl : ps.length ≤ 1000000) (hp : ∀ p ∈ ps, p.name.length ≤ 1000000 ∧ p.value.length ≤ 1000000) (hj : (parI ps).length ≤ 100000000000000) :
    Calls Tryz.prog 93 #[v] w fun e w' => e = .returned (.string ⟨(parI ps).toArray⟩) ∧ Below w.heap.size w w' := by
  obtain ⟨A, c, rfl, hc⟩ := hr
  have HC := hide hc
  have HP := hide hp
  have HTab := hide ht
  have HJ := hide hj
  clear hc hp ht hj
  have HN : Hid (parI ps = if ps = [] then tNil else 40 :: (Lib.join (ps.flatMap fun p => [quoI p.name, quoI p.value]) [32] ++ [41])) := rfl
  generalize parI ps = N at *
  by_cases h : ps = []
  · rw [if_pos h] at HN
    have h0 : ps.length = 0 := by rw [h]; rfl
    rw [h0]
    clear HC HP
    go_enter Tryz.func93, Tryz.ntmps93
    go_wp2
    go_ret
    exact ⟨by rw [HN.out]; rfl, Below.refl _ _⟩
  · rw [if_neg h] at HN
    have h0 : 0 < ps.length := List.length_pos_iff.2 h
    have h0' : ¬ ((ps.length : Int) = 0) := by omega
    have HNe := hide h
    obtain ⟨n, hn⟩ : ∃ n, ps.length = n := ⟨_, rfl⟩
    have HLn := hide hn
    rw [hn] at hl h0 h0' ⊢
    clear h hn
    go_enter Tryz.func93, Tryz.ntmps93
    obtain ⟨i0, hi, hz0, hz1, hz2⟩ := info_parts strInfo
    go_wp2_with (at_make; refine wpList_make_own w rfl _ _ 69 rfl w.heap.size 9 i0 (.string ⟨#[]⟩) 1 Tryz.underlying69 hi hz0 hz1 .i64 .i64 _ (2 * n) rfl (by go_num) (by omega) (by rw [hz2]; omega) (by simp only [maxLen]; omega) (Nat.le_refl _) ?_)
    intro w1 how1 hgr1
    have HR1 : Hid (RowOf strF 1 w.heap.size w1 (.slice (some ⟨w.heap.size, 0, none⟩) 0 (2 * n)) []) := ⟨some w.heap.size, Rw.of_makes how1, fun g hg => by cases hg; exact Nat.le_refl _⟩
    have HB1 : Hid (Below w.heap.size w w1) := ⟨hgr1.os, hgr1.tape, hgr1.output, hgr1.size, fun k hk => hgr1.block k hk (by simp)⟩
    clear how1 hgr1
    go_wp2_with fail
    go_loopw [3, 15] (fun v3 v15 wr => ∃ i : Nat, v15 = .int .i64 i ∧ i ≤ n ∧ Hid (RowOf strF 1 w.heap.size wr v3 ((ps.take i).flatMap fun p => [quoI p.name, quoI p.value])) ∧ Hid (Below w.heap.size w wr)) (fun _ v15 _ => n - (intOf v15).toNat)
    case atStart => exact ⟨0, rfl, Nat.zero_le _, HR1, HB1⟩
    case round =>
      obtain ⟨i, rfl, hin, HR, HB⟩ := hrel
      clear HR1 HB1
      have hbs := HB.out.size
      by_cases hlt : i < n
      · have hlt' : (i : Int) < n := by omega
        have hip : i < ps.length := by rw [HLn.out]; exact hlt
        obtain ⟨g, o, rfl, hg, hcs⟩ := HC.out i hip
        have hpb := HP.out _ (List.getElem_mem hip)
        obtain ⟨a, b, hab⟩ : ∃ a b, ps[i] = ⟨a, b⟩ := ⟨_, _, rfl⟩
        rw [hab] at hcs hpb
        have hla : a.length ≤ 1000000 := hpb.1
        have hlb : b.length ≤ 1000000 := hpb.2
        have HX : Hid (((ps.take (i + 1)).flatMap fun p => [quoI p.name, quoI p.value]) = ((ps.take i).flatMap fun p => [quoI p.name, quoI p.value]) ++ [quoI a, quoI b]) := by
          show _ = _
          rw [List.take_succ_eq_append_getElem hip, List.flatMap_append, hab]
          simp
        have k0 : wr.cell? ⟨g, o + i * 2, none⟩ = some (.string ⟨a.toArray⟩) := (HB.out.cell (p := ⟨g, _, none⟩) hg).trans (hcs 0 (by omega))
        have k1 : wr.cell? ⟨g, o + i * 2 + 1, none⟩ = some (.string ⟨b.toArray⟩) := (HB.out.cell (p := ⟨g, _, none⟩) hg).trans (hcs 1 (by omega))
        clear hcs hpb hab HC
        obtain ⟨XS, hXS⟩ : ∃ XS, ((ps.take i).flatMap fun p => [quoI p.name, quoI p.value]) = XS := ⟨_, rfl⟩
        rw [hXS] at HR HX
        obtain ⟨A3, c3, rfl⟩ := HR.out.form
        have hxl : XS.length ≤ 2000000 := by
          rw [← hXS, two_len, List.length_take]
          omega
        clear hXS
        have HQa := hide (fun W (hT : TabM W) => quote_any a W hT hla)
        have HQb := hide (fun W (hT : TabM W) => quote_any b W hT hlb)
        obtain ⟨qa, hqa⟩ : ∃ q, quoI a = q := ⟨_, rfl⟩
        obtain ⟨qb, hqb⟩ : ∃ q, quoI b = q := ⟨_, rfl⟩
        rw [hqa] at HQa HX
        rw [hqb] at HQb HX
        clear hqa hqb
        go_wp2_with fail
        obtain ⟨D, hD⟩ : ∃ D, wr.heap.size = D := ⟨_, rfl⟩
        have HK1 : Hid (Blk (wr.alloc (.cells #[.string ⟨a.toArray⟩, .string ⟨b.toArray⟩] 32)) D #[.string ⟨a.toArray⟩, .string ⟨b.toArray⟩] 32) := hD ▸ Blk.new wr _ _
        have HB1 := hide (HB.out.alloc hbs (.cells #[.string ⟨a.toArray⟩, .string ⟨b.toArray⟩] 32))
        have HM1 := hide ((Mvs.refl (fun _ => False) wr).alloc (.cells #[.string ⟨a.toArray⟩, .string ⟨b.toArray⟩] 32))
        have hs1 : (wr.alloc (.cells #[.string ⟨a.toArray⟩, .string ⟨b.toArray⟩] 32)).heap.size = D + 1 := by rw [World.size_alloc, hD]
        rw [hD] at hbs ⊢
        obtain ⟨W1, hW1⟩ : ∃ W1, wr.alloc (.cells #[.string ⟨a.toArray⟩, .string ⟨b.toArray⟩] 32) = W1 := ⟨_, rfl⟩
        rw [hW1] at HK1 HB1 HM1 hs1 ⊢
        clear hW1 k0 k1 HB
        obtain ⟨G, hRw0, hG⟩ := HR.out
        have HGD : Hid (¬ some D = G) := fun e => by have := hRw0.lt D e.symm; omega
        have hRw := hRw0.keep (S := fun _ => False) HM1.out (fun _ _ c => c)
        have HRw := hide hRw
        have HG := hide hG
        clear hRw hRw0 hG HR HM1 hD
        refine regionL 9 (fun W => W.cell? ⟨D, 0, none⟩ = some (.string ⟨a.toArray⟩) ∧ W.cell? ⟨D, 1, none⟩ = some (.string ⟨b.toArray⟩)) (by kernel_rfl) ?_
        have HT0 : W1.drew.cell? ⟨D, 0, none⟩ = some (.string ⟨a.toArray⟩) ∧ W1.drew.cell? ⟨D, 1, none⟩ = some (.string ⟨b.toArray⟩) := ⟨by rw [show W1.drew.cell? ⟨D, 0, none⟩ = W1.cell? ⟨D, 0, none⟩ from rfl, HK1.out.cell]; rfl, by rw [show W1.drew.cell? ⟨D, 1, none⟩ = W1.cell? ⟨D, 1, none⟩ from rfl, HK1.out.cell]; rfl⟩
        have HTs := hide HT0
        refine takeW (i := 0) (v := (.slice A3 XS.length c3)) rfl (by kernel_rfl) (by kernel_rfl) (by kernel_rfl) rfl (fun _ _ _ h => h) (fun _ => HT0) (Or.inl ⟨by rfl, fun W _ => by go_simp⟩) ?_
        simp only [Act.put, List.getElem_toArray, List.getElem_cons_succ, List.getElem_cons_zero, List.setIfInBounds_toArray, List.set_cons_zero, List.set_cons_succ]
        refine takeW (i := 1) (v := (.pointer (some ⟨D, 0, none⟩))) rfl (by kernel_rfl) (by kernel_rfl) (by kernel_rfl) rfl (fun _ _ _ h => h) (fun _ => HT0) (Or.inl ⟨by rfl, fun W _ => by go_simp⟩) ?_
        simp only [Act.put, List.getElem_toArray, List.getElem_cons_succ, List.getElem_cons_zero, List.setIfInBounds_toArray, List.set_cons_zero, List.set_cons_succ]
        refine takeL (i := 2) (v := (.string ⟨a.toArray⟩)) rfl (by kernel_rfl) (by kernel_rfl) (by kernel_rfl) (by kernel_rfl) (by kernel_rfl) (fun _ _ _ h => h) HT0 (Or.inl ⟨by rfl, fun W hW => by obtain ⟨t0, t1⟩ := hW; go_simp⟩) ?_
        simp only [Act.put, List.getElem_toArray, List.getElem_cons_succ, List.getElem_cons_zero, List.setIfInBounds_toArray, List.set_cons_zero, List.set_cons_succ]
        refine takeW (i := 4) (v := (.pointer (some ⟨D, 1, none⟩))) rfl (by kernel_rfl) (by kernel_rfl) (by kernel_rfl) rfl (fun _ _ _ h => h) (fun _ => HT0) (Or.inl ⟨by rfl, fun W _ => by go_simp⟩) ?_
        simp only [Act.put, List.getElem_toArray, List.getElem_cons_succ, List.getElem_cons_zero, List.setIfInBounds_toArray, List.set_cons_zero, List.set_cons_succ]
        refine takeL (i := 5) (v := (.string ⟨b.toArray⟩)) rfl (by kernel_rfl) (by kernel_rfl) (by kernel_rfl) (by kernel_rfl) (by kernel_rfl) (fun _ _ _ h => h) HT0 (Or.inl ⟨by rfl, fun W hW => by obtain ⟨t0, t1⟩ := hW; go_simp⟩) ?_
        simp only [Act.put, List.getElem_toArray, List.getElem_cons_succ, List.getElem_cons_zero, List.setIfInBounds_toArray, List.set_cons_zero, List.set_cons_succ]
        refine readyL (rs := [3]) (by kernel_rfl) (by simp) ?_
        refine AllL.cons rfl (fun K hK => ?_) AllL.nil
        try simp only [List.getElem_toArray, List.getElem_cons_succ, List.getElem_cons_zero]
        go_simp
        refine (HQa.out W1.drew (HTab.out.below (⟨HB1.out.os, HB1.out.tape, HB1.out.output, HB1.out.size, HB1.out.block⟩ : Below w.heap.size w W1.drew))).mono ?_
        rintro e w4 ⟨rfl, hb4⟩
        have hb4' : Below W1.heap.size W1 w4 := ⟨hb4.os, hb4.tape, hb4.output, hb4.size, hb4.block⟩
        have HM4 := hide (Mvs.of_below (S := fun _ => False) hb4')
        have hs4 := hb4'.size
        have HT4 := hide (And.intro ((hb4'.cell (p := ⟨D, 0, none⟩) (by show D < _; omega)).trans HTs.out.1) ((hb4'.cell (p := ⟨D, 1, none⟩) (by show D < _; omega)).trans HTs.out.2))
        have HB4 := hide (HB1.out.trans (hb4'.mono (by omega)))
        clear hb4 hb4'
        refine hK.out _ _ (fun _ => HT4.out) (fun HTn => ?_)
        clear hK K HT0
        have HT0 := HTn (by kernel_rfl)
        clear HTn
        try simp only [Act.put, List.getElem_toArray, List.getElem_cons_succ, List.getElem_cons_zero, List.setIfInBounds_toArray, List.set_cons_zero, List.set_cons_succ]
        refine readyL (rs := [6]) (by kernel_rfl) (by simp) ?_
        refine AllL.cons rfl (fun K hK => ?_) AllL.nil
        try simp only [List.getElem_toArray, List.getElem_cons_succ, List.getElem_cons_zero]
        go_simp
        refine (HQb.out _ (HTab.out.below HB4.out)).mono ?_
        rintro e w5 ⟨rfl, hb5⟩
        have HM5 := hide (HM4.out.trans (Mvs.of_below hb5))
        have hs5 := hb5.size
        have HT5 := hide (And.intro ((hb5.cell (p := ⟨D, 0, none⟩) (by show D < _; omega)).trans HT4.out.1) ((hb5.cell (p := ⟨D, 1, none⟩) (by show D < _; omega)).trans HT4.out.2))
        have HB5 := hide (HB4.out.trans (hb5.mono (by omega)))
        clear hb5
        refine hK.out _ _ (fun _ => HT5.out) (fun HTn => ?_)
        clear hK K HT0
        have HT0 := HTn (by kernel_rfl)
        clear HTn
        try simp only [Act.put, List.getElem_toArray, List.getElem_cons_succ, List.getElem_cons_zero, List.setIfInBounds_toArray, List.set_cons_zero, List.set_cons_succ]
        refine readyL (rs := [7]) (by kernel_rfl) (by simp) ?_
        refine AllL.cons rfl (fun K hK => ?_) AllL.nil
        try simp only [List.getElem_toArray, List.getElem_cons_succ, List.getElem_cons_zero]
        go_simp
        have HT6 := hide (And.intro ((((Below.refl w5.heap.size w5).alloc (Nat.le_refl _) (.cells #[.string ⟨qa.toArray⟩, .string ⟨qb.toArray⟩] 9)).cell (p := ⟨D, 0, none⟩) (by show D < _; omega)).trans HT5.out.1) ((((Below.refl w5.heap.size w5).alloc (Nat.le_refl _) (.cells #[.string ⟨qa.toArray⟩, .string ⟨qb.toArray⟩] 9)).cell (p := ⟨D, 1, none⟩) (by show D < _; omega)).trans HT5.out.2))
        refine hK.out _ _ (fun _ => HT6.out) (fun HTn => ?_)
        clear hK K HT0
        have HT0 := HTn (by kernel_rfl)
        clear HTn
        try simp only [Act.put, List.getElem_toArray, List.getElem_cons_succ, List.getElem_cons_zero, List.setIfInBounds_toArray, List.set_cons_zero, List.set_cons_succ]
        refine readyL (rs := [8]) (by kernel_rfl) (by simp) ?_
        refine AllL.cons rfl (fun K hK => ?_) AllL.nil
        refine step_append_rw (by rfl) (.tmp 19) (.tmp 26) 69 69 (by rfl) 9 i0 (.string ⟨#[]⟩) 1 16 Tryz.underlying69 hi hz0 hz1 hz2 (by rfl) (by simp [Act.eval, Act.put]) (HRw.out.keep (S := fun _ => False) (HM5.out.alloc _) (fun _ _ c => c)) (.slice (some ⟨w5.heap.size, 0, none⟩) 2 2) 2 [.string ⟨qa.toArray⟩, .string ⟨qb.toArray⟩] (by simp [Act.eval, Act.put]) (src_two qa qb) (by simp only [maxLen]; omega) (by omega) ?_
        intro v8 w8 G8 hr8 hm8 hg8
        obtain ⟨A8, c8, rfl⟩ := hr8.form
        have HRow8 := hide (RowOf.grow2 HG.out hr8 hg8 (by rw [World.size_alloc]; omega))
        have HB8 := hide (below_mvs (HB5.out.alloc (by omega) _) hm8 (fun q hq e => by have := HG.out q e.symm; omega) (Nat.le_refl _))
        have hs6 : D < (w5.alloc (.cells #[.string ⟨qa.toArray⟩, .string ⟨qb.toArray⟩] 9)).heap.size := by rw [World.size_alloc]; omega
        have hDG : ¬ some D = G := HGD.out
        have HT8 := hide (And.intro ((hm8.cell (a := ⟨D, 0, none⟩) hs6 hDG).trans HT6.out.1) ((hm8.cell (a := ⟨D, 1, none⟩) hs6 hDG).trans HT6.out.2))
        rw [← HX.out] at HRow8
        clear hr8 hm8 hg8
        refine hK.out _ _ (fun _ => HT8.out) (fun _ => ?_)
        clear hK K HT0
        try simp only [Act.put, List.getElem_toArray, List.getElem_cons_succ, List.getElem_cons_zero, List.setIfInBounds_toArray, List.set_cons_zero, List.set_cons_succ]
        refine readyL (rs := [9]) (by kernel_rfl) (by simp) ?_
        refine AllL.cons rfl (fun K hK => ?_) AllL.nil
        try simp only [List.getElem_toArray, List.getElem_cons_succ, List.getElem_cons_zero]
        go_simp
        refine hK.out _ _ (vac (by kernel_rfl)) (fun _ => ?_)
        clear hK K
        try simp only [Act.put, List.getElem_toArray, List.getElem_cons_succ, List.getElem_cons_zero, List.setIfInBounds_toArray, List.set_cons_zero, List.set_cons_succ]
        refine doneL (by kernel_rfl) ?_ _
        go_wp2
        go_roundw
        case rel => exact ⟨i + 1, by go_num, by omega, HRow8, HB8⟩
        case measure => simp [intOf]; omega
      · obtain rfl : i = n := by omega
        rw [List.take_of_length_le (by rw [HLn.out]; exact Nat.le_refl _)] at HR
        obtain ⟨XS, hXS⟩ : ∃ XS, (ps.flatMap fun p => [quoI p.name, quoI p.value]) = XS := ⟨_, rfl⟩
        have hxl : XS.length = 2 * i := by rw [← hXS, two_len, HLn.out]
        rw [hXS] at HR HN
        obtain ⟨A3, c3, rfl⟩ := HR.out.form
        obtain ⟨J, hJ⟩ : ∃ J, Lib.join XS [32] = J := ⟨_, rfl⟩
        have HJl : J.length + 2 = N.length := by rw [HN.out, hJ]; simp
        have HJo := hide (join_row wr HR.out (fun e => by rw [e] at hxl; simp at hxl; omega) (by omega) (by rw [hJ]; have := HJ.out; omega))
        rw [hJ] at HJo HN
        have hc1 : (⟨#[40]⟩ : ByteArray) ++ ⟨J.toArray⟩ = ⟨(40 :: J).toArray⟩ := cat_lit [40] J
        have hc2 : (⟨(40 :: J).toArray⟩ : ByteArray) ++ ⟨#[41]⟩ = ⟨N.toArray⟩ := by
          rw [HN.out]
          exact cat_lit (40 :: J) [41]
        have hJb := HJ.out
        obtain ⟨J2, hJ2⟩ : ∃ J2, 40 :: J = J2 := ⟨_, rfl⟩
        have hJ2l : J2.length ≤ 100000000000000 := by have := HJ.out; rw [← hJ2]; simp; omega
        have hJ1l : J.length ≤ 100000000000000 := by have := HJ.out; omega
        rw [hJ2] at hc1 hc2
        have hz1' := size_lit J
        have hz2' := size_lit J2
        clear hJ hJ2 hXS HN HC hxl HJl hJb
        go_wp2_with (first
          | (go_at_call 70; refine HJo.out.mono ?_; rintro e w3 ⟨rfl, hb3⟩; replace hb3 := hide hb3))
        go_ret
        exact ⟨rfl, HB.out.trans (hb3.out.mono hbs)⟩
end Go.Proofs.YtfebohfmpikoeaaGreatDoor

end
