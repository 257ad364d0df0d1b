/- Quote of package mime. -/
/- The reader of package mime: blanks, marks, tokens, names. -/
import Derived.Test.YtkppeejbmalefaaGreatDoorU12
import Derived.Test.YtkppeejbmalefaaGreatDoorShelf2
import Derived.Test.YtkppeejbmalefaaGreatDoorU07
import Derived.Lib.Itoa
import Derived.Lib.ItoaLen
import Derived.Lib.OthersKept
import Derived.Deep.LoopGhost
import Derived.Test.YtkppeejbmalefaaGreatDoorU10
section
namespace Go.Proofs.YtkppeejbmalefaaGreatDoor
open Go.RowKit Go.Shelf
/-- The table by which the library writes numbers lies in this world. -/
def TabM (w : World) : Prop := Lib.TabIs Tryz.prog w "internal/strconv.uint64pow10" .u64 Lib.pow10Tab ∧ 5 < w.heap.size
theorem tabGlobalM : Tryz.prog.globalNamed "internal/strconv.uint64pow10" = some 5 := by kernel_rfl
theorem TabM.below {w w' : World} (h : TabM w) (hb : Below w.heap.size w w') : TabM w' :=
  ⟨var?_below hb tabGlobalM h.2 h.1, Nat.lt_of_lt_of_le h.2 hb.size⟩
theorem grow_belowM (w : World) (k : Nat) (os : Array Obj) : Below w.heap.size w (Sort.grow (w.drewN k) os) :=
  ⟨rfl, rfl, rfl, by simp [Sort.grow], fun j hj => by simp [Sort.grow, Array.getElem?_append_left hj]⟩
theorem itoaM (n : Int) (h0 : 0 ≤ n) (h1 : n ≤ 9223372036854775807) (w : World) (ht : TabM w) :
    Calls Tryz.prog 78 #[.int .i64 n] w fun e w' => e = .returned (.string ⟨(Lib.decDigits n.toNat).toArray⟩) ∧ Below w.heap.size w w' := by
  refine (Tryz.strconv_Itoa n (by omega) h1 w ht.1).mono ?_
  rintro e w' ⟨rfl, k, os, rfl⟩
  refine ⟨?_, grow_belowM w k os⟩
  have : Lib.itoa n = Lib.decDigits n.toNat := by
    unfold Lib.itoa
    rw [if_neg (by omega)]
  rw [this]
theorem dec_len (n : Nat) (h : n ≤ 1000000) : (Lib.decDigits n).length ≤ 100 := by
  rw [Lib.decDigits_length]
  have := Lib.nDigits_le20 n (by omega)
  omega
theorem prB_lo {c : UInt8} (h : prB c = true) : 32 ≤ c.toNat ∧ c.toNat ≤ 126 := by simpa [prB] using h
theorem prB_no {c : UInt8} (h : prB c = false) : c.toNat < 32 ∨ 126 < c.toNat := by
  simp [prB] at h
  omega
theorem all_next {l : List UInt8} {k : Nat} (hk : k < l.length) (h : (l.take k).all prB = true) (hc : prB l[k] = true) : (l.take (k + 1)).all prB = true := by
  rw [List.take_succ_eq_append_getElem hk, List.all_append, h]
  simp [hc]
theorem all_not {l : List UInt8} {k : Nat} (hk : k < l.length) (hc : prB l[k] = false) : l.all prB = false := by
  cases h : l.all prB with
  | false => rfl
  | true =>
    rw [List.all_eq_true] at h
    rw [h _ (List.getElem_mem hk)] at hc
    cases hc
theorem esc_take {l : List UInt8} {k : Nat} (hk : k < l.length) : escL (l.take (k + 1)) = escL (l.take k) ++ (if l[k] = 34 ∨ l[k] = 92 then [92, l[k]] else [l[k]]) := by
  unfold escL
  rw [List.take_succ_eq_append_getElem hk, List.flatMap_append]
  simp
theorem esc_len (l : List UInt8) : (escL l).length ≤ 2 * l.length := by
  unfold escL
  induction l with
  | nil => simp
  | cons c r ih =>
    rw [List.flatMap_cons, List.length_append, List.length_cons]
    split
    · simp only [List.length_cons, List.length_nil]
      omega
    · simp only [List.length_cons, List.length_nil]
      omega
set_option maxRecDepth 20000 in
set_option maxHeartbeats 2000000 in
theorem quote_any (l : List UInt8) (w : World) (ht : TabM w) (hl : l.length ≤ 1000000) :
    Calls Tryz.prog 36 #[.string ⟨l.toArray⟩] w fun e w' => e = .returned (.string ⟨(quoI l).toArray⟩) ∧ Below w.heap.size w w' := by
  have hsz := size_lit l
  have HTab := hide ht
  clear ht
  go_enter Tryz.func36, Tryz.ntmps36
  go_wp2
  go_loopg [] l.length (fun gk wx => ∃ pos : Nat, pos ≤ l.length ∧ l.length ≤ pos + gk ∧ wx.heap[w.heap.size]? = some (.stringIter ⟨l.toArray⟩ pos) ∧ Hid (Below w.heap.size w wx) ∧ Hid ((l.take pos).all prB = true))
  case atStart => exact ⟨0, Nat.zero_le _, by omega, World.iter_heap w ⟨l.toArray⟩ 0, (Below.refl _ w).alloc (Nat.le_refl _) _, rfl⟩
  case round =>
    obtain ⟨pos, hpl, hgk, hit, HB, HA⟩ := hrel
    by_cases hps : pos < l.length
    · have hps' : pos < (⟨l.toArray⟩ : ByteArray).size := by rw [hsz]; exact hps
      have hnx : ∀ ty, (Instr.next (.pointer (some ⟨w.heap.size, 0, none⟩)) true ty).run Tryz.prog wr = _ := fun ty => Lib.run_next_any_at wr w.heap.size ⟨l.toArray⟩ pos ty hit hps'
      obtain ⟨c, hcc⟩ : ∃ c, l[pos] = c := ⟨_, rfl⟩
      have hat : (⟨l.toArray⟩ : ByteArray)[pos]'hps' = c := hcc
      have hit2 := Lib.iterAt_heap wr w.heap.size ⟨l.toArray⟩ pos (pos + (Utf8.decode ⟨l.toArray⟩ pos).2) hit
      have hbw2 := Lib.below_iterAt HB.out (k := w.heap.size) (Nat.le_refl _) ⟨l.toArray⟩ (pos + (Utf8.decode ⟨l.toArray⟩ pos).2)
      cases hp : prB c with
      | true =>
        have hlo := prB_lo hp
        have hdec := decode_ascii ⟨l.toArray⟩ pos hps' (by rw [hat]; omega)
        rw [hat] at hdec
        rw [hdec] at hnx hit2 hbw2
        have HA2 := hide (all_next hps HA.out (by rw [hcc]; exact hp))
        obtain ⟨W, hWd⟩ : ∃ W, wr.iterAt w.heap.size ⟨l.toArray⟩ (pos + 1) = W := ⟨_, rfl⟩
        dsimp only at hnx hit2 hbw2
        rw [hWd] at hnx hit2 hbw2
        have b1 : ¬ (c.toNat : Int) < 32 := by omega
        have b2 : ¬ (c.toNat : Int) > 126 := by omega
        replace hbw2 := hide hbw2
        clear hWd hdec hat hcc hp hit
        go_wp2
        go_roundg (gk - 1)
        case rel => exact ⟨pos + 1, by omega, by omega, hit2, hbw2, HA2⟩
        case measure => omega
      | false =>
        have hno := prB_no hp
        have HQ : Hid (quoI l = 123 :: (Lib.decDigits l.length ++ (125 :: 13 :: 10 :: l))) := by
          show _ = _
          unfold quoI
          rw [all_not hps (by rw [hcc]; exact hp)]
          rfl
        obtain ⟨R, hR⟩ : ∃ R, (Utf8.decode ⟨l.toArray⟩ pos).1 = R := ⟨_, rfl⟩
        have hR2 : R < 32 ∨ 126 < R := by
          by_cases h128 : c.toNat < 128
          · have hdec := decode_ascii ⟨l.toArray⟩ pos hps' (by rw [hat]; exact h128)
            rw [hat] at hdec
            rw [← hR, hdec]
            exact hno
          · have := decode_high ⟨l.toArray⟩ pos hps' (by rw [hat]; omega)
            omega
        obtain ⟨K, hK⟩ : ∃ K, (Utf8.decode ⟨l.toArray⟩ pos).2 = K := ⟨_, rfl⟩
        rw [hR, hK] at hnx
        rw [hK] at hbw2
        obtain ⟨W, hWd⟩ : ∃ W, wr.iterAt w.heap.size ⟨l.toArray⟩ (pos + K) = W := ⟨_, rfl⟩
        rw [hWd] at hnx hbw2
        have HIt := hide (itoaM (l.length : Int) (by omega) (by omega) W (HTab.out.below hbw2))
        have hln : ((l.length : Int)).toNat = l.length := by omega
        rw [hln] at HIt
        have hdl : (Lib.decDigits l.length).length ≤ 100 := dec_len l.length (by omega)
        have hc1 : (⟨#[123]⟩ : ByteArray) ++ ⟨(Lib.decDigits l.length).toArray⟩ = ⟨(123 :: Lib.decDigits l.length).toArray⟩ := cat_lit [123] _
        have hc2 : (⟨(123 :: Lib.decDigits l.length).toArray⟩ : ByteArray) ++ ⟨#[125, 13, 10]⟩ = ⟨((123 :: Lib.decDigits l.length) ++ [125, 13, 10]).toArray⟩ := cat_lit _ [125, 13, 10]
        have hc3 : (⟨((123 :: Lib.decDigits l.length) ++ [125, 13, 10]).toArray⟩ : ByteArray) ++ ⟨l.toArray⟩ = ⟨(quoI l).toArray⟩ := by
          rw [cat_lit, HQ.out]
          simp
        obtain ⟨d1, hd1⟩ : ∃ d1, Lib.decDigits l.length = d1 := ⟨_, rfl⟩
        rw [hd1] at HIt hc1 hc2 hc3 hdl
        obtain ⟨d2, hd2⟩ : ∃ d2, 123 :: d1 = d2 := ⟨_, rfl⟩
        have hd2l : d2.length ≤ 101 := by rw [← hd2]; simp; omega
        rw [hd2] at hc1 hc2 hc3
        obtain ⟨d3, hd3⟩ : ∃ d3, d2 ++ [125, 13, 10] = d3 := ⟨_, rfl⟩
        have hd3l : d3.length ≤ 104 := by rw [← hd3]; simp; omega
        rw [hd3] at hc2 hc3
        have hz1 := size_lit d1
        have hz2 := size_lit d2
        have hz3 := size_lit d3
        replace hbw2 := hide hbw2
        obtain ⟨QL, hQL⟩ : ∃ QL, quoI l = QL := ⟨_, rfl⟩
        rw [hQL] at hc3
        have HQL := hide hQL
        clear hQL
        clear hWd hR hK hd1 hd2 hd3 hat hcc hp hno hit hit2 hln HQ
        rcases hR2 with hR2 | hR2
        · have b1 : (R : Int) < 32 := by omega
          go_wp2_with (first
            | (go_at_call 78; refine HIt.out.mono ?_; rintro e w3 ⟨rfl, hb3⟩; replace hb3 := hide hb3))
          go_ret
          exact ⟨by rw [HQL.out]; rfl, hbw2.out.trans (hb3.out.mono hbw2.out.size)⟩
        · have b1 : ¬ (R : Int) < 32 := by omega
          have b2 : (R : Int) > 126 := by omega
          go_wp2_with (first
            | (go_at_call 78; refine HIt.out.mono ?_; rintro e w3 ⟨rfl, hb3⟩; replace hb3 := hide hb3))
          go_ret
          exact ⟨by rw [HQL.out]; rfl, hbw2.out.trans (hb3.out.mono hbw2.out.size)⟩
    · obtain rfl : pos = l.length := by omega
      have hps' : ¬ l.length < (⟨l.toArray⟩ : ByteArray).size := by rw [hsz]; exact hps
      have hnx : ∀ ty, (Instr.next (.pointer (some ⟨w.heap.size, 0, none⟩)) true ty).run Tryz.prog wr = _ := fun ty => Lib.run_next_end_at wr w.heap.size ⟨l.toArray⟩ l.length ty hit hps'
      have HQ : Hid (quoI l = 34 :: (escL l ++ [34])) := by
        have := HA.out
        rw [List.take_length] at this
        show _ = _
        unfold quoI
        rw [this]
        rfl
      have hbs := HB.out.size
      have HB0 : Hid (Lib.IsBuilderF 89 5 wr.heap.size wr.heap.size (Lib.byteCells []) (wr.alloc (.cells #[.pointer none, .slice none 0 0] 89))) := Lib.IsBuilderF.of (Lib.fresh_isBuilder _ _ wr)
      have HW1 := hide (Tryz.Builder_WriteString_k wr.heap.size wr.heap.size _ ⟨#[34]⟩ _ HB0.out (by simp [Lib.byteCells, ByteArray.size]) (by simp))
      have HW0 := hide (((Below.refl wr.heap.size wr).alloc (Nat.le_refl _) (.cells #[.pointer none, .slice none 0 0] 89)))
      clear hps hps' hit HA HB0
      go_wp2_with (first
        | (go_at_call 75; refine HW1.out.mono ?_; rintro e w2 ⟨rfl, hbl2, hb2, _⟩; replace hbl2 := hide hbl2; replace hb2 := hide hb2))
      have HS2 : Hid (wr.heap.size ≤ w2.heap.size) := (HW0.out.trans hb2.out).size
      have HBw2 := hide (HB.out.trans ((HW0.out.trans hb2.out).mono hbs))
      have HI2 : Hid (Lib.IsBuilderF 89 5 wr.heap.size wr.heap.size (Lib.byteCells (34 :: escL (l.take 0))) w2) := .inr hbl2.out
      have HBS := hide hbs
      clear HW0 HW1 hb2 hbl2 HB hbs hnx
      obtain ⟨B, hBd⟩ : ∃ B, wr.heap.size = B := ⟨_, rfl⟩
      rw [hBd] at HS2 HI2 HBS ⊢
      clear hBd
      go_loopw [28] (fun v wx => ∃ i : Nat, v = .int .i64 i ∧ i ≤ l.length ∧ Hid (Lib.IsBuilderF 89 5 B B (Lib.byteCells (34 :: escL (l.take i))) wx) ∧ Hid (Below w.heap.size w wx) ∧ Hid (B ≤ wx.heap.size)) (fun v _ => l.length - (intOf v).toNat)
      case atStart => exact ⟨0, rfl, Nat.zero_le _, HI2, HBw2, HS2⟩
      case round =>
        obtain ⟨i, rfl, hi, HI, HB, HS⟩ := hrel
        clear HI2 HBw2 HS2
        have hel := esc_len (l.take i)
        rw [List.length_take] at hel
        by_cases hlt : i < l.length
        · have hlt' : (i : Int) < l.length := by omega
          have HX := hide (esc_take hlt)
          obtain ⟨c, hcc, hat⟩ : ∃ c, l[i] = c ∧ ∀ h : i < (⟨l.toArray⟩ : ByteArray).size, (⟨l.toArray⟩ : ByteArray)[i]'h = c := ⟨_, rfl, fun _ => rfl⟩
          rw [hcc] at HX
          obtain ⟨ys, hys⟩ : ∃ ys, 34 :: escL (l.take i) = ys := ⟨_, rfl⟩
          have hyl : ys.length ≤ 2000001 := by rw [← hys]; simp; omega
          rw [hys] at HI
          have HX2 : Hid (34 :: escL (l.take (i + 1)) = ys ++ (if c = 34 ∨ c = 92 then [92, c] else [c])) := by
            show _ = _
            rw [HX.out, ← hys]
            rfl
          by_cases hq : c = 34 ∨ c = 92
          · rw [if_pos hq] at HX2
            have HWa := hide (Tryz.Builder_WriteByte_k B B _ 92 wr HI.out (by rw [Lib.byteCells_length]; omega) HS.out)
            have hcb : Lib.byteCells ys ++ [.int .u8 92] = Lib.byteCells (ys ++ [92]) := by simp [Lib.byteCells]
            rw [hcb] at HWa
            have HWb := hide (fun (w3 : World) (h : Lib.BuilderAtF 89 5 B B _ (Lib.byteCells (ys ++ [92])) w3) hs => Tryz.Builder_WriteByte_k B B _ (c.toNat : Int) w3 (Or.inr h) (by rw [Lib.byteCells_length, List.length_append]; simp; omega) hs)
            have hcb2 : Lib.byteCells (ys ++ [92]) ++ [.int .u8 (c.toNat : Int)] = Lib.byteCells (34 :: escL (l.take (i + 1))) := by rw [HX2.out]; simp [Lib.byteCells]
            rw [hcb2] at HWb
            clear hcb hcb2 HX HX2 hys hcc HI hel
            rcases hq with rfl | rfl
            · go_wp2_with (first
                | (go_at_call 79; refine HWa.out.mono ?_; rintro e w3 ⟨rfl, hbl3, hb3, _⟩; replace hbl3 := hide hbl3; replace hb3 := hide hb3; replace HWb := hide (HWb.out w3 hbl3.out (Nat.le_trans HS.out hb3.out.size)); clear HWa)
                | (go_at_call 79; refine HWb.out.mono ?_; rintro e w4 ⟨rfl, hbl4, hb4, _⟩; replace hbl4 := hide hbl4; replace hb4 := hide hb4))
              go_roundw
              case rel => exact ⟨i + 1, by go_num, by omega, .inr hbl4.out, HB.out.trans ((hb3.out.trans hb4.out).mono HBS.out), Nat.le_trans HS.out (hb3.out.trans hb4.out).size⟩
              case measure => simp [intOf]; omega
            · go_wp2_with (first
                | (go_at_call 79; refine HWa.out.mono ?_; rintro e w3 ⟨rfl, hbl3, hb3, _⟩; replace hbl3 := hide hbl3; replace hb3 := hide hb3; replace HWb := hide (HWb.out w3 hbl3.out (Nat.le_trans HS.out hb3.out.size)); clear HWa)
                | (go_at_call 79; refine HWb.out.mono ?_; rintro e w4 ⟨rfl, hbl4, hb4, _⟩; replace hbl4 := hide hbl4; replace hb4 := hide hb4))
              go_roundw
              case rel => exact ⟨i + 1, by go_num, by omega, .inr hbl4.out, HB.out.trans ((hb3.out.trans hb4.out).mono HBS.out), Nat.le_trans HS.out (hb3.out.trans hb4.out).size⟩
              case measure => simp [intOf]; omega
          · rw [if_neg hq] at HX2
            have HWb := hide (Tryz.Builder_WriteByte_k B B _ (c.toNat : Int) wr HI.out (by rw [Lib.byteCells_length]; omega) HS.out)
            have hcb2 : Lib.byteCells ys ++ [.int .u8 (c.toNat : Int)] = Lib.byteCells (34 :: escL (l.take (i + 1))) := by rw [HX2.out]; simp [Lib.byteCells]
            rw [hcb2] at HWb
            have q1 : ((c.toNat : Int) == 34) = false := beq_eq_false_iff_ne.2 fun h => hq (.inl (by rw [← UInt8.toNat_inj]; exact Int.ofNat.inj h))
            have q2 : ((c.toNat : Int) == 92) = false := beq_eq_false_iff_ne.2 fun h => hq (.inr (by rw [← UInt8.toNat_inj]; exact Int.ofNat.inj h))
            clear hcb2 HX HX2 hys hcc HI hel hq
            go_wp2_with (first
              | (go_at_call 79; refine HWb.out.mono ?_; rintro e w4 ⟨rfl, hbl4, hb4, _⟩; replace hbl4 := hide hbl4; replace hb4 := hide hb4))
            go_roundw
            case rel => exact ⟨i + 1, by go_num, by omega, .inr hbl4.out, HB.out.trans (hb4.out.mono HBS.out), Nat.le_trans HS.out hb4.out.size⟩
            case measure => simp [intOf]; omega
        · obtain rfl : i = l.length := by omega
          rw [List.take_length] at HI hel
          have HWa := hide (Tryz.Builder_WriteString_k B B _ ⟨#[34]⟩ wr HI.out (by rw [Lib.byteCells_length]; simp [ByteArray.size]; omega) HS.out)
          have hcb : Lib.byteCells (34 :: escL l) ++ Lib.strCells ⟨#[34]⟩ = Lib.byteCells (quoI l) := by
            rw [HQ.out]
            exact byteCells_app (34 :: escL l) [34]
          rw [hcb] at HWa
          have HWb := hide (fun (w3 : World) (h : Lib.BuilderAtF 89 5 B B _ (Lib.byteCells (quoI l)) w3) hs => Tryz.Builder_String_any_k B B (quoI l) w3 (Or.inr h) hs)
          clear hcb HI hel
          go_wp2_with (first
            | (go_at_call 75; refine HWa.out.mono ?_; rintro e w3 ⟨rfl, hbl3, hb3, _⟩; replace hbl3 := hide hbl3; replace hb3 := hide hb3; replace HWb := hide (HWb.out w3 hbl3.out (Nat.le_trans HS.out hb3.out.size)))
            | (go_at_call 55; refine HWb.out.mono ?_; rintro e w4 ⟨rfl, _, hb4, _⟩; replace hb4 := hide hb4))
          go_ret
          exact ⟨rfl, HB.out.trans ((hb3.out.trans hb4.out).mono HBS.out)⟩
end Go.Proofs.YtkppeejbmalefaaGreatDoor

end
section
namespace Go.Proofs.YtkppeejbmalefaaGreatDoor
open Go.RowKit Go.Shelf
/-- A reader that holds the rest of a text. -/
def RDm (w : World) (b : Nat) (r : List UInt8) : Prop := Blk w b #[.string ⟨r.toArray⟩] 83
/-- The panic that leads out of the reader. -/
def pnc : List PanicEntry := [{ v := .iface 9 (.string ⟨#[110, 111, 116, 32, 105, 110, 32, 102, 111, 114, 109]⟩), recovered := false }]
/-- How a step ends: it answers x and the reader holds s, or it leaves by the panic. -/
def OutM (b : Nat) (w : World) (r : Option (Value × List UInt8)) (e : Ending) (w' : World) : Prop :=
  Mvs (fun k => k = b) w w' ∧ match r with
    | some (x, s) => e = .returned x ∧ RDm w' b s
    | none => e = .panicked pnc
theorem go_panicM {fn : Func} {R : Ending → World → Prop} {a : Act} {w : World} {c : List PanicEntry} (hd : a.defers = []) (h : R (.panicked c) w) : bodyPost Tryz.prog fn R (.panic c) a w := by
  simp [bodyPost, hd, h]
theorem trimL_any (s : List UInt8) (w : World) :
    Calls Tryz.prog 82 #[.string ⟨s.toArray⟩, .string ⟨#[32, 9]⟩] w fun e w' => e = .returned (.string ⟨(skb s).toArray⟩) ∧ Below w.heap.size w w' := by
  rw [← skb_trim]
  exact Any.strings_TrimLeft_laid Tryz.lays161 (by kernel_rfl) ⟨s.toArray⟩ ⟨#[32, 9]⟩ w (by decide) (ascii_of_all (by decide))
theorem skip_any (b : Nat) (r : List UInt8) (w : World) (h : RDm w b r) :
    Calls Tryz.prog 50 #[.pointer (some ⟨b, 0, none⟩)] w fun e w' => e = .returned (.tuple #[]) ∧ Mvs (fun k => k = b) w w' ∧ RDm w' b (skb r) := by
  have HT := hide (trimL_any r)
  have hc := Blk.cell h
  have H := hide h
  generalize skb r = r2 at *
  clear h
  go_enter Tryz.func50, Tryz.ntmps50
  go_wp2_with (first
    | (go_at_call 82; refine (HT.out _).mono ?_; rintro e w1 ⟨rfl, hb1⟩; have H1 := hide (Blk.below H.out hb1 (Blk.lt H.out)); have hc1 := Blk.cell H1.out; have hf1 := Blk.frozen H1.out; replace hb1 := hide hb1))
  go_end0
  exact ⟨rfl, (Mvs.of_below hb1.out).setCell _ _ (fun _ => rfl), Blk.set H1.out 0 _⟩
theorem cutPre (r : List UInt8) (c : UInt8) (w : World) : Calls Tryz.prog 85 #[.string ⟨r.toArray⟩, .string ⟨#[c]⟩] w fun e w' => e = .returned (.tuple #[.string ⟨(Lib.trimPrefix r [c]).toArray⟩, .bool (Lib.hasPrefix r [c])]) ∧ w' = w := by
  have := Tryz.strings_CutPrefix ⟨r.toArray⟩ ⟨#[c]⟩ w
  exact this
theorem mark_any (b : Nat) (c : UInt8) (r : List UInt8) (w : World) (h : RDm w b r) :
    Calls Tryz.prog 52 #[.pointer (some ⟨b, 0, none⟩), .string ⟨#[c]⟩] w (OutM b w ((markO c r).map fun s => (.tuple #[], s))) := by
  have HC := hide (cutPre r c)
  have hc := Blk.cell h
  have hf := Blk.frozen h
  have H := hide h
  have hlt := Blk.lt h
  clear h
  by_cases hm : ∃ s, r = c :: s
  · obtain ⟨s, rfl⟩ := hm
    have e1 : Lib.trimPrefix (c :: s) [c] = s := by simp [Lib.trimPrefix, Lib.hasPrefix, List.isPrefixOf]
    have e2 : Lib.hasPrefix (c :: s) [c] = true := by simp [Lib.hasPrefix, List.isPrefixOf]
    have e3 : markO c (c :: s) = some (skb s) := by rw [markO, if_pos rfl]
    rw [e1, e2] at HC
    rw [e3]
    have HS := hide (fun w h => skip_any b s w h)
    have H1 := hide (Blk.set H.out 0 (.string ⟨s.toArray⟩))
    generalize skb s = s2 at *
    clear e1 e2 e3
    go_enter Tryz.func52, Tryz.ntmps52
    go_wp2_with (first
      | (go_at_call 85; refine (HC.out _).mono ?_; rintro e w1 ⟨rfl, rfl⟩)
      | (go_at_call 50; refine (HS.out _ H1.out).mono ?_; rintro e w2 ⟨rfl, hm2, hr2⟩; replace hm2 := hide hm2; replace hr2 := hide hr2))
    go_end0
    exact ⟨(Mvs.setCell (S := fun k => k = b) (Mvs.refl _ _) ⟨b, 0, none⟩ _ (fun _ => rfl)).trans hm2.out, rfl, hr2.out⟩
  · have e2 : Lib.hasPrefix r [c] = false := by
      cases r with
      | nil => rfl
      | cons x s =>
        have : ¬ c = x := fun e => hm ⟨s, by rw [e]⟩
        simp [Lib.hasPrefix, List.isPrefixOf, this]
    have e3 : markO c r = none := by
      cases r with
      | nil => rfl
      | cons x s => rw [markO, if_neg (fun e => hm ⟨s, by rw [e]⟩)]
    rw [e2] at HC
    rw [e3]
    generalize Lib.trimPrefix r [c] = r2 at *
    clear e2 e3 hm
    go_enter Tryz.func52, Tryz.ntmps52
    go_wp2_with (first
      | (go_at_call 85; refine (HC.out _).mono ?_; rintro e w1 ⟨rfl, rfl⟩))
    exact go_panicM rfl ⟨Mvs.refl _ _, rfl⟩
set_option maxRecDepth 20000 in
set_option maxHeartbeats 2000000 in
theorem msmall_any (l : List UInt8) (w : World) (hs : l.length ≤ 1000000) : Calls Tryz.prog 83 #[.string ⟨l.toArray⟩] w fun e w' => e = .returned (.string ⟨(l.map lowB).toArray⟩) ∧ Below w.heap.size w w' := by
  obtain ⟨W1, cap, hcv, hb1, hz1, hy1⟩ := conv_in l w
  go_enter Tryz.func83, Tryz.ntmps83
  go_wp2
  clear hcv
  go_loopw [10] (fun k wr => ∃ i : Nat, k = .int .i64 i ∧ i ≤ l.length ∧ Hid (BY wr w.heap.size (lowK l i)) ∧ Hid (Below w.heap.size w wr)) (fun k _ => l.length - (intOf k).toNat)
  case atStart => exact ⟨0, rfl, Nat.zero_le _, by rw [lowK_zero]; exact hy1, hb1⟩
  case round =>
    obtain ⟨i, rfl, hi, HY, HB⟩ := hrel
    clear hy1 hb1 hz1
    by_cases hlt : i < l.length
    · have hlt' : (i : Int) < l.length := by omega
      obtain ⟨hc, hf⟩ := HY.out i (by rw [lowK_len]; exact hlt)
      rw [lowK_at l i hlt] at hc
      obtain ⟨c, hcc⟩ : ∃ c, l[i] = c := ⟨_, rfl⟩
      rw [hcc] at hc
      by_cases h1 : 65 ≤ c.toNat
      · have a1 : decide (65 ≤ (c.toNat : Int)) = true := decide_eq_true (by omega)
        have b1 : 65 ≤ (c.toNat : Int) := by omega
        by_cases h2 : c.toNat ≤ 90
        · have a2 : decide ((c.toNat : Int) ≤ 90) = true := decide_eq_true (by omega)
          have b2 : (c.toNat : Int) ≤ 90 := by omega
          have hlow : lowB c = c + 32 := if_pos ⟨h1, h2⟩
          have hval : ((c + 32).toNat : Int) = (c.toNat : Int) + 32 := by
            rw [UInt8.toNat_add, show (32 : UInt8).toNat = 32 from rfl]
            omega
          have hsum : (c.toNat : Int) - 65 + 97 = (c.toNat : Int) + 32 := by omega
          have HN : Hid (BY (wr.setCell ⟨w.heap.size, i, none⟩ (.int .u8 ((c.toNat : Int) + 32))) w.heap.size (lowK l (i + 1))) := by
            show BY _ _ _
            have := HY.out.put i (c + 32)
            rw [hval] at this
            rw [lowK_next l i hlt, hcc, hlow]
            exact this
          clear hcc hlow hval HY
          go_wp2
          go_roundw
          case rel => exact ⟨i + 1, by go_num, by omega, HN, HB.out.setCell (p := ⟨w.heap.size, i, none⟩) (Nat.le_refl _) _⟩
          case measure => simp [intOf]; omega
        · have a2 : decide ((c.toNat : Int) ≤ 90) = false := decide_eq_false (by omega)
          have b2 : ¬ (c.toNat : Int) ≤ 90 := by omega
          have HN : Hid (BY wr w.heap.size (lowK l (i + 1))) := by
            show BY _ _ _
            rw [lowK_same l i hlt (by rw [hcc]; exact if_neg (fun h => h2 h.2))]
            exact HY.out
          clear hcc HY
          go_wp2
          go_roundw
          case rel => exact ⟨i + 1, by go_num, by omega, HN, HB⟩
          case measure => simp [intOf]; omega
      · have a1 : decide (65 ≤ (c.toNat : Int)) = false := decide_eq_false (by omega)
        have b1 : ¬ 65 ≤ (c.toNat : Int) := by omega
        have HN : Hid (BY wr w.heap.size (lowK l (i + 1))) := by
          show BY _ _ _
          rw [lowK_same l i hlt (by rw [hcc]; exact if_neg (fun h => h1 h.1))]
          exact HY.out
        clear hcc HY
        go_wp2
        go_roundw
        case rel => exact ⟨i + 1, by go_num, by omega, HN, HB⟩
        case measure => simp [intOf]; omega
    · obtain rfl : i = l.length := by omega
      have hy := HY.out
      rw [lowK_end] at hy
      have hcv := conv_out (cap := cap) hy
      rw [List.length_map] at hcv
      clear HY hy
      go_wp2
      go_ret
      exact ⟨rfl, HB.out⟩
theorem spec_idx : ∀ x, x < 128 → decide (0 ≤ Lib.indexByte specL x.toUInt8) = specL.any fun c => c.toNat == x := by decide +kernel
theorem contRune (x : Nat) (hx : x < 128) (w : World) : Calls Tryz.prog 96 #[.string ⟨#[40, 41, 60, 62, 64, 44, 59, 58, 92, 34, 47, 91, 93, 63, 61]⟩, .int .i32 (x : Nat)] w fun e w' => e = .returned (.bool (specL.any fun c => c.toNat == x)) ∧ w' = w := by
  have := Tryz.strings_ContainsRune_ascii ⟨#[40, 41, 60, 62, 64, 44, 59, 58, 92, 34, 47, 91, 93, 63, 61]⟩ (x : Nat) w (by omega) (by omega)
  rw [← spec_idx x hx]
  exact this
theorem notTok_any (x : Nat) (hx : x ≤ 1114111) (w : World) : Calls Tryz.prog 109 #[.int .i32 (x : Nat)] w fun e w' => e = .returned (.bool (notTok x)) ∧ w' = w := by
  by_cases h1 : x < 33
  · have b1 : (x : Int) < 33 := by omega
    have HV : Hid (notTok x = true) := by
      show _ = _
      unfold notTok tokR
      rw [decide_eq_false (by omega : ¬ 33 ≤ x)]
      rfl
    go_enter Tryz.func109, Tryz.ntmps109
    go_wp2
    go_ret
    exact ⟨by rw [HV.out]; rfl, rfl⟩
  · have b1 : ¬ (x : Int) < 33 := by omega
    by_cases h2 : x > 126
    · have b2 : (x : Int) > 126 := by omega
      have HV : Hid (notTok x = true) := by
        show _ = _
        unfold notTok tokR
        rw [decide_eq_false (by omega : ¬ x ≤ 126)]
        simp
      go_enter Tryz.func109, Tryz.ntmps109
      go_wp2
      go_ret
      exact ⟨by rw [HV.out]; rfl, rfl⟩
    · have b2 : ¬ (x : Int) > 126 := by omega
      have HV : Hid (notTok x = specL.any fun c => c.toNat == x) := by
        show _ = _
        unfold notTok tokR
        rw [decide_eq_true (by omega : 33 ≤ x), decide_eq_true (by omega : x ≤ 126)]
        simp
      have HC := hide (contRune x (by omega))
      generalize (specL.any fun c => c.toNat == x) = v at *
      go_enter Tryz.func109, Tryz.ntmps109
      go_wp2_with (first
        | (go_at_call 96; refine (HC.out _).mono ?_; rintro e w1 ⟨rfl, rfl⟩))
      go_ret
      exact ⟨by rw [HV.out]; rfl, rfl⟩
theorem idxTok (r : List UInt8) (w : World) : Calls Tryz.prog 108 #[.string ⟨r.toArray⟩, .func (.func 109) #[] #[]] w fun e w' => e = .returned (.int .i64 (if r.dropWhile tokB = [] then -1 else (((r.takeWhile tokB).length : Nat) : Int))) ∧ Below w.heap.size w w' := by
  rw [← idx_tok]
  refine Tryz.strings_IndexFunc_grows 109 #[] (enters_of Tryz.func109 (by kernel_rfl) rfl) notTok ⟨r.toArray⟩ w ?_
  intro W x hx _
  exact (notTok_any x hx W).mono fun e w' ⟨he, hw⟩ => ⟨he, hw ▸ Below.refl _ _⟩
theorem tw_split {t d r : List UInt8} (h : t ++ d = r) : r.take t.length = t ∧ r.drop t.length = d ∧ t.length ≤ r.length := by
  subst h
  simp
set_option maxRecDepth 20000 in
theorem token_any (b : Nat) (r : List UInt8) (w : World) (h : RDm w b r) (hl : r.length ≤ 1000000) :
    Calls Tryz.prog 84 #[.pointer (some ⟨b, 0, none⟩)] w (OutM b w ((tokO r).map fun x => (.string ⟨x.1.toArray⟩, x.2))) := by
  have HI := hide (idxTok r)
  have hc := Blk.cell h
  have H := hide h
  have hlt := Blk.lt h
  have hsz := size_lit r
  have happ := List.takeWhile_append_dropWhile (p := tokB) (l := r)
  clear h
  by_cases h0 : r.takeWhile tokB = []
  · have e3 : tokO r = none := by unfold tokO; rw [if_pos h0]
    rw [e3]
    by_cases hr : r = []
    · subst hr
      have e1 : (if ([] : List UInt8).dropWhile tokB = [] then (-1 : Int) else ((([] : List UInt8).takeWhile tokB).length : Nat)) = -1 := rfl
      rw [e1] at HI
      clear e1 e3 happ h0
      go_enter Tryz.func84, Tryz.ntmps84
      go_wp2_with (first
        | (go_at_call 108; refine (HI.out _).mono ?_; rintro e w1 ⟨rfl, hb1⟩; have hc1 := Blk.cell (Blk.below H.out hb1 (Blk.lt H.out)); replace hb1 := hide hb1))
      exact go_panicM rfl ⟨Mvs.of_below hb1.out, rfl⟩
    · have hd : r.dropWhile tokB ≠ [] := by
        intro e
        rw [h0, e] at happ
        exact hr happ.symm
      have e1 : (if r.dropWhile tokB = [] then (-1 : Int) else ((r.takeWhile tokB).length : Nat)) = 0 := by
        rw [if_neg hd, h0]
        rfl
      rw [e1] at HI
      clear e1 e3 happ h0 hd
      go_enter Tryz.func84, Tryz.ntmps84
      go_wp2_with (first
        | (go_at_call 108; refine (HI.out _).mono ?_; rintro e w1 ⟨rfl, hb1⟩; have hc1 := Blk.cell (Blk.below H.out hb1 (Blk.lt H.out)); replace hb1 := hide hb1))
      exact go_panicM rfl ⟨Mvs.of_below hb1.out, rfl⟩
  · have e3 : tokO r = some (r.takeWhile tokB, skb (r.dropWhile tokB)) := by unfold tokO; rw [if_neg h0]
    rw [e3]
    have hpos := List.length_pos_iff.2 h0
    have HS := hide (fun w h => skip_any b (r.dropWhile tokB) w h)
    have e4 : (⟨r.toArray⟩ : ByteArray).extract 0 (r.takeWhile tokB).length = ⟨(r.takeWhile tokB).toArray⟩ := by
      rw [ext_take, (tw_split happ).1]
    have e5 : (⟨r.toArray⟩ : ByteArray).extract (r.takeWhile tokB).length r.length = ⟨(r.dropWhile tokB).toArray⟩ := by
      rw [ext_drop, (tw_split happ).2.1]
    have hle : (r.takeWhile tokB).length ≤ r.length := (tw_split happ).2.2
    have hor : (r.dropWhile tokB = [] ∧ (r.takeWhile tokB).length = r.length) ∨ r.dropWhile tokB ≠ [] := by
      by_cases hd : r.dropWhile tokB = []
      · left
        refine ⟨hd, ?_⟩
        rw [hd, List.append_nil] at happ
        rw [happ]
      · exact .inr hd
    generalize skb (r.dropWhile tokB) = s2 at *
    rcases hor with ⟨hd, hq⟩ | hd
    · rw [if_pos hd] at HI
      obtain ⟨t, ht⟩ : ∃ t, r.takeWhile tokB = t := ⟨_, rfl⟩
      rw [ht] at e4 e5 hle hpos hq ⊢
      rw [hd] at e5 HS
      rw [hq] at e4 e5 hpos
      obtain ⟨n, hn⟩ : ∃ n, r.length = n := ⟨_, rfl⟩
      rw [hn] at e4 e5 hpos hsz hl
      have hpos' : ¬ ((n : Int) = 0) := by omega
      have H1 : Hid (∀ w1, RDm w1 b r → RDm (w1.setCell ⟨b, 0, none⟩ (.string ByteArray.empty)) b []) := fun w1 (h : RDm w1 b r) => Blk.set h 0 (.string ByteArray.empty)
      clear happ h0 hd e3 ht hq hle hn
      go_enter Tryz.func84, Tryz.ntmps84
      go_wp2_with (first
        | (go_at_call 108; refine (HI.out _).mono ?_; rintro e w1 ⟨rfl, hb1⟩; have h9 := Blk.below H.out hb1 (Blk.lt H.out); have hc1 := Blk.cell h9; have hf1 := Blk.frozen h9; have HR1 := hide (H1.out _ h9); clear h9; replace hb1 := hide hb1)
        | (go_at_call 50; refine (HS.out _ HR1.out).mono ?_; rintro e w2 ⟨rfl, hm2, hr2⟩; replace hm2 := hide hm2; replace hr2 := hide hr2))
      go_ret
      exact ⟨(Mvs.setCell (S := fun k => k = b) (Mvs.of_below hb1.out) ⟨b, 0, none⟩ _ (fun _ => rfl)).trans hm2.out, rfl, hr2.out⟩
    · rw [if_neg hd] at HI
      obtain ⟨t, ht⟩ : ∃ t, r.takeWhile tokB = t := ⟨_, rfl⟩
      obtain ⟨d, hdd⟩ : ∃ d, r.dropWhile tokB = d := ⟨_, rfl⟩
      rw [ht] at e4 e5 hle hpos HI ⊢
      rw [hdd] at e5 HS
      obtain ⟨k, hk⟩ : ∃ k, t.length = k := ⟨_, rfl⟩
      rw [hk] at e4 e5 hle hpos HI
      obtain ⟨n, hn⟩ : ∃ n, r.length = n := ⟨_, rfl⟩
      rw [hn] at e5 hsz hl hle
      have hpos' : ¬ ((k : Int) = 0) := by omega
      have hpos2 : ¬ ((k : Int) < 0) := by omega
      have hle' : (k : Int) ≤ n := by omega
      have H1 := hide (fun w1 (h : RDm w1 b r) => Blk.set h 0 (.string ⟨d.toArray⟩))
      clear happ h0 hd e3 ht hdd hn hk
      go_enter Tryz.func84, Tryz.ntmps84
      go_wp2_with (first
        | (go_at_call 108; refine (HI.out _).mono ?_; rintro e w1 ⟨rfl, hb1⟩; have h9 := Blk.below H.out hb1 (Blk.lt H.out); have hc1 := Blk.cell h9; have hf1 := Blk.frozen h9; have HR1 := hide (H1.out _ h9); clear h9; replace hb1 := hide hb1)
        | (go_at_call 50; refine (HS.out _ HR1.out).mono ?_; rintro e w2 ⟨rfl, hm2, hr2⟩; replace hm2 := hide hm2; replace hr2 := hide hr2))
      go_ret
      exact ⟨(Mvs.setCell (S := fun k => k = b) (Mvs.of_below hb1.out) ⟨b, 0, none⟩ _ (fun _ => rfl)).trans hm2.out, rfl, hr2.out⟩
theorem name_any (b : Nat) (r : List UInt8) (w : World) (h : RDm w b r) (hl : r.length ≤ 1000000) :
    Calls Tryz.prog 51 #[.pointer (some ⟨b, 0, none⟩)] w (OutM b w ((tokO r).map fun x => (.string ⟨(x.1.map lowB).toArray⟩, x.2))) := by
  have HT := hide (token_any b r w h hl)
  have hlt := Blk.lt h
  cases ht : tokO r with
  | none =>
    rw [ht] at HT
    clear ht h
    go_enter Tryz.func51, Tryz.ntmps51
    go_wp2_with fail
    refine HT.out.mono ?_
    rintro e w1 ⟨hm1, rfl⟩
    exact go_panicM rfl ⟨hm1, rfl⟩
  | some x =>
    obtain ⟨t, s⟩ := x
    have hlen := (tokO_len ht).1
    rw [ht] at HT
    show Calls _ _ _ _ (OutM b w (some (.string ⟨(t.map lowB).toArray⟩, s)))
    have HM := hide (fun w => msmall_any t w (by omega))
    generalize t.map lowB = t2 at *
    clear ht h hlen
    go_enter Tryz.func51, Tryz.ntmps51
    go_wp2_with fail
    refine HT.out.mono ?_
    rintro e w1 ⟨hm1, rfl, hr1⟩
    replace hm1 := hide hm1
    replace hr1 := hide hr1
    go_wp2_with (first
      | (go_at_call 83; refine (HM.out _).mono ?_; rintro e w2 ⟨rfl, hb2⟩; replace hb2 := hide hb2))
    go_ret
    exact ⟨hm1.out.then hb2.out, rfl, Blk.below hr1.out hb2.out (Blk.lt hr1.out)⟩
end Go.Proofs.YtkppeejbmalefaaGreatDoor

end
