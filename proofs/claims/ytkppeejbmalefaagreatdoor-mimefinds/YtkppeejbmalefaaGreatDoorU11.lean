/- The document's Split, beside layer 9's texts. -/
/- All and Get of package header; the document's Get; rows of texts that are the same. -/
import Derived.Test.YtkppeejbmalefaaGreatDoorU08
import Derived.Test.YtkppeejbmalefaaGreatDoorU10
section
namespace Go.Proofs.YtkppeejbmalefaaGreatDoor
open Go.RowKit
/-- A text as a value. -/
def sv (x : List UInt8) : Value := .string ⟨x.toArray⟩
theorem strInfo : (Tryz.prog.info? 9).map (fun i => (i.zero, i.size, i.bytes)) = some (some (.string ⟨#[]⟩), 1, 16) := by kernel_rfl
theorem sv_oneCell (xs : List (List UInt8)) : ∀ u ∈ xs.map sv, u.oneCell' = true := by
  intro u hu
  obtain ⟨b, _, rfl⟩ := List.mem_map.1 hu
  rfl
/-- One text, laid as a row just now. -/
theorem src_one {w : World} {t : TypeId} (x : List UInt8) {c : Nat} (ht : Tryz.prog.underlying t = some (.slice 9)) : Src Tryz.prog 1 t (.slice (some ⟨w.heap.size, 0, none⟩) 1 c) 1 [sv x] (w.alloc (.cells #[.string ⟨x.toArray⟩] 9)) := by
  refine Src.ofSlice _ ht ⟨w.heap.size, 0, none⟩ 1 c [sv x] (by simp) (fun j u hu => ?_) (sv_oneCell [x])
  have hj := (List.getElem?_eq_some_iff.1 hu).1
  obtain rfl : j = 0 := by simpa using hj
  rw [Go.WideShapes.add_plain, Nat.zero_add, (Blk.new w _ _).cell]
  simp at hu
  rw [← hu]
  rfl
/-- Texts in a row of this call's own. -/
def Texts (w wr : World) (v : Value) (xs : List (List UInt8)) : Prop := Below w.heap.size w wr ∧ ∃ G, Rw wr 1 v xs.length (xs.map sv) G ∧ ∀ g, G = some g → w.heap.size ≤ g
theorem Texts.grow {w wr w1 : World} {v1 : Value} {xs : List (List UInt8)} {x : List UInt8} {G G1 : Option Nat} {o : Obj} (hb : Below w.heap.size w wr) (hg : ∀ g, G = some g → w.heap.size ≤ g)
    (hr : Rw w1 1 v1 (xs.length + 1) (xs.map sv ++ [sv x]) G1) (hm : Mvs (fun k => some k = G) (wr.alloc o) w1) (hG : G1 = G ∨ G1 = some (wr.alloc o).heap.size) : Texts w w1 v1 (xs ++ [x]) := by
  refine ⟨below_mvs (hb.alloc hb.size _) hm (fun k hk e => by have := hg k e.symm; omega) (Nat.le_refl _), G1, ?_, ?_⟩
  · rw [List.length_append, List.map_append]
    exact hr
  · rintro g rfl
    have := hb.size
    rcases hG with h | h
    · exact hg g h.symm
    · cases h
      simp
      omega
theorem at_str (l : List UInt8) (i : Nat) (hi : i < l.length) : ∃ c, l[i] = c ∧ ∀ h : i < (⟨l.toArray⟩ : ByteArray).size, (⟨l.toArray⟩ : ByteArray)[i]'h = c := ⟨_, rfl, fun _ => rfl⟩
/-- Between f and i there is no byte 10. -/
def no10 (l : List UInt8) (f i : Nat) : Prop := (10 : UInt8) ∉ (l.drop f).take (i - f)
theorem no10_next {l : List UInt8} {f i : Nat} (h : no10 l f i) (hf : f ≤ i) (hi : i < l.length) (hc : l[i] ≠ 10) : no10 l f (i + 1) := by
  unfold no10 at *
  have e : i + 1 - f = (i - f) + 1 := by omega
  rw [e, List.take_add_one, List.getElem?_drop, show f + (i - f) = i by omega, List.getElem?_eq_getElem hi]
  simp only [Option.toList_some, List.mem_append, List.mem_singleton, not_or]
  exact ⟨h, fun e => hc e.symm⟩
theorem drop_cut {l : List UInt8} {f i : Nat} (hf : f ≤ i) (hi : i < l.length) (hc : l[i] = 10) : l.drop f = (l.drop f).take (i - f) ++ 10 :: l.drop (i + 1) := by
  conv => lhs; rw [← List.take_append_drop (i - f) (l.drop f)]
  rw [List.drop_drop, show f + (i - f) = i by omega, List.drop_eq_getElem_cons hi, hc]
theorem take_cut {l : List UInt8} {f i : Nat} (hf : f ≤ i) (hi : i < l.length) (hc : l[i] = 10) : (l.drop f).take (i + 1 - f) = (l.drop f).take (i - f) ++ [10] := by
  have e : i + 1 - f = (i - f) + 1 := by omega
  rw [e, List.take_add_one, List.getElem?_drop, show f + (i - f) = i by omega, List.getElem?_eq_getElem hi, hc]
  rfl

set_option maxRecDepth 20000 in
set_option maxHeartbeats 1000000 in
theorem rsplit_any (l : List UInt8) (w : World) (hl : l.length ≤ 20000) :
    Calls Tryz.prog 38 #[.string ⟨l.toArray⟩] w fun e w' => ∃ v, e = .returned v ∧ Texts w w' v (splitS l) := by
  obtain ⟨i0, hi, hz0, hz1, hz2⟩ := info_three strInfo
  go_enter Tryz.func38, Tryz.ntmps38
  go_wp2
  go_loopw [3, 4, 5] (fun v s k wr => ∃ (f i : Nat) (xs : List (List UInt8)), s = .int .i64 f ∧ k = .int .i64 i ∧ f ≤ i ∧ i ≤ l.length ∧ xs.length ≤ f ∧ Hid (no10 l f i) ∧ Hid (Texts w wr v xs) ∧ Hid (xs ++ splitS (l.drop f) = splitS l)) (fun _ _ k _ => l.length - (intOf k).toNat)
  case atStart => exact ⟨0, 0, [], rfl, rfl, Nat.le_refl _, Nat.zero_le _, Nat.le_refl _, by simp [Hid, no10], ⟨(Below.refl _ _).alloc (Nat.le_refl _) _, some w.heap.size, Rw.new (e := 9) [] [] (Blk.new _ _ _) rfl rfl (Nat.le_refl _) (Nat.zero_le _), by simp⟩, rfl⟩
  case round =>
    obtain ⟨f, i, xs, rfl, rfl, hfi, hil, hxf, HN, HT, HX⟩ := hrel
    obtain ⟨hb, G, hr, hg⟩ := HT.out
    obtain ⟨A, c, rfl⟩ := hr.form
    replace hb := hide hb
    replace hr := hide hr
    replace hg := hide hg
    by_cases hlt : i < l.length
    · obtain ⟨x, hx, hat⟩ := at_str l i hlt
      have hlt' : (i : Int) < l.length := by omega
      have hlt2 : (f : Int) ≤ (i : Int) + 1 := by omega
      have hlt3 : (i : Int) + 1 ≤ l.length := by omega
      by_cases h10 : x = 10
      · subst h10
        have e1 : (⟨l.toArray⟩ : ByteArray).extract f (i + 1) = ⟨((l.drop f).take (i - f) ++ [10]).toArray⟩ := by
          rw [ext_mid, take_cut hfi hlt hx]
        have HX2 : Hid ((xs ++ [(l.drop f).take (i - f) ++ [10]]) ++ splitS (l.drop (i + 1)) = splitS l) := by
          show _ = _
          rw [← HX.out, (congrArg splitS (drop_cut hfi hlt hx)).trans (splitS_mid _ _ HN.out)]
          simp
        clear hx
        go_wp2_with (at_builtin; refine wpList_append_rw rfl _ _ 50 50 rfl 9 i0 (.string ⟨#[]⟩) 1 16 Tryz.underlying50 hi hz0 hz1 hz2 rfl rfl (hr.out.keep (S := fun _ => False) ((Mvs.refl _ _).alloc _) (fun _ _ c => c)) _ 1 _ rfl (src_one _ Tryz.underlying50) (by simp only [maxLen]; omega) (by omega) ?_)
        intro v1 w1 G1 hr1 hm1 hg1
        have HT1 := hide (Texts.grow hb.out hg.out hr1 hm1 (by simpa using hg1))
        obtain ⟨A1, c1, rfl⟩ := hr1.form
        clear hr1 hm1 hg1 hr hb hg hi hz0 hz1 hz2
        go_wp2
        go_roundw
        case rel => exact ⟨i + 1, i + 1, _, by go_num, by go_num, by omega, by omega, by simp; omega, by simp [Hid, no10], HT1, HX2⟩
        case measure => simp [intOf]; omega
      · have h10' : ¬ ((x.toNat : Int) = 10) := by
          intro e
          exact h10 (UInt8.toNat_inj.1 (by simpa using (by omega : x.toNat = 10)))
        have HN2 := hide (no10_next HN.out hfi hlt (by rw [hx]; exact h10))
        clear hx
        go_wp2
        go_roundw
        case rel => exact ⟨f, i + 1, xs, rfl, by go_num, by omega, by omega, hxf, HN2, ⟨hb.out, G, hr.out, hg.out⟩, HX⟩
        case measure => simp [intOf]; omega
    · obtain rfl : i = l.length := by omega
      have hlf : (f : Int) ≤ l.length := by omega
      have HE : Hid (no10 l f l.length → (10 : UInt8) ∉ l.drop f) := by
        show no10 l f l.length → _
        unfold no10
        rw [List.take_of_length_le (by rw [List.length_drop]; omega)]
        exact id
      by_cases hfl : f < l.length
      · have hfl' : (f : Int) < l.length := by omega
        have e1 := ext_drop l f
        have HX2 : Hid (xs ++ [l.drop f] = splitS l) := by
          show _ = _
          rw [← HX.out, splitS_end _ (HE.out HN.out) (by intro e; have := congrArg List.length e; rw [List.length_drop] at this; simp at this; omega)]
        go_wp2_with (at_builtin; refine wpList_append_rw rfl _ _ 50 50 rfl 9 i0 (.string ⟨#[]⟩) 1 16 Tryz.underlying50 hi hz0 hz1 hz2 rfl rfl (hr.out.keep (S := fun _ => False) ((Mvs.refl _ _).alloc _) (fun _ _ c => c)) _ 1 _ rfl (src_one _ Tryz.underlying50) (by simp only [maxLen]; omega) (by omega) ?_)
        intro v1 w1 G1 hr1 hm1 hg1
        have HT1 := hide (Texts.grow hb.out hg.out hr1 hm1 (by simpa using hg1))
        clear hr1 hm1 hg1 hr hb hg hi hz0 hz1 hz2
        go_wp2
        go_ret
        exact ⟨_, rfl, by rw [← HX2.out]; exact HT1.out⟩
      · have hfl' : ¬ (f : Int) < l.length := by omega
        have HX2 : Hid (xs = splitS l) := by
          show _ = _
          rw [← HX.out, List.drop_eq_nil_of_le (by omega), splitS, List.append_nil]
        go_wp2
        go_ret
        exact ⟨_, rfl, by rw [← HX2.out]; exact ⟨hb.out, G, hr.out, hg.out⟩⟩
end Go.Proofs.YtkppeejbmalefaaGreatDoor

end
section
namespace Go.Proofs.YtkppeejbmalefaaGreatDoor
open Go.RowKit Go.Shelf
/-- A field that came in: its numbers are any. -/
structure FI where
  name : List UInt8
  value : List UInt8
  a : Int
  e : Int
/-- A slice that reads as these fields. -/
def FA (w : World) (v : Value) (xs : List FI) : Prop := ∃ A cap, v = .slice A xs.length cap ∧ ∀ i (hi : i < xs.length), ∃ g o, A = some ⟨g, o, none⟩ ∧ g < w.heap.size ∧
  w.cell? ⟨g, o + i * 4, none⟩ = some (.string ⟨xs[i].name.toArray⟩) ∧ w.cell? ⟨g, o + i * 4 + 1, none⟩ = some (.string ⟨xs[i].value.toArray⟩) ∧ w.cell? ⟨g, o + i * 4 + 2, none⟩ = some (.int .i64 xs[i].a) ∧ w.cell? ⟨g, o + i * 4 + 3, none⟩ = some (.int .i64 xs[i].e)
theorem FA.below {w w' : World} {v : Value} {xs : List FI} (h : FA w v xs) (hb : Below w.heap.size w w') : FA w' v xs := by
  obtain ⟨A, c, rfl, h⟩ := h
  refine ⟨A, c, rfl, fun i hi => ?_⟩
  obtain ⟨g, o, e, hg, c0, c1, c2, c3⟩ := h i hi
  exact ⟨g, o, e, Nat.lt_of_lt_of_le hg hb.size, (hb.cell (p := ⟨g, _, none⟩) hg).trans c0, (hb.cell (p := ⟨g, _, none⟩) hg).trans c1, (hb.cell (p := ⟨g, _, none⟩) hg).trans c2, (hb.cell (p := ⟨g, _, none⟩) hg).trans c3⟩
/-- The values of a name. -/
def valsOf (n : List UInt8) (xs : List FI) : List (List UInt8) := (xs.filter fun x => sameT x.name n).map FI.value
theorem vals_yes {n : List UInt8} {xs : List FI} {i : Nat} (hi : i < xs.length) (h : sameT xs[i].name n = true) : valsOf n (xs.take (i + 1)) = valsOf n (xs.take i) ++ [xs[i].value] := by
  unfold valsOf
  rw [List.take_succ_eq_append_getElem hi, List.filter_append, List.map_append]
  simp [h]
theorem vals_no {n : List UInt8} {xs : List FI} {i : Nat} (hi : i < xs.length) (h : sameT xs[i].name n = false) : valsOf n (xs.take (i + 1)) = valsOf n (xs.take i) := by
  unfold valsOf
  rw [List.take_succ_eq_append_getElem hi, List.filter_append, List.map_append]
  simp [h]
theorem vals_len (n : List UInt8) (xs : List FI) (i : Nat) : (valsOf n (xs.take i)).length ≤ xs.length := by
  unfold valsOf
  rw [List.length_map]
  refine Nat.le_trans (List.length_filter_le _ _) ?_
  rw [List.length_take]
  omega
set_option maxRecDepth 20000 in
set_option maxHeartbeats 1000000 in
theorem rget_any (n : List UInt8) (v : Value) (xs : List FI) (w : World) (hv : FA w v xs) (hl : xs.length ≤ 1000) (hn : n.length ≤ 1000000) (hx : ∀ x ∈ xs, x.name.length ≤ 1000000) :
    Calls Tryz.prog 19 #[v, .string ⟨n.toArray⟩] w fun e w' => ∃ u, e = .returned u ∧ Texts w w' u (valsOf n xs) := by
  obtain ⟨i0, hi, hz0, hz1, hz2⟩ := info_three strInfo
  obtain ⟨A, c, rfl, hr⟩ := hv
  have HR := hide hr
  have HX := hide hx
  clear hr hx
  go_enter Tryz.func19, Tryz.ntmps19
  go_wp2
  go_loopw [5, 11] (fun v5 v10 wr => ∃ k : Nat, k ≤ xs.length ∧ v10 = .int .i64 k ∧ Hid (Texts w wr v5 (valsOf n (xs.take k)))) (fun _ v10 _ => xs.length - (intOf v10).toNat)
  case atStart => exact ⟨0, Nat.zero_le _, rfl, (Below.refl _ _).alloc (Nat.le_refl _) _, some w.heap.size, Rw.new (e := 9) [] [] (Blk.new _ _ _) rfl rfl (Nat.le_refl _) (Nat.zero_le _), by simp⟩
  case round =>
    obtain ⟨k, hk, rfl, HT⟩ := hrel
    obtain ⟨hb, G, hrw, hg⟩ := HT.out
    obtain ⟨A5, c5, rfl⟩ := hrw.form
    have hbs := hb.size
    have hvl := vals_len n xs k
    by_cases hlt : k < xs.length
    · obtain ⟨g, o, rfl, hgl, q0, q1, q2, q3⟩ := HR.out k hlt
      have hlt' : (k : Int) < xs.length := by omega
      have hnl := HX.out _ (List.getElem_mem hlt)
      replace q0 := (hb.cell (p := ⟨g, o + k * 4, none⟩) hgl).trans q0
      replace q1 := (hb.cell (p := ⟨g, o + k * 4 + 1, none⟩) hgl).trans q1
      replace q2 := (hb.cell (p := ⟨g, o + k * 4 + 2, none⟩) hgl).trans q2
      replace q3 := (hb.cell (p := ⟨g, o + k * 4 + 3, none⟩) hgl).trans q3
      have HS1 := hide (fun w => rsmall_any xs[k].name w (by omega))
      have HS2 := hide (fun w => rsmall_any n w (by omega))
      cases hs : sameT xs[k].name n with
      | true =>
        have HV := hide (vals_yes hlt hs)
        have hsv : decide (xs[k].name.map lowB = n.map lowB) = true := hs
        generalize valsOf n (xs.take k) = ys at *
        generalize xs[k] = p at *
        obtain ⟨pn, pv, pa, pe⟩ := p
        dsimp only at *
        replace hsv := of_decide_eq_true hsv
        rw [hsv] at HS1
        generalize n.map lowB = sn at *
        clear hsv
        have HB := hide hb
        have HW := hide hrw
        have HG := hide hg
        clear hs hb hrw hg HT
        go_wp2_with fail
        refine (HS1.out _).mono ?_
        rintro e w1 ⟨rfl, hb1⟩
        have hk1 := (Blk.new wr #[.string ⟨pn.toArray⟩, .string ⟨pv.toArray⟩, .int .i64 pa, .int .i64 pe] 71).below hb1 (by simp)
        replace hb1 := hide hb1
        go_wp2_with fail
        refine (HS2.out _).mono ?_
        rintro e w2 ⟨rfl, hb2'⟩
        have hb2 := hb1.out.trans (hb2'.mono hb1.out.size)
        have hq2 := (hk1.below hb2' hk1.lt).cell 1
        have HB2 := hide (HB.out.trans ((((Below.refl wr.heap.size wr).alloc (Nat.le_refl _) _).trans (hb2.mono (by simp))).mono HB.out.size))
        have HM2 := hide (((Mvs.refl (fun _ => False) wr).alloc _).then hb2)
        clear hb2 hb2' hk1
        go_wp2_with (first
          | (at_builtin; refine wpList_append_rw rfl _ _ 50 50 rfl 9 i0 (.string ⟨#[]⟩) 1 16 Tryz.underlying50 hi hz0 hz1 hz2 rfl rfl (HW.out.keep (S := fun _ => False) (HM2.out.alloc _) (fun _ _ c => c)) _ 1 _ rfl (src_one _ Tryz.underlying50) (by simp only [maxLen]; omega) (by omega) ?_))
        intro v1 w3 G1 hr1 hm1 hg1
        have HT1 := hide (Texts.grow HB2.out HG.out hr1 hm1 (by simpa using hg1))
        obtain ⟨A1, c1, rfl⟩ := hr1.form
        clear hr1 hm1 hg1
        go_wp2
        go_roundw
        case rel => exact ⟨k + 1, by omega, by go_num, by rw [HV.out]; exact HT1⟩
        case measure => simp [intOf]; omega
      | false =>
        have HV := hide (vals_no hlt hs)
        have hsv : decide (xs[k].name.map lowB = n.map lowB) = false := hs
        generalize valsOf n (xs.take k) = ys at *
        generalize xs[k] = p at *
        obtain ⟨pn, pv, pa, pe⟩ := p
        dsimp only at *
        have hsv2 : (pn.map lowB == n.map lowB) = false := beq_eq_false_iff_ne.2 (of_decide_eq_false hsv)
        generalize n.map lowB = sn at *
        generalize pn.map lowB = sp at *
        clear hsv
        have HB := hide hb
        have HW := hide hrw
        have HG := hide hg
        clear hs hb hrw hg HT
        go_wp2_with fail
        refine (HS1.out _).mono ?_
        rintro e w1 ⟨rfl, hb1⟩
        replace hb1 := hide hb1
        go_wp2_with fail
        refine (HS2.out _).mono ?_
        rintro e w2 ⟨rfl, hb2'⟩
        have hb2 := hb1.out.trans (hb2'.mono hb1.out.size)
        have HB2 := hide (HB.out.trans ((((Below.refl wr.heap.size wr).alloc (Nat.le_refl _) _).trans (hb2.mono (by simp))).mono HB.out.size))
        have HM2 := hide (((Mvs.refl (fun _ => False) wr).alloc _).then hb2)
        clear hb2 hb2'
        go_wp2
        go_roundw
        case rel => exact ⟨k + 1, by omega, by go_num, by rw [HV.out]; exact ⟨HB2.out, G, HW.out.keep HM2.out (fun _ _ c => c), HG.out⟩⟩
        case measure => simp [intOf]; omega
    · obtain rfl : k = xs.length := by omega
      have HT2 : Hid (Texts w wr (.slice A5 (valsOf n (xs.take xs.length)).length c5) (valsOf n xs)) := by
        have := HT.out
        rw [List.take_length] at this ⊢
        exact this
      clear hb hrw hg HT
      go_wp2
      go_ret
      exact ⟨_, rfl, HT2.out⟩
set_option maxRecDepth 20000 in
set_option maxHeartbeats 1000000 in
theorem get_any (n : List UInt8) (v : Value) (xs : List FI) (w : World) (hv : FA w v xs) (hl : xs.length ≤ 1000) (hn : n.length ≤ 1000000) (hx : ∀ x ∈ xs, x.name.length ≤ 1000000) :
    Calls Tryz.prog 35 #[v, .string ⟨n.toArray⟩] w fun e w' => e = .returned (.tuple #[.string ⟨((valsOf n xs).head?.getD []).toArray⟩, .bool (!(valsOf n xs).isEmpty)]) ∧ Below w.heap.size w w' := by
  obtain ⟨A, c, rfl, hr⟩ := hv
  have HR := hide hr
  have HX := hide hx
  clear hr hx
  go_enter Tryz.func35, Tryz.ntmps35
  go_wp2
  go_loopw [10] (fun v10 wr => ∃ k : Nat, k ≤ xs.length ∧ v10 = .int .i64 k ∧ Hid (valsOf n (xs.take k) = []) ∧ Hid (Below w.heap.size w wr)) (fun v10 _ => xs.length - (intOf v10).toNat)
  case atStart => exact ⟨0, Nat.zero_le _, rfl, rfl, Below.refl _ _⟩
  case round =>
    obtain ⟨k, hk, rfl, HT, HB⟩ := hrel
    have hbs := HB.out.size
    by_cases hlt : k < xs.length
    · obtain ⟨g, o, rfl, hgl, q0, q1, q2, q3⟩ := HR.out k hlt
      have hlt' : (k : Int) < xs.length := by omega
      have hnl := HX.out _ (List.getElem_mem hlt)
      replace q0 := (HB.out.cell (p := ⟨g, o + k * 4, none⟩) hgl).trans q0
      replace q1 := (HB.out.cell (p := ⟨g, o + k * 4 + 1, none⟩) hgl).trans q1
      replace q2 := (HB.out.cell (p := ⟨g, o + k * 4 + 2, none⟩) hgl).trans q2
      replace q3 := (HB.out.cell (p := ⟨g, o + k * 4 + 3, none⟩) hgl).trans q3
      have HS := hide (fun w => hsame_any xs[k].name n w (by omega) (by omega))
      cases hs : sameT xs[k].name n with
      | true =>
        have HV : Hid ((valsOf n xs).head?.getD [] = xs[k].value ∧ (valsOf n xs).isEmpty = false) := by
          have h1 := vals_yes hlt hs
          rw [HT.out] at h1
          have h2 : valsOf n xs = valsOf n (xs.take (k + 1)) ++ valsOf n (xs.drop (k + 1)) := by
            unfold valsOf
            rw [← List.map_append, ← List.filter_append, List.take_append_drop]
          rw [h2, h1]
          exact ⟨rfl, rfl⟩
        rw [hs] at HS
        generalize xs[k] = p at *
        obtain ⟨pn, pv, pa, pe⟩ := p
        dsimp only at *
        clear hs HT
        go_wp2_with (first
          | (go_at_call 77; refine (HS.out _).mono ?_; rintro e w2 ⟨rfl, hb2⟩
             have hq2 := ((Blk.new wr #[.string ⟨pn.toArray⟩, .string ⟨pv.toArray⟩, .int .i64 pa, .int .i64 pe] 71).below hb2 (by simp)).cell 1
             have HB2 := hide (HB.out.trans ((((Below.refl wr.heap.size wr).alloc (Nat.le_refl _) _).trans (hb2.mono (by simp))).mono HB.out.size))
             clear hb2))
        exact bodyPost_ret (v := .tuple #[.string ⟨pv.toArray⟩, .bool true]) (by simp [results, Tryz.results35, go_sem]) rfl ⟨by rw [HV.out.1, HV.out.2]; rfl, HB2.out⟩
      | false =>
        have HV : Hid (valsOf n (xs.take (k + 1)) = []) := by
          show _ = _
          rw [vals_no hlt hs, HT.out]
        rw [hs] at HS
        generalize xs[k] = p at *
        obtain ⟨pn, pv, pa, pe⟩ := p
        dsimp only at *
        clear hs HT
        go_wp2_with (first
          | (go_at_call 77; refine (HS.out _).mono ?_; rintro e w2 ⟨rfl, hb2⟩
             have HB2 := hide (HB.out.trans ((((Below.refl wr.heap.size wr).alloc (Nat.le_refl _) _).trans (hb2.mono (by simp))).mono HB.out.size))
             clear hb2))
        go_roundw
        case rel => exact ⟨k + 1, by omega, by go_num, HV, HB2⟩
        case measure => simp [intOf]; omega
    · obtain rfl : k = xs.length := by omega
      have HV : Hid (valsOf n xs = []) := by
        have := HT.out
        rw [List.take_length] at this
        exact this
      go_wp2
      exact bodyPost_ret (v := .tuple #[.string ⟨#[]⟩, .bool false]) (by simp [results, Tryz.results35, go_sem]) rfl ⟨by rw [HV.out]; rfl, HB.out⟩
/-- A slice that reads as these texts. -/
def TX (w : World) (v : Value) (xs : List (List UInt8)) : Prop := ∃ A cap, v = .slice A xs.length cap ∧ ∀ i (hi : i < xs.length), ∃ g o, A = some ⟨g, o, none⟩ ∧ g < w.heap.size ∧ w.cell? ⟨g, o + i, none⟩ = some (.string ⟨xs[i].toArray⟩)
theorem TX.below {w w' : World} {v : Value} {xs : List (List UInt8)} (h : TX w v xs) (hb : Below w.heap.size w w') : TX w' v xs := by
  obtain ⟨A, c, rfl, h⟩ := h
  refine ⟨A, c, rfl, fun i hi => ?_⟩
  obtain ⟨g, o, e, hg, c0⟩ := h i hi
  exact ⟨g, o, e, Nat.lt_of_lt_of_le hg hb.size, (hb.cell (p := ⟨g, _, none⟩) hg).trans c0⟩
theorem Texts.tx {w wr : World} {v : Value} {xs : List (List UInt8)} (h : Texts w wr v xs) : TX wr v xs := by
  obtain ⟨_, G, hr, _⟩ := h
  obtain ⟨A, c, rfl⟩ := hr.form
  refine ⟨A, c, rfl, fun i hi => ?_⟩
  rcases hr.2 with ⟨_, h0, _⟩ | ⟨g, o, cap, _, e, _, _, h3, h4, _⟩
  · omega
  · exact ⟨g, o, by cases e; rfl, h3, h4 i _ (by rw [List.getElem?_map, List.getElem?_eq_getElem hi]; rfl)⟩
end Go.Proofs.YtkppeejbmalefaaGreatDoor

end
