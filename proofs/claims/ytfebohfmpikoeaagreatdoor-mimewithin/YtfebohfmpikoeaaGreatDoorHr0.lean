/- The document's Split, beside layer 9's texts. -/
import Derived.Test.YtfebohfmpikoeaaGreatDoorHd5
namespace Go.Proofs.YtfebohfmpikoeaaGreatDoor
open Go.RowKit
/-- A text as a value. -/
def sv (x : List UInt8) : Value := .string ⟨x.toArray⟩
theorem strInfo : (Tryz.prog.info? 9).map (fun i => (i.zero, i.size, i.bytes)) = some (some (.string ⟨#[]⟩), 1, 16) := by kernel_rfl
theorem sv_oneCell (xs : List (List UInt8)) : ∀ u ∈ xs.map sv, u.oneCell' = true := by
  intro u hu
  obtain ⟨b, _, rfl⟩ := List.mem_map.1 hu
  rfl
/-- One text, laid as a row just now. -/
theorem src_one {w : World} {t : TypeId} (x : List UInt8) {c : Nat} (ht : Tryz.prog.underlying t = some (.slice 9)) : Src Tryz.prog 1 t (.slice (some ⟨w.heap.size, 0, none⟩) 1 c) 1 [sv x] (w.alloc (.cells #[.string ⟨x.toArray⟩] 9)) := by
  refine Src.ofSlice _ ht ⟨w.heap.size, 0, none⟩ 1 c [sv x] (by simp) (fun j u hu => ?_) (sv_oneCell [x])
  have hj := (List.getElem?_eq_some_iff.1 hu).1
  obtain rfl : j = 0 := by simpa using hj
  rw [Go.WideShapes.add_plain, Nat.zero_add, (Blk.new w _ _).cell]
  simp at hu
  rw [← hu]
  rfl
/-- Texts in a row of this call's own. -/
def Texts (w wr : World) (v : Value) (xs : List (List UInt8)) : Prop := Below w.heap.size w wr ∧ ∃ G, Rw wr 1 v xs.length (xs.map sv) G ∧ ∀ g, G = some g → w.heap.size ≤ g
theorem Texts.grow {w wr w1 : World} {v1 : Value} {xs : List (List UInt8)} {x : List UInt8} {G G1 : Option Nat} {o : Obj} (hb : Below w.heap.size w wr) (hg : ∀ g, G = some g → w.heap.size ≤ g)
    (hr : Rw w1 1 v1 (xs.length + 1) (xs.map sv ++ [sv x]) G1) (hm : Mvs (fun k => some k = G) (wr.alloc o) w1) (hG : G1 = G ∨ G1 = some (wr.alloc o).heap.size) : Texts w w1 v1 (xs ++ [x]) := by
  refine ⟨below_mvs (hb.alloc hb.size _) hm (fun k hk e => by have := hg k e.symm; omega) (Nat.le_refl _), G1, ?_, ?_⟩
  · rw [List.length_append, List.map_append]
    exact hr
  · rintro g rfl
    have := hb.size
    rcases hG with h | h
    · exact hg g h.symm
    · cases h
      simp
      omega
theorem at_str (l : List UInt8) (i : Nat) (hi : i < l.length) : ∃ c, l[i] = c ∧ ∀ h : i < (⟨l.toArray⟩ : ByteArray).size, (⟨l.toArray⟩ : ByteArray)[i]'h = c := ⟨_, rfl, fun _ => rfl⟩
/-- Between f and i there is no byte 10. -/
def no10 (l : List UInt8) (f i : Nat) : Prop := (10 : UInt8) ∉ (l.drop f).take (i - f)
theorem no10_next {l : List UInt8} {f i : Nat} (h : no10 l f i) (hf : f ≤ i) (hi : i < l.length) (hc : l[i] ≠ 10) : no10 l f (i + 1) := by
  unfold no10 at *
  have e : i + 1 - f = (i - f) + 1 := by omega
  rw [e, List.take_add_one, List.getElem?_drop, show f + (i - f) = i by omega, List.getElem?_eq_getElem hi]
  simp only [Option.toList_some, List.mem_append, List.mem_singleton, not_or]
  exact ⟨h, fun e => hc e.symm⟩
theorem drop_cut {l : List UInt8} {f i : Nat} (hf : f ≤ i) (hi : i < l.length) (hc : l[i] = 10) : l.drop f = (l.drop f).take (i - f) ++ 10 :: l.drop (i + 1) := by
  conv => lhs; rw [← List.take_append_drop (i - f) (l.drop f)]
  rw [List.drop_drop, show f + (i - f) = i by omega, List.drop_eq_getElem_cons hi, hc]
theorem take_cut {l : List UInt8} {f i : Nat} (hf : f ≤ i) (hi : i < l.length) (hc : l[i] = 10) : (l.drop f).take (i + 1 - f) = (l.drop f).take (i - f) ++ [10] := by
  have e : i + 1 - f = (i - f) + 1 := by omega
  rw [e, List.take_add_one, List.getElem?_drop, show f + (i - f) = i by omega, List.getElem?_eq_getElem hi, hc]
  rfl

set_option maxRecDepth 20000 in
set_option maxHeartbeats 1000000 in
theorem rsplit_any (l : List UInt8) (w : World) (hl : l.length ≤ 20000) :
    Calls Tryz.prog 38 #[.string ⟨l.toArray⟩] w fun e w' => ∃ v, e = .returned v ∧ Texts w w' v (splitS l) := by
  obtain ⟨i0, hi, hz0, hz1, hz2⟩ := info_three strInfo
  go_enter Tryz.func38, Tryz.ntmps38
  go_wp2
  go_loopw [3, 4, 5] (fun v s k wr => ∃ (f i : Nat) (xs : List (List UInt8)), s = .int .i64 f ∧ k = .int .i64 i ∧ f ≤ i ∧ i ≤ l.length ∧ xs.length ≤ f ∧ Hid (no10 l f i) ∧ Hid (Texts w wr v xs) ∧ Hid (xs ++ splitS (l.drop f) = splitS l)) (fun _ _ k _ => l.length - (intOf k).toNat)
  case atStart => exact ⟨0, 0, [], rfl, rfl, Nat.le_refl _, Nat.zero_le _, Nat.le_refl _, by simp [Hid, no10], ⟨(Below.refl _ _).alloc (Nat.le_refl _) _, some w.heap.size, Rw.new (e := 9) [] [] (Blk.new _ _ _) rfl rfl (Nat.le_refl _) (Nat.zero_le _), by simp⟩, rfl⟩
  case round =>
    obtain ⟨f, i, xs, rfl, rfl, hfi, hil, hxf, HN, HT, HX⟩ := hrel
    obtain ⟨hb, G, hr, hg⟩ := HT.out
    obtain ⟨A, c, rfl⟩ := hr.form
    replace hb := hide hb
    replace hr := hide hr
    replace hg := hide hg
    by_cases hlt : i < l.length
    · obtain ⟨x, hx, hat⟩ := at_str l i hlt
      have hlt' : (i : Int) < l.length := by omega
      have hlt2 : (f : Int) ≤ (i : Int) + 1 := by omega
      have hlt3 : (i : Int) + 1 ≤ l.length := by omega
      by_cases h10 : x = 10
      · subst h10
        have e1 : (⟨l.toArray⟩ : ByteArray).extract f (i + 1) = ⟨((l.drop f).take (i - f) ++ [10]).toArray⟩ := by
          rw [ext_mid, take_cut hfi hlt hx]
        have HX2 : Hid ((xs ++ [(l.drop f).take (i - f) ++ [10]]) ++ splitS (l.drop (i + 1)) = splitS l) := by
          show _ = _
          rw [← HX.out, (congrArg splitS (drop_cut hfi hlt hx)).trans (splitS_mid _ _ HN.out)]
          simp
        clear hx
        go_wp2_with (at_builtin; refine wpList_append_rw rfl _ _ 69 69 rfl 9 i0 (.string ⟨#[]⟩) 1 16 Tryz.underlying69 hi hz0 hz1 hz2 rfl rfl (hr.out.keep (S := fun _ => False) ((Mvs.refl _ _).alloc _) (fun _ _ c => c)) _ 1 _ rfl (src_one _ Tryz.underlying69) (by simp only [maxLen]; omega) (by omega) ?_)
        intro v1 w1 G1 hr1 hm1 hg1
        have HT1 := hide (Texts.grow hb.out hg.out hr1 hm1 (by simpa using hg1))
        obtain ⟨A1, c1, rfl⟩ := hr1.form
        clear hr1 hm1 hg1 hr hb hg hi hz0 hz1 hz2
        go_wp2
        go_roundw
        case rel => exact ⟨i + 1, i + 1, _, by go_num, by go_num, by omega, by omega, by simp; omega, by simp [Hid, no10], HT1, HX2⟩
        case measure => simp [intOf]; omega
      · have h10' : ¬ ((x.toNat : Int) = 10) := by
          intro e
          exact h10 (UInt8.toNat_inj.1 (by simpa using (by omega : x.toNat = 10)))
        have HN2 := hide (no10_next HN.out hfi hlt (by rw [hx]; exact h10))
        clear hx
        go_wp2
        go_roundw
        case rel => exact ⟨f, i + 1, xs, rfl, by go_num, by omega, by omega, hxf, HN2, ⟨hb.out, G, hr.out, hg.out⟩, HX⟩
        case measure => simp [intOf]; omega
    · obtain rfl : i = l.length := by omega
      have hlf : (f : Int) ≤ l.length := by omega
      have HE : Hid (no10 l f l.length → (10 : UInt8) ∉ l.drop f) := by
        show no10 l f l.length → _
        unfold no10
        rw [List.take_of_length_le (by rw [List.length_drop]; omega)]
        exact id
      by_cases hfl : f < l.length
      · have hfl' : (f : Int) < l.length := by omega
        have e1 := ext_drop l f
        have HX2 : Hid (xs ++ [l.drop f] = splitS l) := by
          show _ = _
          rw [← HX.out, splitS_end _ (HE.out HN.out) (by intro e; have := congrArg List.length e; rw [List.length_drop] at this; simp at this; omega)]
        go_wp2_with (at_builtin; refine wpList_append_rw rfl _ _ 69 69 rfl 9 i0 (.string ⟨#[]⟩) 1 16 Tryz.underlying69 hi hz0 hz1 hz2 rfl rfl (hr.out.keep (S := fun _ => False) ((Mvs.refl _ _).alloc _) (fun _ _ c => c)) _ 1 _ rfl (src_one _ Tryz.underlying69) (by simp only [maxLen]; omega) (by omega) ?_)
        intro v1 w1 G1 hr1 hm1 hg1
        have HT1 := hide (Texts.grow hb.out hg.out hr1 hm1 (by simpa using hg1))
        clear hr1 hm1 hg1 hr hb hg hi hz0 hz1 hz2
        go_wp2
        go_ret
        exact ⟨_, rfl, by rw [← HX2.out]; exact HT1.out⟩
      · have hfl' : ¬ (f : Int) < l.length := by omega
        have HX2 : Hid (xs = splitS l) := by
          show _ = _
          rw [← HX.out, List.drop_eq_nil_of_le (by omega), splitS, List.append_nil]
        go_wp2
        go_ret
        exact ⟨_, rfl, by rw [← HX2.out]; exact ⟨hb.out, G, hr.out, hg.out⟩⟩
end Go.Proofs.YtfebohfmpikoeaaGreatDoor
