/- Under and Moved of package boxes; the document's Moved; alive. -/
/- The document's Moved; Above of package boxes. -/
import Derived.Test.YtelpjiiladbigaaDoorU22
import Derived.Test.YtelpjiiladbigaaDoorU23
section
set_option linter.unusedSimpArgs false
set_option linter.unusedVariables false
namespace Go.Proofs.YtelpjiiladbigaaDoor
open Go.RowKit Go.Shelf
theorem und_no {name base : List UInt8} (h : Lib.hasPrefix name base = false) : undB name base = false := by
  unfold undB
  rw [Bool.and_eq_false_iff]
  by_cases hl : base.length + 1 < name.length
  · right
    refine decide_eq_false (fun e => ?_)
    have h2 : base.isPrefixOf name = true := by
      rw [List.isPrefixOf_iff_prefix]
      refine ⟨name.drop base.length, ?_⟩
      have h3 : name.take base.length = base := by
        have := congrArg (List.take base.length) e
        rw [List.take_take, Nat.min_eq_left (by omega), List.take_left' rfl] at this
        exact this
      conv => lhs; lhs; rw [← h3]
      exact List.take_append_drop _ _
    rw [show Lib.hasPrefix name base = base.isPrefixOf name from rfl, h2] at h
    cases h
  · exact .inl (decide_eq_false hl)
def undR : List UInt8 → Bool
  | a :: _ :: _ => a == 47
  | _ => false
theorem und_yes (base r : List UInt8) : undB (base ++ r) base = undR r := by
  unfold undB
  rw [List.take_append, List.take_of_length_le (by omega), show base.length + 1 - base.length = 1 from by omega, List.length_append]
  match r with
  | [] => simp [undR]
  | [a] => simp [undR]
  | a :: b :: r =>
    simp [undR]
    rw [Bool.eq_iff_iff]
    simp
theorem pre_split {name base : List UInt8} (h : Lib.hasPrefix name base = true) : ∃ r, name = base ++ r ∧ Lib.trimPrefix name base = r := by
  have h2 : base.isPrefixOf name = true := h
  rw [List.isPrefixOf_iff_prefix] at h2
  obtain ⟨r, rfl⟩ := h2
  refine ⟨r, rfl, ?_⟩
  unfold Lib.trimPrefix
  rw [if_pos h, List.drop_left' rfl]
set_option maxRecDepth 20000 in
set_option maxHeartbeats 1000000 in
theorem under_any (name base : List UInt8) (w : World) (hn : name.length ≤ 1000000) : Calls Tryd.prog 19 #[.string ⟨name.toArray⟩, .string ⟨base.toArray⟩] w fun e w' => e = .returned (.bool (undB name base)) ∧ w' = w := by
  have HP := hide (prefix_bo name base)
  cases hp : Lib.hasPrefix name base with
  | false =>
    have HU := hide (und_no hp)
    rw [hp] at HP
    clear hp
    generalize undB name base = T at *
    go_enter Tryd.func19, Tryd.ntmps19
    go_wp2_with (go_at_call 34; refine (HP.out _).mono ?_; rintro e w' ⟨rfl, rfl⟩)
    go_ret
    exact ⟨by rw [HU.out]; rfl, rfl⟩
  | true =>
    obtain ⟨r, hr, ht⟩ := pre_split hp
    rw [hp, ht] at HP
    have HU : Hid (undB name base = undR r) := by show _ = _; rw [hr]; exact und_yes base r
    have hl : r.length ≤ 1000000 := by rw [hr, List.length_append] at hn; omega
    clear hp ht hr
    generalize undB name base = T at *
    match r, HP, HU, hl with
    | [], HP, HU, hl =>
      go_enter Tryd.func19, Tryd.ntmps19
      go_wp2_with (go_at_call 34; refine (HP.out _).mono ?_; rintro e w' ⟨rfl, rfl⟩)
      go_ret
      exact ⟨by rw [HU.out]; rfl, rfl⟩
    | [a], HP, HU, hl =>
      go_enter Tryd.func19, Tryd.ntmps19
      go_wp2_with (go_at_call 34; refine (HP.out _).mono ?_; rintro e w' ⟨rfl, rfl⟩)
      go_ret
      exact ⟨by rw [HU.out]; rfl, rfl⟩
    | a :: b :: r, HP, HU, hl =>
      have hsz := size_lit (a :: b :: r)
      have hat : ∀ h : 0 < (⟨(a :: b :: r).toArray⟩ : ByteArray).size, (⟨(a :: b :: r).toArray⟩ : ByteArray)[0]'h = a := fun _ => rfl
      have hlen : (1 : Int) < (a :: b :: r).length := by simp; omega
      have hlen2 : 0 < (a :: b :: r).length := by simp
      have HU2 : Hid (T = (a == 47)) := HU
      clear HU
      generalize a :: b :: r = s at *
      by_cases h47 : a = 47
      · subst h47
        go_enter Tryd.func19, Tryd.ntmps19
        go_wp2_with (go_at_call 34; refine (HP.out _).mono ?_; rintro e w' ⟨rfl, rfl⟩)
        go_ret
        exact ⟨by rw [HU2.out]; simp, rfl⟩
      · have b47 : ¬ (a.toNat : Int) = 47 := fun e => h47 (UInt8.toNat_inj.1 (by rw [show (47 : UInt8).toNat = 47 from rfl]; omega))
        have b48 : ((a.toNat : Int) == 47) = false := beq_eq_false_iff_ne.2 b47
        have HU3 : Hid (T = false) := by show _ = _; rw [HU2.out]; exact beq_eq_false_iff_ne.2 h47
        go_enter Tryd.func19, Tryd.ntmps19
        go_wp2_with (go_at_call 34; refine (HP.out _).mono ?_; rintro e w' ⟨rfl, rfl⟩)
        go_ret
        exact ⟨by rw [HU3.out]; simp [b48], rfl⟩
theorem ext_dropN (l : List UInt8) (k : Nat) : (⟨l.toArray⟩ : ByteArray).extract k (⟨l.toArray⟩ : ByteArray).size = ⟨(l.drop k).toArray⟩ := by rw [size_lit, ext_drop]
/-- What Moved answers. -/
def movV (o : Option (List UInt8)) : Ending := .returned (.tuple #[.string ⟨(o.getD []).toArray⟩, .bool o.isSome])
set_option maxRecDepth 20000 in
set_option maxHeartbeats 1000000 in
theorem moved_any (name frm dst : List UInt8) (w : World) (h1 : name.length ≤ 1000000) (h2 : frm.length ≤ 1000000) (h3 : dst.length ≤ 1000000) :
    Calls Tryd.prog 17 #[.string ⟨name.toArray⟩, .string ⟨frm.toArray⟩, .string ⟨dst.toArray⟩] w fun e w' => e = movV (movO name frm dst) ∧ w' = w := by
  have HU := hide (fun w => under_any name frm w h1)
  have hs1 := size_lit name
  have hs2 := size_lit frm
  have hs3 := size_lit dst
  by_cases he : name = frm
  · subst he
    have HM : Hid (movV (movO name name dst) = .returned (.tuple #[.string ⟨dst.toArray⟩, .bool true])) := by
      show _ = _
      unfold movO
      rw [if_pos rfl]
      rfl
    have e1 : (⟨name.toArray⟩ : ByteArray).extract name.length name.length = ⟨([] : List UInt8).toArray⟩ := by rw [ext_drop, List.drop_length]
    have e2 : (⟨dst.toArray⟩ : ByteArray) ++ ⟨([] : List UInt8).toArray⟩ = ⟨dst.toArray⟩ := by rw [cat_lit, List.append_nil]
    have hbx : dst.length + 0 ≤ 9223372036854775807 := by omega
    go_enter Tryd.func17, Tryd.ntmps17
    go_wp2_with (go_at_call 19; refine (HU.out _).mono ?_; rintro e w' ⟨rfl, rfl⟩)
    go_ret2
    exact ⟨by rw [HM.out]; rfl, rfl⟩
  · have hq : (name == frm) = false := beq_eq_false_iff_ne.2 he
    cases hu : undB name frm with
    | false =>
      have HM : Hid (movV (movO name frm dst) = .returned (.tuple #[.string ⟨#[]⟩, .bool false])) := by
        show _ = _
        unfold movO
        rw [if_neg he, if_neg (by simp [hu])]
        rfl
      rw [hu] at HU
      clear hu
      go_enter Tryd.func17, Tryd.ntmps17
      go_wp2_with (go_at_call 19; refine (HU.out _).mono ?_; rintro e w' ⟨rfl, rfl⟩)
      go_ret2
      exact ⟨by rw [HM.out]; rfl, rfl⟩
    | true =>
      have HM : Hid (movV (movO name frm dst) = .returned (.tuple #[.string ⟨(dst ++ name.drop frm.length).toArray⟩, .bool true])) := by
        show _ = _
        unfold movO
        rw [if_neg he, if_pos hu]
        rfl
      have hle : frm.length ≤ name.length := by
        unfold undB at hu
        simp at hu
        omega
      rw [hu] at HU
      clear hu
      have e1 : (⟨name.toArray⟩ : ByteArray).extract frm.length name.length = ⟨(name.drop frm.length).toArray⟩ := ext_drop _ _
      have hdl : (name.drop frm.length).length ≤ 1000000 := by rw [List.length_drop]; omega
      have e3 := size_lit (name.drop frm.length)
      generalize name.drop frm.length = r at *
      have e2 : (⟨dst.toArray⟩ : ByteArray) ++ ⟨r.toArray⟩ = ⟨(dst ++ r).toArray⟩ := cat_lit _ _
      have hbx : dst.length + r.length ≤ 9223372036854775807 := by omega
      have hle' : (frm.length : Int) ≤ name.length := by omega
      go_enter Tryd.func17, Tryd.ntmps17
      go_wp2_with (go_at_call 19; refine (HU.out _).mono ?_; rintro e w' ⟨rfl, rfl⟩)
      go_ret2
      exact ⟨by rw [HM.out]; rfl, rfl⟩
end Go.Proofs.YtelpjiiladbigaaDoor

end
section
set_option linter.unusedSimpArgs false
set_option linter.unusedVariables false
namespace Go.Proofs.YtelpjiiladbigaaDoor
open Go.RowKit Go.Shelf
set_option maxRecDepth 20000 in
set_option maxHeartbeats 1000000 in
theorem rmoved_any (name frm dst : List UInt8) (w : World) (h1 : name.length ≤ 1000000) (h2 : frm.length ≤ 1000000) (h3 : dst.length ≤ 1000000) :
    Calls Tryd.prog 18 #[.string ⟨name.toArray⟩, .string ⟨frm.toArray⟩, .string ⟨dst.toArray⟩] w fun e w' => e = movV (movO name frm dst) ∧ w' = w := by
  have hs1 := size_lit name
  have hs2 := size_lit frm
  have hs3 := size_lit dst
  by_cases he : name = frm
  · subst he
    have HM : Hid (movV (movO name name dst) = .returned (.tuple #[.string ⟨dst.toArray⟩, .bool true])) := by
      show _ = _
      unfold movO
      rw [if_pos rfl]
      rfl
    go_enter Tryd.func18, Tryd.ntmps18
    go_wp2
    go_ret2
    exact ⟨by rw [HM.out]; rfl, rfl⟩
  · have hq : (name == frm) = false := beq_eq_false_iff_ne.2 he
    by_cases hl : frm.length + 1 < name.length
    · have hl' : (frm.length : Int) + 1 < name.length := by omega
      have hl2 : (frm.length : Int) + 1 ≤ name.length := by omega
      have e1 : (⟨name.toArray⟩ : ByteArray).extract 0 (frm.length + 1) = ⟨(name.take (frm.length + 1)).toArray⟩ := ext_take _ _
      have e2 : (⟨frm.toArray⟩ : ByteArray) ++ ⟨#[47]⟩ = ⟨(frm ++ [47]).toArray⟩ := cat_lit frm [47]
      have hbx : frm.length + 1 ≤ 9223372036854775807 := by omega
      by_cases ht : name.take (frm.length + 1) = frm ++ [47]
      · have hu : undB name frm = true := by simp [undB, hl, ht]
        have ht2 : (name.take (frm.length + 1) == frm ++ [47]) = true := beq_iff_eq.2 ht
        have HM : Hid (movV (movO name frm dst) = .returned (.tuple #[.string ⟨(dst ++ name.drop frm.length).toArray⟩, .bool true])) := by
          show _ = _
          unfold movO
          rw [if_neg he, if_pos hu]
          rfl
        have e4 : (⟨name.toArray⟩ : ByteArray).extract frm.length name.length = ⟨(name.drop frm.length).toArray⟩ := ext_drop _ _
        have hdl : (name.drop frm.length).length ≤ 1000000 := by rw [List.length_drop]; omega
        have e3 := size_lit (name.drop frm.length)
        generalize name.drop frm.length = r at *
        generalize name.take (frm.length + 1) = q at *
        have e5 : (⟨dst.toArray⟩ : ByteArray) ++ ⟨r.toArray⟩ = ⟨(dst ++ r).toArray⟩ := cat_lit _ _
        have hby : dst.length + r.length ≤ 9223372036854775807 := by omega
        have hle' : (frm.length : Int) ≤ name.length := by omega
        clear ht hu
        go_enter Tryd.func18, Tryd.ntmps18
        go_wp2
        go_ret2
        exact ⟨by rw [HM.out]; rfl, rfl⟩
      · have hu : undB name frm = false := by simp [undB, ht]
        have ht2 : (name.take (frm.length + 1) == frm ++ [47]) = false := beq_eq_false_iff_ne.2 ht
        have HM : Hid (movV (movO name frm dst) = .returned (.tuple #[.string ⟨#[]⟩, .bool false])) := by
          show _ = _
          unfold movO
          rw [if_neg he, if_neg (by simp [hu])]
          rfl
        generalize name.take (frm.length + 1) = q at *
        clear ht hu
        go_enter Tryd.func18, Tryd.ntmps18
        go_wp2
        go_ret2
        exact ⟨by rw [HM.out]; rfl, rfl⟩
    · have hl' : ¬ (frm.length : Int) + 1 < name.length := by omega
      have HM : Hid (movV (movO name frm dst) = .returned (.tuple #[.string ⟨#[]⟩, .bool false])) := by
        show _ = _
        unfold movO
        rw [if_neg he, if_neg (by simp [undB]; intro h; exact absurd h hl)]
        rfl
      go_enter Tryd.func18, Tryd.ntmps18
      go_wp2
      go_ret2
      exact ⟨by rw [HM.out]; rfl, rfl⟩
/-- What stands above a name, of the slashes ahead of place i. -/
def abvK (name : List UInt8) (i : Nat) : List (List UInt8) := ((List.range i).filter (fun j => name[j]? == some 47)).map (fun j => name.take j)
theorem abvK_end (name : List UInt8) : abvK name name.length = abvL name := rfl
theorem abvK_yes {name : List UInt8} {i : Nat} (h : name[i]? = some 47) : abvK name (i + 1) = abvK name i ++ [name.take i] := by
  simp [abvK, List.range_succ, h]
theorem abvK_no {name : List UInt8} {i : Nat} (h : name[i]? ≠ some 47) : abvK name (i + 1) = abvK name i := by
  simp [abvK, List.range_succ, h]
theorem abvK_len (name : List UInt8) (i : Nat) : (abvK name i).length ≤ i := by
  unfold abvK
  rw [List.length_map]
  exact Nat.le_trans (List.length_filter_le _ _) (by simp)
set_option maxRecDepth 20000 in
set_option maxHeartbeats 1000000 in
theorem above_any (name : List UInt8) (w : World) (hn : name.length ≤ 1000000) :
    Calls Tryd.prog 21 #[.string ⟨name.toArray⟩] w fun e w' => ∃ v, e = .returned v ∧ Texts w w' v (abvL name) := by
  have hsz := size_lit name
  obtain ⟨i0, hi, hz0, hz1, hz2⟩ := info_three strInfo
  go_enter Tryd.func21, Tryd.ntmps21
  go_wp2
  go_loopw [3, 7] (fun v3 v7 wr => ∃ i : Nat, v7 = .int .i64 i ∧ i ≤ name.length ∧ Hid (Texts w wr v3 (abvK name i))) (fun _ v7 _ => name.length - (intOf v7).toNat)
  case atStart => exact ⟨0, rfl, Nat.zero_le _, Below.refl _ _, none, Rw.nil _ _, fun _ h => by cases h⟩
  case round =>
    obtain ⟨i, rfl, hi1, HT⟩ := hrel
    obtain ⟨hb, G, hr, hg⟩ := id HT.out
    obtain ⟨A, c, rfl⟩ := hr.form
    by_cases hlt : i < name.length
    · have hlt' : (i : Int) < name.length := by omega
      obtain ⟨d, hd, hat⟩ : ∃ c, name[i] = c ∧ ∀ h : i < (⟨name.toArray⟩ : ByteArray).size, (⟨name.toArray⟩ : ByteArray)[i]'h = c := ⟨_, rfl, fun _ => rfl⟩
      have hkl := abvK_len name i
      by_cases h47 : d = 47
      · have HK : Hid (abvK name (i + 1) = abvK name i ++ [name.take i]) := abvK_yes (by rw [List.getElem?_eq_getElem hlt, hd, h47])
        have e1 := ext_take name i
        subst h47
        have HR := hide hr
        have HB := hide hb
        have HG := hide hg
        clear hr hb hg HT hd
        generalize name.take i = x at *
        generalize abvK name i = xs at *
        have hil : (i : Int) ≤ name.length := by omega
        go_wp2_with (at_builtin; refine wpList_append_rw rfl _ _ 33 33 rfl 9 i0 (.string ⟨#[]⟩) 1 16 Tryd.underlying33 hi hz0 hz1 hz2 rfl rfl (HR.out.keep (S := fun _ => False) ((Mvs.refl _ _).alloc _) (fun _ _ c => c)) _ 1 _ rfl (src_one _ Tryd.underlying33) (by simp only [maxLen]; omega) (by omega) ?_)
        intro v4 w4 G4 hr4 hm4 hg4
        have T4 := hide (Texts.grow HB.out HG.out hr4 hm4 (by simpa using hg4))
        clear hr4 hm4 hg4
        go_wp2
        go_roundw
        case rel => exact ⟨i + 1, by go_num, by omega, by rw [HK.out]; exact T4.out⟩
        case measure => simp [intOf]; omega
      · have b47 : ¬ (d.toNat : Int) = 47 := fun e => h47 (UInt8.toNat_inj.1 (by rw [show (47 : UInt8).toNat = 47 from rfl]; omega))
        have HK : Hid (abvK name (i + 1) = abvK name i) := abvK_no (by rw [List.getElem?_eq_getElem hlt, hd]; intro e; exact h47 (by injection e))
        clear hr hb hg hd
        go_wp2
        go_roundw
        case rel => exact ⟨i + 1, by go_num, by omega, by rw [HK.out]; exact HT.out⟩
        case measure => simp [intOf]; omega
    · obtain rfl : i = name.length := by omega
      clear hr hb hg
      go_wp2
      go_ret
      exact ⟨_, rfl, HT.out⟩
end Go.Proofs.YtelpjiiladbigaaDoor

end
