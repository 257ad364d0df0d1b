/- The document's Moved; Above of package boxes. -/
import Derived.Test.YtelpjiiladbigaaDoorBo11
set_option linter.unusedSimpArgs false
set_option linter.unusedVariables false
namespace Go.Proofs.YtelpjiiladbigaaDoor
open Go.RowKit Go.Shelf
set_option maxRecDepth 20000 in
set_option maxHeartbeats 1000000 in
theorem rmoved_any (name frm dst : List UInt8) (w : World) (h1 : name.length ≤ 1000000) (h2 : frm.length ≤ 1000000) (h3 : dst.length ≤ 1000000) :
    Calls Tryd.prog 18 #[.string ⟨name.toArray⟩, .string ⟨frm.toArray⟩, .string ⟨dst.toArray⟩] w fun e w' => e = movV (movO name frm dst) ∧ w' = w := by
  have hs1 := size_lit name
  have hs2 := size_lit frm
  have hs3 := size_lit dst
  by_cases he : name = frm
  · subst he
    have HM : Hid (movV (movO name name dst) = .returned (.tuple #[.string ⟨dst.toArray⟩, .bool true])) := by
      show _ = _
      unfold movO
      rw [if_pos rfl]
      rfl
    go_enter Tryd.func18, Tryd.ntmps18
    go_wp2
    go_ret2
    exact ⟨by rw [HM.out]; rfl, rfl⟩
  · have hq : (name == frm) = false := beq_eq_false_iff_ne.2 he
    by_cases hl : frm.length + 1 < name.length
    · have hl' : (frm.length : Int) + 1 < name.length := by omega
      have hl2 : (frm.length : Int) + 1 ≤ name.length := by omega
      have e1 : (⟨name.toArray⟩ : ByteArray).extract 0 (frm.length + 1) = ⟨(name.take (frm.length + 1)).toArray⟩ := ext_take _ _
      have e2 : (⟨frm.toArray⟩ : ByteArray) ++ ⟨#[47]⟩ = ⟨(frm ++ [47]).toArray⟩ := cat_lit frm [47]
      have hbx : frm.length + 1 ≤ 9223372036854775807 := by omega
      by_cases ht : name.take (frm.length + 1) = frm ++ [47]
      · have hu : undB name frm = true := by simp [undB, hl, ht]
        have ht2 : (name.take (frm.length + 1) == frm ++ [47]) = true := beq_iff_eq.2 ht
        have HM : Hid (movV (movO name frm dst) = .returned (.tuple #[.string ⟨(dst ++ name.drop frm.length).toArray⟩, .bool true])) := by
          show _ = _
          unfold movO
          rw [if_neg he, if_pos hu]
          rfl
        have e4 : (⟨name.toArray⟩ : ByteArray).extract frm.length name.length = ⟨(name.drop frm.length).toArray⟩ := ext_drop _ _
        have hdl : (name.drop frm.length).length ≤ 1000000 := by rw [List.length_drop]; omega
        have e3 := size_lit (name.drop frm.length)
        generalize name.drop frm.length = r at *
        generalize name.take (frm.length + 1) = q at *
        have e5 : (⟨dst.toArray⟩ : ByteArray) ++ ⟨r.toArray⟩ = ⟨(dst ++ r).toArray⟩ := cat_lit _ _
        have hby : dst.length + r.length ≤ 9223372036854775807 := by omega
        have hle' : (frm.length : Int) ≤ name.length := by omega
        clear ht hu
        go_enter Tryd.func18, Tryd.ntmps18
        go_wp2
        go_ret2
        exact ⟨by rw [HM.out]; rfl, rfl⟩
      · have hu : undB name frm = false := by simp [undB, ht]
        have ht2 : (name.take (frm.length + 1) == frm ++ [47]) = false := beq_eq_false_iff_ne.2 ht
        have HM : Hid (movV (movO name frm dst) = .returned (.tuple #[.string ⟨#[]⟩, .bool false])) := by
          show _ = _
          unfold movO
          rw [if_neg he, if_neg (by simp [hu])]
          rfl
        generalize name.take (frm.length + 1) = q at *
        clear ht hu
        go_enter Tryd.func18, Tryd.ntmps18
        go_wp2
        go_ret2
        exact ⟨by rw [HM.out]; rfl, rfl⟩
    · have hl' : ¬ (frm.length : Int) + 1 < name.length := by omega
      have HM : Hid (movV (movO name frm dst) = .returned (.tuple #[.string ⟨#[]⟩, .bool false])) := by
        show _ = _
        unfold movO
        rw [if_neg he, if_neg (by simp [undB]; intro h; exact absurd h hl)]
        rfl
      go_enter Tryd.func18, Tryd.ntmps18
      go_wp2
      go_ret2
      exact ⟨by rw [HM.out]; rfl, rfl⟩
/-- What stands above a name, of the slashes ahead of place i. -/
def abvK (name : List UInt8) (i : Nat) : List (List UInt8) := ((List.range i).filter (fun j => name[j]? == some 47)).map (fun j => name.take j)
theorem abvK_end (name : List UInt8) : abvK name name.length = abvL name := rfl
theorem abvK_yes {name : List UInt8} {i : Nat} (h : name[i]? = some 47) : abvK name (i + 1) = abvK name i ++ [name.take i] := by
  simp [abvK, List.range_succ, h]
theorem abvK_no {name : List UInt8} {i : Nat} (h : name[i]? ≠ some 47) : abvK name (i + 1) = abvK name i := by
  simp [abvK, List.range_succ, h]
theorem abvK_len (name : List UInt8) (i : Nat) : (abvK name i).length ≤ i := by
  unfold abvK
  rw [List.length_map]
  exact Nat.le_trans (List.length_filter_le _ _) (by simp)
set_option maxRecDepth 20000 in
set_option maxHeartbeats 1000000 in
theorem above_any (name : List UInt8) (w : World) (hn : name.length ≤ 1000000) :
    Calls Tryd.prog 21 #[.string ⟨name.toArray⟩] w fun e w' => ∃ v, e = .returned v ∧ Texts w w' v (abvL name) := by
  have hsz := size_lit name
  obtain ⟨i0, hi, hz0, hz1, hz2⟩ := info_three strInfo
  go_enter Tryd.func21, Tryd.ntmps21
  go_wp2
  go_loopw [3, 7] (fun v3 v7 wr => ∃ i : Nat, v7 = .int .i64 i ∧ i ≤ name.length ∧ Hid (Texts w wr v3 (abvK name i))) (fun _ v7 _ => name.length - (intOf v7).toNat)
  case atStart => exact ⟨0, rfl, Nat.zero_le _, Below.refl _ _, none, Rw.nil _ _, fun _ h => by cases h⟩
  case round =>
    obtain ⟨i, rfl, hi1, HT⟩ := hrel
    obtain ⟨hb, G, hr, hg⟩ := id HT.out
    obtain ⟨A, c, rfl⟩ := hr.form
    by_cases hlt : i < name.length
    · have hlt' : (i : Int) < name.length := by omega
      obtain ⟨d, hd, hat⟩ : ∃ c, name[i] = c ∧ ∀ h : i < (⟨name.toArray⟩ : ByteArray).size, (⟨name.toArray⟩ : ByteArray)[i]'h = c := ⟨_, rfl, fun _ => rfl⟩
      have hkl := abvK_len name i
      by_cases h47 : d = 47
      · have HK : Hid (abvK name (i + 1) = abvK name i ++ [name.take i]) := abvK_yes (by rw [List.getElem?_eq_getElem hlt, hd, h47])
        have e1 := ext_take name i
        subst h47
        have HR := hide hr
        have HB := hide hb
        have HG := hide hg
        clear hr hb hg HT hd
        generalize name.take i = x at *
        generalize abvK name i = xs at *
        have hil : (i : Int) ≤ name.length := by omega
        go_wp2_with (at_builtin; refine wpList_append_rw rfl _ _ 33 33 rfl 9 i0 (.string ⟨#[]⟩) 1 16 Tryd.underlying33 hi hz0 hz1 hz2 rfl rfl (HR.out.keep (S := fun _ => False) ((Mvs.refl _ _).alloc _) (fun _ _ c => c)) _ 1 _ rfl (src_one _ Tryd.underlying33) (by simp only [maxLen]; omega) (by omega) ?_)
        intro v4 w4 G4 hr4 hm4 hg4
        have T4 := hide (Texts.grow HB.out HG.out hr4 hm4 (by simpa using hg4))
        clear hr4 hm4 hg4
        go_wp2
        go_roundw
        case rel => exact ⟨i + 1, by go_num, by omega, by rw [HK.out]; exact T4.out⟩
        case measure => simp [intOf]; omega
      · have b47 : ¬ (d.toNat : Int) = 47 := fun e => h47 (UInt8.toNat_inj.1 (by rw [show (47 : UInt8).toNat = 47 from rfl]; omega))
        have HK : Hid (abvK name (i + 1) = abvK name i) := abvK_no (by rw [List.getElem?_eq_getElem hlt, hd]; intro e; exact h47 (by injection e))
        clear hr hb hg hd
        go_wp2
        go_roundw
        case rel => exact ⟨i + 1, by go_num, by omega, by rw [HK.out]; exact HT.out⟩
        case measure => simp [intOf]; omega
    · obtain rfl : i = name.length := by omega
      clear hr hb hg
      go_wp2
      go_ret
      exact ⟨_, rfl, HT.out⟩
end Go.Proofs.YtelpjiiladbigaaDoor
