/- All and Get of package header; the document's Get; rows of texts that are the same. -/
/- Under and Moved of package boxes; the document's Moved; alive. -/
/- The document's Moved; Above of package boxes. -/
import Derived.Test.YtdbmaobjikjifaaGreatDoorRU17
section
namespace Go.Proofs.YtdbmaobjikjifaaGreatDoorR
open Go.RowKit Go.Shelf
/-- A field that came in: its numbers are any. -/
structure FI where
  name : List UInt8
  value : List UInt8
  a : Int
  e : Int
/-- A slice that reads as these fields. -/
def FA (w : World) (v : Value) (xs : List FI) : Prop := ∃ A cap, v = .slice A xs.length cap ∧ ∀ i (hi : i < xs.length), ∃ g o, A = some ⟨g, o, none⟩ ∧ g < w.heap.size ∧
  w.cell? ⟨g, o + i * 4, none⟩ = some (.string ⟨xs[i].name.toArray⟩) ∧ w.cell? ⟨g, o + i * 4 + 1, none⟩ = some (.string ⟨xs[i].value.toArray⟩) ∧ w.cell? ⟨g, o + i * 4 + 2, none⟩ = some (.int .i64 xs[i].a) ∧ w.cell? ⟨g, o + i * 4 + 3, none⟩ = some (.int .i64 xs[i].e)
theorem FA.below {w w' : World} {v : Value} {xs : List FI} (h : FA w v xs) (hb : Below w.heap.size w w') : FA w' v xs := by
  obtain ⟨A, c, rfl, h⟩ := h
  refine ⟨A, c, rfl, fun i hi => ?_⟩
  obtain ⟨g, o, e, hg, c0, c1, c2, c3⟩ := h i hi
  exact ⟨g, o, e, Nat.lt_of_lt_of_le hg hb.size, (hb.cell (p := ⟨g, _, none⟩) hg).trans c0, (hb.cell (p := ⟨g, _, none⟩) hg).trans c1, (hb.cell (p := ⟨g, _, none⟩) hg).trans c2, (hb.cell (p := ⟨g, _, none⟩) hg).trans c3⟩
/-- The values of a name. -/
def valsOf (n : List UInt8) (xs : List FI) : List (List UInt8) := (xs.filter fun x => sameT x.name n).map FI.value
theorem vals_yes {n : List UInt8} {xs : List FI} {i : Nat} (hi : i < xs.length) (h : sameT xs[i].name n = true) : valsOf n (xs.take (i + 1)) = valsOf n (xs.take i) ++ [xs[i].value] := by
  unfold valsOf
  rw [List.take_succ_eq_append_getElem hi, List.filter_append, List.map_append]
  simp [h]
theorem vals_no {n : List UInt8} {xs : List FI} {i : Nat} (hi : i < xs.length) (h : sameT xs[i].name n = false) : valsOf n (xs.take (i + 1)) = valsOf n (xs.take i) := by
  unfold valsOf
  rw [List.take_succ_eq_append_getElem hi, List.filter_append, List.map_append]
  simp [h]
theorem vals_len (n : List UInt8) (xs : List FI) (i : Nat) : (valsOf n (xs.take i)).length ≤ xs.length := by
  unfold valsOf
  rw [List.length_map]
  refine Nat.le_trans (List.length_filter_le _ _) ?_
  rw [List.length_take]
  omega
/-- A slice that reads as these texts. -/
def TX (w : World) (v : Value) (xs : List (List UInt8)) : Prop := ∃ A cap, v = .slice A xs.length cap ∧ ∀ i (hi : i < xs.length), ∃ g o, A = some ⟨g, o, none⟩ ∧ g < w.heap.size ∧ w.cell? ⟨g, o + i, none⟩ = some (.string ⟨xs[i].toArray⟩)
theorem TX.below {w w' : World} {v : Value} {xs : List (List UInt8)} (h : TX w v xs) (hb : Below w.heap.size w w') : TX w' v xs := by
  obtain ⟨A, c, rfl, h⟩ := h
  refine ⟨A, c, rfl, fun i hi => ?_⟩
  obtain ⟨g, o, e, hg, c0⟩ := h i hi
  exact ⟨g, o, e, Nat.lt_of_lt_of_le hg hb.size, (hb.cell (p := ⟨g, _, none⟩) hg).trans c0⟩
theorem Texts.tx {w wr : World} {v : Value} {xs : List (List UInt8)} (h : Texts w wr v xs) : TX wr v xs := by
  obtain ⟨_, G, hr, _⟩ := h
  obtain ⟨A, c, rfl⟩ := hr.form
  refine ⟨A, c, rfl, fun i hi => ?_⟩
  rcases hr.2 with ⟨_, h0, _⟩ | ⟨g, o, cap, _, e, _, _, h3, h4, _⟩
  · omega
  · exact ⟨g, o, by cases e; rfl, h3, h4 i _ (by rw [List.getElem?_map, List.getElem?_eq_getElem hi]; rfl)⟩
end Go.Proofs.YtdbmaobjikjifaaGreatDoorR

end
section
set_option linter.unusedSimpArgs false
set_option linter.unusedVariables false
namespace Go.Proofs.YtdbmaobjikjifaaGreatDoorR
open Go.RowKit Go.Shelf
theorem und_no {name base : List UInt8} (h : Lib.hasPrefix name base = false) : undB name base = false := by
  unfold undB
  rw [Bool.and_eq_false_iff]
  by_cases hl : base.length + 1 < name.length
  · right
    refine decide_eq_false (fun e => ?_)
    have h2 : base.isPrefixOf name = true := by
      rw [List.isPrefixOf_iff_prefix]
      refine ⟨name.drop base.length, ?_⟩
      have h3 : name.take base.length = base := by
        have := congrArg (List.take base.length) e
        rw [List.take_take, Nat.min_eq_left (by omega), List.take_left' rfl] at this
        exact this
      conv => lhs; lhs; rw [← h3]
      exact List.take_append_drop _ _
    rw [show Lib.hasPrefix name base = base.isPrefixOf name from rfl, h2] at h
    cases h
  · exact .inl (decide_eq_false hl)
def undR : List UInt8 → Bool
  | a :: _ :: _ => a == 47
  | _ => false
theorem und_yes (base r : List UInt8) : undB (base ++ r) base = undR r := by
  unfold undB
  rw [List.take_append, List.take_of_length_le (by omega), show base.length + 1 - base.length = 1 from by omega, List.length_append]
  match r with
  | [] => simp [undR]
  | [a] => simp [undR]
  | a :: b :: r =>
    simp [undR]
    rw [Bool.eq_iff_iff]
    simp
theorem pre_split {name base : List UInt8} (h : Lib.hasPrefix name base = true) : ∃ r, name = base ++ r ∧ Lib.trimPrefix name base = r := by
  have h2 : base.isPrefixOf name = true := h
  rw [List.isPrefixOf_iff_prefix] at h2
  obtain ⟨r, rfl⟩ := h2
  refine ⟨r, rfl, ?_⟩
  unfold Lib.trimPrefix
  rw [if_pos h, List.drop_left' rfl]
set_option maxRecDepth 20000 in
set_option maxHeartbeats 1000000 in
theorem under_any (name base : List UInt8) (w : World) (hn : name.length ≤ 1000000) : Calls Tryz.prog 154 #[.string ⟨name.toArray⟩, .string ⟨base.toArray⟩] w fun e w' => e = .returned (.bool (undB name base)) ∧ w' = w := by
  have HP := hide (prefix_bo name base)
  cases hp : Lib.hasPrefix name base with
  | false =>
    have HU := hide (und_no hp)
    rw [hp] at HP
    clear hp
    generalize undB name base = T at *
    go_enter Tryz.func154, Tryz.ntmps154
    go_wp2_with (go_at_call 181; refine (HP.out _).mono ?_; rintro e w' ⟨rfl, rfl⟩)
    go_ret
    exact ⟨by rw [HU.out]; rfl, rfl⟩
  | true =>
    obtain ⟨r, hr, ht⟩ := pre_split hp
    rw [hp, ht] at HP
    have HU : Hid (undB name base = undR r) := by show _ = _; rw [hr]; exact und_yes base r
    have hl : r.length ≤ 1000000 := by rw [hr, List.length_append] at hn; omega
    clear hp ht hr
    generalize undB name base = T at *
    match r, HP, HU, hl with
    | [], HP, HU, hl =>
      go_enter Tryz.func154, Tryz.ntmps154
      go_wp2_with (go_at_call 181; refine (HP.out _).mono ?_; rintro e w' ⟨rfl, rfl⟩)
      go_ret
      exact ⟨by rw [HU.out]; rfl, rfl⟩
    | [a], HP, HU, hl =>
      go_enter Tryz.func154, Tryz.ntmps154
      go_wp2_with (go_at_call 181; refine (HP.out _).mono ?_; rintro e w' ⟨rfl, rfl⟩)
      go_ret
      exact ⟨by rw [HU.out]; rfl, rfl⟩
    | a :: b :: r, HP, HU, hl =>
      have hsz := size_lit (a :: b :: r)
      have hat : ∀ h : 0 < (⟨(a :: b :: r).toArray⟩ : ByteArray).size, (⟨(a :: b :: r).toArray⟩ : ByteArray)[0]'h = a := fun _ => rfl
      have hlen : (1 : Int) < (a :: b :: r).length := by simp; omega
      have hlen2 : 0 < (a :: b :: r).length := by simp
      have HU2 : Hid (T = (a == 47)) := HU
      clear HU
      generalize a :: b :: r = s at *
      by_cases h47 : a = 47
      · subst h47
        go_enter Tryz.func154, Tryz.ntmps154
        go_wp2_with (go_at_call 181; refine (HP.out _).mono ?_; rintro e w' ⟨rfl, rfl⟩)
        go_ret
        exact ⟨by rw [HU2.out]; simp, rfl⟩
      · have b47 : ¬ (a.toNat : Int) = 47 := fun e => h47 (UInt8.toNat_inj.1 (by rw [show (47 : UInt8).toNat = 47 from rfl]; omega))
        have b48 : ((a.toNat : Int) == 47) = false := beq_eq_false_iff_ne.2 b47
        have HU3 : Hid (T = false) := by show _ = _; rw [HU2.out]; exact beq_eq_false_iff_ne.2 h47
        go_enter Tryz.func154, Tryz.ntmps154
        go_wp2_with (go_at_call 181; refine (HP.out _).mono ?_; rintro e w' ⟨rfl, rfl⟩)
        go_ret
        exact ⟨by rw [HU3.out]; simp [b48], rfl⟩
theorem ext_dropN (l : List UInt8) (k : Nat) : (⟨l.toArray⟩ : ByteArray).extract k (⟨l.toArray⟩ : ByteArray).size = ⟨(l.drop k).toArray⟩ := by rw [size_lit, ext_drop]
/-- What Moved answers. -/
def movV (o : Option (List UInt8)) : Ending := .returned (.tuple #[.string ⟨(o.getD []).toArray⟩, .bool o.isSome])
set_option maxRecDepth 20000 in
set_option maxHeartbeats 1000000 in
theorem moved_any (name frm dst : List UInt8) (w : World) (h1 : name.length ≤ 1000000) (h2 : frm.length ≤ 1000000) (h3 : dst.length ≤ 1000000) :
    Calls Tryz.prog 119 #[.string ⟨name.toArray⟩, .string ⟨frm.toArray⟩, .string ⟨dst.toArray⟩] w fun e w' => e = movV (movO name frm dst) ∧ w' = w := by
  have HU := hide (fun w => under_any name frm w h1)
  have hs1 := size_lit name
  have hs2 := size_lit frm
  have hs3 := size_lit dst
  by_cases he : name = frm
  · subst he
    have HM : Hid (movV (movO name name dst) = .returned (.tuple #[.string ⟨dst.toArray⟩, .bool true])) := by
      show _ = _
      unfold movO
      rw [if_pos rfl]
      rfl
    have e1 : (⟨name.toArray⟩ : ByteArray).extract name.length name.length = ⟨([] : List UInt8).toArray⟩ := by rw [ext_drop, List.drop_length]
    have e2 : (⟨dst.toArray⟩ : ByteArray) ++ ⟨([] : List UInt8).toArray⟩ = ⟨dst.toArray⟩ := by rw [cat_lit, List.append_nil]
    have hbx : dst.length + 0 ≤ 9223372036854775807 := by omega
    go_enter Tryz.func119, Tryz.ntmps119
    go_wp2_with (go_at_call 154; refine (HU.out _).mono ?_; rintro e w' ⟨rfl, rfl⟩)
    go_ret2
    exact ⟨by rw [HM.out]; rfl, rfl⟩
  · have hq : (name == frm) = false := beq_eq_false_iff_ne.2 he
    cases hu : undB name frm with
    | false =>
      have HM : Hid (movV (movO name frm dst) = .returned (.tuple #[.string ⟨#[]⟩, .bool false])) := by
        show _ = _
        unfold movO
        rw [if_neg he, if_neg (by simp [hu])]
        rfl
      rw [hu] at HU
      clear hu
      go_enter Tryz.func119, Tryz.ntmps119
      go_wp2_with (go_at_call 154; refine (HU.out _).mono ?_; rintro e w' ⟨rfl, rfl⟩)
      go_ret2
      exact ⟨by rw [HM.out]; rfl, rfl⟩
    | true =>
      have HM : Hid (movV (movO name frm dst) = .returned (.tuple #[.string ⟨(dst ++ name.drop frm.length).toArray⟩, .bool true])) := by
        show _ = _
        unfold movO
        rw [if_neg he, if_pos hu]
        rfl
      have hle : frm.length ≤ name.length := by
        unfold undB at hu
        simp at hu
        omega
      rw [hu] at HU
      clear hu
      have e1 : (⟨name.toArray⟩ : ByteArray).extract frm.length name.length = ⟨(name.drop frm.length).toArray⟩ := ext_drop _ _
      have hdl : (name.drop frm.length).length ≤ 1000000 := by rw [List.length_drop]; omega
      have e3 := size_lit (name.drop frm.length)
      generalize name.drop frm.length = r at *
      have e2 : (⟨dst.toArray⟩ : ByteArray) ++ ⟨r.toArray⟩ = ⟨(dst ++ r).toArray⟩ := cat_lit _ _
      have hbx : dst.length + r.length ≤ 9223372036854775807 := by omega
      have hle' : (frm.length : Int) ≤ name.length := by omega
      go_enter Tryz.func119, Tryz.ntmps119
      go_wp2_with (go_at_call 154; refine (HU.out _).mono ?_; rintro e w' ⟨rfl, rfl⟩)
      go_ret2
      exact ⟨by rw [HM.out]; rfl, rfl⟩
end Go.Proofs.YtdbmaobjikjifaaGreatDoorR

end
section
set_option linter.unusedSimpArgs false
set_option linter.unusedVariables false
namespace Go.Proofs.YtdbmaobjikjifaaGreatDoorR
open Go.RowKit Go.Shelf
/-- What stands above a name, of the slashes ahead of place i. -/
def abvK (name : List UInt8) (i : Nat) : List (List UInt8) := ((List.range i).filter (fun j => name[j]? == some 47)).map (fun j => name.take j)
theorem abvK_end (name : List UInt8) : abvK name name.length = abvL name := rfl
theorem abvK_yes {name : List UInt8} {i : Nat} (h : name[i]? = some 47) : abvK name (i + 1) = abvK name i ++ [name.take i] := by
  simp [abvK, List.range_succ, h]
theorem abvK_no {name : List UInt8} {i : Nat} (h : name[i]? ≠ some 47) : abvK name (i + 1) = abvK name i := by
  simp [abvK, List.range_succ, h]
theorem abvK_len (name : List UInt8) (i : Nat) : (abvK name i).length ≤ i := by
  unfold abvK
  rw [List.length_map]
  exact Nat.le_trans (List.length_filter_le _ _) (by simp)
end Go.Proofs.YtdbmaobjikjifaaGreatDoorR

end
