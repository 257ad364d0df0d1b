/- A set of texts in memory; Count of package header. -/
import Derived.Test.YtnokanmcgpjkmaaGreatDoorHs2
import Derived.Maps.OwnSet
namespace Go.Proofs.YtnokanmcgpjkmaaGreatDoor
open Go.RowKit Go.Shelf Go.Maps
/-- Block b is a set of these texts. -/
def MS (w : World) (b : Nat) (ys : List (List UInt8)) : Prop := ∃ (n : Nat) (D : DataW Unit), w.ownsMap Tryz.prog 9 unitElem b n D ∧ n ≤ ys.length ∧ ∀ t : List UInt8, Maps.has D (.string t) = decide (t ∈ ys)
theorem setKey (l : List UInt8) (h : l.length ≤ 1000000) : keyOf Tryz.prog 9 (.string ⟨l.toArray⟩) = some (.string l) := by
  have := WideMaps.keyOf_string_mk (P := Tryz.prog) (k := 9) (s := ⟨l.toArray⟩) Tryz.underlying9 (by show l.toArray.size ≤ maxLen; simp [maxLen]; omega)
  exact this
theorem setKeyed : Keyed Tryz.prog 9 := string_keyed Tryz.underlying9
theorem MS.new (w : World) : MS (w.alloc (.map #[] 0)) w.heap.size [] := ⟨0, .map [], World.ownsMap_made w _ _ _, Nat.le_refl _, fun _ => rfl⟩
theorem MS.mvs {w w' : World} {b : Nat} {ys : List (List UInt8)} {S : Nat → Prop} (h : MS w b ys) (hm : Mvs S w w') (hb : ¬ S b) : MS w' b ys := by
  obtain ⟨n, D, ho, hn, hh⟩ := h
  have hlt := ho.lt
  obtain ⟨es, clock, hk, F, hs, hD⟩ := ho
  exact ⟨n, D, ⟨es, clock, (hm.block b hlt hb).trans hk, F, hs, hD⟩, hn, hh⟩
theorem MS.lt {w : World} {b : Nat} {ys : List (List UInt8)} (h : MS w b ys) : b < w.heap.size := by
  obtain ⟨n, D, ho, _⟩ := h
  exact ho.lt
theorem MS.put {w : World} {b : Nat} {ys : List (List UInt8)} (h : MS w b ys) (hl : ys.length ≤ 1000) (t : List UInt8) (ht : t.length ≤ 1000000) :
    ∃ w', (Instr.mapUpdate 104 (.map (some b)) (.string ⟨t.toArray⟩) (.agg #[])).run Tryz.prog w = .ok () w' ∧ MS w' b (t :: ys) ∧ Mvs (fun k => k = b) w w' := by
  obtain ⟨n, D, ho, hn, hh⟩ := h
  obtain ⟨w', h1, h2, h3⟩ := ho.update setKeyed Tryz.underlying104 (by simp only [maxLen]; omega) (setKey t ht) unitElem_mk
  refine ⟨w', h1, ⟨n + 1, _, h2, by simp; omega, fun u => ?_⟩, ⟨h3.os, h3.tape, h3.output, h3.size, fun i hi hb => h3.block i hi (fun e => hb (Option.some.inj e))⟩⟩
  by_cases hu : u = t
  · subst hu
    rw [has_put_same ho.isMap (show WideAt.IsKeyLit (.string u) from trivial)]
    simp
  · rw [has_put_other (fun e => hu (by simpa using e)), hh]
    simp [hu]
theorem MS.look {w : World} {b : Nat} {ys : List (List UInt8)} (h : MS w b ys) (t : List UInt8) (ht : t.length ≤ 1000000) :
    (Instr.lookup 104 (.map (some b)) (.string ⟨t.toArray⟩) true).run Tryz.prog w = .ok (.tuple #[.agg #[], .bool (decide (t ∈ ys))]) w := by
  obtain ⟨n, D, ho, hn, hh⟩ := h
  obtain ⟨v, ps, h1, h2⟩ := ho.look_ok setKeyed Tryz.underlying104 (Tryz.zeroValue105 w) unitElem_mk (setKey t ht)
  obtain ⟨rfl, _⟩ := unitElem_inv h2
  rw [h1, hh]
/-- How many lines a text has. -/
theorem split_count : ∀ (l : List UInt8), (splitS l).length = l.count 10 + (if l = [] ∨ l.getLast? = some 10 then 0 else 1)
  | [] => rfl
  | c :: r => by
    have ih := split_count r
    rw [splitS]
    by_cases hc : c = 10
    · rw [if_pos hc, List.length_cons, ih, hc, List.count_cons_self]
      cases r with
      | nil => rfl
      | cons d r =>
        rw [List.getLast?_cons_cons]
        simp
        omega
    · rw [if_neg hc, List.count_cons_of_ne hc]
      cases r with
      | nil => simp [splitS, hc]
      | cons d r =>
        rw [List.getLast?_cons_cons]
        cases hs : splitS (d :: r) with
        | nil =>
          rw [hs] at ih
          have h2 := splitS_flat (d :: r)
          rw [hs] at h2
          cases h2
        | cons x xs =>
          rw [hs] at ih
          simp at ih ⊢
          exact ih
set_option maxRecDepth 20000 in
theorem count_any (m : List UInt8) (w : World) (hm : m.length ≤ 1000000) : Calls Tryz.prog 142 #[.string ⟨m.toArray⟩] w fun e w' => e = .returned (.int .i64 (((splitS m).length : Nat) : Int)) ∧ w' = w := by
  have HC : Hid (∀ w, Calls Tryz.prog 124 #[.string ⟨m.toArray⟩, .string ⟨#[10]⟩] w fun e w' => e = .returned (.int .i64 (m.count 10 : Nat)) ∧ w' = w) := fun w => Tryz.strings_Count_one ⟨m.toArray⟩ 10 w
  have HS : Hid (∀ w, Calls Tryz.prog 165 #[.string ⟨m.toArray⟩, .string ⟨#[10]⟩] w fun e w' => e = .returned (.bool (Lib.hasSuffix m [10])) ∧ w' = w) := fun w => Tryz.strings_HasSuffix ⟨m.toArray⟩ ⟨#[10]⟩ w (by rw [size_lit]; omega)
  have hcl : m.count 10 ≤ m.length := List.count_le_length
  have HV := hide (split_count m)
  rcases List.eq_nil_or_concat m with rfl | ⟨q, c, hq⟩
  · go_enter Tryz.func142, Tryz.ntmps142
    go_wp2_with (first
      | (go_at_call 124; refine (HC.out _).mono ?_; rintro e w2 ⟨rfl, rfl⟩))
    go_ret
    exact ⟨rfl, rfl⟩
  · rw [List.concat_eq_append] at hq
    have hne : m.isEmpty = false := by rw [hq]; simp
    by_cases hc : c = 10
    · have hsf : Lib.hasSuffix m [10] = true := by
        rw [hq, hc]
        simp [Lib.hasSuffix]
      have HV2 : Hid ((splitS m).length = m.count 10) := by
        show _ = _
        rw [HV.out, if_pos (.inr (by rw [hq, hc]; simp))]
        rfl
      rw [hsf] at HS
      generalize m.count 10 = n at *
      clear hsf hc hq HV
      go_enter Tryz.func142, Tryz.ntmps142
      go_wp2_with (first
        | (go_at_call 124; refine (HC.out _).mono ?_; rintro e w2 ⟨rfl, rfl⟩)
        | (go_at_call 165; refine (HS.out _).mono ?_; rintro e w2 ⟨rfl, rfl⟩))
      go_ret
      exact ⟨by rw [HV2.out]; rfl, rfl⟩
    · have hsf : Lib.hasSuffix m [10] = false := by
        have hc2 : ¬ (10 : UInt8) = c := fun e => hc e.symm
        rw [hq]
        simp [Lib.hasSuffix, List.isSuffixOf, List.isPrefixOf, hc2]
      have HV2 : Hid ((splitS m).length = m.count 10 + 1) := by
        show _ = _
        rw [HV.out, if_neg]
        rintro (h | h)
        · rw [hq] at h
          simp at h
        · rw [hq] at h
          simp at h
          exact hc h
      rw [hsf] at HS
      generalize m.count 10 = n at *
      clear hsf hc hq HV
      go_enter Tryz.func142, Tryz.ntmps142
      go_wp2_with (first
        | (go_at_call 124; refine (HC.out _).mono ?_; rintro e w2 ⟨rfl, rfl⟩)
        | (go_at_call 165; refine (HS.out _).mono ?_; rintro e w2 ⟨rfl, rfl⟩))
      go_ret
      exact ⟨by rw [HV2.out]; rfl, rfl⟩
end Go.Proofs.YtnokanmcgpjkmaaGreatDoor
