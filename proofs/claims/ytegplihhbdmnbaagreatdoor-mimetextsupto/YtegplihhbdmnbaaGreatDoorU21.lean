/- Where a kid ends, as the document's words find it; texts that a delimiter's line may have. -/
/- A set of texts in memory; Count of package header. -/
import Derived.Test.YtegplihhbdmnbaaGreatDoorU14
import Derived.Test.YtegplihhbdmnbaaGreatDoorU13
import Derived.Maps.OwnSet
section
namespace Go.Proofs.YtegplihhbdmnbaaGreatDoor
open Go.RowKit
/-- The end of the line ahead of a, without its own end. -/
def backE (m : List UInt8) (a : Nat) : Nat := if m[a - 1]? = some 10 ∧ 0 < a then (if m[a - 2]? = some 13 ∧ 0 < a - 1 then a - 2 else a - 1) else a
theorem seg_snoc {m : List UInt8} {k a : Nat} {c : UInt8} (hk : k < a) (hc : m[a - 1]? = some c) : seg m k a = seg m k (a - 1) ++ [c] := by
  unfold seg
  have e : a - k = (a - 1 - k) + 1 := by omega
  rw [e, List.take_add_one, List.getElem?_drop, show k + (a - 1 - k) = a - 1 by omega, hc]
  rfl
theorem seg_self (m : List UInt8) (a : Nat) : seg m a a = [] := by
  unfold seg
  simp
theorem crq_snoc (s : List UInt8) (c : UInt8) : cr (s ++ [c]) = if c = 13 then s else s ++ [c] := by
  unfold cr
  simp
theorem kidE_back {m : List UInt8} {a k : Nat} (hk : k ≤ a) (ha : a ≤ m.length) (h10 : k < a → m[a - 1]? = some 10) : (kidE m a k).2 = max k (backE m a) := by
  unfold kidE
  dsimp only
  by_cases hlt : k < a
  · have h1 := h10 hlt
    rw [seg_snoc hlt h1, txt_term]
    unfold backE
    rw [if_pos ⟨h1, by omega⟩]
    by_cases hk1 : k < a - 1
    · have hl : a - 1 - 1 < m.length := by omega
      have hc : m[a - 1 - 1]? = some m[a - 1 - 1] := List.getElem?_eq_getElem hl
      rw [seg_snoc hk1 hc, crq_snoc, show a - 2 = a - 1 - 1 by omega, hc]
      have hs : (seg m k (a - 1 - 1)).length = a - 1 - 1 - k := seg_len m k _ (by omega)
      by_cases h13 : m[a - 1 - 1] = 13
      · rw [if_pos h13, if_pos ⟨by rw [h13], by omega⟩, hs]
        omega
      · rw [if_neg h13, if_neg (fun h => h13 (Option.some.inj h.1)), List.length_append, hs]
        simp
        omega
    · have e : a - 1 = k := by omega
      rw [e, seg_self]
      have : (cr []).length = 0 := rfl
      rw [this]
      split <;> omega
  · have e : k = a := by omega
    subst e
    rw [seg_self]
    have : (txt []).length = 0 := rfl
    rw [this]
    unfold backE
    split
    · split <;> omega
    · omega
theorem back_len (t : List UInt8) (c : UInt8) (h : isBl c = true) : Lib.trimRightS (t ++ [c]) [32, 9] = Lib.trimRightS t [32, 9] := by
  unfold Lib.trimRightS
  rw [List.reverse_append]
  have hc : ([32, 9] : List UInt8).contains c = true := by
    unfold isBl at h
    simp at h
    rcases h with rfl | rfl <;> rfl
  show (List.dropWhile _ (c :: t.reverse)).reverse = _
  rw [List.dropWhile_cons_of_pos (by exact hc)]
theorem back_stop (t : List UInt8) (c : UInt8) (h : isBl c = false) : Lib.trimRightS (t ++ [c]) [32, 9] = t ++ [c] := by
  unfold Lib.trimRightS
  rw [List.reverse_append]
  have hc : ([32, 9] : List UInt8).contains c = false := by
    unfold isBl at h
    simp at h
    simp [h]
  show (List.dropWhile _ (c :: t.reverse)).reverse = _
  rw [List.dropWhile_cons_of_neg (by rw [hc]; simp)]
  simp
end Go.Proofs.YtegplihhbdmnbaaGreatDoor

end
section
namespace Go.Proofs.YtegplihhbdmnbaaGreatDoor
open Go.RowKit Go.Shelf Go.Maps
/-- Block b is a set of these texts. -/
def MS (w : World) (b : Nat) (ys : List (List UInt8)) : Prop := ∃ (n : Nat) (D : DataW Unit), w.ownsMap Tryz.prog 9 unitElem b n D ∧ n ≤ ys.length ∧ ∀ t : List UInt8, Maps.has D (.string t) = decide (t ∈ ys)
theorem setKey (l : List UInt8) (h : l.length ≤ 1000000) : keyOf Tryz.prog 9 (.string ⟨l.toArray⟩) = some (.string l) := by
  have := WideMaps.keyOf_string_mk (P := Tryz.prog) (k := 9) (s := ⟨l.toArray⟩) Tryz.underlying9 (by show l.toArray.size ≤ maxLen; simp [maxLen]; omega)
  exact this
theorem setKeyed : Keyed Tryz.prog 9 := string_keyed Tryz.underlying9
theorem MS.new (w : World) : MS (w.alloc (.map #[] 0)) w.heap.size [] := ⟨0, .map [], World.ownsMap_made w _ _ _, Nat.le_refl _, fun _ => rfl⟩
theorem MS.mvs {w w' : World} {b : Nat} {ys : List (List UInt8)} {S : Nat → Prop} (h : MS w b ys) (hm : Mvs S w w') (hb : ¬ S b) : MS w' b ys := by
  obtain ⟨n, D, ho, hn, hh⟩ := h
  have hlt := ho.lt
  obtain ⟨es, clock, hk, F, hs, hD⟩ := ho
  exact ⟨n, D, ⟨es, clock, (hm.block b hlt hb).trans hk, F, hs, hD⟩, hn, hh⟩
theorem MS.lt {w : World} {b : Nat} {ys : List (List UInt8)} (h : MS w b ys) : b < w.heap.size := by
  obtain ⟨n, D, ho, _⟩ := h
  exact ho.lt
/-- How many lines a text has. -/
theorem split_count : ∀ (l : List UInt8), (splitS l).length = l.count 10 + (if l = [] ∨ l.getLast? = some 10 then 0 else 1)
  | [] => rfl
  | c :: r => by
    have ih := split_count r
    rw [splitS]
    by_cases hc : c = 10
    · rw [if_pos hc, List.length_cons, ih, hc, List.count_cons_self]
      cases r with
      | nil => rfl
      | cons d r =>
        rw [List.getLast?_cons_cons]
        simp
        omega
    · rw [if_neg hc, List.count_cons_of_ne hc]
      cases r with
      | nil => simp [splitS, hc]
      | cons d r =>
        rw [List.getLast?_cons_cons]
        cases hs : splitS (d :: r) with
        | nil =>
          rw [hs] at ih
          have h2 := splitS_flat (d :: r)
          rw [hs] at h2
          cases h2
        | cons x xs =>
          rw [hs] at ih
          simp at ih ⊢
          exact ih
set_option maxRecDepth 20000 in
theorem count_any (m : List UInt8) (w : World) (hm : m.length ≤ 1000000) : Calls Tryz.prog 110 #[.string ⟨m.toArray⟩] w fun e w' => e = .returned (.int .i64 (((splitS m).length : Nat) : Int)) ∧ w' = w := by
  have HC : Hid (∀ w, Calls Tryz.prog 100 #[.string ⟨m.toArray⟩, .string ⟨#[10]⟩] w fun e w' => e = .returned (.int .i64 (m.count 10 : Nat)) ∧ w' = w) := fun w => Tryz.strings_Count_one ⟨m.toArray⟩ 10 w
  have HS : Hid (∀ w, Calls Tryz.prog 132 #[.string ⟨m.toArray⟩, .string ⟨#[10]⟩] w fun e w' => e = .returned (.bool (Lib.hasSuffix m [10])) ∧ w' = w) := fun w => Tryz.strings_HasSuffix ⟨m.toArray⟩ ⟨#[10]⟩ w (by rw [size_lit]; omega)
  have hcl : m.count 10 ≤ m.length := List.count_le_length
  have HV := hide (split_count m)
  rcases List.eq_nil_or_concat m with rfl | ⟨q, c, hq⟩
  · go_enter Tryz.func110, Tryz.ntmps110
    go_wp2_with (first
      | (go_at_call 100; refine (HC.out _).mono ?_; rintro e w2 ⟨rfl, rfl⟩))
    go_ret
    exact ⟨rfl, rfl⟩
  · rw [List.concat_eq_append] at hq
    have hne : m.isEmpty = false := by rw [hq]; simp
    by_cases hc : c = 10
    · have hsf : Lib.hasSuffix m [10] = true := by
        rw [hq, hc]
        simp [Lib.hasSuffix]
      have HV2 : Hid ((splitS m).length = m.count 10) := by
        show _ = _
        rw [HV.out, if_pos (.inr (by rw [hq, hc]; simp))]
        rfl
      rw [hsf] at HS
      generalize m.count 10 = n at *
      clear hsf hc hq HV
      go_enter Tryz.func110, Tryz.ntmps110
      go_wp2_with (first
        | (go_at_call 100; refine (HC.out _).mono ?_; rintro e w2 ⟨rfl, rfl⟩)
        | (go_at_call 132; refine (HS.out _).mono ?_; rintro e w2 ⟨rfl, rfl⟩))
      go_ret
      exact ⟨by rw [HV2.out]; rfl, rfl⟩
    · have hsf : Lib.hasSuffix m [10] = false := by
        have hc2 : ¬ (10 : UInt8) = c := fun e => hc e.symm
        rw [hq]
        simp [Lib.hasSuffix, List.isSuffixOf, List.isPrefixOf, hc2]
      have HV2 : Hid ((splitS m).length = m.count 10 + 1) := by
        show _ = _
        rw [HV.out, if_neg]
        rintro (h | h)
        · rw [hq] at h
          simp at h
        · rw [hq] at h
          simp at h
          exact hc h
      rw [hsf] at HS
      generalize m.count 10 = n at *
      clear hsf hc hq HV
      go_enter Tryz.func110, Tryz.ntmps110
      go_wp2_with (first
        | (go_at_call 100; refine (HC.out _).mono ?_; rintro e w2 ⟨rfl, rfl⟩)
        | (go_at_call 132; refine (HS.out _).mono ?_; rintro e w2 ⟨rfl, rfl⟩))
      go_ret
      exact ⟨by rw [HV2.out]; rfl, rfl⟩
end Go.Proofs.YtegplihhbdmnbaaGreatDoor

end
