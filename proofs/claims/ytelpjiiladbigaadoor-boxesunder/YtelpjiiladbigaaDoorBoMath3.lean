/- The search of package boxes in plain lists: globs and runs. -/
import Derived.Test.YtelpjiiladbigaaDoorBoMath2
namespace Go.Proofs.YtelpjiiladbigaaDoor
/-- Cutting a text at another one, where it stands first. -/
theorem cut_yes {s x : List UInt8} (h : (Lib.cut s x).2.2 = true) : ∃ u, s = u ++ (x ++ (Lib.cut s x).2.1) ∧ ∀ u' v', s = u' ++ (x ++ v') → u.length ≤ u'.length := by
  rcases Lib.index_spec s x with ⟨hi, _⟩ | ⟨i, hi, hle, ho, hno⟩
  · rw [Lib.cut, hi] at h; simp at h
  · have hc : Lib.cut s x = (s.take i, s.drop (i + x.length), true) := by rw [Lib.cut, hi]; simp
    rw [hc]
    have hp : x <+: s.drop i := List.isPrefixOf_iff_prefix.1 ho
    obtain ⟨t, ht⟩ := hp
    have e2 : s.drop (i + x.length) = t := by
      rw [← List.drop_drop, ← ht, List.drop_left' rfl]
    refine ⟨s.take i, ?_, fun u' v' hs => ?_⟩
    · rw [e2, ht, List.take_append_drop]
    · rw [List.length_take, Nat.min_eq_left hle]
      refine Decidable.byContradiction fun hlt => ?_
      have := hno u'.length (by omega)
      rw [Lib.occAt, hs, List.drop_left' rfl] at this
      exact absurd (List.isPrefixOf_iff_prefix.2 ⟨v', rfl⟩) (by rw [this]; simp)
theorem cut_no {s x : List UInt8} (h : (Lib.cut s x).2.2 = false) (u v : List UInt8) : s ≠ u ++ (x ++ v) := by
  rcases Lib.index_spec s x with ⟨hi, hno⟩ | ⟨i, hi, hle, ho, hno⟩
  · rintro rfl
    have := hno u.length (by simp)
    rw [Lib.occAt, List.drop_left' rfl] at this
    exact absurd (List.isPrefixOf_iff_prefix.2 ⟨v, rfl⟩) (by rw [this]; simp)
  · rw [Lib.cut, hi] at h; simp at h
/-- What is behind the texts, each cut where it stands first. -/
def cutL : List (List UInt8) → List UInt8 → Option (List UInt8)
  | [], r => some r
  | x :: xs, r => if (Lib.cut r x).2.2 then cutL xs (Lib.cut r x).2.1 else none
/-- The texts stand in a text, one behind the other, the last one at its end. -/
def Mts : List (List UInt8) → List UInt8 → Prop
  | [], a => a = []
  | x :: xs, a => ∃ u v, a = u ++ (x ++ v) ∧ Mts xs v
theorem Mts_pre {gs : List (List UInt8)} (hne : gs ≠ []) {v : List UInt8} (w : List UInt8) (h : Mts gs v) : Mts gs (w ++ v) := by
  cases gs with
  | nil => exact absurd rfl hne
  | cons x xs =>
    obtain ⟨u, t, rfl, ht⟩ := h
    exact ⟨w ++ u, t, by simp, ht⟩
theorem cutL_yes : ∀ {gs : List (List UInt8)} {r b : List UInt8}, cutL gs r = some b → ∃ a, r = a ++ b ∧ Mts gs a
  | [], r, b, h => by
    injection h with h
    exact ⟨[], by simp [h], rfl⟩
  | x :: xs, r, b, h => by
    unfold cutL at h
    split at h
    · rename_i hc
      obtain ⟨u, hu, _⟩ := cut_yes hc
      obtain ⟨a, ha, hm⟩ := cutL_yes h
      refine ⟨u ++ (x ++ a), ?_, u, a, rfl, hm⟩
      rw [hu, ha]; simp
    · exact absurd h (by simp)
theorem suffix_len {a b c d : List UInt8} (h : a ++ b = c ++ d) (hl : b.length ≤ d.length) : b <:+ d := by
  have h1 : a.length + b.length = c.length + d.length := by have := congrArg List.length h; simpa using this
  have : c.length ≤ a.length := by omega
  have e1 : c = a.take c.length := by
    have := congrArg (List.take c.length) h
    rw [List.take_left' rfl, List.take_append_of_le_length (by omega)] at this
    exact this.symm
  have e2 : d = a.drop c.length ++ b := by
    have := congrArg (List.drop c.length) h
    rw [List.drop_left' rfl, List.drop_append_of_le_length (by omega)] at this
    exact this.symm
  exact ⟨_, e2.symm⟩
theorem cutL_max : ∀ {gs : List (List UInt8)} {r a b : List UInt8}, r = a ++ b → Mts gs a → ∃ b', cutL gs r = some b' ∧ b <:+ b'
  | [], r, a, b, hr, hm => by
    subst hr
    rw [show a = [] from hm]
    exact ⟨_, rfl, ⟨[], rfl⟩⟩
  | x :: xs, r, a, b, hr, hm => by
    obtain ⟨u, v, rfl, hv⟩ := hm
    have hr' : r = u ++ (x ++ (v ++ b)) := by rw [hr]; simp
    cases hc : (Lib.cut r x).2.2 with
    | false => exact absurd hr' (cut_no hc u (v ++ b))
    | true =>
      obtain ⟨u0, hu0, hmin⟩ := cut_yes hc
      have hl := hmin u (v ++ b) hr'
      have hsuf : (v ++ b) <:+ (Lib.cut r x).2.1 := by
        refine suffix_len (a := u ++ x) (c := u0 ++ x) (by rw [List.append_assoc, ← hr', List.append_assoc, ← hu0]) ?_
        have h1 := congrArg List.length hr'
        have h2 := congrArg List.length hu0
        simp only [List.length_append] at h1 h2 ⊢
        omega
      obtain ⟨w, hw⟩ := hsuf
      unfold cutL
      rw [if_pos hc]
      cases xs with
      | nil =>
        rw [show v = [] from hv] at hw
        exact ⟨_, rfl, ⟨w, hw⟩⟩
      | cons y ys =>
        exact cutL_max (r := (Lib.cut r x).2.1) (a := w ++ v) (b := b) (by rw [← hw]; simp) (Mts_pre (by simp) w hv)
/-- A glob: the bytes ahead of, between and behind its percent signs. -/
abbrev Glob := List (List UInt8)
def gpat (g : Glob) : List UInt8 := jn 37 g
def cutP (g : Glob) (p : List UInt8) : Option (List UInt8) :=
  match g with
  | [] => none
  | x :: xs => if x.isPrefixOf p then cutL xs (p.drop x.length) else none
/-- A glob's bytes stand for themselves. -/
def Wds (g : Glob) : Prop := g ≠ [] ∧ ∀ x ∈ g, ∀ c ∈ x, starB c = false ∧ c ≠ 47
def tailp : List (List UInt8) → List UInt8
  | [] => []
  | x :: xs => 37 :: (x ++ tailp xs)
theorem gpat_tail : ∀ (x : List UInt8) (xs : List (List UInt8)), gpat (x :: xs) = x ++ tailp xs
  | x, [] => by simp [gpat, jn, tailp]
  | x, y :: ys => by
    have := gpat_tail y ys
    unfold gpat at this ⊢
    rw [jn_cons (by simp), this]; rfl
theorem Mts_fi : ∀ {gs : List (List UInt8)} {a : List UInt8}, (∀ x ∈ gs, ∀ c ∈ x, starB c = false ∧ c ≠ 47) → (47 : UInt8) ∉ a → (Mts gs a ↔ Fi (tailp gs) a)
  | [], a, _, _ => Fi_nil.symm
  | x :: xs, a, hg, ha => by
    rw [show tailp (x :: xs) = 37 :: (x ++ tailp xs) from rfl, Fi_star (by rfl)]
    have hx := hg x (by simp)
    constructor
    · rintro ⟨u, v, rfl, hv⟩
      have h1 : (47 : UInt8) ∉ u ∧ (47 : UInt8) ∉ x ∧ (47 : UInt8) ∉ v := by simpa [not_or] using ha
      exact ⟨u, x ++ v, rfl, .inr h1.1, Fi_app.2 ⟨x, v, rfl, (Fi_word (fun c hc => (hx c hc).1)).2 rfl, (Mts_fi (fun y hy => hg y (by simp [hy])) h1.2.2).1 hv⟩⟩
    · rintro ⟨u, v, rfl, hu, hv⟩
      obtain ⟨y, z, rfl, hy, hz⟩ := Fi_app.1 hv
      have hy' := (Fi_word (fun c hc => (hx c hc).1)).1 hy
      subst hy'
      have h1 : (47 : UInt8) ∉ z := fun h => ha (by simp [h])
      exact ⟨u, z, rfl, (Mts_fi (fun y hy => hg y (by simp [hy])) h1).2 hz⟩
theorem cutP_yes {g : Glob} (hg : Wds g) {p b : List UInt8} (hp : (47 : UInt8) ∉ p) (h : cutP g p = some b) : ∃ a, p = a ++ b ∧ Fi (gpat g) a := by
  cases g with
  | nil => exact absurd rfl hg.1
  | cons x xs =>
    unfold cutP at h
    simp only at h
    split at h
    · rename_i hx
      obtain ⟨t, ht⟩ := List.isPrefixOf_iff_prefix.1 hx
      rw [← ht, List.drop_left' rfl] at h
      obtain ⟨a, ha, hm⟩ := cutL_yes h
      have hw := fun c hc => (hg.2 x (by simp) c hc).1
      refine ⟨x ++ a, by rw [← ht, ha]; simp, ?_⟩
      rw [gpat_tail]
      refine Fi_app.2 ⟨x, a, rfl, (Fi_word hw).2 rfl, (Mts_fi (fun y hy => hg.2 y (by simp [hy])) ?_).1 hm⟩
      intro h47
      exact hp (by rw [← ht, ha]; simp [h47])
    · exact absurd h (by simp)
theorem cutP_max {g : Glob} (hg : Wds g) {p a b : List UInt8} (hp : (47 : UInt8) ∉ p) (h : p = a ++ b) (hf : Fi (gpat g) a) : ∃ b', cutP g p = some b' ∧ b <:+ b' := by
  cases g with
  | nil => exact absurd rfl hg.1
  | cons x xs =>
    rw [gpat_tail] at hf
    obtain ⟨u, v, rfl, hu, hv⟩ := Fi_app.1 hf
    have hw := fun c hc => (hg.2 x (by simp) c hc).1
    have hu' := (Fi_word hw).1 hu
    subst hu'
    have hv47 : (47 : UInt8) ∉ v := fun h47 => hp (by rw [h]; simp [h47])
    have hm := (Mts_fi (fun y hy => hg.2 y (by simp [hy])) hv47).2 hv
    obtain ⟨b', h1, h2⟩ := cutL_max (r := v ++ b) rfl hm
    refine ⟨b', ?_, h2⟩
    unfold cutP
    simp only
    rw [if_pos (List.isPrefixOf_iff_prefix.2 ⟨v ++ b, by rw [h]; simp⟩), h, List.append_assoc, List.drop_left' rfl, h1]
/-- Does a glob fit a part? -/
def fitP (p : List UInt8) (g : Glob) : Bool :=
  if g.length = 1 then p == g.headD [] else (g.getLastD []).isSuffixOf p && (cutP g.dropLast (p.take (p.length - (g.getLastD []).length))).isSome
theorem gpat_last (g : Glob) (hg : g ≠ []) (y : List UInt8) : gpat (g ++ [y]) = gpat g ++ 37 :: y := by
  induction g with
  | nil => exact absurd rfl hg
  | cons x xs ih =>
    cases xs with
    | nil => rfl
    | cons z zs =>
      unfold gpat at ih ⊢
      rw [List.cons_append, jn_cons (by simp), ih (by simp), jn_cons (r := z :: zs) (by simp)]
      simp
theorem fitP_fi {g : Glob} (hg : Wds g) {p : List UInt8} (hp : (47 : UInt8) ∉ p) : fitP p g = true ↔ Fi (gpat g) p := by
  unfold fitP
  split
  · rename_i h1
    obtain ⟨x, rfl⟩ := List.length_eq_one_iff.1 h1
    rw [show gpat [x] = x from rfl, Fi_word (fun c hc => (hg.2 x (by simp) c hc).1)]
    simp
  · rename_i h1
    obtain ⟨g', y, rfl⟩ : ∃ g' y, g = g' ++ [y] := ⟨g.dropLast, g.getLast hg.1, (List.dropLast_concat_getLast hg.1).symm⟩
    have hne : g' ≠ [] := by rintro rfl; simp at h1
    have hg' : Wds g' := ⟨hne, fun x hx => hg.2 x (by simp [hx])⟩
    have hy := fun c hc => hg.2 y (by simp) c hc
    rw [gpat_last g' hne, List.dropLast_concat, show (g' ++ [y]).getLastD [] = y from by simp, Bool.and_eq_true, Fi_app]
    constructor
    · rintro ⟨h2, h3⟩
      obtain ⟨t, ht⟩ := List.isSuffixOf_iff_suffix.1 h2
      have et : p.take (p.length - y.length) = t := by
        rw [← ht, List.length_append, Nat.add_sub_cancel, List.take_left' rfl]
      rw [et] at h3
      obtain ⟨b, hb⟩ := Option.isSome_iff_exists.1 h3
      have ht47 : (47 : UInt8) ∉ t := fun h => hp (by rw [← ht]; simp [h])
      obtain ⟨a, ha, hf⟩ := cutP_yes hg' ht47 hb
      refine ⟨a, b ++ y, by rw [← ht, ha]; simp, hf, (Fi_star (by rfl)).2 ⟨b, y, rfl, .inr ?_, (Fi_word (fun c hc => (hy c hc).1)).2 rfl⟩⟩
      exact fun h => ht47 (by rw [ha]; simp [h])
    · rintro ⟨a, v, hv, hf, hs⟩
      obtain ⟨b, z, rfl, _, hz⟩ := (Fi_star (by rfl)).1 hs
      have hz' := (Fi_word (fun c hc => (hy c hc).1)).1 hz
      subst hz'
      have ep : p = (a ++ b) ++ z := by rw [hv]; simp
      have et : p.take (p.length - z.length) = a ++ b := by
        rw [ep, List.length_append, Nat.add_sub_cancel, List.take_left' rfl]
      refine ⟨List.isSuffixOf_iff_suffix.2 ⟨a ++ b, ep.symm⟩, ?_⟩
      rw [et]
      obtain ⟨b', hb', _⟩ := cutP_max hg' (p := a ++ b) (fun h => hp (by rw [ep]; simp only [List.mem_append] at h ⊢; exact .inl h)) rfl hf
      rw [hb']; rfl
end Go.Proofs.YtelpjiiladbigaaDoor
