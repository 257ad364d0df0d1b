/- The search of package boxes in plain lists: globs and runs. -/
/- The search of package boxes in plain lists: runs, and what they fit. -/
/- Names of mailboxes, in plain lists: as the program asks for them (pieces between slashes), as the document does (byte by byte). The document's table of what a pattern fits. -/
import Derived.Test.YtdbmaobjikjifaaGreatDoorRU08
section
namespace Go.Proofs.YtdbmaobjikjifaaGreatDoorR
/-- Cutting a text at another one, where it stands first. -/
theorem cut_yes {s x : List UInt8} (h : (Lib.cut s x).2.2 = true) : ∃ u, s = u ++ (x ++ (Lib.cut s x).2.1) ∧ ∀ u' v', s = u' ++ (x ++ v') → u.length ≤ u'.length := by
  rcases Lib.index_spec s x with ⟨hi, _⟩ | ⟨i, hi, hle, ho, hno⟩
  · rw [Lib.cut, hi] at h; simp at h
  · have hc : Lib.cut s x = (s.take i, s.drop (i + x.length), true) := by rw [Lib.cut, hi]; simp
    rw [hc]
    have hp : x <+: s.drop i := List.isPrefixOf_iff_prefix.1 ho
    obtain ⟨t, ht⟩ := hp
    have e2 : s.drop (i + x.length) = t := by
      rw [← List.drop_drop, ← ht, List.drop_left' rfl]
    refine ⟨s.take i, ?_, fun u' v' hs => ?_⟩
    · rw [e2, ht, List.take_append_drop]
    · rw [List.length_take, Nat.min_eq_left hle]
      refine Decidable.byContradiction fun hlt => ?_
      have := hno u'.length (by omega)
      rw [Lib.occAt, hs, List.drop_left' rfl] at this
      exact absurd (List.isPrefixOf_iff_prefix.2 ⟨v', rfl⟩) (by rw [this]; simp)
theorem cut_no {s x : List UInt8} (h : (Lib.cut s x).2.2 = false) (u v : List UInt8) : s ≠ u ++ (x ++ v) := by
  rcases Lib.index_spec s x with ⟨hi, hno⟩ | ⟨i, hi, hle, ho, hno⟩
  · rintro rfl
    have := hno u.length (by simp)
    rw [Lib.occAt, List.drop_left' rfl] at this
    exact absurd (List.isPrefixOf_iff_prefix.2 ⟨v, rfl⟩) (by rw [this]; simp)
  · rw [Lib.cut, hi] at h; simp at h
/-- What is behind the texts, each cut where it stands first. -/
def cutL : List (List UInt8) → List UInt8 → Option (List UInt8)
  | [], r => some r
  | x :: xs, r => if (Lib.cut r x).2.2 then cutL xs (Lib.cut r x).2.1 else none
/-- The texts stand in a text, one behind the other, the last one at its end. -/
def Mts : List (List UInt8) → List UInt8 → Prop
  | [], a => a = []
  | x :: xs, a => ∃ u v, a = u ++ (x ++ v) ∧ Mts xs v
theorem Mts_pre {gs : List (List UInt8)} (hne : gs ≠ []) {v : List UInt8} (w : List UInt8) (h : Mts gs v) : Mts gs (w ++ v) := by
  cases gs with
  | nil => exact absurd rfl hne
  | cons x xs =>
    obtain ⟨u, t, rfl, ht⟩ := h
    exact ⟨w ++ u, t, by simp, ht⟩
theorem cutL_yes : ∀ {gs : List (List UInt8)} {r b : List UInt8}, cutL gs r = some b → ∃ a, r = a ++ b ∧ Mts gs a
  | [], r, b, h => by
    injection h with h
    exact ⟨[], by simp [h], rfl⟩
  | x :: xs, r, b, h => by
    unfold cutL at h
    split at h
    · rename_i hc
      obtain ⟨u, hu, _⟩ := cut_yes hc
      obtain ⟨a, ha, hm⟩ := cutL_yes h
      refine ⟨u ++ (x ++ a), ?_, u, a, rfl, hm⟩
      rw [hu, ha]; simp
    · exact absurd h (by simp)
theorem suffix_len {a b c d : List UInt8} (h : a ++ b = c ++ d) (hl : b.length ≤ d.length) : b <:+ d := by
  have h1 : a.length + b.length = c.length + d.length := by have := congrArg List.length h; simpa using this
  have : c.length ≤ a.length := by omega
  have e1 : c = a.take c.length := by
    have := congrArg (List.take c.length) h
    rw [List.take_left' rfl, List.take_append_of_le_length (by omega)] at this
    exact this.symm
  have e2 : d = a.drop c.length ++ b := by
    have := congrArg (List.drop c.length) h
    rw [List.drop_left' rfl, List.drop_append_of_le_length (by omega)] at this
    exact this.symm
  exact ⟨_, e2.symm⟩
theorem cutL_max : ∀ {gs : List (List UInt8)} {r a b : List UInt8}, r = a ++ b → Mts gs a → ∃ b', cutL gs r = some b' ∧ b <:+ b'
  | [], r, a, b, hr, hm => by
    subst hr
    rw [show a = [] from hm]
    exact ⟨_, rfl, ⟨[], rfl⟩⟩
  | x :: xs, r, a, b, hr, hm => by
    obtain ⟨u, v, rfl, hv⟩ := hm
    have hr' : r = u ++ (x ++ (v ++ b)) := by rw [hr]; simp
    cases hc : (Lib.cut r x).2.2 with
    | false => exact absurd hr' (cut_no hc u (v ++ b))
    | true =>
      obtain ⟨u0, hu0, hmin⟩ := cut_yes hc
      have hl := hmin u (v ++ b) hr'
      have hsuf : (v ++ b) <:+ (Lib.cut r x).2.1 := by
        refine suffix_len (a := u ++ x) (c := u0 ++ x) (by rw [List.append_assoc, ← hr', List.append_assoc, ← hu0]) ?_
        have h1 := congrArg List.length hr'
        have h2 := congrArg List.length hu0
        simp only [List.length_append] at h1 h2 ⊢
        omega
      obtain ⟨w, hw⟩ := hsuf
      unfold cutL
      rw [if_pos hc]
      cases xs with
      | nil =>
        rw [show v = [] from hv] at hw
        exact ⟨_, rfl, ⟨w, hw⟩⟩
      | cons y ys =>
        exact cutL_max (r := (Lib.cut r x).2.1) (a := w ++ v) (b := b) (by rw [← hw]; simp) (Mts_pre (by simp) w hv)
/-- A glob: the bytes ahead of, between and behind its percent signs. -/
abbrev Glob := List (List UInt8)
def gpat (g : Glob) : List UInt8 := jn 37 g
def cutP (g : Glob) (p : List UInt8) : Option (List UInt8) :=
  match g with
  | [] => none
  | x :: xs => if x.isPrefixOf p then cutL xs (p.drop x.length) else none
/-- A glob's bytes stand for themselves. -/
def Wds (g : Glob) : Prop := g ≠ [] ∧ ∀ x ∈ g, ∀ c ∈ x, starB c = false ∧ c ≠ 47
def tailp : List (List UInt8) → List UInt8
  | [] => []
  | x :: xs => 37 :: (x ++ tailp xs)
theorem gpat_tail : ∀ (x : List UInt8) (xs : List (List UInt8)), gpat (x :: xs) = x ++ tailp xs
  | x, [] => by simp [gpat, jn, tailp]
  | x, y :: ys => by
    have := gpat_tail y ys
    unfold gpat at this ⊢
    rw [jn_cons (by simp), this]; rfl
theorem Mts_fi : ∀ {gs : List (List UInt8)} {a : List UInt8}, (∀ x ∈ gs, ∀ c ∈ x, starB c = false ∧ c ≠ 47) → (47 : UInt8) ∉ a → (Mts gs a ↔ Fi (tailp gs) a)
  | [], a, _, _ => Fi_nil.symm
  | x :: xs, a, hg, ha => by
    rw [show tailp (x :: xs) = 37 :: (x ++ tailp xs) from rfl, Fi_star (by rfl)]
    have hx := hg x (by simp)
    constructor
    · rintro ⟨u, v, rfl, hv⟩
      have h1 : (47 : UInt8) ∉ u ∧ (47 : UInt8) ∉ x ∧ (47 : UInt8) ∉ v := by simpa [not_or] using ha
      exact ⟨u, x ++ v, rfl, .inr h1.1, Fi_app.2 ⟨x, v, rfl, (Fi_word (fun c hc => (hx c hc).1)).2 rfl, (Mts_fi (fun y hy => hg y (by simp [hy])) h1.2.2).1 hv⟩⟩
    · rintro ⟨u, v, rfl, hu, hv⟩
      obtain ⟨y, z, rfl, hy, hz⟩ := Fi_app.1 hv
      have hy' := (Fi_word (fun c hc => (hx c hc).1)).1 hy
      subst hy'
      have h1 : (47 : UInt8) ∉ z := fun h => ha (by simp [h])
      exact ⟨u, z, rfl, (Mts_fi (fun y hy => hg y (by simp [hy])) h1).2 hz⟩
theorem cutP_yes {g : Glob} (hg : Wds g) {p b : List UInt8} (hp : (47 : UInt8) ∉ p) (h : cutP g p = some b) : ∃ a, p = a ++ b ∧ Fi (gpat g) a := by
  cases g with
  | nil => exact absurd rfl hg.1
  | cons x xs =>
    unfold cutP at h
    simp only at h
    split at h
    · rename_i hx
      obtain ⟨t, ht⟩ := List.isPrefixOf_iff_prefix.1 hx
      rw [← ht, List.drop_left' rfl] at h
      obtain ⟨a, ha, hm⟩ := cutL_yes h
      have hw := fun c hc => (hg.2 x (by simp) c hc).1
      refine ⟨x ++ a, by rw [← ht, ha]; simp, ?_⟩
      rw [gpat_tail]
      refine Fi_app.2 ⟨x, a, rfl, (Fi_word hw).2 rfl, (Mts_fi (fun y hy => hg.2 y (by simp [hy])) ?_).1 hm⟩
      intro h47
      exact hp (by rw [← ht, ha]; simp [h47])
    · exact absurd h (by simp)
theorem cutP_max {g : Glob} (hg : Wds g) {p a b : List UInt8} (hp : (47 : UInt8) ∉ p) (h : p = a ++ b) (hf : Fi (gpat g) a) : ∃ b', cutP g p = some b' ∧ b <:+ b' := by
  cases g with
  | nil => exact absurd rfl hg.1
  | cons x xs =>
    rw [gpat_tail] at hf
    obtain ⟨u, v, rfl, hu, hv⟩ := Fi_app.1 hf
    have hw := fun c hc => (hg.2 x (by simp) c hc).1
    have hu' := (Fi_word hw).1 hu
    subst hu'
    have hv47 : (47 : UInt8) ∉ v := fun h47 => hp (by rw [h]; simp [h47])
    have hm := (Mts_fi (fun y hy => hg.2 y (by simp [hy])) hv47).2 hv
    obtain ⟨b', h1, h2⟩ := cutL_max (r := v ++ b) rfl hm
    refine ⟨b', ?_, h2⟩
    unfold cutP
    simp only
    rw [if_pos (List.isPrefixOf_iff_prefix.2 ⟨v ++ b, by rw [h]; simp⟩), h, List.append_assoc, List.drop_left' rfl, h1]
/-- Does a glob fit a part? -/
def fitP (p : List UInt8) (g : Glob) : Bool :=
  if g.length = 1 then p == g.headD [] else (g.getLastD []).isSuffixOf p && (cutP g.dropLast (p.take (p.length - (g.getLastD []).length))).isSome
theorem gpat_last (g : Glob) (hg : g ≠ []) (y : List UInt8) : gpat (g ++ [y]) = gpat g ++ 37 :: y := by
  induction g with
  | nil => exact absurd rfl hg
  | cons x xs ih =>
    cases xs with
    | nil => rfl
    | cons z zs =>
      unfold gpat at ih ⊢
      rw [List.cons_append, jn_cons (by simp), ih (by simp), jn_cons (r := z :: zs) (by simp)]
      simp
theorem fitP_fi {g : Glob} (hg : Wds g) {p : List UInt8} (hp : (47 : UInt8) ∉ p) : fitP p g = true ↔ Fi (gpat g) p := by
  unfold fitP
  split
  · rename_i h1
    obtain ⟨x, rfl⟩ := List.length_eq_one_iff.1 h1
    rw [show gpat [x] = x from rfl, Fi_word (fun c hc => (hg.2 x (by simp) c hc).1)]
    simp
  · rename_i h1
    obtain ⟨g', y, rfl⟩ : ∃ g' y, g = g' ++ [y] := ⟨g.dropLast, g.getLast hg.1, (List.dropLast_concat_getLast hg.1).symm⟩
    have hne : g' ≠ [] := by rintro rfl; simp at h1
    have hg' : Wds g' := ⟨hne, fun x hx => hg.2 x (by simp [hx])⟩
    have hy := fun c hc => hg.2 y (by simp) c hc
    rw [gpat_last g' hne, List.dropLast_concat, show (g' ++ [y]).getLastD [] = y from by simp, Bool.and_eq_true, Fi_app]
    constructor
    · rintro ⟨h2, h3⟩
      obtain ⟨t, ht⟩ := List.isSuffixOf_iff_suffix.1 h2
      have et : p.take (p.length - y.length) = t := by
        rw [← ht, List.length_append, Nat.add_sub_cancel, List.take_left' rfl]
      rw [et] at h3
      obtain ⟨b, hb⟩ := Option.isSome_iff_exists.1 h3
      have ht47 : (47 : UInt8) ∉ t := fun h => hp (by rw [← ht]; simp [h])
      obtain ⟨a, ha, hf⟩ := cutP_yes hg' ht47 hb
      refine ⟨a, b ++ y, by rw [← ht, ha]; simp, hf, (Fi_star (by rfl)).2 ⟨b, y, rfl, .inr ?_, (Fi_word (fun c hc => (hy c hc).1)).2 rfl⟩⟩
      exact fun h => ht47 (by rw [ha]; simp [h])
    · rintro ⟨a, v, hv, hf, hs⟩
      obtain ⟨b, z, rfl, _, hz⟩ := (Fi_star (by rfl)).1 hs
      have hz' := (Fi_word (fun c hc => (hy c hc).1)).1 hz
      subst hz'
      have ep : p = (a ++ b) ++ z := by rw [hv]; simp
      have et : p.take (p.length - z.length) = a ++ b := by
        rw [ep, List.length_append, Nat.add_sub_cancel, List.take_left' rfl]
      refine ⟨List.isSuffixOf_iff_suffix.2 ⟨a ++ b, ep.symm⟩, ?_⟩
      rw [et]
      obtain ⟨b', hb', _⟩ := cutP_max hg' (p := a ++ b) (fun h => hp (by rw [ep]; simp only [List.mem_append] at h ⊢; exact .inl h)) rfl hf
      rw [hb']; rfl
end Go.Proofs.YtdbmaobjikjifaaGreatDoorR

end
section
namespace Go.Proofs.YtdbmaobjikjifaaGreatDoorR
def rpat (r : List Glob) : List UInt8 := jn 47 (r.map gpat)
def WdR (r : List Glob) : Prop := r ≠ [] ∧ ∀ g ∈ r, Wds g
def Flat (ps : List (List UInt8)) : Prop := ps ≠ [] ∧ ∀ p ∈ ps, (47 : UInt8) ∉ p
theorem jn_mem {c : UInt8} : ∀ {g : List (List UInt8)} {x : UInt8}, x ∈ jn c g → x = c ∨ ∃ y ∈ g, x ∈ y
  | [], x, h => by simp [jn] at h
  | [p], x, h => .inr ⟨p, by simp, h⟩
  | p :: q :: r, x, h => by
    rw [jn_cons (by simp), List.mem_append, List.mem_cons] at h
    rcases h with h | h | h
    · exact .inr ⟨p, by simp, h⟩
    · exact .inl h
    · rcases jn_mem h with h | ⟨y, hy, hx⟩
      · exact .inl h
      · exact .inr ⟨y, by simp only [List.mem_cons] at hy ⊢; exact .inr hy, hx⟩
theorem gpat_flat {g : Glob} (hg : Wds g) : ∀ c ∈ gpat g, c ≠ 42 ∧ c ≠ 47 := fun c hc => by
  rcases jn_mem hc with rfl | ⟨y, hy, hx⟩
  · decide
  · have := hg.2 y hy c hx
    refine ⟨fun e => ?_, this.2⟩
    rw [e] at this; exact absurd this.1 (by decide)
theorem glob_flat {g : Glob} (hg : Wds g) {a : List UInt8} (h : Fi (gpat g) a) : (47 : UInt8) ∉ a := Fi_flat (gpat_flat hg) h
theorem rpat_one (g : Glob) : rpat [g] = gpat g := rfl
theorem rpat_cons (g : Glob) {r : List Glob} (h : r ≠ []) : rpat (g :: r) = gpat g ++ 47 :: rpat r := by
  unfold rpat
  rw [List.map_cons, jn_cons (by simpa using h)]
theorem slash_inj {p u x y : List UInt8} (hp : (47 : UInt8) ∉ p) (hu : (47 : UInt8) ∉ u) (h : p ++ 47 :: x = u ++ 47 :: y) : p = u ∧ x = y := by
  induction p generalizing u with
  | nil =>
    cases u with
    | nil => simpa using h
    | cons d u => rw [List.nil_append, List.cons_append] at h; injection h with h1 _; exact absurd h1 (fun e => hu (by simp [← e]))
  | cons c p ih =>
    cases u with
    | nil => rw [List.nil_append, List.cons_append] at h; injection h with h1 _; exact absurd h1 (fun e => hp (by simp [e]))
    | cons d u =>
      rw [List.cons_append, List.cons_append] at h
      injection h with h1 h2
      have := ih (fun hh => hp (by simp [hh])) (fun hh => hu (by simp [hh])) h2
      exact ⟨by rw [h1, this.1], this.2⟩
theorem slash_pre {p a b x : List UInt8} (ha : (47 : UInt8) ∉ a) (h : p ++ 47 :: x = a ++ b) : ∃ b', p = a ++ b' ∧ b = b' ++ 47 :: x := by
  induction a generalizing p with
  | nil => exact ⟨p, rfl, h.symm⟩
  | cons d a ih =>
    cases p with
    | nil => rw [List.nil_append, List.cons_append] at h; injection h with h1 _; exact absurd h1 (fun e => ha (by simp [e]))
    | cons c p =>
      rw [List.cons_append, List.cons_append] at h
      injection h with h1 h2
      obtain ⟨b', e1, e2⟩ := ih (fun hh => ha (by simp [hh])) h2
      exact ⟨b', by rw [h1, e1]; rfl, e2⟩
theorem slash_in : ∀ {u : List UInt8}, (47 : UInt8) ∈ u → ∃ x y, u = x ++ 47 :: y ∧ (47 : UInt8) ∉ x
  | [], h => by simp at h
  | c :: u, h => by
    by_cases hc : c = 47
    · exact ⟨[], u, by rw [hc]; rfl, by simp⟩
    · obtain ⟨x, y, rfl, hx⟩ := slash_in (u := u) (by
        rcases List.mem_cons.1 h with h | h
        · exact absurd h.symm hc
        · exact h)
      exact ⟨c :: x, y, rfl, by simp only [List.mem_cons, not_or]; exact ⟨fun e => hc e.symm, hx⟩⟩
theorem Flat.tail {p q : List UInt8} {ps : List (List UInt8)} (h : Flat (p :: q :: ps)) : Flat (q :: ps) := ⟨by simp, fun x hx => h.2 x (by simp only [List.mem_cons] at hx ⊢; exact .inr hx)⟩
/-- Does each glob fit its part? -/
def fitR : List (List UInt8) → List Glob → Bool
  | _, [] => true
  | [], _ :: _ => false
  | p :: ps, g :: gs => fitP p g && fitR ps gs
theorem run_fi : ∀ {r : List Glob} {ps : List (List UInt8)}, WdR r → Flat ps → (Fi (rpat r) (jn 47 ps) ↔ ps.length = r.length ∧ fitR ps r = true)
  | [], _, hr, _ => absurd rfl hr.1
  | [g], [], _, hp => absurd rfl hp.1
  | [g], [p], hr, hp => by
    rw [rpat_one, show jn 47 [p] = p from rfl, ← fitP_fi (hr.2 g (by simp)) (hp.2 p (by simp))]
    simp [fitR]
  | [g], p :: q :: ps, hr, hp => by
    rw [rpat_one]
    constructor
    · intro h
      have := glob_flat (hr.2 g (by simp)) h
      rw [jn_cons (by simp)] at this
      exact absurd (by simp) this
    · rintro ⟨h, _⟩; simp at h
  | g :: g' :: gs, [], _, hp => absurd rfl hp.1
  | g :: g' :: gs, [p], hr, hp => by
    rw [rpat_cons g (by simp)]
    constructor
    · intro h
      obtain ⟨u, v, hv, hu, h2⟩ := Fi_app.1 h
      obtain ⟨t, rfl, _⟩ := (Fi_lit (by rfl)).1 h2
      exact absurd (by rw [show p = u ++ 47 :: t from hv]; simp) (hp.2 p (by simp))
    · rintro ⟨h, _⟩; simp at h
  | g :: g' :: gs, p :: q :: ps, hr, hp => by
    have ih := run_fi (r := g' :: gs) (ps := q :: ps) ⟨by simp, fun x hx => hr.2 x (by simp only [List.mem_cons] at hx ⊢; exact .inr hx)⟩ hp.tail
    have hg := hr.2 g (by simp)
    have hpf := hp.2 p (by simp)
    rw [rpat_cons g (by simp), jn_cons (by simp), Fi_app]
    rw [show fitR (p :: q :: ps) (g :: g' :: gs) = (fitP p g && fitR (q :: ps) (g' :: gs)) from rfl, Bool.and_eq_true, fitP_fi hg hpf]
    constructor
    · rintro ⟨u, v, hv, hu, h2⟩
      obtain ⟨t, rfl, h3⟩ := (Fi_lit (by rfl)).1 h2
      obtain ⟨e1, e2⟩ := slash_inj hpf (glob_flat hg hu) hv
      rw [← e2] at h3
      have := ih.1 h3
      exact ⟨by simpa using this.1, by rw [e1]; exact hu, this.2⟩
    · rintro ⟨h1, h2, h3⟩
      exact ⟨p, 47 :: jn 47 (q :: ps), rfl, h2, (Fi_lit (by rfl)).2 ⟨_, rfl, ih.2 ⟨by simpa using h1, h3⟩⟩⟩
/-- What is behind the shortest front of the parts that a run fits. -/
def cutF : List (List UInt8) → List Glob → Option (List (List UInt8))
  | p :: ps, [g] => (cutP g p).map (· :: ps)
  | p :: ps, g :: g' :: gs => if fitP p g then cutF ps (g' :: gs) else none
  | _, _ => none
theorem jn_suf {b p : List UInt8} (ps : List (List UInt8)) (h : b <:+ p) : jn 47 (b :: ps) <:+ jn 47 (p :: ps) := by
  obtain ⟨t, ht⟩ := h
  cases ps with
  | nil => exact ⟨t, ht⟩
  | cons q ps =>
    rw [jn_cons (p := b) (r := q :: ps) (by simp), jn_cons (p := p) (r := q :: ps) (by simp), ← ht]
    exact ⟨t, by simp⟩
theorem cutP_suf {g : Glob} {p b : List UInt8} (hg : Wds g) (hp : (47 : UInt8) ∉ p) (h : cutP g p = some b) : b <:+ p := by
  obtain ⟨a, ha, _⟩ := cutP_yes hg hp h
  exact ⟨a, ha.symm⟩
theorem cutF_yes : ∀ {r : List Glob} {ps l : List (List UInt8)}, WdR r → Flat ps → cutF ps r = some l → (∃ a, jn 47 ps = a ++ jn 47 l ∧ Fi (rpat r) a) ∧ Flat l ∧ jn 47 l <:+ jn 47 (ps.drop (r.length - 1)) ∧ (∃ y, l = y :: ps.drop r.length) ∧ r.length ≤ ps.length
  | [], _, _, hr, _, _ => absurd rfl hr.1
  | [g], [], _, _, hp, _ => absurd rfl hp.1
  | [g], p :: ps, l, hr, hp, h => by
    rw [cutF] at h
    obtain ⟨b, hb, rfl⟩ := Option.map_eq_some_iff.1 h
    have hpf := hp.2 p (by simp)
    have hs := cutP_suf (hr.2 g (by simp)) hpf hb
    obtain ⟨a, ha, hf⟩ := cutP_yes (hr.2 g (by simp)) hpf hb
    refine ⟨⟨a, ?_, hf⟩, ⟨by simp, fun x hx => ?_⟩, jn_suf ps hs, ⟨b, rfl⟩, by simp⟩
    · cases ps with
      | nil => exact ha
      | cons q ps => rw [jn_cons (p := p) (r := q :: ps) (by simp), jn_cons (p := b) (r := q :: ps) (by simp), ha]; simp
    · rcases List.mem_cons.1 hx with rfl | hx
      · exact fun hh => hpf (by rw [ha]; simp [hh])
      · exact hp.2 x (by simp [hx])
  | g :: g' :: gs, [], _, _, hp, _ => absurd rfl hp.1
  | g :: g' :: gs, [p], _, _, _, h => by
    rw [cutF] at h
    split at h
    · cases gs <;> simp [cutF] at h
    · exact absurd h (by simp)
  | g :: g' :: gs, p :: q :: ps, l, hr, hp, h => by
    rw [cutF] at h
    split at h
    · rename_i hfp
      have hg := hr.2 g (by simp)
      have hpf := hp.2 p (by simp)
      obtain ⟨⟨a, ha, hf⟩, h2, h3, ⟨y, hy⟩, h5⟩ := cutF_yes (r := g' :: gs) (ps := q :: ps) ⟨by simp, fun x hx => hr.2 x (by simp only [List.mem_cons] at hx ⊢; exact .inr hx)⟩ hp.tail h
      refine ⟨⟨p ++ 47 :: a, ?_, ?_⟩, h2, ?_, ⟨y, by simpa using hy⟩, by simp at h5 ⊢; omega⟩
      · rw [jn_cons (by simp), ha]; simp
      · rw [rpat_cons g (by simp)]
        exact Fi_app.2 ⟨p, 47 :: a, rfl, (fitP_fi hg hpf).1 hfp, (Fi_lit (by rfl)).2 ⟨a, rfl, hf⟩⟩
      · simpa using h3
    · exact absurd h (by simp)
theorem cutF_max : ∀ {r : List Glob} {ps : List (List UInt8)} {a b : List UInt8}, WdR r → Flat ps → jn 47 ps = a ++ b → Fi (rpat r) a → ∃ l, cutF ps r = some l ∧ b <:+ jn 47 l
  | [], _, _, _, hr, _, _, _ => absurd rfl hr.1
  | [g], [], _, _, _, hp, _, _ => absurd rfl hp.1
  | [g], [p], a, b, hr, hp, h, hf => by
    obtain ⟨b', h1, h2⟩ := cutP_max (hr.2 g (by simp)) (hp.2 p (by simp)) (show p = a ++ b from h) hf
    exact ⟨[b'], by rw [cutF, h1]; rfl, h2⟩
  | [g], p :: q :: ps, a, b, hr, hp, h, hf => by
    rw [jn_cons (by simp)] at h
    obtain ⟨b', e1, e2⟩ := slash_pre (glob_flat (hr.2 g (by simp)) hf) h
    obtain ⟨b'', h1, h2⟩ := cutP_max (hr.2 g (by simp)) (hp.2 p (by simp)) e1 hf
    refine ⟨b'' :: q :: ps, by rw [cutF, h1]; rfl, ?_⟩
    rw [e2]
    have := jn_suf (q :: ps) h2
    rwa [jn_cons (by simp)] at this
  | g :: g' :: gs, [], _, _, _, hp, _, _ => absurd rfl hp.1
  | g :: g' :: gs, [p], a, b, hr, hp, h, hf => by
    rw [rpat_cons g (by simp)] at hf
    obtain ⟨u, v, rfl, hu, h2⟩ := Fi_app.1 hf
    obtain ⟨t, rfl, _⟩ := (Fi_lit (by rfl)).1 h2
    exact absurd (by rw [show p = _ from h]; simp) (hp.2 p (by simp))
  | g :: g' :: gs, p :: q :: ps, a, b, hr, hp, h, hf => by
    have hg := hr.2 g (by simp)
    have hpf := hp.2 p (by simp)
    rw [rpat_cons g (by simp)] at hf
    obtain ⟨u, v, rfl, hu, h2⟩ := Fi_app.1 hf
    obtain ⟨t, rfl, h3⟩ := (Fi_lit (by rfl)).1 h2
    rw [jn_cons (by simp)] at h
    obtain ⟨e1, e2⟩ := slash_inj hpf (glob_flat hg hu) (y := t ++ b) (by rw [h]; simp)
    obtain ⟨l, h4, h5⟩ := cutF_max (r := g' :: gs) (ps := q :: ps) ⟨by simp, fun x hx => hr.2 x (by simp only [List.mem_cons] at hx ⊢; exact .inr hx)⟩ hp.tail e2 h3
    exact ⟨l, by rw [cutF, if_pos ((fitP_fi hg hpf).2 (by rw [e1]; exact hu)), h4], h5⟩
/-- What is behind the first parts that a run fits. -/
def cutS (r : List Glob) : List (List UInt8) → Option (List (List UInt8))
  | [] => none
  | p :: ps => if (p :: ps).length < r.length then none else match cutF (p :: ps) r with
    | some l => some l
    | none => cutS r ps
theorem jn_drop : ∀ (ps : List (List UInt8)) (k : Nat), k < ps.length → ∃ u, jn 47 ps = u ++ jn 47 (ps.drop k)
  | [], k, h => by simp at h
  | p :: ps, 0, _ => ⟨[], rfl⟩
  | [p], k + 1, h => by simp at h
  | p :: q :: ps, k + 1, h => by
    obtain ⟨u, hu⟩ := jn_drop (q :: ps) k (by simpa using h)
    exact ⟨p ++ 47 :: u, by rw [jn_cons (by simp), hu]; simp⟩
theorem jn_dropS (ps : List (List UInt8)) (k : Nat) : jn 47 (ps.drop k) <:+ jn 47 ps := by
  by_cases h : k < ps.length
  · obtain ⟨u, hu⟩ := jn_drop ps k h
    exact ⟨u, hu.symm⟩
  · rw [List.drop_of_length_le (by omega)]
    exact ⟨jn 47 ps, by simp [jn]⟩
theorem Flat.drop {ps : List (List UInt8)} (h : Flat ps) {k : Nat} (hk : k < ps.length) : Flat (ps.drop k) :=
  ⟨by intro e; have := congrArg List.length e; simp at this; omega, fun x hx => h.2 x (List.mem_of_mem_drop hx)⟩
theorem cutS_yes {r : List Glob} (hr : WdR r) : ∀ {ps l : List (List UInt8)}, Flat ps → cutS r ps = some l → (∃ u a, jn 47 ps = u ++ (a ++ jn 47 l) ∧ Fi (rpat r) a) ∧ Flat l ∧ jn 47 l <:+ jn 47 (ps.drop (r.length - 1))
  | [], _, hp, _ => absurd rfl hp.1
  | p :: ps, l, hp, h => by
    rw [cutS] at h
    split at h
    · exact absurd h (by simp)
    · rename_i hlen
      split at h
      · rename_i l' hl
        injection h with h
        subst h
        obtain ⟨⟨a, ha, hf⟩, h2, h3, _⟩ := cutF_yes hr hp hl
        exact ⟨⟨[], a, ha, hf⟩, h2, h3⟩
      · cases ps with
        | nil => simp [cutS] at h
        | cons q ps =>
          obtain ⟨⟨u, a, ha, hf⟩, h2, h3⟩ := cutS_yes hr hp.tail h
          refine ⟨⟨p ++ 47 :: u, a, by rw [jn_cons (by simp), ha]; simp, hf⟩, h2, ?_⟩
          refine h3.trans ?_
          have := jn_dropS ((p :: q :: ps).drop (r.length - 1)) 1
          rw [List.drop_drop] at this
          rwa [List.drop_succ_cons] at this
theorem Fi_pre {r : List Glob} (hb : ∃ Q, rpat r = 37 :: Q) {u a : List UInt8} (hu : (47 : UInt8) ∉ u) (h : Fi (rpat r) a) : Fi (rpat r) (u ++ a) := by
  obtain ⟨Q, hQ⟩ := hb
  rw [hQ] at h ⊢
  obtain ⟨x, y, rfl, hx, hy⟩ := (Fi_star (by rfl)).1 h
  exact (Fi_star (by rfl)).2 ⟨u ++ x, y, by simp, .inr (by simp [hu, hx.resolve_left (by decide)]), hy⟩
theorem cutS_max {r : List Glob} (hr : WdR r) (hb : ∃ Q, rpat r = 37 :: Q) : ∀ {ps : List (List UInt8)} {u a b : List UInt8}, Flat ps → jn 47 ps = u ++ (a ++ b) → Fi (rpat r) a → ∃ l, cutS r ps = some l ∧ b <:+ jn 47 l
  | [], _, _, _, hp, _, _ => absurd rfl hp.1
  | p :: ps, u, a, b, hp, h, hf => by
    by_cases hu : (47 : UInt8) ∈ u
    · obtain ⟨x, y, rfl, hx⟩ := slash_in hu
      cases ps with
      | nil => exact absurd (by rw [show p = _ from h]; simp) (hp.2 p (by simp))
      | cons q ps =>
        rw [jn_cons (by simp)] at h
        obtain ⟨e1, e2⟩ := slash_inj (hp.2 p (by simp)) hx (y := y ++ (a ++ b)) (by rw [h]; simp)
        obtain ⟨l, hl, hs⟩ := cutS_max hr hb hp.tail e2 hf
        have h3 := (cutS_yes hr hp.tail hl).2.2
        have hlen : ¬ (p :: q :: ps).length < r.length := by
          have hl' := hl
          rw [cutS] at hl'
          split at hl'
          · exact absurd hl' (by simp)
          · rename_i hh
            simp only [List.length_cons] at hh ⊢
            omega
        cases hc : cutF (p :: q :: ps) r with
        | none => exact ⟨l, by rw [cutS, if_neg hlen, hc]; exact hl, hs⟩
        | some l' =>
          refine ⟨l', by rw [cutS, if_neg hlen, hc], ?_⟩
          obtain ⟨_, _, _, ⟨z, hz⟩, _⟩ := cutF_yes hr hp hc
          refine hs.trans (h3.trans ?_)
          have h1 : 1 ≤ r.length := by
            cases r with
            | nil => exact absurd rfl hr.1
            | cons => simp
          have e : (p :: q :: ps).drop r.length = (q :: ps).drop (r.length - 1) := by
            obtain ⟨k, hk⟩ : ∃ k, r.length = k + 1 := ⟨r.length - 1, by omega⟩
            rw [hk]; rfl
          rw [hz, e]
          exact jn_dropS (z :: (q :: ps).drop (r.length - 1)) 1
    · obtain ⟨l, hl, hs⟩ := cutF_max hr hp (a := u ++ a) (b := b) (by rw [h]; simp) (Fi_pre hb hu hf)
      have := (cutF_yes hr hp hl).2.2.2.2
      exact ⟨l, by rw [cutS, if_neg (by omega), hl], hs⟩
/-- Does a run fit the last parts? -/
def endB (ps : List (List UInt8)) (r : List Glob) : Bool := decide (r.length ≤ ps.length) && fitR (ps.drop (ps.length - r.length)) r
theorem endB_fi {r : List Glob} (hr : WdR r) (hb : ∃ Q, rpat r = 37 :: Q) {ps : List (List UInt8)} (hp : Flat ps) : endB ps r = true ↔ Fi (42 :: rpat r) (jn 47 ps) := by
  unfold endB
  rw [Bool.and_eq_true, decide_eq_true_iff, Fi_star (by rfl)]
  have h1 : 1 ≤ r.length := by
    cases r with
    | nil => exact absurd rfl hr.1
    | cons => simp
  constructor
  · rintro ⟨h2, h3⟩
    have hk : ps.length - r.length < ps.length := by omega
    obtain ⟨u, hu⟩ := jn_drop ps _ hk
    exact ⟨u, _, hu, .inl rfl, (run_fi hr (hp.drop hk)).2 ⟨by rw [List.length_drop]; omega, h3⟩⟩
  · rintro ⟨u, a, hu, _, hf⟩
    have key : ∀ (ps : List (List UInt8)) (u : List UInt8), Flat ps → jn 47 ps = u ++ a → r.length ≤ ps.length ∧ fitR (ps.drop (ps.length - r.length)) r = true := by
      intro ps
      induction ps with
      | nil => intro u hp; exact absurd rfl hp.1
      | cons p ps ih =>
        intro u hp hu
        by_cases h47 : (47 : UInt8) ∈ u
        · obtain ⟨x, y, rfl, hx⟩ := slash_in h47
          cases ps with
          | nil => exact absurd (by rw [show p = _ from hu]; simp) (hp.2 p (by simp))
          | cons q ps =>
            rw [jn_cons (by simp)] at hu
            obtain ⟨e1, e2⟩ := slash_inj (hp.2 p (by simp)) hx (y := y ++ a) (by rw [hu]; simp)
            obtain ⟨h2, h3⟩ := ih y hp.tail e2
            refine ⟨by simp at h2 ⊢; omega, ?_⟩
            rw [show (p :: q :: ps).length - r.length = ((q :: ps).length - r.length) + 1 from by simp at h2 ⊢; omega]
            exact h3
        · have := (run_fi hr hp).1 (by rw [hu]; exact Fi_pre hb h47 hf)
          refine ⟨by omega, ?_⟩
          rw [show (p :: ps).length - r.length = 0 from by omega]
          exact this.2
    exact key ps u hp hu
def tailS : List (List Glob) → List UInt8
  | [] => []
  | r :: rs => 42 :: (rpat r ++ tailS rs)
def Pct (r : List Glob) : Prop := WdR r ∧ ∃ Q, rpat r = 37 :: Q
/-- The runs behind the first one. -/
def fitM : List (List UInt8) → List (List Glob) → Bool
  | _, [] => false
  | ps, [r] => endB ps r
  | ps, r :: r' :: rs => match cutS r ps with
    | some l => fitM l (r' :: rs)
    | none => false
theorem star_suf {Q b c : List UInt8} (h : b <:+ c) (hf : Fi (42 :: Q) b) : Fi (42 :: Q) c := by
  obtain ⟨t, rfl⟩ := h
  obtain ⟨u, v, rfl, _, hv⟩ := (Fi_star (by rfl)).1 hf
  exact (Fi_star (by rfl)).2 ⟨t ++ u, v, by simp, .inl rfl, hv⟩
theorem fitM_fi : ∀ {rs : List (List Glob)} {ps : List (List UInt8)}, rs ≠ [] → (∀ r ∈ rs, Pct r) → Flat ps → (fitM ps rs = true ↔ Fi (tailS rs) (jn 47 ps))
  | [], _, h, _, _ => absurd rfl h
  | [r], ps, _, hr, hp => by
    rw [fitM, endB_fi (hr r (by simp)).1 (hr r (by simp)).2 hp, tailS, tailS, List.append_nil]
  | r :: r' :: rs, ps, _, hr, hp => by
    have h1 := hr r (by simp)
    have ih : ∀ l, Flat l → (fitM l (r' :: rs) = true ↔ Fi (tailS (r' :: rs)) (jn 47 l)) := fun l hl => fitM_fi (by simp) (fun x hx => hr x (by simp only [List.mem_cons] at hx ⊢; exact .inr hx)) hl
    rw [fitM, show tailS (r :: r' :: rs) = 42 :: (rpat r ++ tailS (r' :: rs)) from rfl, Fi_star (by rfl)]
    constructor
    · intro h
      cases hc : cutS r ps with
      | none => rw [hc] at h; exact absurd h (by simp)
      | some l =>
        rw [hc] at h
        obtain ⟨⟨u, a, ha, hf⟩, hl, _⟩ := cutS_yes h1.1 hp hc
        exact ⟨u, _, ha, .inl rfl, Fi_app.2 ⟨a, _, rfl, hf, (ih l hl).1 h⟩⟩
    · rintro ⟨u, v, hu, _, hf⟩
      obtain ⟨a, b, rfl, ha, hb⟩ := Fi_app.1 hf
      obtain ⟨l, hl, hs⟩ := cutS_max h1.1 h1.2 hp hu ha
      rw [hl]
      exact (ih l (cutS_yes h1.1 hp hl).2.1).2 (star_suf hs hb)
/-- All runs against all parts. -/
def fitA (runs : List (List Glob)) (ps : List (List UInt8)) : Bool :=
  match runs with
  | [] => false
  | [r] => decide (ps.length = r.length) && endB ps r
  | r :: r' :: rs => match cutF ps r with
    | some l => fitM l (r' :: rs)
    | none => false
theorem fitA_fi {r : List Glob} {rs : List (List Glob)} {ps : List (List UInt8)} (hr : WdR r) (hrs : ∀ x ∈ rs, Pct x) (hp : Flat ps) : fitA (r :: rs) ps = true ↔ Fi (rpat r ++ tailS rs) (jn 47 ps) := by
  cases rs with
  | nil =>
    unfold fitA
    simp only
    rw [tailS, List.append_nil, run_fi hr hp, Bool.and_eq_true, decide_eq_true_iff, endB]
    constructor
    · rintro ⟨h1, h2⟩
      rw [Bool.and_eq_true, show ps.length - r.length = 0 from by omega] at h2
      exact ⟨h1, h2.2⟩
    · rintro ⟨h1, h2⟩
      refine ⟨h1, ?_⟩
      rw [show ps.length - r.length = 0 from by omega]
      simp [h1, h2]
  | cons r' rs =>
    unfold fitA
    simp only
    rw [Fi_app]
    constructor
    · intro h
      cases hc : cutF ps r with
      | none => rw [hc] at h; exact absurd h (by simp)
      | some l =>
        rw [hc] at h
        obtain ⟨⟨a, ha, hf⟩, hl, _⟩ := cutF_yes hr hp hc
        exact ⟨a, _, ha, hf, (fitM_fi (by simp) hrs hl).1 h⟩
    · rintro ⟨a, b, hu, ha, hb⟩
      obtain ⟨l, hl, hs⟩ := cutF_max hr hp hu ha
      rw [hl]
      exact (fitM_fi (by simp) hrs (cutF_yes hr hp hl).2.1).2 (star_suf hs hb)
/-- The runs of a pattern. -/
def runL (t : List UInt8) : List Glob := (spc 47 t).map (spc 37)
def runsT : List (List UInt8) → List (List Glob)
  | [] => []
  | t :: ts => runL t :: ts.map (fun t => runL (37 :: t))
def runsL (P : List UInt8) : List (List Glob) := runsT (spc 42 (simL P))
theorem rpat_runL (t : List UInt8) : rpat (runL t) = t := by
  unfold rpat runL
  rw [List.map_map, show gpat ∘ spc 37 = id from funext fun x => jn_spc 37 x, List.map_id, jn_spc]
theorem runL_wd {t : List UInt8} (h : (42 : UInt8) ∉ t) : WdR (runL t) := by
  refine ⟨by simpa [runL] using spc_ne 47 t, fun g hg => ?_⟩
  obtain ⟨p, hp, rfl⟩ := List.mem_map.1 hg
  obtain ⟨h1, h2⟩ := spc_in t p hp
  refine ⟨spc_ne 37 p, fun x hx c hc => ?_⟩
  obtain ⟨h3, h4⟩ := spc_in p x hx
  have e42 : c ≠ 42 := fun e => h (e ▸ h2 c (h4 c hc))
  have e37 : c ≠ 37 := fun e => h3 (e ▸ hc)
  exact ⟨by simp [starB, e42, e37], fun e => h1 (e ▸ h4 c hc)⟩
theorem tails_fi : ∀ (ts : List (List UInt8)) (a : List UInt8), Fi (tailS (ts.map (fun t => runL (37 :: t)))) a ↔ Fi (ts.flatMap (fun t => 42 :: t)) a
  | [], a => Iff.rfl
  | t :: ts, a => by
    rw [List.map_cons, tailS, rpat_runL, List.flatMap_cons, List.cons_append, Fi_two (e := 42) (by rfl) (by rfl) (by simp) _ a]
    rw [show (42 : UInt8) :: (t ++ tailS (ts.map fun t => runL (37 :: t))) = (42 :: t) ++ tailS (ts.map fun t => runL (37 :: t)) from rfl]
    exact Fi_congr (tails_fi ts) a
theorem jn_flat (c : UInt8) : ∀ (t : List UInt8) (ts : List (List UInt8)), jn c (t :: ts) = t ++ ts.flatMap (fun t => c :: t)
  | t, [] => by simp [jn]
  | t, q :: ts => by
    rw [jn_cons (by simp), jn_flat c q ts]; simp
/-- What package boxes finds is what the pattern fits. -/
theorem runs_fi (P N : List UInt8) : fitA (runsL P) (spc 47 N) = fit false P N := by
  rw [Bool.eq_iff_iff]
  show _ ↔ Fi P N
  rw [← simL_fi P N]
  unfold runsL
  generalize hS : simL P = S
  have hin := spc_in (c := 42) S
  have hj := jn_spc 42 S
  cases hs : spc 42 S with
  | nil => exact absurd hs (spc_ne 42 S)
  | cons t ts =>
    rw [hs] at hin hj
    have hp : Flat (spc 47 N) := ⟨spc_ne 47 N, fun p h => (spc_in N p h).1⟩
    rw [runsT, fitA_fi (runL_wd (hin t (by simp)).1) ?_ hp, rpat_runL, jn_spc]
    · rw [Fi_congr (tails_fi ts) N, ← jn_flat 42 t ts, hj]
    · intro x hx
      obtain ⟨y, hy, rfl⟩ := List.mem_map.1 hx
      refine ⟨runL_wd ?_, ⟨y, rpat_runL _⟩⟩
      have := (hin y (by simp [hy])).1
      simp [this]
end Go.Proofs.YtdbmaobjikjifaaGreatDoorR

end
section
namespace Go.Proofs.YtdbmaobjikjifaaGreatDoorR
theorem pln_both (c : UInt8) : plnB false c = (plnB true c && !starB c) := by simp [plnB]
theorem all_both (s : List UInt8) : s.all (plnB false) = (s.all (plnB true) && !s.any starB) := by
  induction s with
  | nil => rfl
  | cons c s ih =>
    rw [List.all_cons, List.all_cons, List.any_cons, ih, pln_both]
    cases plnB true c <;> cases starB c <;> simp
theorem spc_nonE : ∀ s : List UInt8, apartB true s = (spc 47 s).all (fun p => !p.isEmpty) ∧ apartB false s = ((spc 47 s).drop 1).all (fun p => !p.isEmpty)
  | [] => by simp [apartB, spc]
  | c :: r => by
    obtain ⟨h1, h2⟩ := spc_nonE r
    unfold apartB spc
    by_cases hc : c = 47
    · simp [hc, h1]
    · rw [if_neg hc, if_neg hc, if_neg hc, h2]
      cases hs : spc 47 r with
      | nil => exact absurd hs (spc_ne 47 r)
      | cons p ps => simp
theorem apart_spc (s : List UInt8) : apartB true s = (spc 47 s).all (fun p => !p.isEmpty) := (spc_nonE s).1
/-- What the program asks of a name. -/
theorem box_prog (s : List UInt8) (hl : s.length ≤ 60) : boxB s = (s.all (plnB true) && !s.any starB && (spc 47 s).all (fun p => !p.isEmpty)) := by
  unfold boxB
  rw [all_both, apart_spc]
  cases s with
  | nil => simp [spc]
  | cons c s =>
    rw [decide_eq_true ⟨by simp, hl⟩, Bool.true_and]
theorem apart_iff : ∀ (s : List UInt8) (b : Bool), apartB b s = true ↔ (b = true → s ≠ [] ∧ s[0]? ≠ some 47) ∧ ∀ i, s[i]? = some 47 → i + 1 < s.length ∧ s[i + 1]? ≠ some 47
  | [], b => by cases b <;> simp [apartB]
  | c :: r, b => by
    unfold apartB
    by_cases hc : c = 47
    · rw [if_pos hc, Bool.and_eq_true, apart_iff r true]
      constructor
      · rintro ⟨h1, h2, h3⟩
        refine ⟨fun hb => by simp [hb] at h1, fun i hi => ?_⟩
        cases i with
        | zero =>
          obtain ⟨k1, k2⟩ := h2 rfl
          refine ⟨?_, by simpa using k2⟩
          cases r with
          | nil => exact absurd rfl k1
          | cons d r => simp
        | succ i =>
          obtain ⟨k1, k2⟩ := h3 i (by simpa using hi)
          exact ⟨by simp; omega, by simpa using k2⟩
      · rintro ⟨h1, h2⟩
        refine ⟨?_, fun _ => ?_, fun i hi => ?_⟩
        · cases b with
          | false => rfl
          | true => exact absurd (by simp [hc]) (h1 rfl).2
        · obtain ⟨k1, k2⟩ := h2 0 (by simp [hc])
          refine ⟨fun e => by simp [e] at k1, by simpa using k2⟩
        · obtain ⟨k1, k2⟩ := h2 (i + 1) (by simpa using hi)
          exact ⟨by simp at k1; omega, by simpa using k2⟩
    · rw [if_neg hc, apart_iff r false]
      constructor
      · rintro ⟨_, h3⟩
        refine ⟨fun _ => ⟨by simp, by simpa using hc⟩, fun i hi => ?_⟩
        cases i with
        | zero => exact absurd (by simpa using hi) hc
        | succ i =>
          obtain ⟨k1, k2⟩ := h3 i (by simpa using hi)
          exact ⟨by simp; omega, by simpa using k2⟩
      · rintro ⟨_, h2⟩
        refine ⟨(fun h => by cases h), fun i hi => ?_⟩
        obtain ⟨k1, k2⟩ := h2 (i + 1) (by simpa using hi)
        exact ⟨by simp at k1; omega, by simpa using k2⟩
/-- What the document asks at a place of a name. -/
def atB (s : List UInt8) (i : Nat) : Prop := ∃ c, s[i]? = some c ∧ plnB false c = true ∧ (c = 47 → s[i - 1]? ≠ some 47)
theorem box_doc_yes {s : List UInt8} (h1 : 1 ≤ s.length) (h2 : s.length ≤ 60) (h3 : s[0]? ≠ some 47) (h4 : s[s.length - 1]? ≠ some 47) (h5 : ∀ i, i < s.length → atB s i) : boxB s = true := by
  unfold boxB
  rw [decide_eq_true ⟨h1, h2⟩, Bool.true_and, Bool.and_eq_true]
  refine ⟨List.all_eq_true.2 fun c hc => ?_, (apart_iff s true).2 ⟨fun _ => ⟨fun e => by simp [e] at h1, h3⟩, fun i hi => ?_⟩⟩
  · obtain ⟨i, hi, rfl⟩ := List.mem_iff_getElem.1 hc
    obtain ⟨c, k1, k2, _⟩ := h5 i hi
    rw [List.getElem?_eq_getElem hi] at k1
    cases k1
    exact k2
  · have hil := (List.getElem?_eq_some_iff.1 hi).1
    have hne : i ≠ s.length - 1 := fun e => h4 (e ▸ hi)
    refine ⟨by omega, fun e => ?_⟩
    obtain ⟨c, k1, _, k3⟩ := h5 (i + 1) (by omega)
    rw [e] at k1
    cases k1
    exact k3 rfl hi
theorem box_doc_no {s : List UInt8} {i : Nat} (hi : i < s.length) (h3 : s[0]? ≠ some 47) (h : ¬ atB s i) : boxB s = false := by
  cases hb : boxB s with
  | false => rfl
  | true =>
    exfalso
    unfold boxB at hb
    simp only [Bool.and_eq_true] at hb
    obtain ⟨⟨_, ha⟩, hp⟩ := hb
    refine h ⟨s[i], List.getElem?_eq_getElem hi, List.all_eq_true.1 ha _ (List.getElem_mem _), fun e he => ?_⟩
    have h2 := ((apart_iff s true).1 hp).2 (i - 1) he
    by_cases h0 : i = 0
    · subst h0
      exact h3 he
    · rw [show i - 1 + 1 = i from by omega, List.getElem?_eq_getElem hi, e] at h2
      exact h2.2 rfl
theorem box_short {s : List UInt8} (h : s.length < 1 ∨ 60 < s.length) : boxB s = false := by
  unfold boxB
  rw [decide_eq_false (by omega)]
  rfl
theorem box_first {s : List UInt8} (h : s[0]? = some 47) : boxB s = false := by
  cases hb : boxB s with
  | false => rfl
  | true =>
    unfold boxB at hb
    simp only [Bool.and_eq_true] at hb
    exact absurd h (((apart_iff s true).1 hb.2).1 rfl).2
theorem box_end {s : List UInt8} (h0 : 1 ≤ s.length) (h : s[s.length - 1]? = some 47) : boxB s = false := by
  cases hb : boxB s with
  | false => rfl
  | true =>
    unfold boxB at hb
    simp only [Bool.and_eq_true] at hb
    have := (((apart_iff s true).1 hb.2).2 _ h).1
    omega
/-- The document's table, of which the entries from k on are made. -/
def fitE (inb : Bool) (P N : List UInt8) (j : Nat) : Bool := fit inb (P.drop (j / (N.length + 1))) (N.drop (j % (N.length + 1)))
def tabL (inb : Bool) (P N : List UInt8) (k : Nat) : List Bool := (List.range ((P.length + 1) * (N.length + 1))).map fun j => decide (k ≤ j) && fitE inb P N j
theorem tabL_len (inb : Bool) (P N : List UInt8) (k : Nat) : (tabL inb P N k).length = (P.length + 1) * (N.length + 1) := by simp [tabL]
theorem tabL_at {inb : Bool} {P N : List UInt8} {k j : Nat} (hj : j < (P.length + 1) * (N.length + 1)) (hk : k ≤ j) : (tabL inb P N k)[j]? = some (fitE inb P N j) := by
  simp [tabL, hj, hk]
theorem tabL_all (inb : Bool) (P N : List UInt8) : tabL inb P N ((P.length + 1) * (N.length + 1)) = List.replicate ((P.length + 1) * (N.length + 1)) false := by
  refine List.ext_getElem (by simp [tabL]) fun i h1 h2 => ?_
  simp [tabL] at h1 ⊢
  intro h
  omega
theorem tabL_set {inb : Bool} {P N : List UInt8} {k : Nat} : (tabL inb P N (k + 1)).set k (fitE inb P N k) = tabL inb P N k := by
  refine List.ext_getElem (by simp [tabL]) fun i h1 h2 => ?_
  rw [List.getElem_set]
  split
  · rename_i h
    subst h
    simp [tabL]
  · rename_i h
    simp only [tabL, List.getElem_map, List.getElem_range]
    congr 1
    rw [decide_eq_decide]
    omega
theorem fitE_at (inb : Bool) (P N : List UInt8) (p n : Nat) (hn : n ≤ N.length) : fitE inb P N (p * (N.length + 1) + n) = fit inb (P.drop p) (N.drop n) := by
  unfold fitE
  have h1 : (p * (N.length + 1) + n) / (N.length + 1) = p := by
    rw [Nat.mul_comm, Nat.mul_add_div (by omega), Nat.div_eq_of_lt (by omega), Nat.add_zero]
  have h2 : (p * (N.length + 1) + n) % (N.length + 1) = n := by
    rw [Nat.mul_comm, Nat.mul_add_mod, Nat.mod_eq_of_lt (by omega)]
  rw [h1, h2]
end Go.Proofs.YtdbmaobjikjifaaGreatDoorR

end
