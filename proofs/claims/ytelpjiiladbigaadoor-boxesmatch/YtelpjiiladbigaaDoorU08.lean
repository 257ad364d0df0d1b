/- The search of package boxes in plain lists: a pattern cut at stars, slashes and percent signs, each run taken as far ahead as it fits, fits just what the pattern fits. -/
/- The search of package boxes in plain lists: globs and runs. -/
import Derived.Lib.IndexMore
import Derived.Lib.IndexLaws
import Derived.Test.YtelpjiiladbigaaDoorU01
section
namespace Go.Proofs.YtelpjiiladbigaaDoor
/-- A pattern fits a text, letters standing for themselves. -/
def Fi (P a : List UInt8) : Prop := fit false P a = true
theorem same0 (c d : UInt8) : sameI false c d = (c == d) := by simp [sameI]
theorem Fi_nil {a : List UInt8} : Fi [] a ↔ a = [] := by
  unfold Fi; rw [fit_nil]; cases a <;> simp
theorem Fi_lit {c : UInt8} (h : starB c = false) {P a : List UInt8} : Fi (c :: P) a ↔ ∃ r, a = c :: r ∧ Fi P r := by
  unfold Fi
  cases a with
  | nil => rw [fit_end, h]; simp
  | cons d n =>
    rw [fit_char h, same0]
    constructor
    · intro hh
      simp only [Bool.and_eq_true, beq_iff_eq] at hh
      exact ⟨n, by rw [hh.1], hh.2⟩
    · rintro ⟨r, hr, hf⟩
      injection hr with h1 h2
      subst h1; subst h2
      simp [hf]
theorem Fi_star {c : UInt8} (h : starB c = true) {P : List UInt8} : ∀ {a : List UInt8}, Fi (c :: P) a ↔ ∃ u v, a = u ++ v ∧ (c = 42 ∨ (47 : UInt8) ∉ u) ∧ Fi P v
  | [] => by
    unfold Fi
    rw [fit_end, h, Bool.true_and]
    constructor
    · intro hh; exact ⟨[], [], rfl, .inr (by simp), hh⟩
    · rintro ⟨u, v, hh, _, hf⟩
      have := List.append_eq_nil_iff.1 hh.symm
      rw [this.2] at hf; exact hf
  | d :: n => by
    have ih := Fi_star h (P := P) (a := n)
    unfold Fi at ih ⊢
    rw [fit_star h, Bool.or_eq_true, Bool.and_eq_true, ih]
    constructor
    · rintro (hh | ⟨hd, u, v, hn, hu, hf⟩)
      · exact ⟨[], d :: n, rfl, .inr (by simp), hh⟩
      · refine ⟨d :: u, v, by rw [hn]; rfl, ?_, hf⟩
        simp only [Bool.or_eq_true, beq_iff_eq, bne_iff_ne] at hd
        rcases hd with hd | hd
        · exact .inl hd
        · rcases hu with hu | hu
          · exact .inl hu
          · exact .inr (by simp only [List.mem_cons, not_or]; exact ⟨fun e => hd e.symm, hu⟩)
    · rintro ⟨u, v, hn, hu, hf⟩
      cases u with
      | nil => exact .inl (by rw [List.nil_append] at hn; rw [hn]; exact hf)
      | cons x u =>
        rw [List.cons_append] at hn
        injection hn with h1 h2
        subst h1
        refine .inr ⟨?_, u, v, h2, ?_, hf⟩
        · rcases hu with hu | hu
          · simp [hu]
          · have : d ≠ 47 := fun e => hu (by simp [e])
            simp [this]
        · exact hu.imp id (fun h hm => h (by simp [hm]))
theorem Fi_app : ∀ {P Q a : List UInt8}, Fi (P ++ Q) a ↔ ∃ u v, a = u ++ v ∧ Fi P u ∧ Fi Q v
  | [], Q, a => by
    constructor
    · intro h; exact ⟨[], a, rfl, Fi_nil.2 rfl, h⟩
    · rintro ⟨u, v, h, hu, hv⟩
      rw [Fi_nil.1 hu] at h
      rw [List.nil_append] at h ⊢
      rw [h]; exact hv
  | c :: P, Q, a => by
    rw [List.cons_append]
    cases hc : starB c with
    | true =>
      rw [Fi_star hc]
      constructor
      · rintro ⟨u, v, rfl, hu, hv⟩
        obtain ⟨x, y, rfl, hx, hy⟩ := Fi_app.1 hv
        exact ⟨u ++ x, y, by simp, (Fi_star hc).2 ⟨u, x, rfl, hu, hx⟩, hy⟩
      · rintro ⟨u, v, rfl, hu, hv⟩
        obtain ⟨x, y, rfl, hx, hy⟩ := (Fi_star hc).1 hu
        exact ⟨x, y ++ v, by simp, hx, Fi_app.2 ⟨y, v, rfl, hy, hv⟩⟩
    | false =>
      rw [Fi_lit hc]
      constructor
      · rintro ⟨r, rfl, hr⟩
        obtain ⟨x, y, rfl, hx, hy⟩ := Fi_app.1 hr
        exact ⟨c :: x, y, by simp, (Fi_lit hc).2 ⟨x, rfl, hx⟩, hy⟩
      · rintro ⟨u, v, rfl, hu, hv⟩
        obtain ⟨r, rfl, hr⟩ := (Fi_lit hc).1 hu
        exact ⟨r ++ v, rfl, Fi_app.2 ⟨r, v, rfl, hr, hv⟩⟩
theorem Fi_word : ∀ {p a : List UInt8}, (∀ c ∈ p, starB c = false) → (Fi p a ↔ a = p)
  | [], a, _ => Fi_nil
  | c :: p, a, h => by
    rw [Fi_lit (h c (by simp))]
    constructor
    · rintro ⟨r, rfl, hr⟩
      rw [(Fi_word (fun x hx => h x (by simp [hx]))).1 hr]
    · rintro rfl
      exact ⟨p, rfl, (Fi_word (fun x hx => h x (by simp [hx]))).2 rfl⟩
theorem Fi_flat : ∀ {G a : List UInt8}, (∀ c ∈ G, c ≠ 42 ∧ c ≠ 47) → Fi G a → (47 : UInt8) ∉ a
  | [], a, _, h => by rw [Fi_nil.1 h]; simp
  | c :: G, a, hG, h => by
    have hc := hG c (by simp)
    cases hs : starB c with
    | true =>
      obtain ⟨u, v, rfl, hu, hv⟩ := (Fi_star hs).1 h
      have h1 := hu.resolve_left hc.1
      have h2 := Fi_flat (fun x hx => hG x (by simp [hx])) hv
      simp [h1, h2]
    | false =>
      obtain ⟨r, rfl, hr⟩ := (Fi_lit hs).1 h
      have h2 := Fi_flat (fun x hx => hG x (by simp [hx])) hr
      simp only [List.mem_cons, not_or]
      exact ⟨fun e => hc.2 e.symm, h2⟩
theorem Fi_congr {k P Q : List UInt8} (h : ∀ a, Fi P a ↔ Fi Q a) (a : List UInt8) : Fi (k ++ P) a ↔ Fi (k ++ Q) a := by
  rw [Fi_app, Fi_app]
  constructor
  · rintro ⟨u, v, h1, h2, h3⟩; exact ⟨u, v, h1, h2, (h v).1 h3⟩
  · rintro ⟨u, v, h1, h2, h3⟩; exact ⟨u, v, h1, h2, (h v).2 h3⟩
/-- Two signs side by side. -/
theorem Fi_two {c d e : UInt8} (hc : starB c = true) (hd : starB d = true) (he : e = if c = 42 ∨ d = 42 then 42 else 37) (P a : List UInt8) : Fi (c :: d :: P) a ↔ Fi (e :: P) a := by
  have hs : starB e = true := by rw [he]; split <;> rfl
  rw [Fi_star hc, Fi_star hs]
  constructor
  · rintro ⟨u, v, rfl, hu, hv⟩
    obtain ⟨x, y, rfl, hx, hy⟩ := (Fi_star hd).1 hv
    refine ⟨u ++ x, y, by simp, ?_, hy⟩
    rw [he]
    by_cases h : c = 42 ∨ d = 42
    · exact .inl (if_pos h)
    · rw [not_or] at h
      exact .inr (by simp [hu.resolve_left h.1, hx.resolve_left h.2])
  · rintro ⟨u, v, rfl, hu, hv⟩
    rw [he] at hu
    by_cases h1 : c = 42
    · exact ⟨u, v, rfl, .inl h1, (Fi_star hd).2 ⟨[], v, rfl, .inr (by simp), hv⟩⟩
    · by_cases h2 : d = 42
      · exact ⟨[], u ++ v, rfl, .inr (by simp), (Fi_star hd).2 ⟨u, v, rfl, .inl h2, hv⟩⟩
      · rw [if_neg (by simp [h1, h2])] at hu
        exact ⟨u, v, rfl, .inr (hu.resolve_left (by decide)), (Fi_star hd).2 ⟨[], v, rfl, .inr (by simp), hv⟩⟩
/-- What package boxes keeps of a pattern: no two signs side by side. -/
def simS (k : List UInt8) (c : UInt8) : List UInt8 :=
  match k.getLast? with
  | none => k ++ [c]
  | some d => if starB c && starB d then (if c = 42 then k.dropLast ++ [42] else k) else k ++ [c]
def simL (P : List UInt8) : List UInt8 := P.foldl simS []
theorem simS_len (k : List UInt8) (c : UInt8) : (simS k c).length ≤ k.length + 1 := by
  unfold simS
  split
  · simp
  · split
    · split
      · simp
      · omega
    · simp
theorem simS_fi (k : List UInt8) (c : UInt8) (Q a : List UInt8) : Fi (simS k c ++ Q) a ↔ Fi (k ++ c :: Q) a := by
  unfold simS
  split
  · simp
  · rename_i d hd
    obtain ⟨k', rfl⟩ : ∃ k', k = k' ++ [d] := by
      rw [List.getLast?_eq_some_iff] at hd; exact hd
    split
    · rename_i hs
      rw [Bool.and_eq_true] at hs
      rw [List.dropLast_concat]
      have key : ∀ e, e = (if d = 42 ∨ c = 42 then (42 : UInt8) else 37) → (Fi (k' ++ e :: Q) a ↔ Fi (k' ++ [d] ++ c :: Q) a) := fun e he => by
        rw [List.append_assoc]
        exact Fi_congr (fun a => (Fi_two hs.2 hs.1 he Q a).symm) a
      split
      · rename_i h
        rw [List.append_assoc]
        exact key 42 (by rw [if_pos (.inr h)])
      · rename_i h
        rw [show k' ++ [d] ++ Q = k' ++ d :: Q from by simp]
        refine key d ?_
        by_cases h1 : d = 42
        · rw [if_pos (.inl h1), h1]
        · rw [if_neg (by simp [h, h1])]
          have := hs.2
          simp [starB, h1] at this
          exact this
    · simp
theorem simF_fi : ∀ (P k a : List UInt8), Fi (P.foldl simS k) a ↔ Fi (k ++ P) a
  | [], k, a => by simp
  | c :: P, k, a => by rw [List.foldl_cons, simF_fi P (simS k c) a, simS_fi k c P a]
theorem simL_fi (P a : List UInt8) : Fi (simL P) a ↔ Fi P a := simF_fi P [] a
theorem simF_len : ∀ (P k : List UInt8), (P.foldl simS k).length ≤ k.length + P.length
  | [], k => by simp
  | c :: P, k => by
    have h1 := simF_len P (simS k c)
    have h2 := simS_len k c
    rw [List.foldl_cons]
    simp only [List.length_cons]
    omega
/-- Texts with a byte between them; a text cut at a byte. -/
def jn (c : UInt8) : List (List UInt8) → List UInt8
  | [] => []
  | [p] => p
  | p :: q :: r => p ++ c :: jn c (q :: r)
theorem jn_cons {c : UInt8} {p : List UInt8} {r : List (List UInt8)} (h : r ≠ []) : jn c (p :: r) = p ++ c :: jn c r := by
  cases r with
  | nil => exact absurd rfl h
  | cons q r => rfl
def spc (c : UInt8) : List UInt8 → List (List UInt8)
  | [] => [[]]
  | x :: r => if x = c then [] :: spc c r else match spc c r with
    | [] => [[x]]
    | p :: ps => (x :: p) :: ps
theorem spc_ne (c : UInt8) (l : List UInt8) : spc c l ≠ [] := by
  cases l with
  | nil => simp [spc]
  | cons x l =>
    unfold spc
    split
    · simp
    · split <;> simp
theorem spc_end {c : UInt8} : ∀ {p : List UInt8}, c ∉ p → spc c p = [p]
  | [], _ => rfl
  | x :: p, h => by
    have h1 := spc_end (c := c) (p := p) (fun hp => h (List.mem_cons_of_mem _ hp))
    have hc : x ≠ c := fun e => h (by simp [e])
    rw [spc, if_neg hc, h1]
theorem spc_mid {c : UInt8} : ∀ {p : List UInt8} (r : List UInt8), c ∉ p → spc c (p ++ c :: r) = p :: spc c r
  | [], r, _ => by simp [spc]
  | x :: p, r, h => by
    have h1 := spc_mid (c := c) (p := p) r (fun hp => h (List.mem_cons_of_mem _ hp))
    have hc : x ≠ c := fun e => h (by simp [e])
    rw [List.cons_append, spc, if_neg hc, h1]
theorem spc_in {c : UInt8} : ∀ (l : List UInt8), ∀ x ∈ spc c l, c ∉ x ∧ ∀ y ∈ x, y ∈ l
  | [], x, h => by
    simp [spc] at h
    simp [h]
  | b :: l, x, h => by
    have h1 := spc_in (c := c) l
    by_cases hc : b = c
    · rw [spc, if_pos hc] at h
      rcases List.mem_cons.1 h with rfl | h
      · simp
      · exact ⟨(h1 x h).1, fun y hy => List.mem_cons_of_mem _ ((h1 x h).2 y hy)⟩
    · rw [spc, if_neg hc] at h
      split at h
      · rename_i e; exact absurd e (spc_ne c l)
      · rename_i p ps e
        rw [e] at h1
        rcases List.mem_cons.1 h with rfl | h
        · have := h1 p (by simp)
          refine ⟨?_, fun y hy => ?_⟩
          · simp only [List.mem_cons, not_or]; exact ⟨fun e => hc e.symm, this.1⟩
          · rcases List.mem_cons.1 hy with rfl | hy
            · simp
            · exact List.mem_cons_of_mem _ (this.2 y hy)
        · have := h1 x (by simp [h])
          exact ⟨this.1, fun y hy => List.mem_cons_of_mem _ (this.2 y hy)⟩
theorem jn_spc (c : UInt8) : ∀ (l : List UInt8), jn c (spc c l) = l
  | [] => rfl
  | x :: l => by
    have ih := jn_spc c l
    unfold spc
    split
    · rename_i h
      rw [jn_cons (spc_ne c l), ih, h]; rfl
    · split
      · rename_i e; exact absurd e (spc_ne c l)
      · rename_i p ps e
        rw [e] at ih
        cases ps with
        | nil => rw [← ih]; rfl
        | cons q r => rw [← ih]; rfl
theorem spc_len (c : UInt8) : ∀ (l : List UInt8), (spc c l).length ≤ l.length + 1
  | [] => by simp [spc]
  | x :: l => by
    have ih := spc_len c l
    unfold spc
    split
    · simp; omega
    · split
      · simp
      · rename_i p ps e
        rw [e] at ih
        simp at ih ⊢; omega
theorem spc_size {c : UInt8} : ∀ (l : List UInt8), ∀ x ∈ spc c l, x.length ≤ l.length
  | [], x, h => by
    simp [spc] at h
    simp [h]
  | b :: l, x, h => by
    have h1 := spc_size (c := c) l
    by_cases hc : b = c
    · rw [spc, if_pos hc] at h
      rcases List.mem_cons.1 h with rfl | h
      · simp
      · have := h1 x h; simp; omega
    · rw [spc, if_neg hc] at h
      split at h
      · rename_i e; exact absurd e (spc_ne c l)
      · rename_i p ps e
        rw [e] at h1
        rcases List.mem_cons.1 h with rfl | h
        · have := h1 p (by simp); simp; omega
        · have := h1 x (by simp [h]); simp; omega
end Go.Proofs.YtelpjiiladbigaaDoor

end
section
namespace Go.Proofs.YtelpjiiladbigaaDoor
/-- Cutting a text at another one, where it stands first. -/
theorem cut_yes {s x : List UInt8} (h : (Lib.cut s x).2.2 = true) : ∃ u, s = u ++ (x ++ (Lib.cut s x).2.1) ∧ ∀ u' v', s = u' ++ (x ++ v') → u.length ≤ u'.length := by
  rcases Lib.index_spec s x with ⟨hi, _⟩ | ⟨i, hi, hle, ho, hno⟩
  · rw [Lib.cut, hi] at h; simp at h
  · have hc : Lib.cut s x = (s.take i, s.drop (i + x.length), true) := by rw [Lib.cut, hi]; simp
    rw [hc]
    have hp : x <+: s.drop i := List.isPrefixOf_iff_prefix.1 ho
    obtain ⟨t, ht⟩ := hp
    have e2 : s.drop (i + x.length) = t := by
      rw [← List.drop_drop, ← ht, List.drop_left' rfl]
    refine ⟨s.take i, ?_, fun u' v' hs => ?_⟩
    · rw [e2, ht, List.take_append_drop]
    · rw [List.length_take, Nat.min_eq_left hle]
      refine Decidable.byContradiction fun hlt => ?_
      have := hno u'.length (by omega)
      rw [Lib.occAt, hs, List.drop_left' rfl] at this
      exact absurd (List.isPrefixOf_iff_prefix.2 ⟨v', rfl⟩) (by rw [this]; simp)
theorem cut_no {s x : List UInt8} (h : (Lib.cut s x).2.2 = false) (u v : List UInt8) : s ≠ u ++ (x ++ v) := by
  rcases Lib.index_spec s x with ⟨hi, hno⟩ | ⟨i, hi, hle, ho, hno⟩
  · rintro rfl
    have := hno u.length (by simp)
    rw [Lib.occAt, List.drop_left' rfl] at this
    exact absurd (List.isPrefixOf_iff_prefix.2 ⟨v, rfl⟩) (by rw [this]; simp)
  · rw [Lib.cut, hi] at h; simp at h
/-- What is behind the texts, each cut where it stands first. -/
def cutL : List (List UInt8) → List UInt8 → Option (List UInt8)
  | [], r => some r
  | x :: xs, r => if (Lib.cut r x).2.2 then cutL xs (Lib.cut r x).2.1 else none
/-- The texts stand in a text, one behind the other, the last one at its end. -/
def Mts : List (List UInt8) → List UInt8 → Prop
  | [], a => a = []
  | x :: xs, a => ∃ u v, a = u ++ (x ++ v) ∧ Mts xs v
theorem Mts_pre {gs : List (List UInt8)} (hne : gs ≠ []) {v : List UInt8} (w : List UInt8) (h : Mts gs v) : Mts gs (w ++ v) := by
  cases gs with
  | nil => exact absurd rfl hne
  | cons x xs =>
    obtain ⟨u, t, rfl, ht⟩ := h
    exact ⟨w ++ u, t, by simp, ht⟩
theorem cutL_yes : ∀ {gs : List (List UInt8)} {r b : List UInt8}, cutL gs r = some b → ∃ a, r = a ++ b ∧ Mts gs a
  | [], r, b, h => by
    injection h with h
    exact ⟨[], by simp [h], rfl⟩
  | x :: xs, r, b, h => by
    unfold cutL at h
    split at h
    · rename_i hc
      obtain ⟨u, hu, _⟩ := cut_yes hc
      obtain ⟨a, ha, hm⟩ := cutL_yes h
      refine ⟨u ++ (x ++ a), ?_, u, a, rfl, hm⟩
      rw [hu, ha]; simp
    · exact absurd h (by simp)
theorem suffix_len {a b c d : List UInt8} (h : a ++ b = c ++ d) (hl : b.length ≤ d.length) : b <:+ d := by
  have h1 : a.length + b.length = c.length + d.length := by have := congrArg List.length h; simpa using this
  have : c.length ≤ a.length := by omega
  have e1 : c = a.take c.length := by
    have := congrArg (List.take c.length) h
    rw [List.take_left' rfl, List.take_append_of_le_length (by omega)] at this
    exact this.symm
  have e2 : d = a.drop c.length ++ b := by
    have := congrArg (List.drop c.length) h
    rw [List.drop_left' rfl, List.drop_append_of_le_length (by omega)] at this
    exact this.symm
  exact ⟨_, e2.symm⟩
theorem cutL_max : ∀ {gs : List (List UInt8)} {r a b : List UInt8}, r = a ++ b → Mts gs a → ∃ b', cutL gs r = some b' ∧ b <:+ b'
  | [], r, a, b, hr, hm => by
    subst hr
    rw [show a = [] from hm]
    exact ⟨_, rfl, ⟨[], rfl⟩⟩
  | x :: xs, r, a, b, hr, hm => by
    obtain ⟨u, v, rfl, hv⟩ := hm
    have hr' : r = u ++ (x ++ (v ++ b)) := by rw [hr]; simp
    cases hc : (Lib.cut r x).2.2 with
    | false => exact absurd hr' (cut_no hc u (v ++ b))
    | true =>
      obtain ⟨u0, hu0, hmin⟩ := cut_yes hc
      have hl := hmin u (v ++ b) hr'
      have hsuf : (v ++ b) <:+ (Lib.cut r x).2.1 := by
        refine suffix_len (a := u ++ x) (c := u0 ++ x) (by rw [List.append_assoc, ← hr', List.append_assoc, ← hu0]) ?_
        have h1 := congrArg List.length hr'
        have h2 := congrArg List.length hu0
        simp only [List.length_append] at h1 h2 ⊢
        omega
      obtain ⟨w, hw⟩ := hsuf
      unfold cutL
      rw [if_pos hc]
      cases xs with
      | nil =>
        rw [show v = [] from hv] at hw
        exact ⟨_, rfl, ⟨w, hw⟩⟩
      | cons y ys =>
        exact cutL_max (r := (Lib.cut r x).2.1) (a := w ++ v) (b := b) (by rw [← hw]; simp) (Mts_pre (by simp) w hv)
/-- A glob: the bytes ahead of, between and behind its percent signs. -/
abbrev Glob := List (List UInt8)
def gpat (g : Glob) : List UInt8 := jn 37 g
def cutP (g : Glob) (p : List UInt8) : Option (List UInt8) :=
  match g with
  | [] => none
  | x :: xs => if x.isPrefixOf p then cutL xs (p.drop x.length) else none
/-- A glob's bytes stand for themselves. -/
def Wds (g : Glob) : Prop := g ≠ [] ∧ ∀ x ∈ g, ∀ c ∈ x, starB c = false ∧ c ≠ 47
def tailp : List (List UInt8) → List UInt8
  | [] => []
  | x :: xs => 37 :: (x ++ tailp xs)
theorem gpat_tail : ∀ (x : List UInt8) (xs : List (List UInt8)), gpat (x :: xs) = x ++ tailp xs
  | x, [] => by simp [gpat, jn, tailp]
  | x, y :: ys => by
    have := gpat_tail y ys
    unfold gpat at this ⊢
    rw [jn_cons (by simp), this]; rfl
theorem Mts_fi : ∀ {gs : List (List UInt8)} {a : List UInt8}, (∀ x ∈ gs, ∀ c ∈ x, starB c = false ∧ c ≠ 47) → (47 : UInt8) ∉ a → (Mts gs a ↔ Fi (tailp gs) a)
  | [], a, _, _ => Fi_nil.symm
  | x :: xs, a, hg, ha => by
    rw [show tailp (x :: xs) = 37 :: (x ++ tailp xs) from rfl, Fi_star (by rfl)]
    have hx := hg x (by simp)
    constructor
    · rintro ⟨u, v, rfl, hv⟩
      have h1 : (47 : UInt8) ∉ u ∧ (47 : UInt8) ∉ x ∧ (47 : UInt8) ∉ v := by simpa [not_or] using ha
      exact ⟨u, x ++ v, rfl, .inr h1.1, Fi_app.2 ⟨x, v, rfl, (Fi_word (fun c hc => (hx c hc).1)).2 rfl, (Mts_fi (fun y hy => hg y (by simp [hy])) h1.2.2).1 hv⟩⟩
    · rintro ⟨u, v, rfl, hu, hv⟩
      obtain ⟨y, z, rfl, hy, hz⟩ := Fi_app.1 hv
      have hy' := (Fi_word (fun c hc => (hx c hc).1)).1 hy
      subst hy'
      have h1 : (47 : UInt8) ∉ z := fun h => ha (by simp [h])
      exact ⟨u, z, rfl, (Mts_fi (fun y hy => hg y (by simp [hy])) h1).2 hz⟩
theorem cutP_yes {g : Glob} (hg : Wds g) {p b : List UInt8} (hp : (47 : UInt8) ∉ p) (h : cutP g p = some b) : ∃ a, p = a ++ b ∧ Fi (gpat g) a := by
  cases g with
  | nil => exact absurd rfl hg.1
  | cons x xs =>
    unfold cutP at h
    simp only at h
    split at h
    · rename_i hx
      obtain ⟨t, ht⟩ := List.isPrefixOf_iff_prefix.1 hx
      rw [← ht, List.drop_left' rfl] at h
      obtain ⟨a, ha, hm⟩ := cutL_yes h
      have hw := fun c hc => (hg.2 x (by simp) c hc).1
      refine ⟨x ++ a, by rw [← ht, ha]; simp, ?_⟩
      rw [gpat_tail]
      refine Fi_app.2 ⟨x, a, rfl, (Fi_word hw).2 rfl, (Mts_fi (fun y hy => hg.2 y (by simp [hy])) ?_).1 hm⟩
      intro h47
      exact hp (by rw [← ht, ha]; simp [h47])
    · exact absurd h (by simp)
theorem cutP_max {g : Glob} (hg : Wds g) {p a b : List UInt8} (hp : (47 : UInt8) ∉ p) (h : p = a ++ b) (hf : Fi (gpat g) a) : ∃ b', cutP g p = some b' ∧ b <:+ b' := by
  cases g with
  | nil => exact absurd rfl hg.1
  | cons x xs =>
    rw [gpat_tail] at hf
    obtain ⟨u, v, rfl, hu, hv⟩ := Fi_app.1 hf
    have hw := fun c hc => (hg.2 x (by simp) c hc).1
    have hu' := (Fi_word hw).1 hu
    subst hu'
    have hv47 : (47 : UInt8) ∉ v := fun h47 => hp (by rw [h]; simp [h47])
    have hm := (Mts_fi (fun y hy => hg.2 y (by simp [hy])) hv47).2 hv
    obtain ⟨b', h1, h2⟩ := cutL_max (r := v ++ b) rfl hm
    refine ⟨b', ?_, h2⟩
    unfold cutP
    simp only
    rw [if_pos (List.isPrefixOf_iff_prefix.2 ⟨v ++ b, by rw [h]; simp⟩), h, List.append_assoc, List.drop_left' rfl, h1]
/-- Does a glob fit a part? -/
def fitP (p : List UInt8) (g : Glob) : Bool :=
  if g.length = 1 then p == g.headD [] else (g.getLastD []).isSuffixOf p && (cutP g.dropLast (p.take (p.length - (g.getLastD []).length))).isSome
theorem gpat_last (g : Glob) (hg : g ≠ []) (y : List UInt8) : gpat (g ++ [y]) = gpat g ++ 37 :: y := by
  induction g with
  | nil => exact absurd rfl hg
  | cons x xs ih =>
    cases xs with
    | nil => rfl
    | cons z zs =>
      unfold gpat at ih ⊢
      rw [List.cons_append, jn_cons (by simp), ih (by simp), jn_cons (r := z :: zs) (by simp)]
      simp
theorem fitP_fi {g : Glob} (hg : Wds g) {p : List UInt8} (hp : (47 : UInt8) ∉ p) : fitP p g = true ↔ Fi (gpat g) p := by
  unfold fitP
  split
  · rename_i h1
    obtain ⟨x, rfl⟩ := List.length_eq_one_iff.1 h1
    rw [show gpat [x] = x from rfl, Fi_word (fun c hc => (hg.2 x (by simp) c hc).1)]
    simp
  · rename_i h1
    obtain ⟨g', y, rfl⟩ : ∃ g' y, g = g' ++ [y] := ⟨g.dropLast, g.getLast hg.1, (List.dropLast_concat_getLast hg.1).symm⟩
    have hne : g' ≠ [] := by rintro rfl; simp at h1
    have hg' : Wds g' := ⟨hne, fun x hx => hg.2 x (by simp [hx])⟩
    have hy := fun c hc => hg.2 y (by simp) c hc
    rw [gpat_last g' hne, List.dropLast_concat, show (g' ++ [y]).getLastD [] = y from by simp, Bool.and_eq_true, Fi_app]
    constructor
    · rintro ⟨h2, h3⟩
      obtain ⟨t, ht⟩ := List.isSuffixOf_iff_suffix.1 h2
      have et : p.take (p.length - y.length) = t := by
        rw [← ht, List.length_append, Nat.add_sub_cancel, List.take_left' rfl]
      rw [et] at h3
      obtain ⟨b, hb⟩ := Option.isSome_iff_exists.1 h3
      have ht47 : (47 : UInt8) ∉ t := fun h => hp (by rw [← ht]; simp [h])
      obtain ⟨a, ha, hf⟩ := cutP_yes hg' ht47 hb
      refine ⟨a, b ++ y, by rw [← ht, ha]; simp, hf, (Fi_star (by rfl)).2 ⟨b, y, rfl, .inr ?_, (Fi_word (fun c hc => (hy c hc).1)).2 rfl⟩⟩
      exact fun h => ht47 (by rw [ha]; simp [h])
    · rintro ⟨a, v, hv, hf, hs⟩
      obtain ⟨b, z, rfl, _, hz⟩ := (Fi_star (by rfl)).1 hs
      have hz' := (Fi_word (fun c hc => (hy c hc).1)).1 hz
      subst hz'
      have ep : p = (a ++ b) ++ z := by rw [hv]; simp
      have et : p.take (p.length - z.length) = a ++ b := by
        rw [ep, List.length_append, Nat.add_sub_cancel, List.take_left' rfl]
      refine ⟨List.isSuffixOf_iff_suffix.2 ⟨a ++ b, ep.symm⟩, ?_⟩
      rw [et]
      obtain ⟨b', hb', _⟩ := cutP_max hg' (p := a ++ b) (fun h => hp (by rw [ep]; simp only [List.mem_append] at h ⊢; exact .inl h)) rfl hf
      rw [hb']; rfl
end Go.Proofs.YtelpjiiladbigaaDoor

end
