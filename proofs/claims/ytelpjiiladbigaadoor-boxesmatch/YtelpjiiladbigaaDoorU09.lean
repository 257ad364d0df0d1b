/- The search of package boxes in plain lists: runs, and what they fit. -/
/- line and goOn of package header; Body. -/
import Derived.Test.YtelpjiiladbigaaDoorU08
import Derived.Test.YtelpjiiladbigaaDoorU07
import Derived.BigQuiet
import Derived.Deep.QuietTactic
section
namespace Go.Proofs.YtelpjiiladbigaaDoor
def rpat (r : List Glob) : List UInt8 := jn 47 (r.map gpat)
def WdR (r : List Glob) : Prop := r ≠ [] ∧ ∀ g ∈ r, Wds g
def Flat (ps : List (List UInt8)) : Prop := ps ≠ [] ∧ ∀ p ∈ ps, (47 : UInt8) ∉ p
theorem jn_mem {c : UInt8} : ∀ {g : List (List UInt8)} {x : UInt8}, x ∈ jn c g → x = c ∨ ∃ y ∈ g, x ∈ y
  | [], x, h => by simp [jn] at h
  | [p], x, h => .inr ⟨p, by simp, h⟩
  | p :: q :: r, x, h => by
    rw [jn_cons (by simp), List.mem_append, List.mem_cons] at h
    rcases h with h | h | h
    · exact .inr ⟨p, by simp, h⟩
    · exact .inl h
    · rcases jn_mem h with h | ⟨y, hy, hx⟩
      · exact .inl h
      · exact .inr ⟨y, by simp only [List.mem_cons] at hy ⊢; exact .inr hy, hx⟩
theorem gpat_flat {g : Glob} (hg : Wds g) : ∀ c ∈ gpat g, c ≠ 42 ∧ c ≠ 47 := fun c hc => by
  rcases jn_mem hc with rfl | ⟨y, hy, hx⟩
  · decide
  · have := hg.2 y hy c hx
    refine ⟨fun e => ?_, this.2⟩
    rw [e] at this; exact absurd this.1 (by decide)
theorem glob_flat {g : Glob} (hg : Wds g) {a : List UInt8} (h : Fi (gpat g) a) : (47 : UInt8) ∉ a := Fi_flat (gpat_flat hg) h
theorem rpat_one (g : Glob) : rpat [g] = gpat g := rfl
theorem rpat_cons (g : Glob) {r : List Glob} (h : r ≠ []) : rpat (g :: r) = gpat g ++ 47 :: rpat r := by
  unfold rpat
  rw [List.map_cons, jn_cons (by simpa using h)]
theorem slash_inj {p u x y : List UInt8} (hp : (47 : UInt8) ∉ p) (hu : (47 : UInt8) ∉ u) (h : p ++ 47 :: x = u ++ 47 :: y) : p = u ∧ x = y := by
  induction p generalizing u with
  | nil =>
    cases u with
    | nil => simpa using h
    | cons d u => rw [List.nil_append, List.cons_append] at h; injection h with h1 _; exact absurd h1 (fun e => hu (by simp [← e]))
  | cons c p ih =>
    cases u with
    | nil => rw [List.nil_append, List.cons_append] at h; injection h with h1 _; exact absurd h1 (fun e => hp (by simp [e]))
    | cons d u =>
      rw [List.cons_append, List.cons_append] at h
      injection h with h1 h2
      have := ih (fun hh => hp (by simp [hh])) (fun hh => hu (by simp [hh])) h2
      exact ⟨by rw [h1, this.1], this.2⟩
theorem slash_pre {p a b x : List UInt8} (ha : (47 : UInt8) ∉ a) (h : p ++ 47 :: x = a ++ b) : ∃ b', p = a ++ b' ∧ b = b' ++ 47 :: x := by
  induction a generalizing p with
  | nil => exact ⟨p, rfl, h.symm⟩
  | cons d a ih =>
    cases p with
    | nil => rw [List.nil_append, List.cons_append] at h; injection h with h1 _; exact absurd h1 (fun e => ha (by simp [e]))
    | cons c p =>
      rw [List.cons_append, List.cons_append] at h
      injection h with h1 h2
      obtain ⟨b', e1, e2⟩ := ih (fun hh => ha (by simp [hh])) h2
      exact ⟨b', by rw [h1, e1]; rfl, e2⟩
theorem slash_in : ∀ {u : List UInt8}, (47 : UInt8) ∈ u → ∃ x y, u = x ++ 47 :: y ∧ (47 : UInt8) ∉ x
  | [], h => by simp at h
  | c :: u, h => by
    by_cases hc : c = 47
    · exact ⟨[], u, by rw [hc]; rfl, by simp⟩
    · obtain ⟨x, y, rfl, hx⟩ := slash_in (u := u) (by
        rcases List.mem_cons.1 h with h | h
        · exact absurd h.symm hc
        · exact h)
      exact ⟨c :: x, y, rfl, by simp only [List.mem_cons, not_or]; exact ⟨fun e => hc e.symm, hx⟩⟩
theorem Flat.tail {p q : List UInt8} {ps : List (List UInt8)} (h : Flat (p :: q :: ps)) : Flat (q :: ps) := ⟨by simp, fun x hx => h.2 x (by simp only [List.mem_cons] at hx ⊢; exact .inr hx)⟩
/-- Does each glob fit its part? -/
def fitR : List (List UInt8) → List Glob → Bool
  | _, [] => true
  | [], _ :: _ => false
  | p :: ps, g :: gs => fitP p g && fitR ps gs
theorem run_fi : ∀ {r : List Glob} {ps : List (List UInt8)}, WdR r → Flat ps → (Fi (rpat r) (jn 47 ps) ↔ ps.length = r.length ∧ fitR ps r = true)
  | [], _, hr, _ => absurd rfl hr.1
  | [g], [], _, hp => absurd rfl hp.1
  | [g], [p], hr, hp => by
    rw [rpat_one, show jn 47 [p] = p from rfl, ← fitP_fi (hr.2 g (by simp)) (hp.2 p (by simp))]
    simp [fitR]
  | [g], p :: q :: ps, hr, hp => by
    rw [rpat_one]
    constructor
    · intro h
      have := glob_flat (hr.2 g (by simp)) h
      rw [jn_cons (by simp)] at this
      exact absurd (by simp) this
    · rintro ⟨h, _⟩; simp at h
  | g :: g' :: gs, [], _, hp => absurd rfl hp.1
  | g :: g' :: gs, [p], hr, hp => by
    rw [rpat_cons g (by simp)]
    constructor
    · intro h
      obtain ⟨u, v, hv, hu, h2⟩ := Fi_app.1 h
      obtain ⟨t, rfl, _⟩ := (Fi_lit (by rfl)).1 h2
      exact absurd (by rw [show p = u ++ 47 :: t from hv]; simp) (hp.2 p (by simp))
    · rintro ⟨h, _⟩; simp at h
  | g :: g' :: gs, p :: q :: ps, hr, hp => by
    have ih := run_fi (r := g' :: gs) (ps := q :: ps) ⟨by simp, fun x hx => hr.2 x (by simp only [List.mem_cons] at hx ⊢; exact .inr hx)⟩ hp.tail
    have hg := hr.2 g (by simp)
    have hpf := hp.2 p (by simp)
    rw [rpat_cons g (by simp), jn_cons (by simp), Fi_app]
    rw [show fitR (p :: q :: ps) (g :: g' :: gs) = (fitP p g && fitR (q :: ps) (g' :: gs)) from rfl, Bool.and_eq_true, fitP_fi hg hpf]
    constructor
    · rintro ⟨u, v, hv, hu, h2⟩
      obtain ⟨t, rfl, h3⟩ := (Fi_lit (by rfl)).1 h2
      obtain ⟨e1, e2⟩ := slash_inj hpf (glob_flat hg hu) hv
      rw [← e2] at h3
      have := ih.1 h3
      exact ⟨by simpa using this.1, by rw [e1]; exact hu, this.2⟩
    · rintro ⟨h1, h2, h3⟩
      exact ⟨p, 47 :: jn 47 (q :: ps), rfl, h2, (Fi_lit (by rfl)).2 ⟨_, rfl, ih.2 ⟨by simpa using h1, h3⟩⟩⟩
/-- What is behind the shortest front of the parts that a run fits. -/
def cutF : List (List UInt8) → List Glob → Option (List (List UInt8))
  | p :: ps, [g] => (cutP g p).map (· :: ps)
  | p :: ps, g :: g' :: gs => if fitP p g then cutF ps (g' :: gs) else none
  | _, _ => none
theorem jn_suf {b p : List UInt8} (ps : List (List UInt8)) (h : b <:+ p) : jn 47 (b :: ps) <:+ jn 47 (p :: ps) := by
  obtain ⟨t, ht⟩ := h
  cases ps with
  | nil => exact ⟨t, ht⟩
  | cons q ps =>
    rw [jn_cons (p := b) (r := q :: ps) (by simp), jn_cons (p := p) (r := q :: ps) (by simp), ← ht]
    exact ⟨t, by simp⟩
theorem cutP_suf {g : Glob} {p b : List UInt8} (hg : Wds g) (hp : (47 : UInt8) ∉ p) (h : cutP g p = some b) : b <:+ p := by
  obtain ⟨a, ha, _⟩ := cutP_yes hg hp h
  exact ⟨a, ha.symm⟩
theorem cutF_yes : ∀ {r : List Glob} {ps l : List (List UInt8)}, WdR r → Flat ps → cutF ps r = some l → (∃ a, jn 47 ps = a ++ jn 47 l ∧ Fi (rpat r) a) ∧ Flat l ∧ jn 47 l <:+ jn 47 (ps.drop (r.length - 1)) ∧ (∃ y, l = y :: ps.drop r.length) ∧ r.length ≤ ps.length
  | [], _, _, hr, _, _ => absurd rfl hr.1
  | [g], [], _, _, hp, _ => absurd rfl hp.1
  | [g], p :: ps, l, hr, hp, h => by
    rw [cutF] at h
    obtain ⟨b, hb, rfl⟩ := Option.map_eq_some_iff.1 h
    have hpf := hp.2 p (by simp)
    have hs := cutP_suf (hr.2 g (by simp)) hpf hb
    obtain ⟨a, ha, hf⟩ := cutP_yes (hr.2 g (by simp)) hpf hb
    refine ⟨⟨a, ?_, hf⟩, ⟨by simp, fun x hx => ?_⟩, jn_suf ps hs, ⟨b, rfl⟩, by simp⟩
    · cases ps with
      | nil => exact ha
      | cons q ps => rw [jn_cons (p := p) (r := q :: ps) (by simp), jn_cons (p := b) (r := q :: ps) (by simp), ha]; simp
    · rcases List.mem_cons.1 hx with rfl | hx
      · exact fun hh => hpf (by rw [ha]; simp [hh])
      · exact hp.2 x (by simp [hx])
  | g :: g' :: gs, [], _, _, hp, _ => absurd rfl hp.1
  | g :: g' :: gs, [p], _, _, _, h => by
    rw [cutF] at h
    split at h
    · cases gs <;> simp [cutF] at h
    · exact absurd h (by simp)
  | g :: g' :: gs, p :: q :: ps, l, hr, hp, h => by
    rw [cutF] at h
    split at h
    · rename_i hfp
      have hg := hr.2 g (by simp)
      have hpf := hp.2 p (by simp)
      obtain ⟨⟨a, ha, hf⟩, h2, h3, ⟨y, hy⟩, h5⟩ := cutF_yes (r := g' :: gs) (ps := q :: ps) ⟨by simp, fun x hx => hr.2 x (by simp only [List.mem_cons] at hx ⊢; exact .inr hx)⟩ hp.tail h
      refine ⟨⟨p ++ 47 :: a, ?_, ?_⟩, h2, ?_, ⟨y, by simpa using hy⟩, by simp at h5 ⊢; omega⟩
      · rw [jn_cons (by simp), ha]; simp
      · rw [rpat_cons g (by simp)]
        exact Fi_app.2 ⟨p, 47 :: a, rfl, (fitP_fi hg hpf).1 hfp, (Fi_lit (by rfl)).2 ⟨a, rfl, hf⟩⟩
      · simpa using h3
    · exact absurd h (by simp)
theorem cutF_max : ∀ {r : List Glob} {ps : List (List UInt8)} {a b : List UInt8}, WdR r → Flat ps → jn 47 ps = a ++ b → Fi (rpat r) a → ∃ l, cutF ps r = some l ∧ b <:+ jn 47 l
  | [], _, _, _, hr, _, _, _ => absurd rfl hr.1
  | [g], [], _, _, _, hp, _, _ => absurd rfl hp.1
  | [g], [p], a, b, hr, hp, h, hf => by
    obtain ⟨b', h1, h2⟩ := cutP_max (hr.2 g (by simp)) (hp.2 p (by simp)) (show p = a ++ b from h) hf
    exact ⟨[b'], by rw [cutF, h1]; rfl, h2⟩
  | [g], p :: q :: ps, a, b, hr, hp, h, hf => by
    rw [jn_cons (by simp)] at h
    obtain ⟨b', e1, e2⟩ := slash_pre (glob_flat (hr.2 g (by simp)) hf) h
    obtain ⟨b'', h1, h2⟩ := cutP_max (hr.2 g (by simp)) (hp.2 p (by simp)) e1 hf
    refine ⟨b'' :: q :: ps, by rw [cutF, h1]; rfl, ?_⟩
    rw [e2]
    have := jn_suf (q :: ps) h2
    rwa [jn_cons (by simp)] at this
  | g :: g' :: gs, [], _, _, _, hp, _, _ => absurd rfl hp.1
  | g :: g' :: gs, [p], a, b, hr, hp, h, hf => by
    rw [rpat_cons g (by simp)] at hf
    obtain ⟨u, v, rfl, hu, h2⟩ := Fi_app.1 hf
    obtain ⟨t, rfl, _⟩ := (Fi_lit (by rfl)).1 h2
    exact absurd (by rw [show p = _ from h]; simp) (hp.2 p (by simp))
  | g :: g' :: gs, p :: q :: ps, a, b, hr, hp, h, hf => by
    have hg := hr.2 g (by simp)
    have hpf := hp.2 p (by simp)
    rw [rpat_cons g (by simp)] at hf
    obtain ⟨u, v, rfl, hu, h2⟩ := Fi_app.1 hf
    obtain ⟨t, rfl, h3⟩ := (Fi_lit (by rfl)).1 h2
    rw [jn_cons (by simp)] at h
    obtain ⟨e1, e2⟩ := slash_inj hpf (glob_flat hg hu) (y := t ++ b) (by rw [h]; simp)
    obtain ⟨l, h4, h5⟩ := cutF_max (r := g' :: gs) (ps := q :: ps) ⟨by simp, fun x hx => hr.2 x (by simp only [List.mem_cons] at hx ⊢; exact .inr hx)⟩ hp.tail e2 h3
    exact ⟨l, by rw [cutF, if_pos ((fitP_fi hg hpf).2 (by rw [e1]; exact hu)), h4], h5⟩
/-- What is behind the first parts that a run fits. -/
def cutS (r : List Glob) : List (List UInt8) → Option (List (List UInt8))
  | [] => none
  | p :: ps => if (p :: ps).length < r.length then none else match cutF (p :: ps) r with
    | some l => some l
    | none => cutS r ps
theorem jn_drop : ∀ (ps : List (List UInt8)) (k : Nat), k < ps.length → ∃ u, jn 47 ps = u ++ jn 47 (ps.drop k)
  | [], k, h => by simp at h
  | p :: ps, 0, _ => ⟨[], rfl⟩
  | [p], k + 1, h => by simp at h
  | p :: q :: ps, k + 1, h => by
    obtain ⟨u, hu⟩ := jn_drop (q :: ps) k (by simpa using h)
    exact ⟨p ++ 47 :: u, by rw [jn_cons (by simp), hu]; simp⟩
theorem jn_dropS (ps : List (List UInt8)) (k : Nat) : jn 47 (ps.drop k) <:+ jn 47 ps := by
  by_cases h : k < ps.length
  · obtain ⟨u, hu⟩ := jn_drop ps k h
    exact ⟨u, hu.symm⟩
  · rw [List.drop_of_length_le (by omega)]
    exact ⟨jn 47 ps, by simp [jn]⟩
theorem Flat.drop {ps : List (List UInt8)} (h : Flat ps) {k : Nat} (hk : k < ps.length) : Flat (ps.drop k) :=
  ⟨by intro e; have := congrArg List.length e; simp at this; omega, fun x hx => h.2 x (List.mem_of_mem_drop hx)⟩
theorem cutS_yes {r : List Glob} (hr : WdR r) : ∀ {ps l : List (List UInt8)}, Flat ps → cutS r ps = some l → (∃ u a, jn 47 ps = u ++ (a ++ jn 47 l) ∧ Fi (rpat r) a) ∧ Flat l ∧ jn 47 l <:+ jn 47 (ps.drop (r.length - 1))
  | [], _, hp, _ => absurd rfl hp.1
  | p :: ps, l, hp, h => by
    rw [cutS] at h
    split at h
    · exact absurd h (by simp)
    · rename_i hlen
      split at h
      · rename_i l' hl
        injection h with h
        subst h
        obtain ⟨⟨a, ha, hf⟩, h2, h3, _⟩ := cutF_yes hr hp hl
        exact ⟨⟨[], a, ha, hf⟩, h2, h3⟩
      · cases ps with
        | nil => simp [cutS] at h
        | cons q ps =>
          obtain ⟨⟨u, a, ha, hf⟩, h2, h3⟩ := cutS_yes hr hp.tail h
          refine ⟨⟨p ++ 47 :: u, a, by rw [jn_cons (by simp), ha]; simp, hf⟩, h2, ?_⟩
          refine h3.trans ?_
          have := jn_dropS ((p :: q :: ps).drop (r.length - 1)) 1
          rw [List.drop_drop] at this
          rwa [List.drop_succ_cons] at this
theorem Fi_pre {r : List Glob} (hb : ∃ Q, rpat r = 37 :: Q) {u a : List UInt8} (hu : (47 : UInt8) ∉ u) (h : Fi (rpat r) a) : Fi (rpat r) (u ++ a) := by
  obtain ⟨Q, hQ⟩ := hb
  rw [hQ] at h ⊢
  obtain ⟨x, y, rfl, hx, hy⟩ := (Fi_star (by rfl)).1 h
  exact (Fi_star (by rfl)).2 ⟨u ++ x, y, by simp, .inr (by simp [hu, hx.resolve_left (by decide)]), hy⟩
theorem cutS_max {r : List Glob} (hr : WdR r) (hb : ∃ Q, rpat r = 37 :: Q) : ∀ {ps : List (List UInt8)} {u a b : List UInt8}, Flat ps → jn 47 ps = u ++ (a ++ b) → Fi (rpat r) a → ∃ l, cutS r ps = some l ∧ b <:+ jn 47 l
  | [], _, _, _, hp, _, _ => absurd rfl hp.1
  | p :: ps, u, a, b, hp, h, hf => by
    by_cases hu : (47 : UInt8) ∈ u
    · obtain ⟨x, y, rfl, hx⟩ := slash_in hu
      cases ps with
      | nil => exact absurd (by rw [show p = _ from h]; simp) (hp.2 p (by simp))
      | cons q ps =>
        rw [jn_cons (by simp)] at h
        obtain ⟨e1, e2⟩ := slash_inj (hp.2 p (by simp)) hx (y := y ++ (a ++ b)) (by rw [h]; simp)
        obtain ⟨l, hl, hs⟩ := cutS_max hr hb hp.tail e2 hf
        have h3 := (cutS_yes hr hp.tail hl).2.2
        have hlen : ¬ (p :: q :: ps).length < r.length := by
          have hl' := hl
          rw [cutS] at hl'
          split at hl'
          · exact absurd hl' (by simp)
          · rename_i hh
            simp only [List.length_cons] at hh ⊢
            omega
        cases hc : cutF (p :: q :: ps) r with
        | none => exact ⟨l, by rw [cutS, if_neg hlen, hc]; exact hl, hs⟩
        | some l' =>
          refine ⟨l', by rw [cutS, if_neg hlen, hc], ?_⟩
          obtain ⟨_, _, _, ⟨z, hz⟩, _⟩ := cutF_yes hr hp hc
          refine hs.trans (h3.trans ?_)
          have h1 : 1 ≤ r.length := by
            cases r with
            | nil => exact absurd rfl hr.1
            | cons => simp
          have e : (p :: q :: ps).drop r.length = (q :: ps).drop (r.length - 1) := by
            obtain ⟨k, hk⟩ : ∃ k, r.length = k + 1 := ⟨r.length - 1, by omega⟩
            rw [hk]; rfl
          rw [hz, e]
          exact jn_dropS (z :: (q :: ps).drop (r.length - 1)) 1
    · obtain ⟨l, hl, hs⟩ := cutF_max hr hp (a := u ++ a) (b := b) (by rw [h]; simp) (Fi_pre hb hu hf)
      have := (cutF_yes hr hp hl).2.2.2.2
      exact ⟨l, by rw [cutS, if_neg (by omega), hl], hs⟩
/-- Does a run fit the last parts? -/
def endB (ps : List (List UInt8)) (r : List Glob) : Bool := decide (r.length ≤ ps.length) && fitR (ps.drop (ps.length - r.length)) r
theorem endB_fi {r : List Glob} (hr : WdR r) (hb : ∃ Q, rpat r = 37 :: Q) {ps : List (List UInt8)} (hp : Flat ps) : endB ps r = true ↔ Fi (42 :: rpat r) (jn 47 ps) := by
  unfold endB
  rw [Bool.and_eq_true, decide_eq_true_iff, Fi_star (by rfl)]
  have h1 : 1 ≤ r.length := by
    cases r with
    | nil => exact absurd rfl hr.1
    | cons => simp
  constructor
  · rintro ⟨h2, h3⟩
    have hk : ps.length - r.length < ps.length := by omega
    obtain ⟨u, hu⟩ := jn_drop ps _ hk
    exact ⟨u, _, hu, .inl rfl, (run_fi hr (hp.drop hk)).2 ⟨by rw [List.length_drop]; omega, h3⟩⟩
  · rintro ⟨u, a, hu, _, hf⟩
    have key : ∀ (ps : List (List UInt8)) (u : List UInt8), Flat ps → jn 47 ps = u ++ a → r.length ≤ ps.length ∧ fitR (ps.drop (ps.length - r.length)) r = true := by
      intro ps
      induction ps with
      | nil => intro u hp; exact absurd rfl hp.1
      | cons p ps ih =>
        intro u hp hu
        by_cases h47 : (47 : UInt8) ∈ u
        · obtain ⟨x, y, rfl, hx⟩ := slash_in h47
          cases ps with
          | nil => exact absurd (by rw [show p = _ from hu]; simp) (hp.2 p (by simp))
          | cons q ps =>
            rw [jn_cons (by simp)] at hu
            obtain ⟨e1, e2⟩ := slash_inj (hp.2 p (by simp)) hx (y := y ++ a) (by rw [hu]; simp)
            obtain ⟨h2, h3⟩ := ih y hp.tail e2
            refine ⟨by simp at h2 ⊢; omega, ?_⟩
            rw [show (p :: q :: ps).length - r.length = ((q :: ps).length - r.length) + 1 from by simp at h2 ⊢; omega]
            exact h3
        · have := (run_fi hr hp).1 (by rw [hu]; exact Fi_pre hb h47 hf)
          refine ⟨by omega, ?_⟩
          rw [show (p :: ps).length - r.length = 0 from by omega]
          exact this.2
    exact key ps u hp hu
def tailS : List (List Glob) → List UInt8
  | [] => []
  | r :: rs => 42 :: (rpat r ++ tailS rs)
def Pct (r : List Glob) : Prop := WdR r ∧ ∃ Q, rpat r = 37 :: Q
/-- The runs behind the first one. -/
def fitM : List (List UInt8) → List (List Glob) → Bool
  | _, [] => false
  | ps, [r] => endB ps r
  | ps, r :: r' :: rs => match cutS r ps with
    | some l => fitM l (r' :: rs)
    | none => false
theorem star_suf {Q b c : List UInt8} (h : b <:+ c) (hf : Fi (42 :: Q) b) : Fi (42 :: Q) c := by
  obtain ⟨t, rfl⟩ := h
  obtain ⟨u, v, rfl, _, hv⟩ := (Fi_star (by rfl)).1 hf
  exact (Fi_star (by rfl)).2 ⟨t ++ u, v, by simp, .inl rfl, hv⟩
theorem fitM_fi : ∀ {rs : List (List Glob)} {ps : List (List UInt8)}, rs ≠ [] → (∀ r ∈ rs, Pct r) → Flat ps → (fitM ps rs = true ↔ Fi (tailS rs) (jn 47 ps))
  | [], _, h, _, _ => absurd rfl h
  | [r], ps, _, hr, hp => by
    rw [fitM, endB_fi (hr r (by simp)).1 (hr r (by simp)).2 hp, tailS, tailS, List.append_nil]
  | r :: r' :: rs, ps, _, hr, hp => by
    have h1 := hr r (by simp)
    have ih : ∀ l, Flat l → (fitM l (r' :: rs) = true ↔ Fi (tailS (r' :: rs)) (jn 47 l)) := fun l hl => fitM_fi (by simp) (fun x hx => hr x (by simp only [List.mem_cons] at hx ⊢; exact .inr hx)) hl
    rw [fitM, show tailS (r :: r' :: rs) = 42 :: (rpat r ++ tailS (r' :: rs)) from rfl, Fi_star (by rfl)]
    constructor
    · intro h
      cases hc : cutS r ps with
      | none => rw [hc] at h; exact absurd h (by simp)
      | some l =>
        rw [hc] at h
        obtain ⟨⟨u, a, ha, hf⟩, hl, _⟩ := cutS_yes h1.1 hp hc
        exact ⟨u, _, ha, .inl rfl, Fi_app.2 ⟨a, _, rfl, hf, (ih l hl).1 h⟩⟩
    · rintro ⟨u, v, hu, _, hf⟩
      obtain ⟨a, b, rfl, ha, hb⟩ := Fi_app.1 hf
      obtain ⟨l, hl, hs⟩ := cutS_max h1.1 h1.2 hp hu ha
      rw [hl]
      exact (ih l (cutS_yes h1.1 hp hl).2.1).2 (star_suf hs hb)
/-- All runs against all parts. -/
def fitA (runs : List (List Glob)) (ps : List (List UInt8)) : Bool :=
  match runs with
  | [] => false
  | [r] => decide (ps.length = r.length) && endB ps r
  | r :: r' :: rs => match cutF ps r with
    | some l => fitM l (r' :: rs)
    | none => false
theorem fitA_fi {r : List Glob} {rs : List (List Glob)} {ps : List (List UInt8)} (hr : WdR r) (hrs : ∀ x ∈ rs, Pct x) (hp : Flat ps) : fitA (r :: rs) ps = true ↔ Fi (rpat r ++ tailS rs) (jn 47 ps) := by
  cases rs with
  | nil =>
    unfold fitA
    simp only
    rw [tailS, List.append_nil, run_fi hr hp, Bool.and_eq_true, decide_eq_true_iff, endB]
    constructor
    · rintro ⟨h1, h2⟩
      rw [Bool.and_eq_true, show ps.length - r.length = 0 from by omega] at h2
      exact ⟨h1, h2.2⟩
    · rintro ⟨h1, h2⟩
      refine ⟨h1, ?_⟩
      rw [show ps.length - r.length = 0 from by omega]
      simp [h1, h2]
  | cons r' rs =>
    unfold fitA
    simp only
    rw [Fi_app]
    constructor
    · intro h
      cases hc : cutF ps r with
      | none => rw [hc] at h; exact absurd h (by simp)
      | some l =>
        rw [hc] at h
        obtain ⟨⟨a, ha, hf⟩, hl, _⟩ := cutF_yes hr hp hc
        exact ⟨a, _, ha, hf, (fitM_fi (by simp) hrs hl).1 h⟩
    · rintro ⟨a, b, hu, ha, hb⟩
      obtain ⟨l, hl, hs⟩ := cutF_max hr hp hu ha
      rw [hl]
      exact (fitM_fi (by simp) hrs (cutF_yes hr hp hl).2.1).2 (star_suf hs hb)
/-- The runs of a pattern. -/
def runL (t : List UInt8) : List Glob := (spc 47 t).map (spc 37)
def runsT : List (List UInt8) → List (List Glob)
  | [] => []
  | t :: ts => runL t :: ts.map (fun t => runL (37 :: t))
def runsL (P : List UInt8) : List (List Glob) := runsT (spc 42 (simL P))
theorem rpat_runL (t : List UInt8) : rpat (runL t) = t := by
  unfold rpat runL
  rw [List.map_map, show gpat ∘ spc 37 = id from funext fun x => jn_spc 37 x, List.map_id, jn_spc]
theorem runL_wd {t : List UInt8} (h : (42 : UInt8) ∉ t) : WdR (runL t) := by
  refine ⟨by simpa [runL] using spc_ne 47 t, fun g hg => ?_⟩
  obtain ⟨p, hp, rfl⟩ := List.mem_map.1 hg
  obtain ⟨h1, h2⟩ := spc_in t p hp
  refine ⟨spc_ne 37 p, fun x hx c hc => ?_⟩
  obtain ⟨h3, h4⟩ := spc_in p x hx
  have e42 : c ≠ 42 := fun e => h (e ▸ h2 c (h4 c hc))
  have e37 : c ≠ 37 := fun e => h3 (e ▸ hc)
  exact ⟨by simp [starB, e42, e37], fun e => h1 (e ▸ h4 c hc)⟩
theorem tails_fi : ∀ (ts : List (List UInt8)) (a : List UInt8), Fi (tailS (ts.map (fun t => runL (37 :: t)))) a ↔ Fi (ts.flatMap (fun t => 42 :: t)) a
  | [], a => Iff.rfl
  | t :: ts, a => by
    rw [List.map_cons, tailS, rpat_runL, List.flatMap_cons, List.cons_append, Fi_two (e := 42) (by rfl) (by rfl) (by simp) _ a]
    rw [show (42 : UInt8) :: (t ++ tailS (ts.map fun t => runL (37 :: t))) = (42 :: t) ++ tailS (ts.map fun t => runL (37 :: t)) from rfl]
    exact Fi_congr (tails_fi ts) a
theorem jn_flat (c : UInt8) : ∀ (t : List UInt8) (ts : List (List UInt8)), jn c (t :: ts) = t ++ ts.flatMap (fun t => c :: t)
  | t, [] => by simp [jn]
  | t, q :: ts => by
    rw [jn_cons (by simp), jn_flat c q ts]; simp
/-- What package boxes finds is what the pattern fits. -/
theorem runs_fi (P N : List UInt8) : fitA (runsL P) (spc 47 N) = fit false P N := by
  rw [Bool.eq_iff_iff]
  show _ ↔ Fi P N
  rw [← simL_fi P N]
  unfold runsL
  generalize hS : simL P = S
  have hin := spc_in (c := 42) S
  have hj := jn_spc 42 S
  cases hs : spc 42 S with
  | nil => exact absurd hs (spc_ne 42 S)
  | cons t ts =>
    rw [hs] at hin hj
    have hp : Flat (spc 47 N) := ⟨spc_ne 47 N, fun p h => (spc_in N p h).1⟩
    rw [runsT, fitA_fi (runL_wd (hin t (by simp)).1) ?_ hp, rpat_runL, jn_spc]
    · rw [Fi_congr (tails_fi ts) N, ← jn_flat 42 t ts, hj]
    · intro x hx
      obtain ⟨y, hy, rfl⟩ := List.mem_map.1 hx
      refine ⟨runL_wd ?_, ⟨y, rpat_runL _⟩⟩
      have := (hin y (by simp [hy])).1
      simp [this]
end Go.Proofs.YtelpjiiladbigaaDoor

end
section
namespace Go.Proofs.YtelpjiiladbigaaDoor
open Go.RowKit Go.Shelf
/-- Where a line begins in a message, and what is behind it. -/
structure AtL (m pre : List UInt8) (ls : List (List UInt8)) : Prop where
  eq : m = pre ++ ls.flatten
  ok : LOK ls
theorem AtL.next {m pre x : List UInt8} {r : List (List UInt8)} (h : AtL m pre (x :: r)) : AtL m (pre ++ x) r := ⟨by rw [h.eq]; simp, h.ok.2⟩
theorem AtL.start (m : List UInt8) : AtL m [] (splitS m) := ⟨by rw [splitS_flat]; rfl, lok m⟩
theorem AtL.skip {m pre : List UInt8} {g r : List (List UInt8)} (h : AtL m pre (g ++ r)) : AtL m (pre ++ g.flatten) r := ⟨by rw [h.eq]; simp, h.ok.right⟩
/-- The blanks. -/
theorem blank_in (c : UInt8) (h : c = 32 ∨ c = 9) : 0 ≤ Lib.indexByte [32, 9] c := by
  rcases h with rfl | rfl <;> decide
theorem blank_out (c : UInt8) (h : ¬ (c = 32 ∨ c = 9)) : Lib.indexByte [32, 9] c = -1 := by
  refine index_out ?_
  simp only [List.mem_cons, List.not_mem_nil, or_false]
  exact h
theorem blB_cons {c : UInt8} {y : List UInt8} : blB (c :: y) = true ↔ (c = 32 ∨ c = 9) := by simp [blB]
end Go.Proofs.YtelpjiiladbigaaDoor

end
