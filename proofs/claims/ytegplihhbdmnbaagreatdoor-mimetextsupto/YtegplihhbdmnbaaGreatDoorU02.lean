/- Content types: plain mathematics. -/
import Derived.Test.YtegplihhbdmnbaaGreatDoorU01
namespace Go.Proofs.YtegplihhbdmnbaaGreatDoor
/-- A blank. -/
def isBl (c : UInt8) : Bool := c == 32 || c == 9
/-- What no token has in it. -/
def specL : List UInt8 := [40, 41, 60, 62, 64, 44, 59, 58, 92, 34, 47, 91, 93, 63, 61]
/-- A byte of a token. -/
def tokB (c : UInt8) : Bool := decide (33 ≤ c.toNat) && decide (c.toNat ≤ 126) && !(specL.contains c)
/-- Without blanks at its front. -/
def skb (r : List UInt8) : List UInt8 := r.dropWhile isBl
/-- A parameter. -/
structure Pm where
  name : List UInt8
  value : List UInt8
deriving DecidableEq
def tokO (r : List UInt8) : Option (List UInt8 × List UInt8) :=
  if r.takeWhile tokB = [] then none else some (r.takeWhile tokB, skb (r.dropWhile tokB))
def markO (c : UInt8) : List UInt8 → Option (List UInt8)
  | [] => none
  | x :: r => if x = c then some (skb r) else none
/-- What a quoted text means (the flag: behind a slash), and what is behind it. -/
def quoS : Bool → List UInt8 → Option (List UInt8 × List UInt8)
  | _, [] => none
  | true, c :: r => (quoS false r).map fun x => (c :: x.1, x.2)
  | false, c :: r => if c = 34 then some ([], r) else if c = 92 then quoS true r else (quoS false r).map fun x => (c :: x.1, x.2)
def valO : List UInt8 → Option (List UInt8 × List UInt8)
  | [] => none
  | c :: r => if c = 34 then (quoS false r).map fun x => (x.1, skb x.2) else tokO (c :: r)
def paramO (r : List UInt8) : Option (Pm × List UInt8) :=
  (markO 59 r).bind fun r1 => (tokO r1).bind fun n => (markO 61 n.2).bind fun r3 => (valO r3).map fun v => (⟨n.1.map lowB, v.1⟩, v.2)
def paramsF : Nat → List UInt8 → Option (List Pm)
  | 0, _ => none
  | n + 1, r => if r = [] then some [] else (paramO r).bind fun x => (paramsF n x.2).map (x.1 :: ·)
def paramsO (r : List UInt8) : Option (List Pm) := paramsF (r.length + 1) r
def typeO (s : List UInt8) : Option (List UInt8 × List UInt8 × List Pm) :=
  (tokO (skb s)).bind fun t => (markO 47 t.2).bind fun r2 => (tokO r2).bind fun u => (paramsO u.2).map fun ps => (t.1.map lowB, u.1.map lowB, ps)
theorem skb_len (r : List UInt8) : (skb r).length ≤ r.length := by
  have := congrArg List.length (List.takeWhile_append_dropWhile (p := isBl) (l := r))
  rw [List.length_append] at this
  unfold skb
  omega
theorem tokO_len {r t r' : List UInt8} (h : tokO r = some (t, r')) : t.length + r'.length ≤ r.length ∧ t ≠ [] := by
  unfold tokO at h
  split at h
  · cases h
  · next hne =>
    cases h
    have h1 := congrArg List.length (List.takeWhile_append_dropWhile (p := tokB) (l := r))
    rw [List.length_append] at h1
    have h2 := skb_len (r.dropWhile tokB)
    exact ⟨by omega, hne⟩
theorem markO_len {c : UInt8} {r r' : List UInt8} (h : markO c r = some r') : r'.length < r.length := by
  cases r with
  | nil => cases h
  | cons x r =>
    rw [markO] at h
    split at h
    · cases h
      have := skb_len r
      simp
      omega
    · cases h
theorem quoS_len : ∀ {f : Bool} {r m x : List UInt8}, quoS f r = some (m, x) → m.length + x.length < r.length
  | _, [], _, _, h => by unfold quoS at h; cases h
  | true, c :: r, m, x, h => by
    rw [quoS] at h
    obtain ⟨⟨m', x'⟩, h1, h2⟩ := Option.map_eq_some_iff.1 h
    cases h2
    have := quoS_len h1
    simp
    omega
  | false, c :: r, m, x, h => by
    rw [quoS] at h
    split at h
    · cases h
      simp
    · split at h
      · have := quoS_len h
        simp
        omega
      · obtain ⟨⟨m', x'⟩, h1, h2⟩ := Option.map_eq_some_iff.1 h
        cases h2
        have := quoS_len h1
        simp
        omega
theorem valO_len {r v r' : List UInt8} (h : valO r = some (v, r')) : v.length + r'.length ≤ r.length := by
  cases r with
  | nil => cases h
  | cons c r =>
    rw [valO] at h
    split at h
    · obtain ⟨⟨m', x'⟩, h1, h2⟩ := Option.map_eq_some_iff.1 h
      cases h2
      have h3 := quoS_len h1
      have h4 := skb_len x'
      simp
      omega
    · exact (tokO_len h).1
theorem paramO_len {r r' : List UInt8} {p : Pm} (h : paramO r = some (p, r')) : r'.length < r.length ∧ p.name.length + p.value.length + r'.length < r.length := by
  unfold paramO at h
  obtain ⟨r1, h1, h⟩ := Option.bind_eq_some_iff.1 h
  obtain ⟨⟨n, r2⟩, h2, h⟩ := Option.bind_eq_some_iff.1 h
  obtain ⟨r3, h3, h⟩ := Option.bind_eq_some_iff.1 h
  obtain ⟨⟨v, r4⟩, h4, h⟩ := Option.map_eq_some_iff.1 h
  cases h
  have a1 := markO_len h1
  have a2 := (tokO_len h2).1
  have a3 := markO_len h3
  have a4 := valO_len h4
  dsimp only at *
  rw [List.length_map]
  omega
theorem paramsF_fuel : ∀ (n k : Nat) (r : List UInt8), r.length < n → r.length < k → paramsF n r = paramsF k r
  | 0, _, _, h, _ => by omega
  | _, 0, _, _, h => by omega
  | n + 1, k + 1, r, h, h' => by
    rw [paramsF, paramsF]
    split
    · rfl
    · cases hp : paramO r with
      | none => rfl
      | some x =>
        have := (paramO_len (r' := x.2) (p := x.1) hp).1
        show (paramsF n x.2).map _ = (paramsF k x.2).map _
        rw [paramsF_fuel n k x.2 (by omega) (by omega)]
theorem paramsO_nil : paramsO [] = some [] := rfl
theorem paramsO_cons {r : List UInt8} (h : r ≠ []) : paramsO r = (paramO r).bind fun x => (paramsO x.2).map (x.1 :: ·) := by
  unfold paramsO
  rw [paramsF, if_neg h]
  cases hp : paramO r with
  | none => rfl
  | some x =>
    have := (paramO_len (r' := x.2) (p := x.1) hp).1
    show (paramsF _ x.2).map _ = (paramsF _ x.2).map _
    rw [paramsF_fuel r.length (x.2.length + 1) x.2 (by omega) (by omega)]
/-- A word: a token (1), a quoted text (2), another byte (3). -/
structure Wd where
  kind : Nat
  text : List UInt8
def wordsF : Nat → List UInt8 → Option (List Wd)
  | 0, _ => none
  | _ + 1, [] => some []
  | n + 1, c :: r => if isBl c then wordsF n r else if tokB c then (wordsF n ((c :: r).dropWhile tokB)).map (⟨1, (c :: r).takeWhile tokB⟩ :: ·)
    else if c = 34 then (quoS false r).bind fun x => (wordsF n x.2).map (⟨2, x.1⟩ :: ·) else (wordsF n r).map (⟨3, [c]⟩ :: ·)
theorem dropTok_len {c : UInt8} {r : List UInt8} (h : tokB c = true) : ((c :: r).dropWhile tokB).length ≤ r.length := by
  rw [List.dropWhile_cons_of_pos h]
  have := congrArg List.length (List.takeWhile_append_dropWhile (p := tokB) (l := r))
  rw [List.length_append] at this
  omega
theorem wordsF_fuel : ∀ (n k : Nat) (r : List UInt8), r.length < n → r.length < k → wordsF n r = wordsF k r
  | 0, _, _, h, _ => by omega
  | _ + 1, 0, _, _, h => by omega
  | _ + 1, _ + 1, [], _, _ => rfl
  | n + 1, k + 1, c :: r, h, h' => by
    simp only [List.length_cons] at h h'
    rw [wordsF, wordsF]
    split
    · exact wordsF_fuel n k r (by omega) (by omega)
    · split
      · next ht =>
        have := dropTok_len (r := r) ht
        rw [wordsF_fuel n k _ (by omega) (by omega)]
      · split
        · cases hq : quoS false r with
          | none => rfl
          | some x =>
            have := quoS_len (m := x.1) (x := x.2) hq
            show (wordsF n x.2).map _ = (wordsF k x.2).map _
            rw [wordsF_fuel n k x.2 (by omega) (by omega)]
        · rw [wordsF_fuel n k r (by omega) (by omega)]
def wds (s : List UInt8) : Option (List Wd) := wordsF (s.length + 1) s
theorem wds_nil : wds [] = some [] := rfl
theorem wds_bl {c : UInt8} {r : List UInt8} (h : isBl c = true) : wds (c :: r) = wds r := by
  unfold wds
  rw [wordsF, if_pos h]
  rfl
theorem tokB_bl {c : UInt8} (h : tokB c = true) : isBl c = false := by
  unfold tokB at h
  simp at h
  unfold isBl
  simp
  refine ⟨?_, ?_⟩ <;> (rintro rfl; simp at h)
theorem wds_tok {c : UInt8} {r : List UInt8} (h : tokB c = true) : wds (c :: r) = (wds ((c :: r).dropWhile tokB)).map (⟨1, (c :: r).takeWhile tokB⟩ :: ·) := by
  have := dropTok_len (r := r) h
  unfold wds
  rw [wordsF, if_neg (by rw [tokB_bl h]; simp), if_pos h, wordsF_fuel _ (((c :: r).dropWhile tokB).length + 1) _ (by simp; omega) (by omega)]
theorem wds_quo {r : List UInt8} : wds (34 :: r) = (quoS false r).bind fun x => (wds x.2).map (⟨2, x.1⟩ :: ·) := by
  unfold wds
  rw [wordsF, if_neg (by decide), if_neg (by decide), if_pos rfl]
  cases hq : quoS false r with
  | none => rfl
  | some x =>
    have := quoS_len (m := x.1) (x := x.2) hq
    show (wordsF _ x.2).map _ = (wordsF _ x.2).map _
    rw [wordsF_fuel _ (x.2.length + 1) x.2 (by simp; omega) (by omega)]
theorem wds_oth {c : UInt8} {r : List UInt8} (h1 : isBl c = false) (h2 : tokB c = false) (h3 : c ≠ 34) : wds (c :: r) = (wds r).map (⟨3, [c]⟩ :: ·) := by
  unfold wds
  rw [wordsF, if_neg (by simp [h1]), if_neg (by simp [h2]), if_neg h3]
  rfl
theorem wds_skb : ∀ (r : List UInt8), wds (skb r) = wds r
  | [] => rfl
  | c :: r => by
    unfold skb
    by_cases h : isBl c = true
    · rw [List.dropWhile_cons_of_pos h, wds_bl h]
      exact wds_skb r
    · rw [List.dropWhile_cons_of_neg h]
/-- No blank at the front. -/
def NB (r : List UInt8) : Prop := ∀ c x, r = c :: x → isBl c = false
theorem nb_skb : ∀ (r : List UInt8), NB (skb r)
  | [] => fun c x h => by cases h
  | c :: r => by
    unfold skb
    by_cases h : isBl c = true
    · rw [List.dropWhile_cons_of_pos h]
      exact nb_skb r
    · rw [List.dropWhile_cons_of_neg h]
      intro d x e
      cases e
      simpa using h
theorem tok_some {r t r' : List UInt8} (h : tokO r = some (t, r')) : wds r = (wds r').map (⟨1, t⟩ :: ·) ∧ NB r' := by
  unfold tokO at h
  split at h
  · cases h
  · next hne =>
    cases h
    refine ⟨?_, nb_skb _⟩
    cases r with
    | nil => exact absurd rfl hne
    | cons c r =>
      have hc : tokB c = true := by
        cases h : tokB c with
        | true => rfl
        | false => exact absurd (List.takeWhile_cons_of_neg (by simp [h])) hne
      rw [wds_tok hc, wds_skb]
theorem tok_none {r : List UInt8} {l : List Wd} {a : Wd} (h : tokO r = none) (hn : NB r) (hw : wds r = some (a :: l)) : a.kind ≠ 1 := by
  cases r with
  | nil =>
    rw [wds_nil] at hw
    cases hw
  | cons c r =>
    have h1 := hn c r rfl
    have h2 : tokB c = false := by
      cases hc : tokB c with
      | false => rfl
      | true =>
        unfold tokO at h
        rw [List.takeWhile_cons_of_pos hc, if_neg (by simp)] at h
        cases h
    by_cases h3 : c = 34
    · subst h3
      rw [wds_quo] at hw
      obtain ⟨x, _, hw⟩ := Option.bind_eq_some_iff.1 hw
      obtain ⟨y, _, hw⟩ := Option.map_eq_some_iff.1 hw
      cases hw
      simp
    · rw [wds_oth h1 h2 h3] at hw
      obtain ⟨y, _, hw⟩ := Option.map_eq_some_iff.1 hw
      cases hw
      simp
theorem mark_some {c : UInt8} {r r' : List UInt8} (h1 : isBl c = false) (h2 : tokB c = false) (h3 : c ≠ 34) (h : markO c r = some r') : wds r = (wds r').map (⟨3, [c]⟩ :: ·) ∧ NB r' := by
  cases r with
  | nil => cases h
  | cons x r =>
    rw [markO] at h
    split at h
    · next he =>
      cases h
      subst he
      exact ⟨by rw [wds_oth h1 h2 h3, wds_skb], nb_skb _⟩
    · cases h
theorem mark_none {c : UInt8} {r : List UInt8} {l : List Wd} {a : Wd} (h : markO c r = none) (hn : NB r) (hw : wds r = some (a :: l)) : ¬ (a.kind = 3 ∧ a.text = [c]) := by
  rintro ⟨k1, k2⟩
  cases r with
  | nil =>
    rw [wds_nil] at hw
    cases hw
  | cons x r =>
    have h1 := hn x r rfl
    rw [markO] at h
    split at h
    · cases h
    · next hx =>
      by_cases h2 : tokB x = true
      · rw [wds_tok h2] at hw
        obtain ⟨y, _, hw⟩ := Option.map_eq_some_iff.1 hw
        cases hw
        cases k1
      · by_cases h3 : x = 34
        · subst h3
          rw [wds_quo] at hw
          obtain ⟨x, _, hw⟩ := Option.bind_eq_some_iff.1 hw
          obtain ⟨y, _, hw⟩ := Option.map_eq_some_iff.1 hw
          cases hw
          cases k1
        · rw [wds_oth h1 (by simpa using h2) h3] at hw
          obtain ⟨y, _, hw⟩ := Option.map_eq_some_iff.1 hw
          cases hw
          simp at k2
          exact hx k2
theorem val_some {r v r' : List UInt8} (h : valO r = some (v, r')) : ∃ k, k ≠ 3 ∧ wds r = (wds r').map (⟨k, v⟩ :: ·) ∧ NB r' := by
  cases r with
  | nil => cases h
  | cons c r =>
    rw [valO] at h
    split at h
    · next hc =>
      subst hc
      obtain ⟨⟨m, x⟩, h1, h2⟩ := Option.map_eq_some_iff.1 h
      cases h2
      refine ⟨2, by decide, ?_, nb_skb _⟩
      rw [wds_quo, h1]
      show (wds x).map _ = _
      rw [wds_skb]
    · exact ⟨1, by decide, tok_some h⟩
theorem val_none {r : List UInt8} {l : List Wd} {a : Wd} (h : valO r = none) (hn : NB r) (hw : wds r = some (a :: l)) : a.kind = 3 := by
  cases r with
  | nil =>
    rw [wds_nil] at hw
    cases hw
  | cons c r =>
    have h1 := hn c r rfl
    rw [valO] at h
    split at h
    · next hc =>
      subst hc
      rw [wds_quo] at hw
      obtain ⟨x, hx, _⟩ := Option.bind_eq_some_iff.1 hw
      rw [hx] at h
      cases h
    · next hc =>
      have h2 : tokB c = false := by
        cases hc : tokB c with
        | false => rfl
        | true =>
          unfold tokO at h
          rw [List.takeWhile_cons_of_pos hc, if_neg (by simp)] at h
          cases h
      rw [wds_oth h1 h2 hc] at hw
      obtain ⟨y, _, hw⟩ := Option.map_eq_some_iff.1 hw
      cases hw
      rfl
/-- What words behind a content type's head mean. -/
def docP : List Wd → Option (List Pm)
  | [] => some []
  | a :: b :: c :: d :: r => if a.kind = 3 ∧ a.text = [59] ∧ b.kind = 1 ∧ c.kind = 3 ∧ c.text = [61] ∧ d.kind ≠ 3 then (docP r).map (⟨b.text.map lowB, d.text⟩ :: ·) else none
  | [_] => none
  | [_, _] => none
  | [_, _, _] => none
def docT : List Wd → Option (List UInt8 × List UInt8 × List Pm)
  | a :: b :: c :: r => if a.kind = 1 ∧ b.text = [47] ∧ b.kind = 3 ∧ c.kind = 1 then (docP r).map fun ps => (a.text.map lowB, c.text.map lowB, ps) else none
  | _ => none
theorem docP_len : ∀ {l : List Wd} {ps : List Pm}, docP l = some ps → l.length = 4 * ps.length
  | [], ps, h => by cases h; rfl
  | [_], _, h => by cases h
  | [_, _], _, h => by cases h
  | [_, _, _], _, h => by cases h
  | a :: b :: c :: d :: r, ps, h => by
    rw [docP] at h
    split at h
    · obtain ⟨q, h1, h2⟩ := Option.map_eq_some_iff.1 h
      cases h2
      have := docP_len h1
      simp
      omega
    · cases h
theorem params_eq : ∀ (n : Nat) (r : List UInt8), r.length ≤ n → NB r → paramsO r = (wds r).bind docP
  | 0, r, h, _ => by
    cases r with
    | nil => rfl
    | cons c r => simp at h
  | n + 1, r, h, hn => by
    by_cases h0 : r = []
    · subst h0
      rfl
    · rw [paramsO_cons h0]
      have hne : ∀ {l}, wds r = some l → l ≠ [] := by
        intro l hl e
        subst e
        cases r with
        | nil => exact h0 rfl
        | cons c r =>
          have h1 := hn c r rfl
          by_cases h2 : tokB c = true
          · rw [wds_tok h2] at hl
            obtain ⟨y, _, hl⟩ := Option.map_eq_some_iff.1 hl
            cases hl
          · by_cases h3 : c = 34
            · subst h3
              rw [wds_quo] at hl
              obtain ⟨x, _, hl⟩ := Option.bind_eq_some_iff.1 hl
              obtain ⟨y, _, hl⟩ := Option.map_eq_some_iff.1 hl
              cases hl
            · rw [wds_oth h1 (by simpa using h2) h3] at hl
              obtain ⟨y, _, hl⟩ := Option.map_eq_some_iff.1 hl
              cases hl
      unfold paramO
      cases h1 : markO 59 r with
      | none =>
        show none = _
        cases hw : wds r with
        | none => rfl
        | some l =>
          show none = docP l
          rcases l with _ | ⟨a, _ | ⟨b, _ | ⟨c, _ | ⟨d, l⟩⟩⟩⟩
          · exact absurd rfl (hne hw)
          · rfl
          · rfl
          · rfl
          · rw [docP, if_neg]
            rintro ⟨k1, k2, _⟩
            exact mark_none h1 hn hw ⟨k1, k2⟩
      | some r1 =>
        obtain ⟨e1, n1⟩ := mark_some (by decide) (by decide) (by decide) h1
        have l1 := markO_len h1
        rw [e1]
        show ((tokO r1).bind _).bind _ = _
        cases h2 : tokO r1 with
        | none =>
          show none = _
          cases hw : wds r1 with
          | none => rfl
          | some l =>
            show none = docP (_ :: l)
            rcases l with _ | ⟨b, _ | ⟨c, _ | ⟨d, l⟩⟩⟩
            · rfl
            · rfl
            · rfl
            · rw [docP, if_neg]
              rintro ⟨_, _, k3, _⟩
              exact tok_none h2 n1 hw k3
        | some x =>
          obtain ⟨nm, r2⟩ := x
          obtain ⟨e2, n2⟩ := tok_some h2
          have l2 := (tokO_len h2).1
          rw [e2]
          show ((markO 61 r2).bind _).bind _ = _
          cases h3 : markO 61 r2 with
          | none =>
            show none = _
            cases hw : wds r2 with
            | none => rfl
            | some l =>
              show none = docP (_ :: _ :: l)
              rcases l with _ | ⟨c, _ | ⟨d, l⟩⟩
              · rfl
              · rfl
              · rw [docP, if_neg]
                rintro ⟨_, _, _, k4, k5, _⟩
                exact mark_none h3 n2 hw ⟨k4, k5⟩
          | some r3 =>
            obtain ⟨e3, n3⟩ := mark_some (by decide) (by decide) (by decide) h3
            have l3 := markO_len h3
            rw [e3]
            show ((valO r3).map _).bind _ = _
            cases h4 : valO r3 with
            | none =>
              show none = _
              cases hw : wds r3 with
              | none => rfl
              | some l =>
                show none = docP (_ :: _ :: _ :: l)
                rcases l with _ | ⟨d, l⟩
                · rfl
                · rw [docP, if_neg]
                  rintro ⟨_, _, _, _, _, k6⟩
                  exact k6 (val_none h4 n3 hw)
            | some y =>
              obtain ⟨v, r4⟩ := y
              obtain ⟨k, hk, e4, n4⟩ := val_some h4
              have l4 := valO_len h4
              rw [e4]
              show (paramsO r4).map _ = _
              rw [params_eq n r4 (by omega) n4]
              cases hw : wds r4 with
              | none => rfl
              | some l =>
                show (docP l).map _ = docP (_ :: _ :: _ :: _ :: l)
                rw [docP, if_pos ⟨rfl, rfl, rfl, rfl, rfl, hk⟩]
/-- Both readings of a content type's text are the same. -/
theorem type_eq (s : List UInt8) : typeO s = (wds s).bind docT := by
  have n0 := nb_skb s
  rw [← wds_skb s]
  unfold typeO
  generalize skb s = r at *
  cases h1 : tokO r with
  | none =>
    show none = _
    cases hw : wds r with
    | none => rfl
    | some l =>
      show none = docT l
      rcases l with _ | ⟨a, _ | ⟨b, _ | ⟨c, l⟩⟩⟩
      · rfl
      · rfl
      · rfl
      · rw [docT, if_neg]
        rintro ⟨k1, _⟩
        exact tok_none h1 n0 hw k1
  | some x =>
    obtain ⟨t, r1⟩ := x
    obtain ⟨e1, n1⟩ := tok_some h1
    rw [e1]
    show ((markO 47 r1).bind _) = _
    cases h2 : markO 47 r1 with
    | none =>
      show none = _
      cases hw : wds r1 with
      | none => rfl
      | some l =>
        show none = docT (_ :: l)
        rcases l with _ | ⟨b, _ | ⟨c, l⟩⟩
        · rfl
        · rfl
        · rw [docT, if_neg]
          rintro ⟨_, k1, k2, _⟩
          exact mark_none h2 n1 hw ⟨k2, k1⟩
    | some r2 =>
      obtain ⟨e2, n2⟩ := mark_some (by decide) (by decide) (by decide) h2
      rw [e2]
      show ((tokO r2).bind _) = _
      cases h3 : tokO r2 with
      | none =>
        show none = _
        cases hw : wds r2 with
        | none => rfl
        | some l =>
          show none = docT (_ :: _ :: l)
          rcases l with _ | ⟨c, l⟩
          · rfl
          · rw [docT, if_neg]
            rintro ⟨_, _, _, k1⟩
            exact tok_none h3 n2 hw k1
      | some y =>
        obtain ⟨u, r3⟩ := y
        obtain ⟨e3, n3⟩ := tok_some h3
        rw [e3]
        show (paramsO r3).map _ = _
        rw [params_eq r3.length r3 (Nat.le_refl _) n3]
        cases hw : wds r3 with
        | none => rfl
        | some l =>
          show (docP l).map _ = docT (⟨1, t⟩ :: ⟨3, [47]⟩ :: ⟨1, u⟩ :: l)
          rw [docT, if_pos ⟨rfl, rfl, rfl, rfl⟩]
end Go.Proofs.YtegplihhbdmnbaaGreatDoor
