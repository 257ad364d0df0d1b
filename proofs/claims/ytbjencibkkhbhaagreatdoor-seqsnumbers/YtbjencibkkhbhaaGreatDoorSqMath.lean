/- Sets of numbers and flags, in plain lists. -/
import Derived.Test.YtbjencibkkhbhaaGreatDoorSeMath
import Derived.Test.YtbjencibkkhbhaaGreatDoorBoMath2
namespace Go.Proofs.YtbjencibkkhbhaaGreatDoor
/-- The number of a text; 0: it is none. -/
def sqN (t : List UInt8) : Nat := if (1 ≤ t.length ∧ t.length ≤ 10) ∧ t.head? ≠ some 48 ∧ t.all dgB = true ∧ valD 0 t ≤ 2147483648 then valD 0 t else 0
theorem sqN_le (t : List UInt8) : sqN t ≤ 2147483648 := by
  unfold sqN
  split
  · rename_i h; exact h.2.2.2
  · omega
theorem valD_pos {t : List UInt8} (h1 : 1 ≤ t.length) (h2 : t.head? ≠ some 48) (h3 : t.all dgB = true) : 1 ≤ valD 0 t := by
  refine (dec_valD t.length t (Nat.le_refl _) (fun e => by simp [e] at h1) (fun c hc => List.all_eq_true.1 h3 c hc) (fun c r e hc => h2 (by rw [e, hc]; rfl))).2
theorem valD_lt : ∀ (l : List UInt8) (acc : Nat), l.all dgB = true → valD acc l < (acc + 1) * 10 ^ l.length
  | [], acc, _ => by rw [valD_nil]; simp
  | c :: r, acc, h => by
    rw [List.all_cons, Bool.and_eq_true] at h
    have ih := valD_lt r (acc * 10 + (c.toNat - 48)) h.2
    have hc : c.toNat ≤ 57 := by have := h.1; simp [dgB] at this; omega
    rw [valD_cons, List.length_cons, Nat.pow_succ]
    refine Nat.lt_of_lt_of_le ih ?_
    have : acc * 10 + (c.toNat - 48) + 1 ≤ (acc + 1) * 10 := by omega
    calc _ ≤ (acc + 1) * 10 * 10 ^ r.length := Nat.mul_le_mul_right _ this
      _ = (acc + 1) * (10 ^ r.length * 10) := by rw [Nat.mul_assoc, Nat.mul_comm 10]
theorem valD_max {l : List UInt8} (h : l.all dgB = true) (hl : l.length ≤ 10) : valD 0 l < 10000000000 := by
  have h1 := valD_lt l 0 h
  have h2 : 10 ^ l.length ≤ 10 ^ 10 := Nat.pow_le_pow_right (by omega) hl
  omega
theorem valD_snoc (l : List UInt8) (c : UInt8) : valD 0 (l ++ [c]) = valD 0 l * 10 + (c.toNat - 48) := by rw [valD_app]; rfl
/-- One end of a range. -/
def sqE (t : List UInt8) : Option Nat := if t = [42] then some 0 else if sqN t = 0 then none else some (sqN t)
theorem sqN_star : sqN [42] = 0 := by decide
theorem sqE_val (t : List UInt8) : sqE t = if sqN t = 0 ∧ t ≠ [42] then none else some (sqN t) := by
  unfold sqE
  by_cases h : t = [42]
  · subst h
    rw [if_pos rfl, if_neg (fun h => h.2 rfl), sqN_star]
  · rw [if_neg h]
    by_cases h0 : sqN t = 0
    · rw [if_pos h0, if_pos ⟨h0, h⟩]
    · rw [if_neg h0, if_neg (fun e => h0 e.1)]
/-- An item: one end, or two. -/
def sqI (item : List UInt8) : Option (Nat × Nat) := match spc 58 item with
  | [a] => (sqE a).map fun x => (x, x)
  | [a, b] => (sqE a).bind fun x => (sqE b).map fun y => (x, y)
  | _ => none
def sqS (s : List UInt8) : Option (List (Nat × Nat)) := if (spc 44 s).length ≤ 50 then (spc 44 s).mapM sqI else none
/-- Texts of ends, items and sets. -/
def sqT1 (n : Nat) : List UInt8 := if n = 0 then [42] else Lib.decDigits n
def sqTI (r : Nat × Nat) : List UInt8 := if r.1 = r.2 then sqT1 r.1 else sqT1 r.1 ++ 58 :: sqT1 r.2
def sqT (set : List (Nat × Nat)) : List UInt8 := jn 44 (set.map sqTI)
theorem nd_le : ∀ (k u : Nat), u < 10 ^ (k + 1) → Lib.nDigits u ≤ k + 1
  | 0, u, h => by rw [Lib.nDigits_small (by simpa using h)]; exact Nat.le_refl _
  | k + 1, u, h => by
    by_cases h10 : u < 10
    · rw [Lib.nDigits_small h10]; omega
    · have := nd_le k (u / 10) (by rw [Nat.pow_succ] at h; omega)
      rw [Lib.nDigits_big h10]
      omega
theorem sq_len {u : Nat} (h : u ≤ 2147483648) : (Lib.decDigits u).length ≤ 10 := by
  rw [Lib.decDigits_length]
  exact nd_le 9 u (by omega)
theorem sqN_dec {u : Nat} (h1 : 1 ≤ u) (h2 : u ≤ 2147483648) : sqN (Lib.decDigits u) = u := by
  have hv := valD_dec u u (Nat.le_refl _)
  have hne := dec_ne u
  unfold sqN
  rw [if_pos, hv]
  refine ⟨⟨List.length_pos_iff.2 hne, sq_len h2⟩, ?_, List.all_eq_true.2 (dec_all u u (Nat.le_refl _)), by rw [hv]; exact h2⟩
  cases hd : Lib.decDigits u with
  | nil => exact absurd hd hne
  | cons c r =>
    have := dec_head u u (Nat.le_refl _) h1 c r hd
    simpa using this
theorem sqE_back {n : Nat} (h : n ≤ 2147483648) : sqE (sqT1 n) = some n := by
  unfold sqT1
  by_cases h0 : n = 0
  · rw [if_pos h0, h0]; rfl
  · rw [if_neg h0]
    unfold sqE
    rw [sqN_dec (by omega) h, if_neg h0, if_neg]
    intro e
    have := dec_all n n (Nat.le_refl _) 42 (by rw [e]; simp)
    revert this
    decide
theorem sqT1_no (n : Nat) (c : UInt8) (hc : dgB c = false) (h42 : c ≠ 42) : c ∉ sqT1 n := by
  unfold sqT1
  split
  · simpa using h42
  · intro h
    have := dec_all n n (Nat.le_refl _) c h
    rw [hc] at this
    cases this
theorem sqI_back {r : Nat × Nat} (h1 : r.1 ≤ 2147483648) (h2 : r.2 ≤ 2147483648) : sqI (sqTI r) = some r := by
  obtain ⟨a, b⟩ := r
  have n1 := sqT1_no a 58 (by decide) (by decide)
  have n2 := sqT1_no b 58 (by decide) (by decide)
  unfold sqTI sqI
  by_cases e : a = b
  · subst e
    rw [if_pos rfl, spc_end n1]
    show (sqE (sqT1 a)).map (fun x => (x, x)) = _
    rw [sqE_back h1]
    rfl
  · rw [if_neg e, spc_mid _ n1, spc_end n2]
    show (sqE (sqT1 a)).bind (fun x => (sqE (sqT1 b)).map fun y => (x, y)) = _
    rw [sqE_back h1, sqE_back h2]
    rfl
theorem spc_jn {c : UInt8} : ∀ (ts : List (List UInt8)), ts ≠ [] → (∀ t ∈ ts, c ∉ t) → spc c (jn c ts) = ts
  | [], h, _ => absurd rfl h
  | [t], _, h => spc_end (h t (by simp))
  | t :: u :: ts, _, h => by
    rw [jn_cons (by simp), spc_mid _ (h t (by simp)), spc_jn (u :: ts) (by simp) (fun x hx => h x (by simp only [List.mem_cons] at hx ⊢; exact .inr hx))]
theorem mapM_some {α β : Type} {f : α → Option β} {g : β → α} : ∀ (l : List β), (∀ x ∈ l, f (g x) = some x) → (l.map g).mapM f = some l
  | [], _ => rfl
  | x :: l, h => by
    rw [List.map_cons, List.mapM_cons, h x (by simp), mapM_some l (fun y hy => h y (by simp [hy]))]
    rfl
/-- A set's text is read back. -/
theorem sq_back {set : List (Nat × Nat)} (h0 : set ≠ []) (hl : set.length ≤ 50) (h : ∀ r ∈ set, r.1 ≤ 2147483648 ∧ r.2 ≤ 2147483648) : sqS (sqT set) = some set := by
  have hs : spc 44 (sqT set) = set.map sqTI := by
    unfold sqT
    refine spc_jn _ (by simpa using h0) (fun t ht => ?_)
    obtain ⟨r, _, rfl⟩ := List.mem_map.1 ht
    have n1 := sqT1_no r.1 44 (by decide) (by decide)
    have n2 := sqT1_no r.2 44 (by decide) (by decide)
    unfold sqTI
    split
    · exact n1
    · intro hm
      rcases List.mem_append.1 hm with hm | hm
      · exact n1 hm
      · rcases List.mem_cons.1 hm with hm | hm
        · revert hm; decide
        · exact n2 hm
  unfold sqS
  rw [hs, if_pos (by rw [List.length_map]; exact hl)]
  exact mapM_some set (fun r hr => sqI_back (h r hr).1 (h r hr).2)
/-- A text cut at a byte, under way: what stands from k on, of which the bytes up to i are not c. -/
theorem cut_hit {c : UInt8} {s : List UInt8} {k i : Nat} (hk : k ≤ i) (hi : i < s.length) (hc : s[i] = c) (h : ∀ j (hj : j < s.length), k ≤ j → j < i → s[j] ≠ c) : spc c (s.drop k) = ((s.drop k).take (i - k)) :: spc c (s.drop (i + 1)) := by
  have e : s.drop k = (s.drop k).take (i - k) ++ c :: s.drop (i + 1) := by
    conv => lhs; rw [← List.take_append_drop (i - k) (s.drop k)]
    rw [List.drop_drop, show k + (i - k) = i from by omega, List.drop_eq_getElem_cons hi, hc]
  conv => lhs; rw [e]
  refine spc_mid _ (fun hm => ?_)
  obtain ⟨j, hj, he⟩ := List.mem_iff_getElem.1 hm
  rw [List.length_take, List.length_drop] at hj
  rw [List.getElem_take, List.getElem_drop] at he
  exact h (k + j) (by omega) (by omega) (by omega) he
theorem cut_last {c : UInt8} {s : List UInt8} {k : Nat} (h : ∀ j (hj : j < s.length), k ≤ j → s[j] ≠ c) : spc c (s.drop k) = [s.drop k] := by
  refine spc_end (fun hm => ?_)
  obtain ⟨j, hj, he⟩ := List.mem_iff_getElem.1 hm
  rw [List.length_drop] at hj
  rw [List.getElem_drop] at he
  exact h (k + j) (by omega) (by omega) he
theorem jn_snoc {c : UInt8} (t : List UInt8) : ∀ (ts : List (List UInt8)), ts ≠ [] → jn c (ts ++ [t]) = jn c ts ++ c :: t
  | [], h => absurd rfl h
  | [a], _ => rfl
  | a :: b :: ts, _ => by
    rw [List.cons_append, jn_cons (by simp), jn_snoc t (b :: ts) (by simp), jn_cons (r := b :: ts) (by simp)]
    simp
/-- The text of a set of whatever numbers; none: it has none. -/
def rgOk (r : Int × Int) : Bool := decide (0 ≤ r.1) && decide (0 ≤ r.2) && decide (r.1 ≤ 2147483648) && decide (r.2 ≤ 2147483648)
def ratN (r : Int × Int) : Nat × Nat := (r.1.toNat, r.2.toNat)
def txO (rs : List (Int × Int)) : Option (List UInt8) := if rs.all rgOk = true ∧ 1 ≤ rs.length ∧ rs.length ≤ 50 then some (sqT (rs.map ratN)) else none
theorem sqT1_len {n : Nat} (h : n ≤ 2147483648) : (sqT1 n).length ≤ 10 := by
  unfold sqT1
  split
  · simp
  · exact sq_len h
theorem sqT_next {rs : List (Nat × Nat)} {i : Nat} (h : i < rs.length) : sqT (rs.take (i + 1)) = (if i = 0 then [] else sqT (rs.take i) ++ [44]) ++ sqTI rs[i] := by
  unfold sqT
  rw [List.take_succ_eq_append_getElem h, List.map_append]
  by_cases h0 : i = 0
  · subst h0
    rw [if_pos rfl]
    rfl
  · rw [if_neg h0]
    have hne : (rs.take i).map sqTI ≠ [] := by
      intro e
      have := congrArg List.length e
      rw [List.length_map, List.length_take, List.length_nil] at this
      omega
    show jn 44 ((rs.take i).map sqTI ++ [sqTI rs[i]]) = _
    rw [jn_snoc _ _ hne]
    simp
/-- Whether a range has a number; a set. -/
def sqH (r : Int × Int) (n mx : Int) : Bool :=
  let m := if mx < 0 then 0 else mx
  let a := if r.1 = 0 then m else r.1
  let b := if r.2 = 0 then m else r.2
  decide (1 ≤ n) && ((decide (a ≤ n) && decide (n ≤ b)) || (decide (b ≤ n) && decide (n ≤ a)))
def sqIn (set : List (Int × Int)) (n mx : Int) : Bool := set.any fun r => sqH r n mx
def sqOf (set : List (Int × Int)) (ns : List Int) : List Int := ns.filter fun n => sqIn set n (ns.getLastD 0)
theorem sqH_turn (a b n mx : Int) : sqH (a, b) n mx = sqH (b, a) n mx := by
  unfold sqH
  dsimp only
  rw [Bool.or_comm]
theorem sqH_star (n mx : Int) : sqH (0, 0) n mx = (decide (1 ≤ n) && decide (n = mx)) := by
  unfold sqH
  dsimp only
  simp only [if_true]
  rw [Bool.eq_iff_iff]
  simp
  intro h
  split <;> omega
theorem sqIn_app (a b : List (Int × Int)) (n mx : Int) : sqIn (a ++ b) n mx = (sqIn a n mx || sqIn b n mx) := List.any_append
/-- Items read one behind the other. -/
theorem mapM_none {α β : Type} {f : α → Option β} : ∀ (l : List α) (k : Nat) (h : k < l.length), f l[k] = none → l.mapM f = none
  | x :: l, 0, _, h => by
    rw [List.mapM_cons]
    have h' : f x = none := h
    rw [h']
    rfl
  | x :: l, k + 1, hk, h => by
    rw [List.mapM_cons, mapM_none l k (by simpa using hk) (by simpa using h)]
    cases f x <;> rfl
theorem mapM_snoc {α β : Type} {f : α → Option β} {y : β} : ∀ (l : List α) (x : α) (out : List β), l.mapM f = some out → f x = some y → (l ++ [x]).mapM f = some (out ++ [y])
  | [], x, out, h, hx => by
    cases h
    show ([x] : List α).mapM f = _
    rw [List.mapM_cons, hx]
    rfl
  | z :: l, x, out, h, hx => by
    rw [List.mapM_cons] at h
    rw [List.cons_append, List.mapM_cons]
    cases hz : f z with
    | none => rw [hz] at h; cases h
    | some a =>
      rw [hz] at h
      cases hl : l.mapM f with
      | none => rw [hl] at h; cases h
      | some o =>
        rw [hl] at h
        cases h
        rw [mapM_snoc l x o hl hx]
        rfl
theorem mapM_len {α β : Type} {f : α → Option β} : ∀ (l : List α) (out : List β), l.mapM f = some out → out.length = l.length
  | [], out, h => by cases h; rfl
  | z :: l, out, h => by
    rw [List.mapM_cons] at h
    cases hz : f z with
    | none => rw [hz] at h; cases h
    | some a =>
      rw [hz] at h
      cases hl : l.mapM f with
      | none => rw [hl] at h; cases h
      | some o =>
        rw [hl] at h
        cases h
        rw [List.length_cons, List.length_cons, mapM_len l o hl]
theorem sqI_long {item : List UInt8} (h : 2 < (spc 58 item).length) : sqI item = none := by
  unfold sqI
  match spc 58 item, h with
  | _ :: _ :: _ :: _, _ => rfl
theorem sqI_bad {item : List UInt8} {j : Nat} (hj : j < (spc 58 item).length) (h : sqE (spc 58 item)[j] = none) : sqI item = none := by
  unfold sqI
  generalize spc 58 item = l at *
  match l, j, hj, h with
  | [a], 0, _, h => have h' : sqE a = none := h; simp [h']
  | [a, b], 0, _, h => have h' : sqE a = none := h; simp [h']
  | [a, b], 1, _, h =>
    have h' : sqE b = none := h
    simp [h']
  | _ :: _ :: _ :: _, _, _, _ => rfl
theorem sqI_good {item : List UInt8} (hl : (spc 58 item).length ≤ 2) (h : ∀ t ∈ spc 58 item, sqE t = some (sqN t)) : ∃ a b, sqI item = some (a, b) ∧ ((spc 58 item).map sqN)[0]? = some a ∧ ((spc 58 item).map sqN)[(spc 58 item).length - 1]? = some b := by
  have hne := spc_ne 58 item
  unfold sqI
  generalize spc 58 item = l at *
  match l, hl, h, hne with
  | [a], _, h, _ => exact ⟨sqN a, sqN a, by simp [h a (by simp)], rfl, rfl⟩
  | [a, b], _, h, _ => exact ⟨sqN a, sqN b, by simp [h a (by simp), h b (by simp)], rfl, rfl⟩
/-- The flags' names, in order. -/
def flN : List (List UInt8) := [[92, 83, 101, 101, 110], [92, 65, 110, 115, 119, 101, 114, 101, 100], [92, 70, 108, 97, 103, 103, 101, 100], [92, 68, 101, 108, 101, 116, 101, 100], [92, 68, 114, 97, 102, 116]]
/-- A word against the first names: the bits of those that it is, whether it is one. -/
def flA (l : List UInt8) : Nat → Nat
  | 0 => 0
  | i + 1 => if l = (flN.getD i []).map lowB then flA l i ||| 2 ^ i else flA l i
def flK (l : List UInt8) : Nat → Bool
  | 0 => false
  | i + 1 => if l = (flN.getD i []).map lowB then true else flK l i
/-- The bit of a word: none, if it is no flag's name. -/
def flW (w : List UInt8) : Option Nat := if flK (w.map lowB) 5 then some (flA (w.map lowB) 5) else none
theorem flA_lt (l : List UInt8) : ∀ i, i ≤ 5 → flA l i < 32
  | 0, _ => by simp [flA]
  | i + 1, h => by
    have ih := flA_lt l i (by omega)
    unfold flA
    split
    · exact Nat.or_lt_two_pow (n := 5) ih (Nat.pow_lt_pow_right (by omega) (by omega))
    · exact ih
def flF : Nat → List (List UInt8) → Option Nat
  | f, [] => some f
  | f, w :: ws => (flW w).bind fun b => flF (f ||| b) ws
/-- The flags of a text. -/
def flO (s : List UInt8) : Option Nat := if s.length < 2 ∨ s.head? ≠ some 40 ∨ s.getLast? ≠ some 41 then none else if s.length = 2 then some 0 else flF 0 (spc 32 ((s.drop 1).take (s.length - 2)))
/-- Flags' text. -/
def flT (f : Nat) : List UInt8 := 40 :: (jn 32 ((List.range 5).filterMap fun i => if f.testBit i then flN[i]? else none) ++ [41])
theorem fl_back : ∀ f, f < 32 → flO (flT f) = some f := by decide +kernel
end Go.Proofs.YtbjencibkkhbhaaGreatDoor
