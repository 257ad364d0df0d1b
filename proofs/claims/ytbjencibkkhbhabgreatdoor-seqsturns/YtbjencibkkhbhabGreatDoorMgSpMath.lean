/- The spans of a set, sorted, each with the greatest end of all ahead of it: whether one of them has a number. Plain lists. -/
/- Numbers, items, sets and flags, as the program reads them: plain lists. -/
import Derived.Test.YtbjencibkkhbhabGreatDoorMgQMath
section
set_option linter.unusedVariables false
namespace Go.Proofs.YtbjencibkkhbhabGreatDoor
def spE (mx e : Int) : Int := if e = 0 ∧ 0 < mx then mx else e
def spn (mx : Int) (r : Int × Int) : Int × Int := (min (spE mx r.1) (spE mx r.2), max (spE mx r.1) (spE mx r.2))
def spH (n : Int) (s : Int × Int) : Bool := decide (s.1 ≤ n) && decide (n ≤ s.2)
theorem spn_has (r : Int × Int) (n mx : Int) : sqH r n mx = (decide (1 ≤ n) && spH n (spn mx r)) := by
  obtain ⟨x, y⟩ := r
  unfold sqH spH spn spE
  dsimp only
  rw [Bool.eq_iff_iff]
  simp only [Bool.and_eq_true, Bool.or_eq_true, decide_eq_true_eq]
  by_cases hm : mx < 0
  · rw [if_pos hm, if_neg (show ¬ (x = 0 ∧ 0 < mx) by omega), if_neg (show ¬ (y = 0 ∧ 0 < mx) by omega)]
    split <;> split <;> omega
  · rw [if_neg hm]
    split <;> split <;> split <;> split <;> omega
theorem sqIn_spn (set : List (Int × Int)) (n mx : Int) : sqIn set n mx = (decide (1 ≤ n) && (set.map (spn mx)).any (spH n)) := by
  unfold sqIn
  induction set with
  | nil => simp
  | cons r set ih =>
    rw [List.any_cons, ih, List.map_cons, List.any_cons, spn_has]
    cases decide (1 ≤ n) <;> simp
/-- M: D, with the greatest end of all up to each, the first k done. -/
def PMx (D M : List (Int × Int)) (k : Nat) : Prop := M.length = D.length ∧ ∀ i (hi : i < D.length) (hm : i < M.length), M[i].1 = D[i].1 ∧ (k ≤ i → M[i] = D[i]) ∧ (i < k → ∀ z, z ≤ M[i].2 ↔ ∃ j, ∃ (hj : j < D.length), j ≤ i ∧ z ≤ D[j].2)
theorem PMx.start (D : List (Int × Int)) : PMx D D 1 := by
  refine ⟨rfl, fun i hi hm => ⟨rfl, fun _ => rfl, fun h z => ?_⟩⟩
  obtain rfl : i = 0 := by omega
  constructor
  · intro hz; exact ⟨0, hi, Nat.le_refl _, hz⟩
  · rintro ⟨j, hj, h0, hz⟩
    obtain rfl : j = 0 := by omega
    exact hz
theorem PMx.step {D M : List (Int × Int)} {k : Nat} (h : PMx D M k) (h1 : 1 ≤ k) (hk : k < M.length) : PMx D (M.set k (M[k].1, max M[k].2 M[k - 1].2)) (k + 1) := by
  obtain ⟨hl, h⟩ := h
  refine ⟨by rw [List.length_set]; exact hl, fun i hi hm => ?_⟩
  rw [List.length_set] at hm
  obtain ⟨a1, a2, a3⟩ := h i hi hm
  by_cases e : i = k
  · subst e
    rw [List.getElem_set_self]
    refine ⟨a1, fun hh => by omega, fun _ z => ?_⟩
    obtain ⟨_, _, b3⟩ := h (i - 1) (by omega) (by omega)
    have b := b3 (by omega) z
    have a := a2 (Nat.le_refl _)
    dsimp only
    rw [a]
    constructor
    · intro hz
      by_cases hz1 : z ≤ D[i].2
      · exact ⟨i, hi, Nat.le_refl _, hz1⟩
      · obtain ⟨j, hj, hji, hzj⟩ := b.1 (by omega)
        exact ⟨j, hj, by omega, hzj⟩
    · rintro ⟨j, hj, hji, hzj⟩
      by_cases e : j = i
      · subst e; omega
      · have := b.2 ⟨j, hj, by omega, hzj⟩
        omega
  · rw [List.getElem_set_ne (by omega)]
    exact ⟨a1, fun hh => a2 (by omega), fun hh => a3 (by omega)⟩
theorem count_mono {p : Nat → Bool} : ∀ (N : Nat), (∀ i j, i ≤ j → j < N → p j = true → p i = true) → ∀ i, i < N → (i < (List.range N).countP p ↔ p i = true)
  | 0, _, i, hi => by omega
  | N + 1, h, i, hi => by
    have ih := count_mono N (fun a b hab hb => h a b hab (by omega))
    rw [List.range_succ, List.countP_append]
    have hle : (List.range N).countP p ≤ N := by have := List.countP_le_length (p := p) (l := List.range N); rwa [List.length_range] at this
    cases hN : p N with
    | true =>
      have hall : ∀ a, a ≤ N → p a = true := fun a ha => h a N ha (by omega) hN
      have hc : (List.range N).countP p = N := by
        have := List.countP_eq_length (p := p) (l := List.range N)
        rw [List.length_range] at this
        exact this.2 (fun a ha => hall a (by have := List.mem_range.1 ha; omega))
      rw [hc, List.countP_singleton, hN, hall i (by omega)]
      simp
      omega
    | false =>
      rw [List.countP_singleton, hN]
      simp only [Bool.false_eq_true, if_false, Nat.add_zero]
      by_cases hiN : i < N
      · exact ih i hiN
      · obtain rfl : i = N := by omega
        rw [hN]
        constructor
        · intro hh; omega
        · intro hh; cases hh
/-- The last span that begins at n or below tells whether any has n. -/
theorem sp_find {D M : List (Int × Int)} {k : Nat} {n : Int} (hs : ∀ i j (hi : i < D.length) (hj : j < D.length), i < j → D[i].1 ≤ D[j].1) (h : PMx D M k) (hk : D.length ≤ k) {c : Nat} (hc : c = (List.range M.length).countP fun i => !decide (n < (M.getD i (0, 0)).1)) :
    c ≤ M.length ∧ ((c = 0 → D.any (spH n) = false) ∧ (∀ h0 : 0 < c, ∀ h1 : c - 1 < M.length, D.any (spH n) = decide (n ≤ M[c - 1].2))) := by
  obtain ⟨hl, hP⟩ := h
  have hle : c ≤ M.length := by
    rw [hc]
    have := List.countP_le_length (p := fun i => !decide (n < (M.getD i (0, 0)).1)) (l := List.range M.length)
    rwa [List.length_range] at this
  have hget : ∀ i (hi : i < M.length) (hd : i < D.length), (M.getD i (0, 0)).1 = D[i].1 := fun i hi hd => by
    rw [List.getD_eq_getElem?_getD, List.getElem?_eq_getElem hi]
    exact (hP i hd hi).1
  have hiff : ∀ i (hi : i < M.length) (hd : i < D.length), i < c ↔ D[i].1 ≤ n := fun i hi hd => by
    have hm : ∀ a b, a ≤ b → b < M.length → (!decide (n < (M.getD b (0, 0)).1)) = true → (!decide (n < (M.getD a (0, 0)).1)) = true := fun a b hab hb hh => by
      rw [hget b hb (by omega)] at hh
      rw [hget a (by omega) (by omega)]
      have : D[a].1 ≤ D[b].1 := by
        by_cases e : a = b
        · subst e; exact Int.le_refl _
        · exact hs a b _ _ (by omega)
      simp at hh ⊢
      omega
    have := count_mono (p := fun i => !decide (n < (M.getD i (0, 0)).1)) M.length hm i hi
    rw [← hc] at this
    rw [this, hget i hi hd]
    simp
  refine ⟨hle, fun h0 => ?_, fun h0 h1 => ?_⟩
  · rw [List.any_eq_false]
    intro x hx
    obtain ⟨i, hi, rfl⟩ := List.mem_iff_getElem.1 hx
    have : ¬ D[i].1 ≤ n := fun hh => by have := (hiff i (by omega) hi).2 hh; omega
    unfold spH
    simp
    intro hh
    omega
  · have b := (hP (c - 1) (by omega) h1).2.2 (by omega) n
    rw [Bool.eq_iff_iff, decide_eq_true_eq, b, List.any_eq_true]
    constructor
    · rintro ⟨x, hx, hh⟩
      obtain ⟨i, hi, rfl⟩ := List.mem_iff_getElem.1 hx
      unfold spH at hh
      simp at hh
      have := (hiff i (by omega) hi).2 hh.1
      exact ⟨i, hi, by omega, hh.2⟩
    · rintro ⟨j, hj, hji, hh⟩
      refine ⟨D[j], List.getElem_mem _, ?_⟩
      have := (hiff j (by omega) hj).1 (by omega)
      unfold spH
      simp
      exact ⟨this, hh⟩
end Go.Proofs.YtbjencibkkhbhabGreatDoor

end
section
set_option linter.unusedVariables false
set_option linter.unusedSimpArgs false
namespace Go.Proofs.YtbjencibkkhbhabGreatDoor
theorem parse_of_valG : ∀ (l : List UInt8) (acc : Nat), (∀ c ∈ l, dgB c = true) → valD acc l < 1000000000000 → Lib.parseUint10 acc l = .ok (valD acc l)
  | [], _, _, _ => rfl
  | c :: r, acc, h, hv => by
    have hc := h c (by simp)
    simp only [dgB, Bool.and_eq_true, decide_eq_true_eq] at hc
    have hg := valD_ge r (acc * 10 + (c.toNat - 48))
    rw [valD_cons] at hv ⊢
    simp only [Lib.parseUint10]
    rw [if_pos hc, if_neg (by omega), if_neg (by omega)]
    exact parse_of_valG r _ (fun x hx => h x (by simp [hx])) hv
/-- A number's text is read, and its first byte is 1 to 9. -/
theorem sqnum_yes {s : List UInt8} (h : sqN s ≠ 0) : Lib.atoiAll s = .ok ((sqN s : Nat) : Int) ∧ ∃ c r, s = c :: r ∧ 49 ≤ c.toNat := by
  have hn : (1 ≤ s.length ∧ s.length ≤ 10) ∧ s.head? ≠ some 48 ∧ s.all dgB = true ∧ valD 0 s ≤ 2147483648 := by
    by_cases hn : (1 ≤ s.length ∧ s.length ≤ 10) ∧ s.head? ≠ some 48 ∧ s.all dgB = true ∧ valD 0 s ≤ 2147483648
    · exact hn
    · exact absurd (by unfold sqN; rw [if_neg hn]) h
  have hv : sqN s = valD 0 s := by unfold sqN; rw [if_pos hn]
  rw [hv]
  obtain ⟨⟨h1, h2⟩, h3, h4, h5⟩ := hn
  have h4' := fun c hc => List.all_eq_true.1 h4 c hc
  have hp := parse_of_valG s 0 h4' (by omega)
  cases s with
  | nil => simp at h1
  | cons c r =>
    have hc := h4' c (by simp)
    simp only [dgB, Bool.and_eq_true, decide_eq_true_eq] at hc
    have h48 : c.toNat ≠ 48 := fun e => h3 (by rw [show c = 48 from UInt8.toNat_inj.1 e]; rfl)
    refine ⟨?_, c, r, rfl, by omega⟩
    unfold Lib.atoiAll
    simp only
    rw [if_neg (by omega)]
    unfold Lib.parseMag
    rw [if_neg (by simp), hp]
    simp only
    rw [if_neg (by omega), if_neg (by omega), if_neg (by omega)]
/-- Where a text is read that is no number: its first byte is below the digit 1, or it is too great. -/
theorem sqnum_no {c : UInt8} {r : List UInt8} {v : Int} (h : sqN (c :: r) = 0) (ha : Lib.atoiAll (c :: r) = .ok v) : c.toNat < 49 ∨ 2147483648 < v := by
  by_cases hc : c.toNat < 49
  · exact .inl hc
  refine .inr ?_
  have hd : dgB c = true := by
    unfold Lib.atoiAll at ha
    simp only at ha
    rw [if_neg (by omega)] at ha
    unfold Lib.parseMag at ha
    rw [if_neg (by simp)] at ha
    cases hp : Lib.parseUint10 0 (c :: r) with
    | «syntax» => rw [hp] at ha; cases ha
    | range => rw [hp] at ha; cases ha
    | ok u => exact (parse_ok_val _ _ _ hp).1 c (by simp)
  obtain ⟨h1, h2, _⟩ := atoi_first hd (fun e => by subst e; simp at hc) ha
  by_cases hv : 2147483648 < v
  · exact hv
  · exfalso
    unfold digI at h2
    have := sqN_dec (u := v.toNat) (by omega) (by omega)
    rw [h2, h] at this
    omega
theorem sqnum_nil {v : Int} : Lib.atoiAll [] ≠ .ok v := by
  unfold Lib.atoiAll
  simp
/-- An item, cut at its first ":". -/
theorem sqN_58 {q : List UInt8} (h : (58 : UInt8) ∈ q) : sqE q = none := by
  unfold sqE
  rw [if_neg (fun e => by rw [e] at h; revert h; decide), if_pos]
  unfold sqN
  rw [if_neg]
  rintro ⟨_, _, h3, _⟩
  have := List.all_eq_true.1 h3 58 h
  revert this
  decide
theorem sqI_cut1 {item a b : List UInt8} (h : cutV 58 item = (a, b, false)) : sqI item = (sqE a).bind fun x => (sqE a).bind fun y => some (x, y) := by
  obtain ⟨rfl, hn⟩ := cutV_no h
  unfold sqI
  rw [spc_end hn]
  dsimp only
  cases sqE a <;> rfl
theorem sqI_cut2 {item a b : List UInt8} (h : cutV 58 item = (a, b, true)) : sqI item = (sqE a).bind fun x => (sqE b).bind fun y => some (x, y) := by
  obtain ⟨rfl, hn⟩ := cutV_inv h
  unfold sqI
  rw [spc_mid _ hn]
  by_cases h58 : (58 : UInt8) ∈ b
  · rw [sqN_58 h58]
    have hlen : 2 ≤ (spc 58 b).length := by
      obtain ⟨p, q, rfl, hp⟩ : ∃ p q, b = p ++ 58 :: q ∧ (58 : UInt8) ∉ p := by
        cases hc : cutV 58 b with
        | mk p y =>
          obtain ⟨q, t⟩ := y
          cases t with
          | true => obtain ⟨e, hn⟩ := cutV_inv hc; exact ⟨p, q, e, hn⟩
          | false => exact absurd h58 (by obtain ⟨_, hn⟩ := cutV_no hc; exact hn)
      rw [spc_mid _ hp]
      have := List.length_pos_iff.2 (spc_ne 58 q)
      simp
      omega
    match spc 58 b, hlen with
    | u :: v :: t, _ => cases sqE a <;> rfl
  · rw [spc_end h58]
    dsimp only
    cases sqE a with
    | none => rfl
    | some x => cases sqE b <;> rfl
/-- Flags' words, one behind the other. -/
theorem flF_app : ∀ (a b : List (List UInt8)) (f : Nat), flF f (a ++ b) = (flF f a).bind fun g => flF g b
  | [], b, f => rfl
  | w :: a, b, f => by
    rw [List.cons_append]
    show (flW w).bind _ = ((flW w).bind _).bind _
    cases flW w with
    | none => rfl
    | some x => exact flF_app a b (f ||| x)
theorem flF_bad {pre post : List (List UInt8)} {w : List UInt8} {f : Nat} (h : flW w = none) : flF f (pre ++ w :: post) = none := by
  rw [flF_app]
  cases flF f pre with
  | none => rfl
  | some g => show (flW w).bind _ = none; rw [h]; rfl
theorem flF_good {pre : List (List UInt8)} {w : List UInt8} {f g x : Nat} (h : flW w = some x) (hp : flF f pre = some g) : flF f (pre ++ [w]) = some (g ||| x) := by
  rw [flF_app, hp]
  show (flW w).bind _ = _
  rw [h]
  rfl
/-- Which name a word is: the first one that it is. -/
def flI (w : List UInt8) : Nat → Option Nat
  | 0 => none
  | i + 1 => match flI w i with
    | some x => some x
    | none => if w.map lowB = (flN.getD i []).map lowB then some (2 ^ i) else none
theorem flI_eq (w : List UInt8) : flI w 5 = flW w := by
  have hn : ∀ l : List UInt8, (flK l 5 = false ∧ ∀ i, i < 5 → l ≠ (flN.getD i []).map lowB) ∨ ∃ i, i < 5 ∧ l = (flN.getD i []).map lowB := fun l => by
    by_cases h : ∃ i, i < 5 ∧ l = (flN.getD i []).map lowB
    · exact .inr h
    · have h' : ∀ i, i < 5 → l ≠ (flN.getD i []).map lowB := fun i hi e => h ⟨i, hi, e⟩
      refine .inl ⟨?_, h'⟩
      unfold flK; rw [if_neg (h' 4 (by decide))]
      unfold flK; rw [if_neg (h' 3 (by decide))]
      unfold flK; rw [if_neg (h' 2 (by decide))]
      unfold flK; rw [if_neg (h' 1 (by decide))]
      unfold flK; rw [if_neg (h' 0 (by decide))]
      rfl
  rcases hn (w.map lowB) with ⟨h1, h2⟩ | ⟨i, hi, he⟩
  · unfold flW
    rw [h1]
    unfold flI flI flI flI flI flI
    rw [if_neg (h2 0 (by decide))]
    dsimp only
    rw [if_neg (h2 1 (by decide))]
    dsimp only
    rw [if_neg (h2 2 (by decide))]
    dsimp only
    rw [if_neg (h2 3 (by decide))]
    dsimp only
    rw [if_neg (h2 4 (by decide))]
    rfl
  · unfold flW
    simp only [flI]
    rw [he]
    clear he
    revert i
    decide
/-- The names of flags, up to one. -/
def flH (f i : Nat) : List (List UInt8) := (List.range i).filterMap fun i => if f.testBit i then flN[i]? else none
theorem flH_step (f i : Nat) (hi : i < 5) : flH f (i + 1) = flH f i ++ if f.testBit i then [flN.getD i []] else [] := by
  unfold flH
  rw [List.range_succ, List.filterMap_append]
  congr 1
  have : flN[i]? = some (flN.getD i []) := by
    rw [List.getD_eq_getElem?_getD, List.getElem?_eq_getElem (show i < flN.length from hi)]
    rfl
  simp only [List.filterMap_cons, List.filterMap_nil, this]
  cases f.testBit i <;> rfl
theorem flT_H (f : Nat) : flT f = 40 :: (jn 32 (flH f 5) ++ [41]) := rfl
theorem flH_len (f i : Nat) : (flH f i).length ≤ i := by
  unfold flH
  have := List.length_filterMap_le (fun i => if f.testBit i then flN[i]? else none) (List.range i)
  rwa [List.length_range] at this
theorem jn_join (c : UInt8) : ∀ ts : List (List UInt8), Lib.join ts [c] = jn c ts
  | [] => rfl
  | [a] => by simp [Lib.join, List.intercalate, jn]
  | a :: b :: ts => by
    rw [jn_cons (by simp), ← jn_join c (b :: ts)]
    simp [Lib.join, List.intercalate, List.intersperse]
end Go.Proofs.YtbjencibkkhbhabGreatDoor

end
