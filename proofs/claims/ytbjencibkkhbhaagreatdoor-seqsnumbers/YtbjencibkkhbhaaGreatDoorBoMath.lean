/- Names and patterns of mailboxes, in plain lists. -/
import Derived.Test.YtbjencibkkhbhaaGreatDoorLowB
namespace Go.Proofs.YtbjencibkkhbhaaGreatDoor
/-- Two bytes stand for one another: the same, or, of the name INBOX, but for capital letters. -/
def sameI (inb : Bool) (c d : UInt8) : Bool := c == d || (inb && lowB c == lowB d)
def starB (c : UInt8) : Bool := c == 42 || c == 37
/-- Does a pattern fit a name? -/
def fit (inb : Bool) : List UInt8 → List UInt8 → Bool
  | [], [] => true
  | [], _ :: _ => false
  | c :: p, [] => starB c && fit inb p []
  | c :: p, d :: n => if starB c then fit inb p (d :: n) || ((c == 42 || d != 47) && fit inb (c :: p) n) else sameI inb c d && fit inb p n
termination_by p n => p.length + n.length
theorem sameI_refl (inb : Bool) (c : UInt8) : sameI inb c c = true := by simp [sameI]
theorem fit_nil (inb : Bool) (n : List UInt8) : fit inb [] n = n.isEmpty := by
  cases n <;> rw [fit] <;> rfl
theorem fit_end (inb : Bool) (c : UInt8) (p : List UInt8) : fit inb (c :: p) [] = (starB c && fit inb p []) := by rw [fit]
theorem fit_star {inb : Bool} {c : UInt8} (h : starB c = true) (p : List UInt8) (d : UInt8) (n : List UInt8) : fit inb (c :: p) (d :: n) = (fit inb p (d :: n) || ((c == 42 || d != 47) && fit inb (c :: p) n)) := by
  rw [fit, if_pos h]
theorem fit_char {inb : Bool} {c : UInt8} (h : starB c = false) (p : List UInt8) (d : UInt8) (n : List UInt8) : fit inb (c :: p) (d :: n) = (sameI inb c d && fit inb p n) := by
  rw [fit, if_neg (by simp [h])]
/-- A star fits all. -/
theorem fit_all (inb : Bool) : ∀ n : List UInt8, fit inb [42] n = true
  | [] => by rw [fit_end, fit_nil]; rfl
  | d :: n => by rw [fit_star rfl, fit_all inb n]; simp
/-- A percent sign fits all without a slash. -/
theorem fit_pct (inb : Bool) : ∀ n : List UInt8, fit inb [37] n = !n.contains 47
  | [] => by rw [fit_end, fit_nil]; rfl
  | d :: n => by
    rw [fit_star rfl, fit_pct inb n, fit_nil]
    by_cases h : d = 47
    · subst h; simp
    · simp [h, Ne.symm h]
/-- A name fits itself. -/
theorem fit_self (inb : Bool) : ∀ a : List UInt8, (∀ c ∈ a, starB c = false) → fit inb a a = true
  | [], _ => by rw [fit_nil]; rfl
  | c :: a, h => by
    rw [fit_char (h c (by simp)), sameI_refl, fit_self inb a (fun x hx => h x (by simp [hx]))]
    rfl
theorem fit_pre (inb : Bool) (p n : List UInt8) : ∀ a : List UInt8, (∀ c ∈ a, starB c = false) → fit inb (a ++ p) (a ++ n) = fit inb p n
  | [], _ => rfl
  | c :: a, h => by
    rw [List.cons_append, List.cons_append, fit_char (h c (by simp)), sameI_refl, fit_pre inb p n a (fun x hx => h x (by simp [hx]))]
    rfl
/-- What a star stands for. -/
theorem fit_skip {inb : Bool} {s : UInt8} (hs : starB s = true) (c : List UInt8) (hc : fit inb c c = true) : ∀ b : List UInt8, (s = 42 ∨ (47 : UInt8) ∉ b) → fit inb (s :: c) (b ++ c) = true
  | [], _ => by
    cases c with
    | nil => rw [List.append_nil, fit_end, hs, hc]; rfl
    | cons d c => rw [List.nil_append, fit_star hs, hc]; rfl
  | d :: b, h => by
    have ih := fit_skip hs c hc b (h.imp id (fun h hb => h (by simp [hb])))
    rw [List.cons_append, fit_star hs, ih]
    rcases h with h | h
    · simp [h]
    · have : d ≠ 47 := fun e => h (by simp [e])
      simp [this]
theorem fit_put {inb : Bool} {s : UInt8} (hs : starB s = true) (a b c : List UInt8) (ha : ∀ x ∈ a, starB x = false) (hc : ∀ x ∈ c, starB x = false) (h : s = 42 ∨ (47 : UInt8) ∉ b) : fit inb (a ++ s :: c) (a ++ (b ++ c)) = true := by
  rw [fit_pre inb _ _ a ha]
  exact fit_skip hs c (fit_self inb c hc) b h
/-- The document's table, an entry of it: what is left of the pattern against what is left of the name. -/
theorem fit_drop {inb : Bool} {P N : List UInt8} {p n : Nat} (hp : p < P.length) (hn : n < N.length) : fit inb (P.drop p) (N.drop n) =
    if starB P[p] then fit inb (P.drop (p + 1)) (N.drop n) || ((P[p] == 42 || N[n] != 47) && fit inb (P.drop p) (N.drop (n + 1))) else sameI inb P[p] N[n] && fit inb (P.drop (p + 1)) (N.drop (n + 1)) := by
  rw [List.drop_eq_getElem_cons hp, List.drop_eq_getElem_cons hn, fit]
theorem fit_drop_end {inb : Bool} {P : List UInt8} {p : Nat} (hp : p < P.length) : fit inb (P.drop p) [] = (starB P[p] && fit inb (P.drop (p + 1)) []) := by
  rw [List.drop_eq_getElem_cons hp, fit_end]
/-- The part between slashes: a byte of a name. -/
def plnB (pat : Bool) (c : UInt8) : Bool := decide (33 ≤ c.toNat ∧ c.toNat ≤ 126) && !(c == 40 || c == 41 || c == 123 || c == 34 || c == 92) && (pat || !starB c)
def inboxL : List UInt8 := [105, 110, 98, 111, 120]
def inboxU : List UInt8 := [73, 78, 66, 79, 88]
/-- No slash at the beginning, none at the end, no two together. -/
def apartB : Bool → List UInt8 → Bool
  | last, [] => !last
  | last, c :: r => if c = 47 then !last && apartB true r else apartB false r
def boxB (s : List UInt8) : Bool := decide (1 ≤ s.length ∧ s.length ≤ 60) && s.all (plnB false) && apartB true s
def boxO (s : List UInt8) : Option (List UInt8) := if boxB s then some (if s.map lowB = inboxL then inboxU else s) else none
def patB (s : List UInt8) : Bool := s.all (plnB true) && decide (s.length ≤ 100)
/-- Whether a name is under another one; where it goes with it. -/
def undB (name base : List UInt8) : Bool := decide (base.length + 1 < name.length) && decide (name.take (base.length + 1) = base ++ [47])
def movO (name frm to : List UInt8) : Option (List UInt8) := if name = frm then some to else if undB name frm then some (to ++ name.drop frm.length) else none
/-- What stands ahead of each slash. -/
def abvL (name : List UInt8) : List (List UInt8) := ((List.range name.length).filter (fun i => name[i]? == some 47)).map (fun i => name.take i)
/-- Put into a rising row, once. -/
def insU (x : List UInt8) : List (List UInt8) → List (List UInt8)
  | [] => [x]
  | y :: r => if x = y then y :: r else if x < y then x :: y :: r else y :: insU x r
theorem insU_mem (x z : List UInt8) : ∀ l, z ∈ insU x l ↔ z = x ∨ z ∈ l
  | [] => by simp [insU]
  | y :: r => by
    unfold insU
    split
    · rename_i h; subst h; simp
    · split
      · simp
      · simp only [List.mem_cons, insU_mem x z r]
        constructor
        · rintro (h | h | h)
          · exact .inr (.inl h)
          · exact .inl h
          · exact .inr (.inr h)
        · rintro (h | h | h)
          · exact .inr (.inl h)
          · exact .inl h
          · exact .inr (.inr h)
theorem insU_ord (x : List UInt8) : ∀ l : List (List UInt8), l.Pairwise (· < ·) → (insU x l).Pairwise (· < ·)
  | [], _ => by simp [insU]
  | y :: r, h => by
    obtain ⟨h1, h2⟩ := List.pairwise_cons.1 h
    unfold insU
    split
    · exact h
    · rename_i hne
      split
      · rename_i hlt
        refine List.pairwise_cons.2 ⟨fun z hz => ?_, h⟩
        rcases List.mem_cons.1 hz with rfl | hz
        · exact hlt
        · exact List.lt_trans hlt (h1 z hz)
      · rename_i hnl
        refine List.pairwise_cons.2 ⟨fun z hz => ?_, insU_ord x r h2⟩
        rcases (insU_mem x z r).1 hz with rfl | hz
        · exact Decidable.byContradiction fun hc => hne (List.le_antisymm (List.not_lt.1 hc) (List.not_lt.1 hnl))
        · exact h1 z hz
/-- The names that a pattern fits, each once, rising. -/
def matL (f : List UInt8 → Bool) (names : List (List UInt8)) : List (List UInt8) := names.foldl (fun out n => if f n then insU n out else out) []
theorem matL_fold (f : List UInt8 → Bool) : ∀ (names out : List (List UInt8)), out.Pairwise (· < ·) → (names.foldl (fun out n => if f n then insU n out else out) out).Pairwise (· < ·) ∧ ∀ z, z ∈ names.foldl (fun out n => if f n then insU n out else out) out ↔ z ∈ out ∨ (z ∈ names ∧ f z = true)
  | [], out, h => ⟨h, fun z => by simp⟩
  | n :: names, out, h => by
    rw [List.foldl_cons]
    have h' : (if f n then insU n out else out).Pairwise (· < ·) := by
      split
      · exact insU_ord n out h
      · exact h
    obtain ⟨k1, k2⟩ := matL_fold f names _ h'
    refine ⟨k1, fun z => ?_⟩
    rw [k2 z]
    by_cases hf : f n = true
    · rw [if_pos hf, insU_mem]
      constructor
      · rintro ((rfl | h) | h)
        · exact .inr ⟨by simp, hf⟩
        · exact .inl h
        · exact .inr ⟨by simp [h.1], h.2⟩
      · rintro (h | ⟨h, hz⟩)
        · exact .inl (.inr h)
        · rcases List.mem_cons.1 h with rfl | h
          · exact .inl (.inl rfl)
          · exact .inr ⟨h, hz⟩
    · rw [if_neg hf]
      constructor
      · rintro (h | h)
        · exact .inl h
        · exact .inr ⟨by simp [h.1], h.2⟩
      · rintro (h | ⟨h, hz⟩)
        · exact .inl h
        · rcases List.mem_cons.1 h with rfl | h
          · exact absurd hz hf
          · exact .inr ⟨h, hz⟩
theorem matL_ord (f : List UInt8 → Bool) (names : List (List UInt8)) : (matL f names).Pairwise (· < ·) := (matL_fold f names [] List.Pairwise.nil).1
theorem matL_mem (f : List UInt8 → Bool) (names : List (List UInt8)) (z : List UInt8) : z ∈ matL f names ↔ z ∈ names ∧ f z = true := by
  have h := (matL_fold f names [] List.Pairwise.nil).2 z
  simp only [List.not_mem_nil, false_or] at h
  exact h
theorem abv_mem {name a : List UInt8} (h : a ∈ abvL name) : ∃ i, name[i]? = some 47 ∧ a = name.take i := by
  unfold abvL at h
  obtain ⟨i, hi, rfl⟩ := List.mem_map.1 h
  have := (List.mem_filter.1 hi).2
  exact ⟨i, by simpa using this, rfl⟩
/-- A name does not end with a slash. -/
theorem apart_last : ∀ (s : List UInt8) (b : Bool) (i : Nat), apartB b s = true → s[i]? = some 47 → i + 1 < s.length
  | [], _, i, _, h => by simp at h
  | c :: r, b, i, ha, h => by
    unfold apartB at ha
    cases i with
    | zero =>
      have hc : c = 47 := by simpa using h
      rw [if_pos hc] at ha
      cases r with
      | nil => simp [apartB] at ha
      | cons d r => simp
    | succ i =>
      have h' : r[i]? = some 47 := by simpa using h
      rw [List.length_cons]
      by_cases hc : c = 47
      · rw [if_pos hc, Bool.and_eq_true] at ha
        have := apart_last r true i ha.2 h'
        omega
      · rw [if_neg hc] at ha
        have := apart_last r false i ha h'
        omega
theorem box_last {s : List UInt8} (h : boxB s = true) {i : Nat} (hi : s[i]? = some 47) : i + 1 < s.length := by
  unfold boxB at h
  simp only [Bool.and_eq_true] at h
  exact apart_last s true i h.2 hi
theorem und_at {name : List UInt8} {i : Nat} (hi : i + 1 < name.length) (hc : name[i]? = some 47) : undB name (name.take i) = true := by
  have hl : (name.take i).length = i := by rw [List.length_take]; omega
  have hg : name[i]'(by omega) = 47 := by
    rw [List.getElem?_eq_getElem (by omega)] at hc
    exact Option.some.inj hc
  unfold undB
  rw [hl, decide_eq_true hi, Bool.true_and]
  refine decide_eq_true ?_
  rw [List.take_succ_eq_append_getElem (by omega), hg]
theorem und_self (name : List UInt8) : undB name name = false := by
  unfold undB
  rw [decide_eq_false (by omega), Bool.false_and]
theorem mov_at {name to : List UInt8} {i : Nat} (hi : i + 1 < name.length) (hc : name[i]? = some 47) : movO name (name.take i) to = some (to ++ name.drop i) := by
  have hl : (name.take i).length = i := by rw [List.length_take]; omega
  unfold movO
  rw [if_neg (fun e => by have := congrArg List.length e; omega), if_pos (und_at hi hc), hl]
theorem mov_back {name to : List UInt8} {i : Nat} (hi : i + 1 < name.length) (hc : name[i]? = some 47) : movO (to ++ name.drop i) to (name.take i) = some name := by
  have h1 : (to ++ name.drop i)[to.length]? = some 47 := by
    rw [List.getElem?_append_right (Nat.le_refl _), Nat.sub_self, List.getElem?_drop, Nat.add_zero, hc]
  have h2 := mov_at (name := to ++ name.drop i) (to := name.take i) (i := to.length) (by rw [List.length_append, List.length_drop]; omega) h1
  rw [List.take_left' rfl, List.drop_left' rfl, List.take_append_drop] at h2
  exact h2
end Go.Proofs.YtbjencibkkhbhaaGreatDoor
