/- The plain mathematics of paths: pieces between dots, atoms, labels, local parts, domains. -/
import Derived.WalkKit
namespace Go.Proofs.YtppipfjnichikaaDoor
open Go.RowKit
/-- A letter or a digit. -/
def ldB (c : UInt8) : Bool := decide ((97 ≤ c.toNat ∧ c.toNat ≤ 122) ∨ (65 ≤ c.toNat ∧ c.toNat ≤ 90) ∨ (48 ≤ c.toNat ∧ c.toNat ≤ 57))
/-- The marks that an atom may have besides. -/
def marksL : List UInt8 := [33, 35, 36, 37, 38, 39, 42, 43, 45, 47, 61, 63, 94, 95, 96, 123, 124, 125, 126]
def mkB (c : UInt8) : Bool := marksL.contains c
def atB (c : UInt8) : Bool := ldB c || mkB c
def atomB (l : List UInt8) : Bool := l.all atB && !l.isEmpty
/-- A label, from the byte ahead of it (0: none, 1: a letter or digit, 2: a hyphen). -/
def labQ : Nat → List UInt8 → Bool
  | st, [] => st == 1
  | st, c :: l => if ldB c then labQ 1 l else if c = 45 then st != 0 && labQ 2 l else false
def labelB (l : List UInt8) : Bool := labQ 0 l
/-- The pieces between dots. -/
def splitD : List UInt8 → List (List UInt8)
  | [] => [[]]
  | c :: l => if c = 46 then [] :: splitD l else match splitD l with
    | [] => [[c]]
    | p :: r => (c :: p) :: r
theorem splitD_ne (l : List UInt8) : splitD l ≠ [] := by
  cases l with
  | nil => simp [splitD]
  | cons c l =>
    unfold splitD
    split
    · simp
    · split <;> simp
theorem splitD_end : ∀ {p : List UInt8}, (46 : UInt8) ∉ p → splitD p = [p]
  | [], _ => rfl
  | c :: p, h => by
    have h1 := splitD_end (p := p) (fun hp => h (List.mem_cons_of_mem _ hp))
    have hc : c ≠ 46 := fun e => h (by simp [e])
    rw [splitD, if_neg hc, h1]
theorem splitD_mid : ∀ {p : List UInt8} (r : List UInt8), (46 : UInt8) ∉ p → splitD (p ++ 46 :: r) = p :: splitD r
  | [], r, _ => by simp [splitD]
  | c :: p, r, h => by
    have h1 := splitD_mid (p := p) r (fun hp => h (List.mem_cons_of_mem _ hp))
    have hc : c ≠ 46 := fun e => h (by simp [e])
    rw [List.cons_append, splitD, if_neg hc, h1]
theorem splitD_app : ∀ (a b : List UInt8), splitD (a ++ 46 :: b) = splitD a ++ splitD b
  | [], b => by simp [splitD]
  | c :: a, b => by
    have h1 := splitD_app a b
    by_cases hc : c = 46
    · simp [splitD, hc, h1]
    · rw [List.cons_append, splitD, if_neg hc, h1, splitD, if_neg hc]
      cases h : splitD a with
      | nil => exact absurd h (splitD_ne a)
      | cons p r => rfl
theorem splitD_nodot : ∀ (l : List UInt8), ∀ x ∈ splitD l, (46 : UInt8) ∉ x
  | [], x, h => by
    simp [splitD] at h
    simp [h]
  | c :: l, x, h => by
    have h1 := splitD_nodot l
    by_cases hc : c = 46
    · rw [splitD, if_pos hc] at h
      rcases List.mem_cons.1 h with rfl | h
      · simp
      · exact h1 x h
    · rw [splitD, if_neg hc] at h
      cases hs : splitD l with
      | nil => exact absurd hs (splitD_ne l)
      | cons p r =>
        rw [hs] at h h1
        rcases List.mem_cons.1 h with rfl | h
        · have := h1 p (by simp)
          simp only [List.mem_cons, not_or]
          exact ⟨fun e => hc e.symm, this⟩
        · exact h1 x (by simp [h])
theorem splitD_len : ∀ (l : List UInt8), ∀ x ∈ splitD l, x.length ≤ l.length
  | [], x, h => by
    simp [splitD] at h
    simp [h]
  | c :: l, x, h => by
    have h1 := splitD_len l
    by_cases hc : c = 46
    · rw [splitD, if_pos hc] at h
      rcases List.mem_cons.1 h with rfl | h
      · simp
      · exact Nat.le_succ_of_le (h1 x h)
    · rw [splitD, if_neg hc] at h
      cases hs : splitD l with
      | nil => exact absurd hs (splitD_ne l)
      | cons p r =>
        rw [hs] at h h1
        rcases List.mem_cons.1 h with rfl | h
        · have := h1 p (by simp)
          simpa using this
        · exact Nat.le_succ_of_le (h1 x (by simp [h]))
def localB (l : List UInt8) : Bool := decide (l.length ≤ 64) && (splitD l).all atomB
def domB (l : List UInt8) : Bool := decide (l.length ≤ 100) && (splitD l).all labelB
/-- A local part, byte by byte (b: an atom must begin here). -/
def scanL : Bool → List UInt8 → Bool
  | b, [] => !b
  | b, c :: l => if c = 46 then !b && scanL true l else atB c && scanL false l
theorem atB_dot : atB 46 = false := by decide
theorem ldB_dot : ldB 46 = false := by decide
theorem scanL_split : ∀ (l : List UInt8), (scanL true l = (splitD l).all atomB) ∧ (∀ p r, splitD l = p :: r → scanL false l = (p.all atB && r.all atomB))
  | [] => by
    refine ⟨by simp [scanL, splitD, atomB], ?_⟩
    intro p r h
    simp [splitD] at h
    obtain ⟨rfl, rfl⟩ := h
    simp [scanL]
  | c :: l => by
    obtain ⟨h1, h2⟩ := scanL_split l
    by_cases hc : c = 46
    · refine ⟨by simp [scanL, splitD, hc, atomB], ?_⟩
      intro p r h
      rw [splitD, if_pos hc] at h
      simp at h
      obtain ⟨rfl, rfl⟩ := h
      simp [scanL, hc, h1]
    · cases hs : splitD l with
      | nil => exact absurd hs (splitD_ne l)
      | cons p r =>
        have h3 := h2 p r hs
        constructor
        · simp [scanL, splitD, hc, hs, h3, atomB, Bool.and_assoc]
        · intro p' r' h
          rw [splitD, if_neg hc, hs] at h
          simp at h
          obtain ⟨rfl, rfl⟩ := h
          simp [scanL, hc, h3, Bool.and_assoc]
/-- A domain, byte by byte. -/
def scanD : Nat → List UInt8 → Bool
  | st, [] => st == 1
  | st, c :: l => if c = 46 then st == 1 && scanD 0 l else if ldB c then scanD 1 l else if c = 45 then st != 0 && scanD 2 l else false
theorem scanD_split : ∀ (l : List UInt8) (st : Nat) (p : List UInt8) (r : List (List UInt8)), splitD l = p :: r → scanD st l = (labQ st p && r.all labelB)
  | [], st, p, r, h => by
    simp [splitD] at h
    obtain ⟨rfl, rfl⟩ := h
    simp [scanD, labQ]
  | c :: l, st, p, r, h => by
    have h1 := scanD_split l
    cases hs : splitD l with
    | nil => exact absurd hs (splitD_ne l)
    | cons p' r' =>
      have h2 := fun st => h1 st p' r' hs
      by_cases hc : c = 46
      · rw [splitD, if_pos hc, hs] at h
        simp at h
        obtain ⟨rfl, rfl⟩ := h
        simp [scanD, hc, h2, labQ, labelB]
      · rw [splitD, if_neg hc, hs] at h
        simp at h
        obtain ⟨rfl, rfl⟩ := h
        by_cases hl : ldB c = true
        · simp [scanD, hc, hl, h2, labQ]
        · by_cases h45 : c = 45
          · have : ldB 45 = false := by decide
            simp [scanD, h45, this, h2, labQ, Bool.and_assoc]
          · simp [scanD, hc, hl, h45, labQ]
theorem scanD_all (l : List UInt8) : scanD 0 l = (splitD l).all labelB := by
  cases hs : splitD l with
  | nil => exact absurd hs (splitD_ne l)
  | cons p r => rw [scanD_split l 0 p r hs]; simp [labelB]
theorem scanL_all (l : List UInt8) : scanL true l = (splitD l).all atomB := (scanL_split l).1
theorem localB_nil : localB [] = false := by decide
theorem domB_nil : domB [] = false := by decide
theorem localB_app {a b : List UInt8} (ha : localB a = true) (hb : localB b = true) : localB (a ++ 46 :: b) = decide (a.length + b.length + 1 ≤ 64) := by
  unfold localB at *
  simp only [Bool.and_eq_true] at ha hb
  rw [splitD_app, List.all_append, ha.2, hb.2]
  simp [Nat.add_assoc]
theorem domB_app {a b : List UInt8} (ha : domB a = true) (hb : domB b = true) : domB (a ++ 46 :: b) = decide (a.length + b.length + 1 ≤ 100) := by
  unfold domB at *
  simp only [Bool.and_eq_true] at ha hb
  rw [splitD_app, List.all_append, ha.2, hb.2]
  simp [Nat.add_assoc]
theorem localB_end (a : List UInt8) : localB (a ++ [46]) = false := by
  unfold localB
  rw [splitD_app]
  simp [splitD, atomB]
theorem localB_begin (b : List UInt8) : localB (46 :: b) = false := by
  unfold localB
  have := splitD_app [] b
  simp only [List.nil_append] at this
  rw [this]
  simp [splitD, atomB]
theorem domB_end (a : List UInt8) : domB (a ++ [46]) = false := by
  unfold domB
  rw [splitD_app]
  simp [splitD, labelB, labQ]
theorem domB_begin (b : List UInt8) : domB (46 :: b) = false := by
  unfold domB
  have := splitD_app [] b
  simp only [List.nil_append] at this
  rw [this]
  simp [splitD, labelB, labQ]
/-- Which bytes a local part may have. -/
theorem scanL_mem : ∀ (l : List UInt8) (b : Bool), scanL b l = true → ∀ c ∈ l, c = 46 ∨ atB c = true
  | [], _, _, c, h => by cases h
  | d :: l, b, h, c, hc => by
    rw [scanL] at h
    rcases List.mem_cons.1 hc with rfl | hc
    · by_cases e : c = 46
      · exact .inl e
      · rw [if_neg e] at h
        simp at h
        exact .inr h.1
    · split at h <;> (simp at h; exact scanL_mem l _ h.2 c hc)
theorem scanD_mem : ∀ (l : List UInt8) (st : Nat), scanD st l = true → ∀ c ∈ l, c = 46 ∨ c = 45 ∨ ldB c = true
  | [], _, _, c, h => by cases h
  | d :: l, b, h, c, hc => by
    rw [scanD] at h
    rcases List.mem_cons.1 hc with rfl | hc
    · by_cases e : c = 46
      · exact .inl e
      · rw [if_neg e] at h
        by_cases e2 : ldB c = true
        · exact .inr (.inr e2)
        · rw [if_neg e2] at h
          by_cases e3 : c = 45
          · exact .inr (.inl e3)
          · rw [if_neg e3] at h
            cases h
    · split at h
      · simp at h
        exact scanD_mem l _ h.2 c hc
      · split at h
        · exact scanD_mem l _ h c hc
        · split at h
          · simp at h
            exact scanD_mem l _ h.2 c hc
          · cases h
theorem local_mem {l : List UInt8} (h : localB l = true) : (62 : UInt8) ∉ l ∧ (64 : UInt8) ∉ l := by
  unfold localB at h
  simp only [Bool.and_eq_true] at h
  have := scanL_mem l true (by rw [scanL_all]; exact h.2)
  constructor
  · intro hc
    rcases this _ hc with e | e
    · exact absurd e (by decide)
    · exact absurd e (by decide)
  · intro hc
    rcases this _ hc with e | e
    · exact absurd e (by decide)
    · exact absurd e (by decide)
theorem dom_mem {l : List UInt8} (h : domB l = true) : (62 : UInt8) ∉ l ∧ (64 : UInt8) ∉ l := by
  unfold domB at h
  simp only [Bool.and_eq_true] at h
  have := scanD_mem l 0 (by rw [scanD_all]; exact h.2)
  constructor
  · intro hc
    rcases this _ hc with e | e | e
    · exact absurd e (by decide)
    · exact absurd e (by decide)
    · exact absurd e (by decide)
  · intro hc
    rcases this _ hc with e | e | e
    · exact absurd e (by decide)
    · exact absurd e (by decide)
    · exact absurd e (by decide)
theorem local_pos {l : List UInt8} (h : localB l = true) : l ≠ [] := by rintro rfl; cases h
theorem dom_pos {l : List UInt8} (h : domB l = true) : l ≠ [] := by rintro rfl; cases h
theorem local_le {l : List UInt8} (h : localB l = true) : l.length ≤ 64 := by
  unfold localB at h
  simp only [Bool.and_eq_true, decide_eq_true_eq] at h
  exact h.1
theorem dom_le {l : List UInt8} (h : domB l = true) : l.length ≤ 100 := by
  unfold domB at h
  simp only [Bool.and_eq_true, decide_eq_true_eq] at h
  exact h.1
end Go.Proofs.YtppipfjnichikaaDoor
