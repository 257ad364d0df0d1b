/- A value that is folded at blanks. -/
import Derived.Test.YtgmdpjncgdojbabDoorHMath2
namespace Go.Proofs.YtgmdpjncgdojbabDoor
open Go.RowKit
theorem nb_not_blank {c : UInt8} (h : nbB c = true) : ([32, 9] : List UInt8).contains c = false := by
  have h2 : 33 ≤ c.toNat ∧ c.toNat ≤ 126 := by simpa [nbB] using h
  rw [Bool.eq_false_iff]
  intro h3
  simp at h3
  rcases h3 with rfl | rfl <;> simp at h2
/-- It begins and ends with a byte of a name. -/
def tight (t : List UInt8) : Prop := (∃ a r, t = a :: r ∧ nbB a = true) ∧ ∃ q z, t = q ++ [z] ∧ nbB z = true
theorem trim_lead {t : List UInt8} (h : tight t) : Lib.trimS (32 :: t) [32, 9] = t := by
  obtain ⟨⟨a, r, h1, h2⟩, q, z, h3, h4⟩ := h
  have e : Lib.trimRightS (32 :: t) [32, 9] = 32 :: t := by
    unfold Lib.trimRightS
    have : (32 :: t).reverse = z :: (32 :: q).reverse := by
      rw [h3]
      simp
    rw [this, List.dropWhile_cons_of_neg (by rw [nb_not_blank h4]; simp)]
    rw [← this, List.reverse_reverse]
  unfold Lib.trimS
  rw [e]
  unfold Lib.trimLeftS
  rw [List.dropWhile_cons_of_pos (by decide), h1, List.dropWhile_cons_of_neg (by rw [nb_not_blank h2]; simp)]
/-- What is folded so far (lines that are ended, the line that is open), and what it means. -/
structure Fo (F T : List UInt8) (D : List (List UInt8)) (P : List UInt8) : Prop where
  eq : F = D.flatten ++ P
  term : ∀ x ∈ D, Term x
  open' : (10 : UInt8) ∉ P
  text : (D.map txt).flatten ++ P = [65, 58, 32] ++ T
  shape : (D = [] ∧ ∃ q, P = [65, 58, 32] ++ q) ∨ (∃ X G, D = X :: G ∧ (∃ q, txt X = [65, 58, 32] ++ q) ∧ (∀ x ∈ G, blB x = true) ∧ blB P = true)
theorem Fo.start : Fo [65, 58, 32] [] [] [65, 58, 32] := ⟨rfl, (fun x hx => by cases hx), by decide, rfl, .inl ⟨rfl, [], rfl⟩⟩
theorem nb_no10 {w : List UInt8} (h : w.all nbB = true) : (10 : UInt8) ∉ w := fun hm => by
  have := List.all_eq_true.1 h 10 hm
  revert this
  decide
theorem blB_app {P w : List UInt8} (h : blB P = true) : blB (P ++ w) = true := by
  cases P with
  | nil => cases h
  | cons c P => exact h
theorem Fo.word {F T P w : List UInt8} {D : List (List UInt8)} (h : Fo F T D P) (hw : w.all nbB = true) : Fo (F ++ w) (T ++ w) D (P ++ w) := by
  refine ⟨by rw [h.eq]; simp, h.term, ?_, ?_, ?_⟩
  · intro hm
    rcases List.mem_append.1 hm with h1 | h1
    · exact h.open' h1
    · exact nb_no10 hw h1
  · rw [← List.append_assoc, h.text]
    simp
  · rcases h.shape with ⟨h1, q, h2⟩ | ⟨X, G, h1, h2, h3, h4⟩
    · exact .inl ⟨h1, q ++ w, by rw [h2]; simp⟩
    · exact .inr ⟨X, G, h1, h2, h3, blB_app h4⟩
theorem Fo.blank {F T P : List UInt8} {D : List (List UInt8)} (h : Fo F T D P) : Fo (F ++ [32]) (T ++ [32]) D (P ++ [32]) := by
  refine ⟨by rw [h.eq]; simp, h.term, ?_, ?_, ?_⟩
  · intro hm
    rcases List.mem_append.1 hm with h1 | h1
    · exact h.open' h1
    · simp at h1
  · rw [← List.append_assoc, h.text]
    simp
  · rcases h.shape with ⟨h1, q, h2⟩ | ⟨X, G, h1, h2, h3, h4⟩
    · exact .inl ⟨h1, q ++ [32], by rw [h2]; simp⟩
    · exact .inr ⟨X, G, h1, h2, h3, blB_app h4⟩
/-- A line's end, and a blank behind it. -/
theorem Fo.fold {F T P : List UInt8} {D : List (List UInt8)} (h : Fo F T D P) {s : List UInt8} (hs : Term (P ++ s)) (ht : txt (P ++ s) = P) : Fo (F ++ (s ++ [32])) (T ++ [32]) (D ++ [P ++ s]) [32] := by
  refine ⟨by rw [h.eq]; simp, ?_, by decide, ?_, ?_⟩
  · intro x hx
    rcases List.mem_append.1 hx with h1 | h1
    · exact h.term x h1
    · rw [List.mem_singleton.1 h1]
      exact hs
  · rw [List.map_append, List.flatten_append]
    simp only [List.map_cons, List.map_nil, List.flatten_cons, List.flatten_nil, List.append_nil, ht]
    rw [h.text]
    simp
  · rcases h.shape with ⟨h1, q, h2⟩ | ⟨X, G, h1, h2, h3, h4⟩
    · refine .inr ⟨P ++ s, [], by rw [h1]; rfl, ⟨q, by rw [ht, h2]⟩, (fun x hx => by cases hx), rfl⟩
    · refine .inr ⟨X, G ++ [P ++ s], by rw [h1]; rfl, h2, fun x hx => ?_, rfl⟩
      rcases List.mem_append.1 hx with h5 | h5
      · exact h3 x h5
      · rw [List.mem_singleton.1 h5]
        exact blB_app h4
theorem cr_nb {q : List UInt8} {z : UInt8} (h : nbB z = true) : cr (q ++ [z]) = q ++ [z] := by
  unfold cr
  rw [if_neg]
  intro e
  simp at e
  subst e
  revert h
  decide
theorem cr_13' (q : List UInt8) : cr (q ++ [13]) = q := by
  unfold cr
  simp
/-- The open line ends with a word's byte. -/
def lastN (P : List UInt8) : Prop := ∃ q z, P = q ++ [z] ∧ nbB z = true
theorem fold_crlf {P : List UInt8} (h10 : (10 : UInt8) ∉ P) : Term (P ++ [13, 10]) ∧ txt (P ++ [13, 10]) = P := by
  have e : P ++ [13, 10] = (P ++ [13]) ++ [10] := by simp
  rw [e]
  refine ⟨⟨P ++ [13], rfl, ?_⟩, by rw [txt_term, cr_13']⟩
  intro hm
  rcases List.mem_append.1 hm with h1 | h1
  · exact h10 h1
  · simp at h1
theorem fold_lf {P : List UInt8} (h10 : (10 : UInt8) ∉ P) (h : lastN P) : Term (P ++ [10]) ∧ txt (P ++ [10]) = P := by
  refine ⟨⟨P, rfl, h10⟩, ?_⟩
  obtain ⟨q, z, rfl, hz⟩ := h
  rw [txt_term, cr_nb hz]
/-- What stands between two words. -/
def sepR : Nat → List UInt8
  | 0 => [13, 10, 32]
  | 1 => [32]
  | _ => [10, 32]
theorem Fo.sep {F T P : List UInt8} {D : List (List UInt8)} (h : Fo F T D P) (hl : lastN P) (r : Nat) : ∃ D' P', Fo (F ++ sepR r) (T ++ [32]) D' P' := by
  match r with
  | 0 =>
    obtain ⟨h1, h2⟩ := fold_crlf h.open'
    exact ⟨_, _, h.fold h1 h2⟩
  | 1 => exact ⟨_, _, h.blank⟩
  | _ + 2 =>
    obtain ⟨h1, h2⟩ := fold_lf h.open' hl
    exact ⟨_, _, h.fold h1 h2⟩
/-- Behind one word and more. -/
structure FoW (F T : List UInt8) : Prop where
  st : ∃ D P, Fo F T D P ∧ lastN P
  tg : tight T
theorem last_word {P w : List UInt8} (hne : w ≠ []) (hw : w.all nbB = true) : lastN (P ++ w) := by
  rcases List.eq_nil_or_concat w with rfl | ⟨q, z, rfl⟩
  · exact (hne rfl).elim
  · exact ⟨P ++ q, z, by simp, List.all_eq_true.1 hw z (by simp)⟩
theorem tight_word {w : List UInt8} (hne : w ≠ []) (hw : w.all nbB = true) : tight w := by
  refine ⟨?_, ?_⟩
  · cases w with
    | nil => exact (hne rfl).elim
    | cons a r => exact ⟨a, r, rfl, List.all_eq_true.1 hw a (by simp)⟩
  · obtain ⟨q, z, h1, h2⟩ := last_word (P := []) hne hw
    exact ⟨q, z, by simpa using h1, h2⟩
theorem FoW.first {w : List UInt8} (hne : w ≠ []) (hw : w.all nbB = true) : FoW ([65, 58, 32] ++ w) w :=
  ⟨⟨_, _, Fo.start.word hw, last_word hne hw⟩, tight_word hne hw⟩
theorem FoW.next {F T w : List UInt8} (h : FoW F T) (r : Nat) (hne : w ≠ []) (hw : w.all nbB = true) : FoW (F ++ sepR r ++ w) (T ++ [32] ++ w) := by
  obtain ⟨⟨D, P, h1, h2⟩, ⟨a, q, h3, h4⟩, _⟩ := h
  obtain ⟨D', P', h5⟩ := h1.sep h2 r
  refine ⟨⟨_, _, h5.word hw, last_word hne hw⟩, ⟨a, q ++ [32] ++ w, by rw [h3]; simp, h4⟩, ?_⟩
  obtain ⟨q2, z, h6, h7⟩ := last_word (P := T ++ [32]) hne hw
  exact ⟨q2, z, h6, h7⟩
/-- What is put behind the folded field. -/
def bcL : List UInt8 := [66, 58, 32, 99, 13, 10]
theorem folds_hd {F T : List UInt8} (h : FoW F T) : ∃ e f, (hd (splitS (F ++ [13, 10, 66, 58, 32, 99, 13, 10, 13, 10])) 0).1 = [⟨[65], T, 0, e⟩, f] := by
  obtain ⟨⟨D, P, hF, hl⟩, htg⟩ := h
  obtain ⟨hT, htx⟩ := fold_crlf hF.open'
  -- the lines of the field
  obtain ⟨X, G, hXG, hX, hG⟩ : ∃ X G, D ++ [P ++ [13, 10]] = X :: G ∧ (∃ q, txt X = [65, 58, 32] ++ q) ∧ ∀ x ∈ G, blB x = true := by
    rcases hF.shape with ⟨h1, q, h2⟩ | ⟨X, G, h1, h2, h3, h4⟩
    · exact ⟨P ++ [13, 10], [], by rw [h1]; rfl, ⟨q, by rw [htx, h2]⟩, fun x hx => by cases hx⟩
    · refine ⟨X, G ++ [P ++ [13, 10]], by rw [h1]; rfl, h2, fun x hx => ?_⟩
      rcases List.mem_append.1 hx with h5 | h5
      · exact h3 x h5
      · rw [List.mem_singleton.1 h5]
        exact blB_app h4
  have hall : ∀ x ∈ X :: G, Term x := by
    rw [← hXG]
    intro x hx
    rcases List.mem_append.1 hx with h1 | h1
    · exact hF.term x h1
    · rw [List.mem_singleton.1 h1]
      exact hT
  have hsplit : splitS (F ++ [13, 10, 66, 58, 32, 99, 13, 10, 13, 10]) = X :: (G ++ [bcL, crL]) := by
    have e1 : F ++ [13, 10, 66, 58, 32, 99, 13, 10, 13, 10] = (D ++ [P ++ [13, 10]]).flatten ++ (bcL ++ crL) := by
      rw [hF.eq]
      simp [bcL, crL]
    rw [e1, hXG, splitS_app _ hall]
    have e2 : splitS (bcL ++ crL) = [bcL, crL] := by decide
    rw [e2]
    rfl
  have htexts : txt X ++ (G.map txt).flatten = [65, 58, 32] ++ T := by
    have h1 := hF.text
    have h2 : ((D ++ [P ++ [13, 10]]).map txt).flatten = [65, 58, 32] ++ T := by
      rw [← h1, List.map_append, List.flatten_append]
      simp [htx]
    rw [hXG] at h2
    simpa using h2
  obtain ⟨q, hq⟩ := hX
  have hne : txt X ≠ [] := by rw [hq]; simp
  have htw : (G ++ [bcL, crL]).takeWhile blB = G ∧ (G ++ [bcL, crL]).dropWhile blB = [bcL, crL] := by
    refine ⟨?_, ?_⟩
    · rw [List.takeWhile_append_of_pos hG]
      simp [bcL, blB]
    · rw [List.dropWhile_append_of_pos hG]
      rfl
  rw [hsplit, hd_cons hne, htw.1, htw.2]
  have hname : nameO (txt X) = some [65] := by
    rw [hq]
    exact nameO_of (p := [65]) (q := 32 :: q) (by decide) (by decide) (by decide)
  have hval : (txt X).drop 2 ++ (G.map txt).flatten = 32 :: T := by
    have := htexts
    rw [hq] at this ⊢
    simpa using this
  unfold fdOf
  rw [hname]
  simp only [Option.map_some, Option.toList_some, List.length_cons, List.length_nil, Nat.zero_add, Nat.reduceAdd]
  rw [hval, trim_lead htg]
  obtain ⟨E, hE⟩ : ∃ E, X.length + G.flatten.length = E := ⟨_, rfl⟩
  have h2 : ∃ f, (hd [bcL, crL] E).1 = [f] := by
    have := hd_lines [bcL] crL [] E (by decide) (by decide)
    rw [List.singleton_append] at this
    rw [this]
    exact ⟨_, rfl⟩
  obtain ⟨f, hf⟩ := h2
  exact ⟨_, f, by rw [hE, hf]; rfl⟩
theorem sepR_len (r : Nat) : (sepR r).length ≤ 3 := by
  match r with
  | 0 => decide
  | 1 => decide
  | _ + 2 => simp [sepR]
end Go.Proofs.YtgmdpjncgdojbabDoor
