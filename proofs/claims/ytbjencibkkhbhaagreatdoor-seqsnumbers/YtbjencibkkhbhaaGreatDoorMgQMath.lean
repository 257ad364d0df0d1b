/- Lines of a text that are quoted and unquoted: plain mathematics of lists of bytes. -/
/- Entries of a file: plain lists of lines. -/
/- A message's header: plain mathematics of lists of lines. -/
/- Small letters, byte by byte. -/
/- Sections, in plain lists: which are right, their texts, and what a text is read as, by the program and by the document. -/
/- Names and patterns of mailboxes, in plain lists. -/
/- The search of package boxes in plain lists: a pattern cut at stars, slashes and percent signs, each run taken as far ahead as it fits, fits just what the pattern fits. -/
/- Sets of numbers and flags, in plain lists. -/
import Derived.WalkKit
import Derived.Lib.TrimByte
import Derived.Lib.Strings
import Derived.Lib.Bytealg
import Derived.Lib.SlTrimSet
import Derived.Lib.AtoiAll
import Derived.Lib.ItoaNum
import Derived.Lib.Join
import Derived.Lib.IndexMore
import Derived.Lib.IndexLaws
section
namespace Go.Proofs.YtbjencibkkhbhaaGreatDoor
open Go.RowKit
def cut10 : List UInt8 → Option (List UInt8 × List UInt8)
  | [] => none
  | c :: r => if c = 10 then some ([], r) else (cut10 r).map fun p => (c :: p.1, p.2)
theorem cut10_none : ∀ {l : List UInt8}, cut10 l = none → (10 : UInt8) ∉ l
  | [], _ => by simp
  | c :: r, h => by
    unfold cut10 at h
    split at h
    · cases h
    · next hc =>
      have := cut10_none (Option.map_eq_none_iff.1 h)
      simp only [List.mem_cons, not_or]
      exact ⟨fun e => hc e.symm, this⟩
theorem cut10_some : ∀ {l p r : List UInt8}, cut10 l = some (p, r) → l = p ++ 10 :: r ∧ (10 : UInt8) ∉ p
  | [], _, _, h => by cases h
  | c :: l, p, r, h => by
    unfold cut10 at h
    split at h
    · next hc =>
      cases h
      exact ⟨by rw [hc]; rfl, by simp⟩
    · next hc =>
      obtain ⟨⟨p', r'⟩, h1, h2⟩ := Option.map_eq_some_iff.1 h
      obtain ⟨rfl, h4⟩ := cut10_some h1
      cases h2
      exact ⟨rfl, by simp only [List.mem_cons, not_or]; exact ⟨fun e => hc e.symm, h4⟩⟩
theorem index_none : ∀ {l : List UInt8}, (10 : UInt8) ∉ l → Lib.indexByte l 10 = -1
  | [], _ => rfl
  | c :: r, h => by
    simp only [List.mem_cons, not_or] at h
    unfold Lib.indexByte
    rw [if_neg (by simpa using fun e => h.1 e.symm), index_none h.2]
    rfl
theorem index_mid : ∀ {p : List UInt8} (r : List UInt8), (10 : UInt8) ∉ p → Lib.indexByte (p ++ 10 :: r) 10 = p.length
  | [], _, _ => by simp [Lib.indexByte]
  | c :: p, r, h => by
    simp only [List.mem_cons, not_or] at h
    show Lib.indexByte (c :: (p ++ 10 :: r)) 10 = _
    unfold Lib.indexByte
    rw [if_neg (by simpa using fun e => h.1 e.symm), index_mid r h.2, if_neg (by simp; try omega)]
    simp
/-- A text's lines. -/
def splitS : List UInt8 → List (List UInt8)
  | [] => []
  | c :: r => if c = 10 then [10] :: splitS r else match splitS r with
    | [] => [[c]]
    | x :: xs => (c :: x) :: xs
theorem splitS_mid : ∀ (p r : List UInt8), (10 : UInt8) ∉ p → splitS (p ++ 10 :: r) = (p ++ [10]) :: splitS r
  | [], r, _ => by simp [splitS]
  | c :: p, r, h => by
    simp only [List.mem_cons, not_or] at h
    show splitS (c :: (p ++ 10 :: r)) = _
    rw [splitS, if_neg (fun e => h.1 e.symm), splitS_mid p r h.2]
    rfl
theorem splitS_end : ∀ (l : List UInt8), (10 : UInt8) ∉ l → l ≠ [] → splitS l = [l]
  | [c], h, _ => by
    simp only [List.mem_cons, not_or] at h
    rw [splitS, if_neg (fun e => h.1 e.symm)]
    rfl
  | c :: d :: r, h, _ => by
    simp only [List.mem_cons, not_or] at h
    rw [splitS, if_neg (fun e => h.1 e.symm), splitS_end (d :: r) (by simp only [List.mem_cons, not_or]; exact h.2) (by simp)]
theorem splitS_flat : ∀ (l : List UInt8), (splitS l).flatten = l
  | [] => rfl
  | c :: r => by
    have ih := splitS_flat r
    rw [splitS]
    split
    · next hc => simp [ih, hc]
    · split
      · next h =>
        rw [h] at ih
        simp at ih
        simp [← ih]
      · next x xs h =>
        rw [h] at ih
        simp at ih
        simp [ih]
theorem splitS_len : ∀ (l : List UInt8), (splitS l).length ≤ l.length
  | [] => Nat.le_refl _
  | c :: r => by
    have ih := splitS_len r
    rw [splitS]
    split
    · simp; omega
    · split
      · next h => simp
      · next x xs h =>
        rw [h] at ih
        simp at ih ⊢
        omega
theorem ext_take (l : List UInt8) (k : Nat) : (⟨l.toArray⟩ : ByteArray).extract 0 k = ⟨(l.take k).toArray⟩ := by
  apply ByteArray.ext
  simp [ByteArray.data_extract]
theorem ext_drop (l : List UInt8) (k : Nat) : (⟨l.toArray⟩ : ByteArray).extract k l.length = ⟨(l.drop k).toArray⟩ := by
  apply ByteArray.ext
  simp only [ByteArray.data_extract, List.extract_toArray]
  congr 1
  rw [List.extract_eq_take_drop]
  apply List.take_of_length_le
  rw [List.length_drop]
  omega
theorem ext_mid (l : List UInt8) (a b : Nat) : (⟨l.toArray⟩ : ByteArray).extract a b = ⟨((l.drop a).take (b - a)).toArray⟩ := by
  apply ByteArray.ext
  simp [ByteArray.data_extract, List.extract_eq_take_drop]

/-- The five bytes that a separator begins with. -/
def fromS : List UInt8 := [70, 114, 111, 109, 32]
/-- It looks like a separator. -/
def sepB (l : List UInt8) : Bool := fromS.isPrefixOf l
/-- It looks quoted, or like a separator. -/
def nm : List UInt8 → Bool
  | [] => false
  | c :: r => if c = 62 then nm r else sepB (c :: r)
/-- It looks quoted. -/
def quoB : List UInt8 → Bool
  | [] => false
  | c :: r => if c = 62 then nm r else false
theorem sep_62 (r : List UInt8) : sepB (62 :: r) = false := by simp [sepB, fromS, List.isPrefixOf]
theorem sep_nil : sepB [] = false := rfl
theorem nm_cons62 (r : List UInt8) : nm (62 :: r) = nm r := by rw [nm, if_pos rfl]
theorem quo_62 (r : List UInt8) : quoB (62 :: r) = nm r := by rw [quoB, if_pos rfl]
theorem nm_or : ∀ l : List UInt8, nm l = (sepB l || quoB l)
  | [] => rfl
  | c :: r => by
    by_cases h : c = 62
    · subst h; rw [nm_cons62, sep_62, quo_62]; simp
    · rw [nm, quoB, if_neg h, if_neg h]; simp
theorem nm_sep {l : List UInt8} (h : sepB l = true) : nm l = true := by rw [nm_or, h]; rfl
theorem nm_quo {l : List UInt8} (h : quoB l = true) : nm l = true := by rw [nm_or, h]; simp
theorem sep_not_quo : ∀ {l : List UInt8}, sepB l = true → quoB l = false
  | [], h => by cases h
  | c :: r, h => by
    by_cases e : c = 62
    · subst e; rw [sep_62] at h; cases h
    · rw [quoB, if_neg e]
theorem quo_form : ∀ {l : List UInt8}, quoB l = true → ∃ r, l = 62 :: r ∧ nm r = true
  | [], h => by cases h
  | c :: r, h => by
    by_cases e : c = 62
    · subst e; rw [quo_62] at h; exact ⟨r, rfl, h⟩
    · rw [quoB, if_neg e] at h; cases h
theorem nm_trim : ∀ l : List UInt8, Lib.hasPrefix (Lib.trimLeftB l 62) fromS = nm l
  | [] => rfl
  | c :: r => by
    by_cases h : c = 62
    · subst h
      rw [nm_cons62, ← nm_trim r]
      rfl
    · have : Lib.trimLeftB (c :: r) 62 = c :: r := by
        unfold Lib.trimLeftB
        rw [List.dropWhile_cons_of_neg (by simpa using h)]
      rw [this, nm, if_neg h]
      rfl
theorem trim_le : ∀ l : List UInt8, (Lib.trimLeftB l 62).length ≤ l.length
  | [] => Nat.le_refl _
  | c :: r => by
    have := trim_le r
    unfold Lib.trimLeftB at *
    rw [List.dropWhile_cons]
    split
    · simp; omega
    · simp
theorem sep_trim {l : List UInt8} (h : nm l = true) : sepB l = decide ((Lib.trimLeftB l 62).length = l.length) := by
  cases l with
  | nil => cases h
  | cons c r =>
    by_cases e : c = 62
    · subst e
      rw [sep_62]
      have h1 : Lib.trimLeftB (62 :: r) 62 = Lib.trimLeftB r 62 := rfl
      have h2 := trim_le r
      rw [h1, eq_comm, decide_eq_false_iff_not, List.length_cons]
      omega
    · have : Lib.trimLeftB (c :: r) 62 = c :: r := by
        unfold Lib.trimLeftB
        rw [List.dropWhile_cons_of_neg (by simpa using e)]
      rw [this, decide_eq_true rfl]
      rw [nm, if_neg e] at h
      exact h
theorem quo_not_sep {l : List UInt8} (h : nm l = true) : quoB l = !sepB l := by
  cases hs : sepB l with
  | true => rw [sep_not_quo hs]; rfl
  | false => rw [nm_or, hs] at h; simpa using h

/-- A line quoted. -/
def quoteL (l : List UInt8) : List UInt8 := if nm l then 62 :: l else l
/-- A line unquoted. -/
def unquoteL (l : List UInt8) : List UInt8 := if quoB l then l.drop 1 else l
theorem quote_nm {l : List UInt8} : nm (quoteL l) = nm l := by
  unfold quoteL
  split
  · rw [nm_cons62]
  · rfl
theorem unquote_quote (l : List UInt8) : unquoteL (quoteL l) = l := by
  unfold quoteL
  split
  · next h => unfold unquoteL; rw [quo_62, if_pos h]; rfl
  · next h =>
    unfold unquoteL
    rw [if_neg]
    intro hq
    exact h (nm_quo hq)
theorem sep_quote (l : List UInt8) : sepB (quoteL l) = false := by
  unfold quoteL
  split
  · exact sep_62 l
  · next h =>
    cases hs : sepB l with
    | true => exact absurd (nm_sep hs) h
    | false => rfl
theorem quote_unquote {l : List UInt8} (h : sepB l = false) : quoteL (unquoteL l) = l := by
  unfold unquoteL
  split
  · next hq =>
    obtain ⟨r, rfl, hr⟩ := quo_form hq
    show quoteL r = _
    rw [quoteL, if_pos hr]
  · next hq =>
    rw [quoteL, if_neg]
    rw [nm_or, h]
    simpa using hq

/-! Ends of lines -/
theorem pre_mid : ∀ (pat p r : List UInt8), (10 : UInt8) ∉ pat → pat.isPrefixOf (p ++ 10 :: r) = pat.isPrefixOf p
  | [], p, r, _ => by simp
  | a :: pat, [], r, h => by
    simp only [List.mem_cons, not_or] at h
    have : (a == 10) = false := by simpa using fun e => h.1 e.symm
    simp [List.isPrefixOf, this]
  | a :: pat, c :: p, r, h => by
    simp only [List.mem_cons, not_or] at h
    show (a == c && pat.isPrefixOf (p ++ 10 :: r)) = (a == c && pat.isPrefixOf p)
    rw [pre_mid pat p r h.2]
theorem sep_mid (p r : List UInt8) : sepB (p ++ 10 :: r) = sepB p := pre_mid fromS p r (by decide)
theorem nm_mid : ∀ (p r : List UInt8), nm (p ++ 10 :: r) = nm p
  | [], r => by simp [nm, sepB, fromS, List.isPrefixOf]
  | c :: p, r => by
    show nm (c :: (p ++ 10 :: r)) = _
    by_cases h : c = 62
    · subst h; rw [nm_cons62, nm_cons62, nm_mid p r]
    · rw [nm, nm, if_neg h, if_neg h]; exact sep_mid (c :: p) r
theorem quo_mid : ∀ (p r : List UInt8), quoB (p ++ 10 :: r) = quoB p
  | [], r => by simp [quoB]
  | c :: p, r => by
    show quoB (c :: (p ++ 10 :: r)) = _
    rw [quoB, quoB, nm_mid p r]
/-- A whole line. -/
def Term (x : List UInt8) : Prop := ∃ p, x = p ++ [10] ∧ (10 : UInt8) ∉ p
theorem Term.ne {x : List UInt8} (h : Term x) : x ≠ [] := by obtain ⟨p, rfl, _⟩ := h; simp
theorem Term.quote {x : List UInt8} (h : Term x) : Term (quoteL x) := by
  obtain ⟨p, rfl, hp⟩ := h
  unfold quoteL
  split
  · exact ⟨62 :: p, rfl, by simp [hp]⟩
  · exact ⟨p, rfl, hp⟩
theorem Term.unquote {x : List UInt8} (h : Term x) : Term (unquoteL x) := by
  obtain ⟨p, rfl, hp⟩ := h
  unfold unquoteL
  split
  · next hq =>
    cases p with
    | nil => simp [quoB] at hq
    | cons c p =>
      simp only [List.mem_cons, not_or] at hp
      exact ⟨p, rfl, hp.2⟩
  · exact ⟨p, rfl, hp⟩
theorem splitS_terms : ∀ (xs : List (List UInt8)), (∀ x ∈ xs, Term x) → splitS xs.flatten = xs
  | [], _ => rfl
  | x :: xs, h => by
    obtain ⟨p, rfl, hp⟩ := h x (by simp)
    have ih := splitS_terms xs (fun y hy => h y (by simp [hy]))
    show splitS ((p ++ [10]) ++ xs.flatten) = _
    rw [List.append_assoc]
    show splitS (p ++ 10 :: xs.flatten) = _
    rw [splitS_mid p _ hp, ih]
theorem cut10_len {l p r : List UInt8} (h : l = p ++ 10 :: r) : r.length < l.length := by rw [h]; simp; omega
theorem term_split (n : Nat) : ∀ (s : List UInt8), s.length ≤ n → ∀ x ∈ splitS (s ++ [10]), Term x := by
  induction n with
  | zero =>
    intro s hs x hx
    obtain rfl : s = [] := List.length_eq_zero_iff.1 (by omega)
    simp [splitS] at hx
    exact ⟨[], hx, by simp⟩
  | succ n ih =>
    intro s hs x hx
    cases hc : cut10 s with
    | none =>
      rw [splitS_mid s [] (cut10_none hc)] at hx
      simp [splitS] at hx
      exact ⟨s, hx, cut10_none hc⟩
    | some pr =>
      obtain ⟨p, r⟩ := pr
      obtain ⟨h, hp⟩ := cut10_some hc
      have hl := cut10_len h
      rw [h, List.append_assoc] at hx
      rw [List.cons_append, splitS_mid p _ hp] at hx
      rcases List.mem_cons.1 hx with rfl | hx
      · exact ⟨p, rfl, hp⟩
      · exact ih r (by omega) x hx
/-- A message as it stands in a file. -/
def encL (s : List UInt8) : List UInt8 := ((splitS (s ++ [10])).map quoteL).flatten
theorem nm_end (p : List UInt8) : nm (p ++ [10]) = nm p := nm_mid p []
theorem quote_end (p : List UInt8) : quoteL (p ++ [10]) = quoteL p ++ [10] := by
  unfold quoteL
  rw [nm_end]
  split <;> rfl
theorem enc_alt (n : Nat) : ∀ (s : List UInt8), s.length ≤ n → ((splitS s).map quoteL).flatten ++ [10] = encL s := by
  induction n with
  | zero =>
    intro s hs
    obtain rfl : s = [] := List.length_eq_zero_iff.1 (by omega)
    rfl
  | succ n ih =>
    intro s hs
    cases hc : cut10 s with
    | none =>
      have h10 := cut10_none hc
      unfold encL
      rw [splitS_mid s [] h10]
      by_cases h0 : s = []
      · subst h0; rfl
      · rw [splitS_end s h10 h0]
        simp [splitS, quote_end]
    | some pr =>
      obtain ⟨p, r⟩ := pr
      obtain ⟨h, hp⟩ := cut10_some hc
      have hl := cut10_len h
      have := ih r (by omega)
      unfold encL at *
      rw [h, List.append_assoc, List.cons_append, splitS_mid p _ hp, splitS_mid p _ hp]
      simp only [List.map_cons, List.flatten_cons, List.append_assoc]
      rw [this]
theorem flat_end : ∀ (xs : List (List UInt8)), xs ≠ [] → (∀ x ∈ xs, Term x) → ∃ m, xs.flatten = m ++ [10]
  | [], h, _ => absurd rfl h
  | [x], _, h => by
    obtain ⟨p, rfl, _⟩ := h x (by simp)
    exact ⟨p, by simp⟩
  | x :: y :: xs, _, h => by
    obtain ⟨m, hm⟩ := flat_end (y :: xs) (by simp) (fun z hz => h z (by simp [hz]))
    exact ⟨x ++ m, by rw [List.flatten_cons, hm, List.append_assoc]⟩
theorem split_ne (s : List UInt8) : splitS (s ++ [10]) ≠ [] := by
  intro h
  have := splitS_flat (s ++ [10])
  rw [h] at this
  simp at this
/-- The lines of what stands in a file, unquoted. -/
def unqL (t : List UInt8) : List UInt8 := ((splitS t).map unquoteL).flatten
/-- Does a line of it look like a separator? -/
def anySep (t : List UInt8) : Bool := (splitS t).any sepB
theorem enc_lines (s : List UInt8) : splitS (encL s) = (splitS (s ++ [10])).map quoteL := by
  refine splitS_terms _ (fun x hx => ?_)
  obtain ⟨y, hy, rfl⟩ := List.mem_map.1 hx
  exact (term_split s.length s (Nat.le_refl _) y hy).quote
theorem enc_noSep (s : List UInt8) : anySep (encL s) = false := by
  unfold anySep
  rw [enc_lines]
  simp [sep_quote]
theorem enc_back (s : List UInt8) : unqL (encL s) = s ++ [10] := by
  unfold unqL
  rw [enc_lines, List.map_map]
  have : (unquoteL ∘ quoteL) = id := by funext l; exact unquote_quote l
  rw [this, List.map_id, splitS_flat]
theorem enc_end (s : List UInt8) : ∃ m, encL s = m ++ [10] := by
  refine flat_end _ (by simpa using split_ne s) (fun x hx => ?_)
  obtain ⟨y, hy, rfl⟩ := List.mem_map.1 hx
  exact (term_split s.length s (Nat.le_refl _) y hy).quote
theorem unq_end (t : List UInt8) : ∃ m, unqL (t ++ [10]) = m ++ [10] := by
  refine flat_end _ (by simpa using split_ne t) (fun x hx => ?_)
  obtain ⟨y, hy, rfl⟩ := List.mem_map.1 hx
  exact (term_split t.length t (Nat.le_refl _) y hy).unquote
theorem unq_back (t m : List UInt8) (h : anySep (t ++ [10]) = false) (hm : unqL (t ++ [10]) = m ++ [10]) : encL m = t ++ [10] := by
  unfold encL
  rw [← hm]
  unfold unqL
  rw [splitS_terms, List.map_map]
  · have : (splitS (t ++ [10])).map (quoteL ∘ unquoteL) = splitS (t ++ [10]) := by
      refine (List.map_congr_left (fun x hx => ?_)).trans (List.map_id _)
      refine quote_unquote ?_
      unfold anySep at h
      rw [List.any_eq_false] at h
      simpa using h x hx
    rw [this, splitS_flat]
  · intro x hx
    obtain ⟨y, hy, rfl⟩ := List.mem_map.1 hx
    exact (term_split t.length t (Nat.le_refl _) y hy).unquote
theorem unq_len : ∀ (xs : List (List UInt8)), (xs.map unquoteL).flatten.length ≤ xs.flatten.length
  | [] => Nat.le_refl _
  | x :: xs => by
    have := unq_len xs
    have h2 : (unquoteL x).length ≤ x.length := by unfold unquoteL; split <;> simp
    simp only [List.map_cons, List.flatten_cons, List.length_append]
    omega
theorem quote_len (x : List UInt8) : (quoteL x).length = x.length + if nm x then 1 else 0 := by
  unfold quoteL
  split <;> simp
theorem quo_len : ∀ (xs : List (List UInt8)), (xs.map quoteL).flatten.length = xs.flatten.length + (xs.filter nm).length
  | [] => rfl
  | x :: xs => by
    have := quo_len xs
    have h2 := quote_len x
    simp only [List.map_cons, List.flatten_cons, List.length_append]
    rw [this, h2, List.filter_cons]
    split <;> simp <;> omega
theorem enc_len (s : List UInt8) : (encL s).length = s.length + 1 + ((splitS s).filter nm).length := by
  rw [← enc_alt s.length s (Nat.le_refl _), List.length_append, quo_len, splitS_flat]
  simp
  omega

/-! The document's way: byte by byte -/
/-- How many marks stand ahead of the name; -1: that isn't there. -/
def marksN : List UInt8 → Int
  | [] => -1
  | c :: r => if c = 62 then (if nm r then marksN r + 1 else -1) else if sepB (c :: r) then 0 else -1
theorem marks_no : ∀ {l : List UInt8}, nm l = false → marksN l = -1
  | [], _ => rfl
  | c :: r, h => by
    unfold marksN
    by_cases e : c = 62
    · subst e
      rw [nm_cons62] at h
      rw [if_pos rfl, if_neg (by simp [h])]
    · rw [nm, if_neg e] at h
      rw [if_neg e, if_neg (by simp [h])]
theorem marks_yes : ∀ {l : List UInt8}, nm l = true → 0 ≤ marksN l
  | [], h => by cases h
  | c :: r, h => by
    unfold marksN
    by_cases e : c = 62
    · subst e
      rw [nm_cons62] at h
      rw [if_pos rfl, if_pos h]
      have := marks_yes h
      omega
    · rw [nm, if_neg e] at h
      rw [if_neg e, if_pos h]
      omega
theorem marks_zero {l : List UInt8} : marksN l = 0 ↔ sepB l = true := by
  cases l with
  | nil => simp [marksN, sep_nil]
  | cons c r =>
    unfold marksN
    by_cases e : c = 62
    · subst e
      rw [if_pos rfl, sep_62]
      by_cases h : nm r = true
      · rw [if_pos h]
        have := marks_yes h
        constructor
        · intro; omega
        · intro h; cases h
      · rw [if_neg h]; simp
    · rw [if_neg e]
      by_cases h : sepB (c :: r) = true
      · simp [h]
      · simp [h]
theorem marks_pos {l : List UInt8} : 0 < marksN l ↔ quoB l = true := by
  cases hn : nm l with
  | false =>
    rw [marks_no hn]
    constructor
    · intro h; omega
    · intro h; rw [nm_quo h] at hn; cases hn
  | true =>
    have h0 := marks_yes hn
    have hz := @marks_zero l
    rw [quo_not_sep hn]
    cases hs : sepB l with
    | true => rw [hz.2 hs]; simp
    | false =>
      have : marksN l ≠ 0 := fun h => by rw [hz.1 h] at hs; cases hs
      simp; omega
theorem marks_nonneg {l : List UInt8} : 0 ≤ marksN l ↔ nm l = true := by
  cases hn : nm l with
  | false => rw [marks_no hn]; simp
  | true => simpa using marks_yes hn
def encR : Bool → List UInt8 → List UInt8
  | _, [] => []
  | b, c :: r => (if b && nm (c :: r) then [62] else []) ++ c :: encR (c == 10) r
theorem encR_false : ∀ (p r : List UInt8), (10 : UInt8) ∉ p → encR false (p ++ 10 :: r) = p ++ 10 :: encR true r
  | [], r, _ => by simp [encR]
  | c :: p, r, h => by
    simp only [List.mem_cons, not_or] at h
    have : (c == 10) = false := by simpa using fun e => h.1 e.symm
    show encR false (c :: (p ++ 10 :: r)) = _
    rw [encR, this, encR_false p r h.2]
    rfl
theorem encR_none : ∀ (p : List UInt8), (10 : UInt8) ∉ p → encR false p = p
  | [], _ => by simp [encR]
  | c :: p, h => by
    simp only [List.mem_cons, not_or] at h
    have : (c == 10) = false := by simpa using fun e => h.1 e.symm
    rw [encR, this, encR_none p h.2]
    rfl
theorem encR_line (p r : List UInt8) (h : (10 : UInt8) ∉ p) : encR true (p ++ 10 :: r) = quoteL (p ++ [10]) ++ encR true r := by
  cases p with
  | nil => simp [encR, quoteL, nm, sepB, fromS, List.isPrefixOf]
  | cons c p =>
    have hn := nm_mid (c :: p) r
    have hn2 := nm_end (c :: p)
    simp only [List.mem_cons, not_or] at h
    have : (c == 10) = false := by simpa using fun e => h.1 e.symm
    show encR true (c :: (p ++ 10 :: r)) = _
    rw [encR, this, encR_false p r h.2]
    rw [List.cons_append] at hn hn2
    rw [hn, quoteL, List.cons_append, hn2]
    split <;> simp_all
theorem encR_last (p : List UInt8) (h : (10 : UInt8) ∉ p) : encR true p ++ [10] = quoteL (p ++ [10]) := by
  cases p with
  | nil => simp [encR, quoteL, nm, sepB, fromS, List.isPrefixOf]
  | cons c p =>
    have hn2 := nm_end (c :: p)
    simp only [List.mem_cons, not_or] at h
    have : (c == 10) = false := by simpa using fun e => h.1 e.symm
    rw [encR, this, encR_none p h.2]
    rw [List.cons_append] at hn2
    rw [quoteL, List.cons_append, hn2]
    split <;> simp_all
theorem encR_eq (n : Nat) : ∀ (s : List UInt8), s.length ≤ n → encR true s ++ [10] = encL s := by
  induction n with
  | zero =>
    intro s hs
    obtain rfl : s = [] := List.length_eq_zero_iff.1 (by omega)
    rfl
  | succ n ih =>
    intro s hs
    cases hc : cut10 s with
    | none =>
      have h10 := cut10_none hc
      unfold encL
      rw [splitS_mid s [] h10, encR_last s h10]
      simp [splitS]
    | some pr =>
      obtain ⟨p, r⟩ := pr
      obtain ⟨h, hp⟩ := cut10_some hc
      have hl := cut10_len h
      have := ih r (by omega)
      unfold encL at *
      rw [h, encR_line p r hp, List.append_assoc, this, List.append_assoc, List.cons_append, splitS_mid p _ hp]
      rfl
/-- The document's reading of a text that a byte 10 ends: without that byte. -/
def decR : Bool → List UInt8 → Option (List UInt8)
  | _, [] => some []
  | b, c :: r => if b && sepB (c :: r) then none else if b && quoB (c :: r) then decR (c == 10) r else (decR (c == 10) r).map (c :: ·)
theorem decR_false : ∀ (p r : List UInt8), (10 : UInt8) ∉ p → decR false (p ++ 10 :: r) = (decR true r).map ((p ++ [10]) ++ ·)
  | [], r, _ => by simp [decR]
  | c :: p, r, h => by
    simp only [List.mem_cons, not_or] at h
    have : (c == 10) = false := by simpa using fun e => h.1 e.symm
    show decR false (c :: (p ++ 10 :: r)) = _
    rw [decR, this, decR_false p r h.2]
    simp [Function.comp_def]
theorem decR_none : ∀ (p : List UInt8), (10 : UInt8) ∉ p → decR false p = some p
  | [], _ => by simp [decR]
  | c :: p, h => by
    simp only [List.mem_cons, not_or] at h
    have : (c == 10) = false := by simpa using fun e => h.1 e.symm
    rw [decR, this, decR_none p h.2]
    rfl
theorem decR_line (p r : List UInt8) (h : (10 : UInt8) ∉ p) : decR true (p ++ 10 :: r) = if sepB (p ++ [10]) then none else (decR true r).map (unquoteL (p ++ [10]) ++ ·) := by
  cases p with
  | nil => simp [decR, unquoteL, quoB, sepB, fromS, List.isPrefixOf]
  | cons c p =>
    have hs := sep_mid (c :: p) r
    have hs2 := sep_mid (c :: p) []
    have hq := quo_mid (c :: p) r
    have hq2 := quo_mid (c :: p) []
    simp only [List.mem_cons, not_or] at h
    have : (c == 10) = false := by simpa using fun e => h.1 e.symm
    show decR true (c :: (p ++ 10 :: r)) = _
    rw [decR, this, decR_false p r h.2]
    rw [List.cons_append] at hs hs2 hq hq2
    rw [hs, hq, unquoteL, List.cons_append, hs2, hq2]
    simp only [Bool.true_and]
    split
    · rfl
    · split
      · simp
      · simp [Function.comp_def]
theorem decR_last (p : List UInt8) (h : (10 : UInt8) ∉ p) : decR true p = if sepB (p ++ [10]) then none else some ((unquoteL (p ++ [10])).dropLast) := by
  cases p with
  | nil => simp [decR, unquoteL, quoB, sepB, fromS, List.isPrefixOf]
  | cons c p =>
    have hs2 := sep_mid (c :: p) []
    have hq2 := quo_mid (c :: p) []
    simp only [List.mem_cons, not_or] at h
    have : (c == 10) = false := by simpa using fun e => h.1 e.symm
    rw [decR, this, decR_none p h.2]
    rw [List.cons_append] at hs2 hq2
    rw [unquoteL, List.cons_append, hs2, hq2]
    simp only [Bool.true_and]
    split
    · rfl
    · split
      · simp
      · show some (c :: p) = some ((c :: p ++ [10]).dropLast)
        rw [List.dropLast_concat]
theorem decR_eq (n : Nat) : ∀ (s : List UInt8), s.length ≤ n → decR true s = if anySep (s ++ [10]) then none else some ((unqL (s ++ [10])).dropLast) := by
  induction n with
  | zero =>
    intro s hs
    obtain rfl : s = [] := List.length_eq_zero_iff.1 (by omega)
    rfl
  | succ n ih =>
    intro s hs
    cases hc : cut10 s with
    | none =>
      have h10 := cut10_none hc
      unfold anySep unqL
      rw [splitS_mid s [] h10, decR_last s h10]
      simp [splitS]
    | some pr =>
      obtain ⟨p, r⟩ := pr
      obtain ⟨h, hp⟩ := cut10_some hc
      have hl := cut10_len h
      have hi := ih r (by omega)
      obtain ⟨m, hm⟩ := unq_end r
      unfold anySep unqL at *
      rw [h, decR_line p r hp, hi, List.append_assoc, List.cons_append, splitS_mid p _ hp]
      simp only [List.any_cons, List.map_cons, List.flatten_cons]
      cases sepB (p ++ [10]) with
      | true => rfl
      | false =>
        rw [hm]
        cases (splitS (r ++ [10])).any sepB with
        | true => rfl
        | false =>
          simp only [Bool.or_false, Bool.false_eq_true, if_false, Option.map_some, List.dropLast_concat]
          rw [← List.append_assoc, List.dropLast_concat]
/-! Where lines begin in a file, none looks like a separator -/
theorem sep_term {x : List UInt8} (h : Term x) (r : List UInt8) : sepB (x ++ r) = sepB x := by
  obtain ⟨p, rfl, _⟩ := h
  rw [List.append_assoc, List.singleton_append, sep_mid, sep_mid]
theorem drop_past {x r : List UInt8} {i : Nat} (h : ¬ i < x.length) : (x ++ r).drop i = r.drop (i - x.length) := by
  rw [List.drop_append, List.drop_of_length_le (by omega), List.nil_append]
theorem begins_noSep : ∀ (xs : List (List UInt8)), (∀ x ∈ xs, Term x ∧ sepB x = false) → ∀ i, (i = 0 ∨ xs.flatten[i - 1]? = some 10) → sepB (xs.flatten.drop i) = false
  | [], _, i, _ => by simp [sep_nil]
  | x :: xs, h, i, hi => by
    obtain ⟨ht, hs⟩ := h x (by simp)
    have ih := begins_noSep xs (fun y hy => h y (by simp [hy]))
    rw [List.flatten_cons] at hi ⊢
    by_cases hlt : i < x.length
    · have h0 : i = 0 := by
        rcases hi with h0 | h1
        · exact h0
        · by_cases hz : i = 0
          · exact hz
          · exfalso
            obtain ⟨p, rfl, hp⟩ := ht
            simp only [List.length_append, List.length_singleton] at hlt
            rw [List.append_assoc, List.getElem?_append_left (by omega)] at h1
            exact hp (List.mem_of_getElem? h1)
      subst h0
      rw [List.drop_zero, sep_term ht, hs]
    · rw [drop_past hlt]
      refine ih (i - x.length) ?_
      by_cases he : i = x.length
      · left; omega
      · right
        rcases hi with h0 | h1
        · have := ht.ne
          have : 0 < x.length := List.length_pos_iff.2 this
          omega
        · rw [List.getElem?_append_right (by omega)] at h1
          rw [show i - x.length - 1 = i - 1 - x.length from by omega]
          exact h1
theorem enc_begins (s : List UInt8) (i : Nat) (h : i = 0 ∨ (encL s)[i - 1]? = some 10) : sepB ((encL s).drop i) = false := by
  refine begins_noSep _ (fun x hx => ?_) i h
  obtain ⟨y, hy, rfl⟩ := List.mem_map.1 hx
  exact ⟨(term_split s.length s (Nat.le_refl _) y hy).quote, sep_quote y⟩
end Go.Proofs.YtbjencibkkhbhaaGreatDoor

end
section
namespace Go.Proofs.YtbjencibkkhbhaaGreatDoor
/-- Rows of lines, as a text's lines are: each ends with a byte 10, but for the last one. -/
def LOK : List (List UInt8) → Prop
  | [] => True
  | x :: r => (Term x ∨ (r = [] ∧ x ≠ [] ∧ (10 : UInt8) ∉ x)) ∧ LOK r
theorem LOK.ne {x : List UInt8} {r : List (List UInt8)} (h : LOK (x :: r)) : x ≠ [] := by
  rcases h.1 with h | h
  · exact h.ne
  · exact h.2.1
theorem LOK.right : ∀ {a b : List (List UInt8)}, LOK (a ++ b) → LOK b
  | [], _, h => h
  | _ :: a, _, h => LOK.right (a := a) h.2
theorem LOK.left : ∀ {a b : List (List UInt8)}, LOK (a ++ b) → LOK a
  | [], _, _ => trivial
  | x :: a, b, h => ⟨by
      rcases h.1 with h1 | ⟨h1, h2⟩
      · exact .inl h1
      · exact .inr ⟨(List.append_eq_nil_iff.1 h1).1, h2⟩, LOK.left (a := a) h.2⟩
theorem LOK.term {x : List UInt8} {r : List (List UInt8)} (h : LOK (x :: r)) (hr : r ≠ []) : Term x := by
  rcases h.1 with h | h
  · exact h
  · exact (hr h.1).elim
theorem LOK.of_terms : ∀ {xs : List (List UInt8)}, (∀ x ∈ xs, Term x) → LOK xs
  | [], _ => trivial
  | x :: r, h => ⟨.inl (h x (by simp)), LOK.of_terms fun y hy => h y (by simp [hy])⟩
theorem LOK.split : ∀ {xs : List (List UInt8)}, LOK xs → splitS xs.flatten = xs
  | [], _ => by rw [List.flatten_nil, splitS]
  | x :: r, h => by
    rcases h.1 with ⟨p, rfl, hp⟩ | ⟨rfl, h1, h2⟩
    · rw [List.flatten_cons, List.append_assoc]
      show splitS (p ++ 10 :: r.flatten) = _
      rw [splitS_mid p _ hp, h.2.split]
    · rw [List.flatten_cons, List.flatten_nil, List.append_nil, splitS_end x h2 h1]
theorem lok_split (n : Nat) : ∀ (s : List UInt8), s.length ≤ n → LOK (splitS s) := by
  induction n with
  | zero =>
    intro s h
    have : s = [] := List.eq_nil_of_length_eq_zero (by omega)
    subst this
    rw [splitS]; trivial
  | succ n ih =>
    intro s h
    by_cases h0 : s = []
    · subst h0; rw [splitS]; trivial
    · cases hc : cut10 s with
      | none => rw [splitS_end s (cut10_none hc) h0]; exact ⟨.inr ⟨rfl, h0, cut10_none hc⟩, trivial⟩
      | some pr =>
        obtain ⟨p, r⟩ := pr
        obtain ⟨rfl, hp⟩ := cut10_some hc
        rw [splitS_mid p r hp]
        exact ⟨.inl ⟨p, rfl, hp⟩, ih r (by simp at h; omega)⟩
theorem lok (s : List UInt8) : LOK (splitS s) := lok_split s.length s (Nat.le_refl _)
/-- Lines in groups: those ahead of the first one that looks like a separator, and of each such line those behind it. -/
def grp : List (List UInt8) → List (List UInt8) × List (List UInt8 × List (List UInt8))
  | [] => ([], [])
  | x :: r => if sepB x then ([], (x, (grp r).1) :: (grp r).2) else (x :: (grp r).1, (grp r).2)
theorem grp_sep {x : List UInt8} {r : List (List UInt8)} (h : sepB x = true) : grp (x :: r) = ([], (x, (grp r).1) :: (grp r).2) := by rw [grp, if_pos h]
theorem grp_non {x : List UInt8} {r : List (List UInt8)} (h : sepB x = false) : grp (x :: r) = (x :: (grp r).1, (grp r).2) := by rw [grp, if_neg (by rw [h]; simp)]
theorem grp_run : ∀ (c r : List (List UInt8)), (∀ x ∈ c, sepB x = false) → grp (c ++ r) = (c ++ (grp r).1, (grp r).2)
  | [], r, _ => rfl
  | x :: c, r, h => by
    rw [List.cons_append, grp_non (h x (by simp)), grp_run c r fun y hy => h y (by simp [hy])]
    rfl
def flatG (gs : List (List UInt8 × List (List UInt8))) : List UInt8 := (gs.map fun g => g.1 ++ g.2.flatten).flatten
theorem flatG_cons (g : List UInt8 × List (List UInt8)) (gs : List (List UInt8 × List (List UInt8))) : flatG (g :: gs) = g.1 ++ g.2.flatten ++ flatG gs := by simp [flatG]
theorem flatG_app (a b : List (List UInt8 × List (List UInt8))) : flatG (a ++ b) = flatG a ++ flatG b := by simp [flatG]
theorem grp_flat : ∀ (r : List (List UInt8)), (grp r).1.flatten ++ flatG (grp r).2 = r.flatten
  | [] => rfl
  | x :: r => by
    have ih := grp_flat r
    cases h : sepB x with
    | true => rw [grp_sep h, flatG_cons]; simp [← ih]
    | false => rw [grp_non h]; simp [← ih]
theorem grp_none : ∀ {r : List (List UInt8)}, grp r = ([], []) → r = []
  | [], _ => rfl
  | x :: r, h => by
    cases hx : sepB x with
    | true => rw [grp_sep hx] at h; simp at h
    | false => rw [grp_non hx] at h; simp at h
theorem grp_snoc_sep : ∀ (p : List (List UInt8)) {x : List UInt8}, sepB x = true → grp (p ++ [x]) = ((grp p).1, (grp p).2 ++ [(x, [])])
  | [], x, h => by rw [List.nil_append, grp_sep h]; rfl
  | y :: p, x, h => by
    have ih := grp_snoc_sep p h
    cases hy : sepB y with
    | true => rw [List.cons_append, grp_sep hy, grp_sep hy, ih]; rfl
    | false => rw [List.cons_append, grp_non hy, grp_non hy, ih]
/-- A line more to the last group. -/
theorem grp_snoc_non : ∀ (p : List (List UInt8)) {x : List UInt8} {gs : List (List UInt8 × List (List UInt8))} {y : List UInt8} {b : List (List UInt8)}, sepB x = false → (grp p).2 = gs ++ [(y, b)] → grp (p ++ [x]) = ((grp p).1, gs ++ [(y, b ++ [x])])
  | [], x, gs, y, b, _, h => by simp [grp] at h
  | z :: p, x, gs, y, b, hx, h => by
    cases hz : sepB z with
    | true =>
      rw [grp_sep hz] at h
      rw [List.cons_append, grp_sep hz, grp_sep hz]
      cases gs with
      | nil =>
        simp only [List.nil_append, List.cons.injEq, Prod.mk.injEq] at h
        obtain ⟨⟨rfl, rfl⟩, hn⟩ := h
        have hp : ∀ x ∈ p, sepB x = false := by
          intro q hq
          cases hs : sepB q with
          | false => rfl
          | true =>
            obtain ⟨a, c, rfl⟩ := List.append_of_mem hq
            exfalso
            have : ∀ a : List (List UInt8), (grp (a ++ q :: c)).2 ≠ [] := by
              intro a
              induction a with
              | nil => rw [List.nil_append, grp_sep hs]; simp
              | cons t a ih =>
                cases ht : sepB t with
                | true => rw [List.cons_append, grp_sep ht]; simp
                | false => rw [List.cons_append, grp_non ht]; exact ih
            exact this a hn
        have e1 := grp_run p [x] hp
        have e2 := grp_run p [] hp
        rw [List.append_nil] at e2
        rw [e1, e2, grp_non hx]
        simp [grp]
      | cons g gs =>
        simp only [List.cons_append, List.cons.injEq] at h
        obtain ⟨rfl, h2⟩ := h
        rw [grp_snoc_non p hx h2]
        rfl
    | false =>
      rw [grp_non hz] at h
      rw [List.cons_append, grp_non hz, grp_non hz, grp_snoc_non p hx h]
/-- Where the entries stand: an entry's Head, Body and End. -/
structure Sp where
  h : Nat
  b : Nat
  e : Nat
def spans : Nat → List (List UInt8 × List (List UInt8)) → List Sp
  | _, [] => []
  | a, g :: gs => ⟨a, a + g.1.length, a + g.1.length + g.2.flatten.length⟩ :: spans (a + g.1.length + g.2.flatten.length) gs
theorem spans_app : ∀ (a : Nat) (p q : List (List UInt8 × List (List UInt8))), spans a (p ++ q) = spans a p ++ spans (a + (flatG p).length) q
  | a, [], q => by simp [spans, flatG]
  | a, g :: p, q => by
    rw [List.cons_append, spans, spans, spans_app, flatG_cons, List.cons_append]
    simp [Nat.add_assoc]
theorem spans_len : ∀ (a : Nat) (p : List (List UInt8 × List (List UInt8))), (spans a p).length = p.length
  | _, [] => rfl
  | a, g :: p => by rw [spans, List.length_cons, spans_len, List.length_cons]
def okG (gs : List (List UInt8 × List (List UInt8))) : Bool := gs.all fun g => g.2.flatten.getLast? == some 10
/-- What Scan answers of lines from a place on. -/
def restV (a : Nat) (r : List (List UInt8)) : Option (List Sp) := if (grp r).1 = [] ∧ okG (grp r).2 = true then some (spans a (grp r).2) else none
def scanV (s : List UInt8) : Option (List Sp) := restV 0 (splitS s)
/-- What stands from Body to End. -/
def cutB (s : List UInt8) (p : Sp) : List UInt8 := (s.drop p.b).take (p.e - p.b)
theorem spans_cut : ∀ (gs : List (List UInt8 × List (List UInt8))) (p q : List UInt8), (spans p.length gs).map (cutB (p ++ flatG gs ++ q)) = gs.map fun g => g.2.flatten
  | [], _, _ => rfl
  | g :: gs, p, q => by
    rw [spans, List.map_cons, List.map_cons]
    have ih := spans_cut gs (p ++ (g.1 ++ g.2.flatten)) q
    rw [List.length_append, List.length_append, ← Nat.add_assoc] at ih
    have e : p ++ (g.1 ++ g.2.flatten) ++ flatG gs ++ q = p ++ flatG (g :: gs) ++ q := by rw [flatG_cons]; simp
    rw [e] at ih
    rw [ih]
    congr 1
    unfold cutB
    show ((p ++ flatG (g :: gs) ++ q).drop (p.length + g.1.length)).take (p.length + g.1.length + g.2.flatten.length - (p.length + g.1.length)) = g.2.flatten
    have e2 : p ++ flatG (g :: gs) ++ q = (p ++ g.1) ++ (g.2.flatten ++ (flatG gs ++ q)) := by rw [flatG_cons]; simp
    rw [e2, List.drop_left' (by simp), Nat.add_sub_cancel_left, List.take_left' rfl]
/-- What stands from Head to End. -/
def cutH (s : List UInt8) (p : Sp) : List UInt8 := (s.drop p.h).take (p.e - p.h)
theorem spans_head : ∀ (gs : List (List UInt8 × List (List UInt8))) (p q : List UInt8), (spans p.length gs).map (cutH (p ++ flatG gs ++ q)) = gs.map fun g => g.1 ++ g.2.flatten
  | [], _, _ => rfl
  | g :: gs, p, q => by
    rw [spans, List.map_cons, List.map_cons]
    have ih := spans_head gs (p ++ (g.1 ++ g.2.flatten)) q
    rw [List.length_append, List.length_append, ← Nat.add_assoc] at ih
    have e : p ++ (g.1 ++ g.2.flatten) ++ flatG gs ++ q = p ++ flatG (g :: gs) ++ q := by rw [flatG_cons]; simp
    rw [e] at ih
    rw [ih]
    congr 1
    unfold cutH
    show ((p ++ flatG (g :: gs) ++ q).drop p.length).take (p.length + g.1.length + g.2.flatten.length - p.length) = g.1 ++ g.2.flatten
    have e2 : p ++ flatG (g :: gs) ++ q = p ++ ((g.1 ++ g.2.flatten) ++ (flatG gs ++ q)) := by rw [flatG_cons]; simp
    rw [e2, List.drop_left' rfl, List.take_left' (by simp; omega)]
/-- Spans lie within the text. -/
theorem spans_in : ∀ (gs : List (List UInt8 × List (List UInt8))) (a : Nat), ∀ p ∈ spans a gs, a ≤ p.h ∧ p.h ≤ p.b ∧ p.b ≤ p.e ∧ p.e ≤ a + (flatG gs).length
  | [], _, p, h => by simp [spans] at h
  | g :: gs, a, p, h => by
    rw [spans, List.mem_cons] at h
    rw [flatG_cons]
    simp only [List.length_append]
    rcases h with rfl | h
    · exact ⟨Nat.le_refl _, by simp, by simp, by simp; omega⟩
    · have := spans_in gs _ p h
      omega
theorem split_flatG {s : List UInt8} (h : (grp (splitS s)).1 = []) : flatG (grp (splitS s)).2 = s := by
  have := grp_flat (splitS s)
  rw [h, splitS_flat] at this
  simpa using this
theorem scan_cut {s : List UInt8} (h : (grp (splitS s)).1 = []) : (spans 0 (grp (splitS s)).2).map (cutB s) = (grp (splitS s)).2.map fun g => g.2.flatten := by
  have := spans_cut (grp (splitS s)).2 [] []
  rw [List.nil_append, List.append_nil, split_flatG h] at this
  exact this
theorem scan_head {s : List UInt8} (h : (grp (splitS s)).1 = []) : (spans 0 (grp (splitS s)).2).map (cutH s) = (grp (splitS s)).2.map fun g => g.1 ++ g.2.flatten := by
  have := spans_head (grp (splitS s)).2 [] []
  rw [List.nil_append, List.append_nil, split_flatG h] at this
  exact this
theorem scan_in {s : List UInt8} (h : (grp (splitS s)).1 = []) : ∀ p ∈ spans 0 (grp (splitS s)).2, p.h ≤ p.b ∧ p.b ≤ p.e ∧ p.e ≤ s.length := by
  intro p hp
  have := spans_in _ 0 p hp
  rw [split_flatG h] at this
  omega
/-- The bodies' lines are lines, and none looks like a separator. -/
theorem grp_bodies : ∀ {r : List (List UInt8)}, LOK r → (LOK (grp r).1 ∧ ∀ x ∈ (grp r).1, sepB x = false) ∧ ∀ g ∈ (grp r).2, LOK g.2 ∧ (∀ x ∈ g.2, sepB x = false) ∧ sepB g.1 = true ∧ (g.2 ≠ [] → Term g.1)
  | [], _ => ⟨⟨trivial, by simp [grp]⟩, by simp [grp]⟩
  | x :: r, h => by
    obtain ⟨⟨i1, i2⟩, i3⟩ := grp_bodies h.2
    cases hx : sepB x with
    | true =>
      rw [grp_sep hx]
      refine ⟨⟨trivial, by simp⟩, ?_⟩
      intro g hg
      rcases List.mem_cons.1 hg with rfl | hg
      · exact ⟨i1, i2, hx, fun hn => h.term (fun e => hn (by rw [e]; rfl))⟩
      · exact i3 g hg
    | false =>
      rw [grp_non hx]
      refine ⟨⟨⟨?_, i1⟩, ?_⟩, i3⟩
      · rcases h.1 with h1 | ⟨rfl, h2⟩
        · exact .inl h1
        · exact .inr ⟨rfl, h2⟩
      · intro y hy
        rcases List.mem_cons.1 hy with rfl | hy
        · exact hx
        · exact i2 y hy
theorem noSep_flat {b : List (List UInt8)} (h : LOK b) (hn : ∀ x ∈ b, sepB x = false) : anySep b.flatten = false := by
  unfold anySep
  rw [h.split]
  simpa [List.any_eq_false] using hn
end Go.Proofs.YtbjencibkkhbhaaGreatDoor

end
section
namespace Go.Proofs.YtbjencibkkhbhaaGreatDoor
open Go.RowKit
/-- Bytes without a byte 13 at their end. -/
def cr (p : List UInt8) : List UInt8 := if p.getLast? = some 13 then p.dropLast else p
theorem trimSuffix_cr (p : List UInt8) : Lib.trimSuffix p [13] = cr p := by
  unfold Lib.trimSuffix cr Lib.hasSuffix
  rcases List.eq_nil_or_concat p with rfl | ⟨q, c, rfl⟩
  · rfl
  · by_cases hc : c = 13
    · subst hc
      simp [List.isSuffixOf]
    · have hc2 : ¬ (13 : UInt8) = c := fun e => hc e.symm
      simp [List.isSuffixOf, hc, hc2]
/-- A line's text. -/
def txt (l : List UInt8) : List UInt8 := if l.getLast? = some 10 then cr l.dropLast else l
theorem txt_term (p : List UInt8) : txt (p ++ [10]) = cr p := by
  unfold txt
  simp
theorem txt_open {x : List UInt8} (h : (10 : UInt8) ∉ x) : txt x = x := by
  unfold txt
  rw [if_neg]
  intro e
  exact h (List.mem_of_getLast? e)
theorem txt_nil : txt [] = [] := rfl
theorem cr_len (p : List UInt8) : (cr p).length ≤ p.length := by
  unfold cr
  split <;> simp
theorem txt_len (p : List UInt8) : (txt p).length ≤ p.length := by
  unfold txt
  split
  · have := cr_len p.dropLast
    simp at this
    omega
  · exact Nat.le_refl _
theorem cr_app {p q : List UInt8} (h : p.getLast? ≠ some 13) : cr (p ++ q) = p ++ cr q := by
  rcases List.eq_nil_or_concat q with rfl | ⟨r, c, rfl⟩
  · simp [cr, h]
  · rw [List.concat_eq_append]
    unfold cr
    rw [← List.append_assoc]
    simp only [List.getLast?_append, List.getLast?_singleton, Option.some_or, List.dropLast_concat]
    split <;> simp
theorem txt_app {p q : List UInt8} (h : p.getLast? ≠ some 13) (h2 : p.getLast? ≠ some 10) : txt (p ++ q) = p ++ txt q := by
  rcases List.eq_nil_or_concat q with rfl | ⟨r, c, rfl⟩
  · simp [txt, h2]
  · rw [List.concat_eq_append]
    unfold txt
    rw [← List.append_assoc]
    simp only [List.getLast?_append, List.getLast?_singleton, Option.some_or, List.dropLast_concat]
    split
    · exact cr_app h
    · simp
/-- A line that begins with a blank: it goes on. -/
def blB : List UInt8 → Bool
  | [] => false
  | c :: _ => c == 32 || c == 9
theorem blB_txt {x : List UInt8} (h : blB x = true) : txt x ≠ [] := by
  cases x with
  | nil => cases h
  | cons c r =>
    have h1 : ([c] : List UInt8).getLast? ≠ some 13 := by
      intro e
      simp at e
      subst e
      cases h
    have h2 : ([c] : List UInt8).getLast? ≠ some 10 := by
      intro e
      simp at e
      subst e
      cases h
    have := txt_app (q := r) h1 h2
    simp at this
    rw [this]
    simp
/-- What strings.Cut tells at a byte. -/
def cutV (b : UInt8) : List UInt8 → List UInt8 × List UInt8 × Bool
  | [] => ([], [], false)
  | c :: l => if c = b then ([], l, true) else match cutV b l with | (p, q, f) => (c :: p, q, f)
theorem cutV_out {b : UInt8} : ∀ {l : List UInt8}, b ∉ l → cutV b l = (l, [], false)
  | [], _ => rfl
  | c :: l, h => by
    have h1 := cutV_out (l := l) (fun hp => h (List.mem_cons_of_mem _ hp))
    have hc : c ≠ b := fun e => h (by simp [e])
    rw [cutV, if_neg hc, h1]
theorem cutV_in {b : UInt8} : ∀ {p : List UInt8} (q : List UInt8), b ∉ p → cutV b (p ++ b :: q) = (p, q, true)
  | [], q, _ => by simp [cutV]
  | c :: p, q, h => by
    have h1 := cutV_in (p := p) q (fun hp => h (List.mem_cons_of_mem _ hp))
    have hc : c ≠ b := fun e => h (by simp [e])
    rw [List.cons_append, cutV, if_neg hc, h1]
theorem cutV_inv {b : UInt8} : ∀ {l p q : List UInt8}, cutV b l = (p, q, true) → l = p ++ b :: q ∧ b ∉ p
  | [], p, q, h => by cases h
  | c :: l, p, q, h => by
    rw [cutV] at h
    by_cases hc : c = b
    · rw [if_pos hc] at h
      cases h
      exact ⟨by rw [hc]; rfl, by simp⟩
    · rw [if_neg hc] at h
      cases h1 : cutV b l with
      | mk p' r' =>
        obtain ⟨q', f'⟩ := r'
        rw [h1] at h
        simp only [Prod.mk.injEq] at h
        obtain ⟨rfl, rfl, rfl⟩ := h
        obtain ⟨h2, h3⟩ := cutV_inv h1
        exact ⟨by rw [h2]; rfl, by simp only [List.mem_cons, not_or]; exact ⟨fun e => hc e.symm, h3⟩⟩
theorem cutV_no {b : UInt8} : ∀ {l p q : List UInt8}, cutV b l = (p, q, false) → p = l ∧ b ∉ l
  | [], p, q, h => by cases h; exact ⟨rfl, by simp⟩
  | c :: l, p, q, h => by
    rw [cutV] at h
    by_cases hc : c = b
    · rw [if_pos hc] at h
      cases h
    · rw [if_neg hc] at h
      cases h1 : cutV b l with
      | mk p' r' =>
        obtain ⟨q', f'⟩ := r'
        rw [h1] at h
        simp only [Prod.mk.injEq] at h
        obtain ⟨rfl, rfl, rfl⟩ := h
        obtain ⟨h2, h3⟩ := cutV_no h1
        exact ⟨by rw [h2], by simp only [List.mem_cons, not_or]; exact ⟨fun e => hc e.symm, h3⟩⟩
/-- A byte of a name. -/
def nbB (c : UInt8) : Bool := decide (33 ≤ c.toNat ∧ c.toNat ≤ 126)
/-- The name ahead of a text's first colon. -/
def nameO (t : List UInt8) : Option (List UInt8) := match cutV 58 t with
  | (p, _, f) => if f && !p.isEmpty && p.all nbB then some p else none
theorem nameO_some {t p : List UInt8} (h : nameO t = some p) : ∃ q, t = p ++ 58 :: q ∧ (58 : UInt8) ∉ p ∧ p ≠ [] ∧ p.all nbB = true := by
  unfold nameO at h
  cases h1 : cutV 58 t with
  | mk p' r' =>
    obtain ⟨q', f'⟩ := r'
    rw [h1] at h
    simp only [Option.ite_none_right_eq_some, Option.some.injEq, Bool.and_eq_true, Bool.not_eq_true', List.isEmpty_eq_false_iff] at h
    obtain ⟨⟨⟨rfl, h2⟩, h3⟩, rfl⟩ := h
    obtain ⟨h4, h5⟩ := cutV_inv h1
    exact ⟨q', h4, h5, h2, h3⟩
theorem nameO_of {p q : List UInt8} (h1 : (58 : UInt8) ∉ p) (h2 : p ≠ []) (h3 : p.all nbB = true) : nameO (p ++ 58 :: q) = some p := by
  unfold nameO
  rw [cutV_in q h1]
  simp [h2, h3]
/-- A field. -/
structure Fd where
  name : List UInt8
  value : List UInt8
  from' : Nat
  to : Nat
/-- The text of some lines, without blanks at its ends. -/
def valB (s : List UInt8) : List UInt8 := Lib.trimS ((splitS s).map txt).flatten [32, 9]
def fdOf (x : List UInt8) (g : List (List UInt8)) (at' : Nat) : Option Fd :=
  (nameO (txt x)).map fun p => ⟨p, Lib.trimS ((txt x).drop (p.length + 1) ++ (g.map txt).flatten) [32, 9], at', at' + x.length + g.flatten.length⟩
/-- Fields of lines, the first of which begins at a place; where the body begins. -/
def hdF : Nat → List (List UInt8) → Nat → List Fd × Nat
  | 0, _, at' => ([], at')
  | _ + 1, [], at' => ([], at')
  | n + 1, x :: r, at' => if txt x = [] then ([], at' + x.length) else
    ((fdOf x (r.takeWhile blB) at').toList ++ (hdF n (r.dropWhile blB) (at' + x.length + (r.takeWhile blB).flatten.length)).1,
      (hdF n (r.dropWhile blB) (at' + x.length + (r.takeWhile blB).flatten.length)).2)
def bodyL : List (List UInt8) → Nat → Nat
  | [], at' => at'
  | x :: r, at' => if txt x = [] then at' + x.length else bodyL r (at' + x.length)
theorem bodyL_skip : ∀ (r : List (List UInt8)) (at' : Nat), bodyL (r.dropWhile blB) (at' + (r.takeWhile blB).flatten.length) = bodyL r at'
  | [], _ => rfl
  | x :: r, at' => by
    by_cases h : blB x = true
    · rw [List.dropWhile_cons_of_pos h, List.takeWhile_cons_of_pos h, bodyL, if_neg (blB_txt h), ← bodyL_skip r, List.flatten_cons, List.length_append, Nat.add_assoc]
    · rw [List.dropWhile_cons_of_neg h, List.takeWhile_cons_of_neg h]
      rfl
theorem dropWhile_len (r : List (List UInt8)) : (r.dropWhile blB).length ≤ r.length := by
  have := congrArg List.length (List.takeWhile_append_dropWhile (p := blB) (l := r))
  rw [List.length_append] at this
  omega
theorem hdF_body : ∀ (n : Nat) (ls : List (List UInt8)) (at' : Nat), ls.length ≤ n → (hdF n ls at').2 = bodyL ls at'
  | 0, [], _, _ => rfl
  | _ + 1, [], _, _ => rfl
  | n + 1, x :: r, at', h => by
    rw [hdF, bodyL]
    split
    · rfl
    · have := dropWhile_len r
      simp at h
      show (hdF n _ _).2 = _
      rw [hdF_body n _ _ (by omega), bodyL_skip]
theorem hdF_fuel : ∀ (n k : Nat) (ls : List (List UInt8)) (at' : Nat), ls.length ≤ n → ls.length ≤ k → hdF n ls at' = hdF k ls at'
  | 0, 0, _, _, _, _ => rfl
  | 0, _ + 1, [], _, _, _ => rfl
  | _ + 1, 0, [], _, _, _ => rfl
  | _ + 1, _ + 1, [], _, _, _ => rfl
  | n + 1, k + 1, x :: r, at', h, h2 => by
    rw [hdF, hdF]
    have := dropWhile_len r
    simp at h h2
    rw [hdF_fuel n k _ _ (by omega) (by omega)]
/-- Fields of lines, and where the body begins. -/
def hd (ls : List (List UInt8)) (at' : Nat) : List Fd × Nat := hdF ls.length ls at'
theorem hd_nil (at' : Nat) : hd [] at' = ([], at') := rfl
theorem hd_stop {x : List UInt8} {r : List (List UInt8)} {at' : Nat} (h : txt x = []) : hd (x :: r) at' = ([], at' + x.length) := by
  unfold hd
  rw [List.length_cons, hdF, if_pos h]
theorem hd_cons {x : List UInt8} {r : List (List UInt8)} {at' : Nat} (h : txt x ≠ []) : hd (x :: r) at' =
    ((fdOf x (r.takeWhile blB) at').toList ++ (hd (r.dropWhile blB) (at' + x.length + (r.takeWhile blB).flatten.length)).1,
      (hd (r.dropWhile blB) (at' + x.length + (r.takeWhile blB).flatten.length)).2) := by
  unfold hd
  rw [List.length_cons, hdF, if_neg h, hdF_fuel _ (r.dropWhile blB).length _ _ (dropWhile_len r) (Nat.le_refl _)]
theorem hd_body (ls : List (List UInt8)) (at' : Nat) : (hd ls at').2 = bodyL ls at' := hdF_body _ _ _ (Nat.le_refl _)
theorem hd_count : ∀ (n : Nat) (ls : List (List UInt8)) (at' : Nat), ls.length ≤ n → (hd ls at').1.length ≤ ls.length
  | _, [], _, _ => Nat.le_refl _
  | n + 1, x :: r, at', h => by
    by_cases hx : txt x = []
    · rw [hd_stop hx]
      simp
    · rw [hd_cons hx]
      have h1 := dropWhile_len r
      simp at h
      have h2 := hd_count n (r.dropWhile blB) (at' + x.length + (r.takeWhile blB).flatten.length) (by omega)
      have h3 : ∀ o : Option Fd, o.toList.length ≤ 1 := fun o => by cases o <;> simp
      have h4 := h3 (fdOf x (r.takeWhile blB) at')
      simp only [List.length_append, List.length_cons]
      omega
/-- What the program reads as a field's value is what the words ask. -/
theorem val_field {x p : List UInt8} {g : List (List UInt8)} (hl : LOK (x :: g)) (hn : nameO (txt x) = some p) :
    valB (x.drop (p.length + 1) ++ g.flatten) = Lib.trimS ((txt x).drop (p.length + 1) ++ (g.map txt).flatten) [32, 9] ∧ p = x.take p.length ∧ p.length + 1 ≤ x.length := by
  obtain ⟨q, hq, _, _, hall⟩ := nameO_some hn
  have hx : ∃ y, x = (p ++ [58]) ++ y := by
    rcases hl.1 with ⟨z, rfl, hz⟩ | ⟨_, _, h10⟩
    · rw [txt_term] at hq
      unfold cr at hq
      split at hq
      · refine ⟨q ++ [13, 10], ?_⟩
        next h13 =>
        have hz2 : z ≠ [] := by rintro rfl; cases h13
        have h4 := List.dropLast_concat_getLast hz2
        rw [List.getLast?_eq_some_getLast hz2] at h13
        rw [Option.some.inj h13, hq] at h4
        rw [← h4]
        simp
      · exact ⟨q ++ [10], by rw [hq]; simp⟩
    · rw [txt_open h10] at hq
      exact ⟨q, by rw [hq]; simp⟩
  obtain ⟨y, rfl⟩ := hx
  have e1 : ((p ++ [58]) ++ y).drop (p.length + 1) = y := by
    rw [List.drop_append, List.drop_of_length_le (by simp)]
    simp
  have e2 : txt ((p ++ [58]) ++ y) = (p ++ [58]) ++ txt y := txt_app (by simp) (by simp)
  have e3 : ((p ++ [58]) ++ txt y).drop (p.length + 1) = txt y := by
    rw [List.drop_append, List.drop_of_length_le (by simp)]
    simp
  refine ⟨?_, by rw [List.append_assoc, List.take_left' rfl], by simp⟩
  rw [e1, e2, e3]
  unfold valB
  have key : ((splitS (y ++ g.flatten)).map txt).flatten = txt y ++ (g.map txt).flatten := by
    rcases hl.1 with ⟨z, hz, h10⟩ | ⟨rfl, _, h10⟩
    · have hy : Term y := by
        rcases List.eq_nil_or_concat y with rfl | ⟨r, c, rfl⟩
        · have := congrArg List.getLast? hz
          simp at this
        · rw [List.concat_eq_append, ← List.append_assoc] at hz
          have h5 := List.append_inj' hz rfl
          have hc : c = 10 := by simpa using h5.2
          refine ⟨r, by rw [hc]; simp, fun hm => h10 ?_⟩
          rw [← h5.1]
          exact List.mem_append_right _ hm
      have h6 : LOK (y :: g) := ⟨.inl hy, hl.2⟩
      have := h6.split
      rw [List.flatten_cons] at this
      rw [this]
      simp
    · simp only [List.flatten_nil, List.append_nil, List.map_nil]
      have hy : (10 : UInt8) ∉ y := fun hm => h10 (List.mem_append_right _ hm)
      by_cases h0 : y = []
      · subst h0
        rfl
      · rw [splitS_end y hy h0]
        simp
  rw [key]
end Go.Proofs.YtbjencibkkhbhaaGreatDoor

end
section
namespace Go.Proofs.YtbjencibkkhbhaaGreatDoor
def lowB (c : UInt8) : UInt8 := if 65 ≤ c.toNat ∧ c.toNat ≤ 90 then c + 32 else c
end Go.Proofs.YtbjencibkkhbhaaGreatDoor

end
section
namespace Go.Proofs.YtbjencibkkhbhaaGreatDoor
/-- A section. -/
structure Spc where
  path : List Int
  what : List UInt8
  names : List (List UInt8)
def wMime : List UInt8 := [77, 73, 77, 69]
def wHead : List UInt8 := [72, 69, 65, 68, 69, 82]
def wText : List UInt8 := [84, 69, 88, 84]
def wFlds : List UInt8 := [72, 69, 65, 68, 69, 82, 46, 70, 73, 69, 76, 68, 83]
def wNot : List UInt8 := [72, 69, 65, 68, 69, 82, 46, 70, 73, 69, 76, 68, 83, 46, 78, 79, 84]
def spcL : List UInt8 := [40, 41, 58, 34, 123, 92]
def nmB (c : UInt8) : Bool := decide (33 ≤ c.toNat) && decide (c.toNat ≤ 126) && !(spcL.contains c)
def nmeB (s : List UInt8) : Bool := !s.isEmpty && s.all nmB
def numB (n : Int) : Bool := decide (1 ≤ n) && decide (n ≤ 999)
def lstB (w : List UInt8) : Bool := w == wFlds || w == wNot
/-- Has a section a text? As the document asks. -/
def rgtB (p : Spc) : Bool := decide (p.path.length ≤ 20) && decide (p.names.length ≤ 20) && p.path.all numB && p.names.all nmeB && (lstB p.what == !p.names.isEmpty) &&
  (lstB p.what || p.what == [] || p.what == wHead || p.what == wText || (p.what == wMime && !p.path.isEmpty))
/-- As the program asks. -/
def hasB (p : Spc) : Bool := decide (p.path.length ≤ 20) && p.path.all numB &&
  (if p.what = [] ∨ p.what = wHead ∨ p.what = wText then p.names.isEmpty
   else if p.what = wMime then p.names.isEmpty && !p.path.isEmpty
   else if p.what = wFlds ∨ p.what = wNot then decide (1 ≤ p.names.length) && decide (p.names.length ≤ 20) && p.names.all nmeB
   else false)
theorem has_rgt (p : Spc) : hasB p = rgtB p := by
  obtain ⟨path, what, names⟩ := p
  unfold hasB rgtB
  simp only
  cases hp : decide (path.length ≤ 20) && path.all numB with
  | false =>
    have h0 : (decide (path.length ≤ 20) && decide (names.length ≤ 20) && path.all numB) = false := by
      cases h1 : decide (path.length ≤ 20) <;> cases h2 : path.all numB <;> simp_all
    rw [h0]
    simp
  | true =>
    rw [Bool.and_eq_true] at hp
    obtain ⟨h1, h2⟩ := hp
    rw [h1, h2]
    simp only [Bool.true_and, Bool.and_true]
    by_cases e1 : what = [] ∨ what = wHead ∨ what = wText
    · rw [if_pos e1]
      have hl : lstB what = false := by rcases e1 with rfl | rfl | rfl <;> rfl
      have hr : (lstB what || what == [] || what == wHead || what == wText || (what == wMime && !path.isEmpty)) = true := by rcases e1 with rfl | rfl | rfl <;> rfl
      rw [hr, hl]
      cases names <;> simp
    · rw [if_neg e1]
      by_cases e2 : what = wMime
      · rw [if_pos e2]
        subst e2
        have hl : lstB wMime = false := rfl
        rw [hl]
        have hr : (false || wMime == [] || wMime == wHead || wMime == wText || (wMime == wMime && !path.isEmpty)) = !path.isEmpty := by
          cases path.isEmpty <;> rfl
        rw [hr]
        cases names <;> simp
      · rw [if_neg e2]
        by_cases e3 : what = wFlds ∨ what = wNot
        · rw [if_pos e3]
          have hl : lstB what = true := by rcases e3 with rfl | rfl <;> rfl
          rw [hl]
          cases names with
          | nil => simp
          | cons a r => simp
        · rw [if_neg e3]
          have hl : lstB what = false := by
            unfold lstB
            simp only [not_or] at e3
            simp [e3.1, e3.2]
          rw [hl]
          simp only [not_or] at e1
          simp [e1.1, e1.2.1, e1.2.2, e2]
/-- A number's text. -/
def digI (n : Int) : List UInt8 := Lib.decDigits n.toNat
/-- The path's text. -/
def pthT : List Int → List UInt8
  | [] => []
  | [n] => digI n
  | n :: m :: r => digI n ++ 46 :: pthT (m :: r)
/-- What stands ahead of the word. -/
def preT (p : List Int) (w : List UInt8) : List UInt8 := if p = [] ∨ w = [] then pthT p else pthT p ++ [46]
def nmsT (ns : List (List UInt8)) : List UInt8 := if ns = [] then [] else 32 :: 40 :: (Lib.join ns [32] ++ [41])
/-- A section's text, with its word as it is written. -/
def secW (p : Spc) (w : List UInt8) : List UInt8 := preT p.path w ++ (w ++ nmsT p.names)
def secT (p : Spc) : List UInt8 := secW p p.what
def upB (c : UInt8) : UInt8 := if 97 ≤ c.toNat ∧ c.toNat ≤ 122 then c - 32 else c
/-- t is a text of the section p. -/
def Sec (t : List UInt8) (p : Spc) : Prop := rgtB p = true ∧ ∃ w, w.map upB = p.what ∧ t = secW p w
theorem up_low (c : UInt8) : upB (lowB c) = upB c := by
  have h : ∀ n, n < 256 → upB (lowB (UInt8.ofNat n)) = upB (UInt8.ofNat n) := by decide +kernel
  have := h c.toNat (UInt8.toNat_lt c)
  rwa [UInt8.ofNat_toNat] at this
theorem low_up (c : UInt8) : lowB (upB c) = lowB c := by
  have h : ∀ n, n < 256 → lowB (upB (UInt8.ofNat n)) = lowB (UInt8.ofNat n) := by decide +kernel
  have := h c.toNat (UInt8.toNat_lt c)
  rwa [UInt8.ofNat_toNat] at this
theorem same_up {a b : List UInt8} (hb : b.map upB = b) : decide (a.map lowB = b.map lowB) = decide (a.map upB = b) := by
  rw [decide_eq_decide]
  constructor
  · intro h
    have h2 := congrArg (List.map upB) h
    rw [List.map_map, List.map_map] at h2
    have e : ∀ l : List UInt8, l.map (upB ∘ lowB) = l.map upB := fun l => List.map_congr_left fun c _ => up_low c
    rw [e, e, hb] at h2
    exact h2
  · intro h
    rw [← h, List.map_map]
    exact List.map_congr_left fun c _ => (low_up c).symm
theorem rgt_what {p : Spc} (h : rgtB p = true) : p.what = [] ∨ p.what = wHead ∨ p.what = wText ∨ p.what = wMime ∨ p.what = wFlds ∨ p.what = wNot := by
  unfold rgtB at h
  simp only [Bool.and_eq_true, Bool.or_eq_true, lstB, beq_iff_eq] at h
  obtain ⟨_, h⟩ := h
  rcases h with (((h | h) | h) | h) | h
  · rcases h with h | h <;> simp [h]
  · simp [h]
  · simp [h]
  · simp [h]
  · simp [h.1]
theorem what_up {p : Spc} (h : rgtB p = true) : p.what.map upB = p.what := by
  rcases rgt_what h with e | e | e | e | e | e <;> rw [e] <;> decide
theorem sec_self {p : Spc} (h : rgtB p = true) : Sec (secT p) p := ⟨h, p.what, what_up h, rfl⟩
/- Numbers. -/
def dgB (c : UInt8) : Bool := decide (48 ≤ c.toNat) && decide (c.toNat ≤ 57)
theorem dec_step {u : Nat} (h : ¬ u < 10) : Lib.decDigits u = Lib.decDigits (u / 10) ++ [UInt8.ofNat (48 + u % 10)] := by
  rw [Lib.decDigits, dif_neg h]
theorem of_nat_dig (d : Nat) (h : d < 10) : (UInt8.ofNat (48 + d)).toNat = 48 + d := by
  rw [UInt8.toNat_ofNat']
  omega
theorem dec_all (n : Nat) : ∀ u, u ≤ n → ∀ c ∈ Lib.decDigits u, dgB c = true := by
  induction n with
  | zero =>
    intro u hu c hc
    have : u = 0 := by omega
    subst this
    rw [Lib.decDigits_one (by omega)] at hc
    simp at hc
    subst hc
    decide
  | succ n ih =>
    intro u hu c hc
    by_cases h : u < 10
    · rw [Lib.decDigits_one h] at hc
      rw [List.mem_singleton] at hc
      subst hc
      simp only [dgB, of_nat_dig u h, Bool.and_eq_true, decide_eq_true_eq]
      omega
    · rw [dec_step h, List.mem_append] at hc
      rcases hc with hc | hc
      · exact ih (u / 10) (by omega) c hc
      · rw [List.mem_singleton] at hc
        subst hc
        simp only [dgB, of_nat_dig _ (Nat.mod_lt u (by omega : 0 < 10)), Bool.and_eq_true, decide_eq_true_eq]
        omega
theorem dec_ne (u : Nat) : Lib.decDigits u ≠ [] := by
  by_cases h : u < 10
  · rw [Lib.decDigits_one h]; simp
  · rw [dec_step h]; simp
/-- The first digit of a number that is not nought is not nought. -/
theorem dec_head (n : Nat) : ∀ u, u ≤ n → 1 ≤ u → ∀ c r, Lib.decDigits u = c :: r → c ≠ 48 := by
  induction n with
  | zero => intro u hu h1; omega
  | succ n ih =>
    intro u hu h1 c r hc
    by_cases h : u < 10
    · rw [Lib.decDigits_one h] at hc
      injection hc with hc _
      intro e
      have := of_nat_dig u h
      rw [hc, e] at this
      have h48 : (48 : UInt8).toNat = 48 := rfl
      omega
    · rw [dec_step h] at hc
      cases hd : Lib.decDigits (u / 10) with
      | nil => exact absurd hd (dec_ne _)
      | cons a b =>
        rw [hd, List.cons_append] at hc
        injection hc with hc _
        subst hc
        exact ih (u / 10) (by omega) (by omega) a b hd
/-- The value of digits, one behind the other. -/
def stD (a : Nat) (c : UInt8) : Nat := a * 10 + (c.toNat - 48)
def valD (acc : Nat) (l : List UInt8) : Nat := l.foldl stD acc
theorem valD_nil (acc : Nat) : valD acc [] = acc := rfl
theorem valD_cons (acc : Nat) (c : UInt8) (r : List UInt8) : valD acc (c :: r) = valD (acc * 10 + (c.toNat - 48)) r := List.foldl_cons ..
theorem valD_app (acc : Nat) (a b : List UInt8) : valD acc (a ++ b) = valD (valD acc a) b := List.foldl_append
theorem valD_ge (l : List UInt8) : ∀ acc : Nat, acc ≤ valD acc l := by
  induction l with
  | nil => intro acc; exact Nat.le_refl _
  | cons c r ih =>
    intro acc
    rw [valD_cons]
    exact Nat.le_trans (by omega) (ih _)
theorem valD_dec (n : Nat) : ∀ u, u ≤ n → valD 0 (Lib.decDigits u) = u := by
  induction n with
  | zero =>
    intro u hu
    have : u = 0 := by omega
    subst this
    rw [Lib.decDigits_one (by omega)]
    decide
  | succ n ih =>
    intro u hu
    by_cases h : u < 10
    · rw [Lib.decDigits_one h]
      simp only [valD_cons, valD_nil, of_nat_dig u h]
      omega
    · rw [dec_step h, valD_app, ih (u / 10) (by omega)]
      simp only [valD_cons, valD_nil, of_nat_dig _ (Nat.mod_lt u (by omega : 0 < 10))]
      omega
/-- Digits without a nought ahead are the text of their value. -/
theorem dec_valD : ∀ (n : Nat) (l : List UInt8), l.length ≤ n → l ≠ [] → (∀ c ∈ l, dgB c = true) → (∀ c r, l = c :: r → c ≠ 48) → Lib.decDigits (valD 0 l) = l ∧ 1 ≤ valD 0 l := by
  intro n
  induction n with
  | zero => intro l hl hn; exact absurd (List.length_eq_zero_iff.1 (by omega)) hn
  | succ n ih =>
    intro l hl hn hd h0
    obtain ⟨q, c, rfl⟩ : ∃ q c, l = q ++ [c] := ⟨l.dropLast, l.getLast hn, (List.dropLast_concat_getLast hn).symm⟩
    have hc : dgB c = true := hd c (by simp)
    simp only [dgB, Bool.and_eq_true, decide_eq_true_eq] at hc
    have hce : UInt8.ofNat (48 + (c.toNat - 48)) = c := by
      rw [← UInt8.toNat_inj, of_nat_dig _ (by omega)]
      omega
    rw [valD_app]
    cases q with
    | nil =>
      have h1 : c ≠ 48 := h0 c [] rfl
      have h2 : c.toNat ≠ 48 := fun e => h1 (UInt8.toNat_inj.1 e)
      simp only [valD_cons, valD_nil, List.nil_append]
      rw [Lib.decDigits_one (by omega)]
      refine ⟨?_, by omega⟩
      rw [show 0 * 10 + (c.toNat - 48) = c.toNat - 48 by omega, hce]
    | cons a r =>
      obtain ⟨e1, e2⟩ := ih (a :: r) (by simp at hl ⊢; omega) (by simp) (fun x hx => hd x (by simp at hx ⊢; rcases hx with h | h <;> simp [h])) (fun x y h => h0 x (y ++ [c]) (by rw [h]; rfl))
      obtain ⟨v, hv⟩ : ∃ v, valD 0 (a :: r) = v := ⟨_, rfl⟩
      rw [hv] at e1 e2 ⊢
      simp only [valD_cons, valD_nil]
      rw [dec_step (by omega), show (v * 10 + (c.toNat - 48)) / 10 = v by omega, show (v * 10 + (c.toNat - 48)) % 10 = c.toNat - 48 by omega, e1, hce]
      exact ⟨rfl, by omega⟩
theorem parse_ok_val : ∀ (l : List UInt8) (acc u : Nat), Lib.parseUint10 acc l = .ok u → (∀ c ∈ l, dgB c = true) ∧ valD acc l = u
  | [], acc, u, h => by
    simp only [Lib.parseUint10] at h
    injection h with h
    exact ⟨(fun c hc => by cases hc), h⟩
  | c :: r, acc, u, h => by
    simp only [Lib.parseUint10] at h
    split at h
    · rename_i hc
      split at h
      · cases h
      · split at h
        · cases h
        · obtain ⟨h1, h2⟩ := parse_ok_val r _ u h
          refine ⟨fun x hx => ?_, h2⟩
          rw [List.mem_cons] at hx
          rcases hx with rfl | hx
          · simp [dgB, hc.1, hc.2]
          · exact h1 x hx
    · cases h
theorem parse_of_val : ∀ (l : List UInt8) (acc : Nat), (∀ c ∈ l, dgB c = true) → valD acc l < 1000000 → Lib.parseUint10 acc l = .ok (valD acc l)
  | [], _, _, _ => rfl
  | c :: r, acc, h, hv => by
    have hc := h c (by simp)
    simp only [dgB, Bool.and_eq_true, decide_eq_true_eq] at hc
    have hg := valD_ge r (acc * 10 + (c.toNat - 48))
    rw [valD_cons] at hv ⊢
    simp only [Lib.parseUint10]
    rw [if_pos hc, if_neg (by omega), if_neg (by omega)]
    exact parse_of_val r _ (fun x hx => h x (by simp [hx])) hv
/-- What Atoi reads of a text that begins with a digit, but not with a nought. -/
theorem atoi_first {c : UInt8} {r : List UInt8} {v : Int} (hc : dgB c = true) (h0 : c ≠ 48) (h : Lib.atoiAll (c :: r) = .ok v) : 1 ≤ v ∧ digI v = c :: r ∧ (∀ x ∈ c :: r, dgB x = true) := by
  simp only [dgB, Bool.and_eq_true, decide_eq_true_eq] at hc
  unfold Lib.atoiAll at h
  simp only at h
  rw [if_neg (by omega)] at h
  unfold Lib.parseMag at h
  rw [if_neg (by simp)] at h
  cases hp : Lib.parseUint10 0 (c :: r) with
  | «syntax» => rw [hp] at h; cases h
  | range => rw [hp] at h; cases h
  | ok u =>
    obtain ⟨h1, h2⟩ := parse_ok_val _ _ _ hp
    obtain ⟨e1, e2⟩ := dec_valD _ (c :: r) (Nat.le_refl _) (by simp) h1 (fun x y e => by injection e with e _; exact e ▸ h0)
    rw [h2] at e1 e2
    rw [hp] at h
    simp only at h
    split at h
    · cases h
    · rw [if_neg (by omega), if_neg (by omega)] at h
      injection h with h
      subst h
      exact ⟨by omega, by unfold digI; rw [Int.toNat_natCast]; exact e1, h1⟩
theorem atoi_digI {v : Int} (h1 : 1 ≤ v) (h2 : v ≤ 999) : Lib.atoiAll (digI v) = .ok v := by
  obtain ⟨u, rfl⟩ : ∃ u : Nat, v = u := ⟨v.toNat, by omega⟩
  unfold digI
  rw [Int.toNat_natCast]
  have hv := valD_dec u u (Nat.le_refl _)
  have hd := dec_all u u (Nat.le_refl _)
  have hp := parse_of_val (Lib.decDigits u) 0 hd (by omega)
  rw [hv] at hp
  cases hl : Lib.decDigits u with
  | nil => exact absurd hl (dec_ne u)
  | cons c r =>
    rw [hl] at hp hd
    have hc := hd c (by simp)
    simp only [dgB, Bool.and_eq_true, decide_eq_true_eq] at hc
    unfold Lib.atoiAll
    simp only
    rw [if_neg (by omega)]
    unfold Lib.parseMag
    rw [if_neg (by simp), hp]
    simp only
    rw [if_neg (by omega), if_neg (by omega), if_neg (by omega)]
theorem digI_head {v : Int} (h1 : 1 ≤ v) : ∃ c r, digI v = c :: r ∧ dgB c = true ∧ c ≠ 48 := by
  unfold digI
  cases hl : Lib.decDigits v.toNat with
  | nil => exact absurd hl (dec_ne _)
  | cons c r => exact ⟨c, r, rfl, dec_all _ _ (Nat.le_refl _) c (by rw [hl]; simp), dec_head _ _ (Nat.le_refl _) (by omega) c r hl⟩
theorem digI_all (v : Int) : ∀ c ∈ digI v, dgB c = true := dec_all _ _ (Nat.le_refl _)
theorem dgB_46 : dgB 46 = false := by decide
theorem digI_46 (v : Int) : (46 : UInt8) ∉ digI v := fun h => by
  have := digI_all v _ h
  rw [dgB_46] at this
  cases this
end Go.Proofs.YtbjencibkkhbhaaGreatDoor

end
section
namespace Go.Proofs.YtbjencibkkhbhaaGreatDoor
/-- Two bytes stand for one another: the same, or, of the name INBOX, but for capital letters. -/
def sameI (inb : Bool) (c d : UInt8) : Bool := c == d || (inb && lowB c == lowB d)
def starB (c : UInt8) : Bool := c == 42 || c == 37
/-- Does a pattern fit a name? -/
def fit (inb : Bool) : List UInt8 → List UInt8 → Bool
  | [], [] => true
  | [], _ :: _ => false
  | c :: p, [] => starB c && fit inb p []
  | c :: p, d :: n => if starB c then fit inb p (d :: n) || ((c == 42 || d != 47) && fit inb (c :: p) n) else sameI inb c d && fit inb p n
termination_by p n => p.length + n.length
theorem sameI_refl (inb : Bool) (c : UInt8) : sameI inb c c = true := by simp [sameI]
theorem fit_nil (inb : Bool) (n : List UInt8) : fit inb [] n = n.isEmpty := by
  cases n <;> rw [fit] <;> rfl
theorem fit_end (inb : Bool) (c : UInt8) (p : List UInt8) : fit inb (c :: p) [] = (starB c && fit inb p []) := by rw [fit]
theorem fit_star {inb : Bool} {c : UInt8} (h : starB c = true) (p : List UInt8) (d : UInt8) (n : List UInt8) : fit inb (c :: p) (d :: n) = (fit inb p (d :: n) || ((c == 42 || d != 47) && fit inb (c :: p) n)) := by
  rw [fit, if_pos h]
theorem fit_char {inb : Bool} {c : UInt8} (h : starB c = false) (p : List UInt8) (d : UInt8) (n : List UInt8) : fit inb (c :: p) (d :: n) = (sameI inb c d && fit inb p n) := by
  rw [fit, if_neg (by simp [h])]
/-- A star fits all. -/
theorem fit_all (inb : Bool) : ∀ n : List UInt8, fit inb [42] n = true
  | [] => by rw [fit_end, fit_nil]; rfl
  | d :: n => by rw [fit_star rfl, fit_all inb n]; simp
/-- A percent sign fits all without a slash. -/
theorem fit_pct (inb : Bool) : ∀ n : List UInt8, fit inb [37] n = !n.contains 47
  | [] => by rw [fit_end, fit_nil]; rfl
  | d :: n => by
    rw [fit_star rfl, fit_pct inb n, fit_nil]
    by_cases h : d = 47
    · subst h; simp
    · simp [h, Ne.symm h]
/-- A name fits itself. -/
theorem fit_self (inb : Bool) : ∀ a : List UInt8, (∀ c ∈ a, starB c = false) → fit inb a a = true
  | [], _ => by rw [fit_nil]; rfl
  | c :: a, h => by
    rw [fit_char (h c (by simp)), sameI_refl, fit_self inb a (fun x hx => h x (by simp [hx]))]
    rfl
theorem fit_pre (inb : Bool) (p n : List UInt8) : ∀ a : List UInt8, (∀ c ∈ a, starB c = false) → fit inb (a ++ p) (a ++ n) = fit inb p n
  | [], _ => rfl
  | c :: a, h => by
    rw [List.cons_append, List.cons_append, fit_char (h c (by simp)), sameI_refl, fit_pre inb p n a (fun x hx => h x (by simp [hx]))]
    rfl
/-- What a star stands for. -/
theorem fit_skip {inb : Bool} {s : UInt8} (hs : starB s = true) (c : List UInt8) (hc : fit inb c c = true) : ∀ b : List UInt8, (s = 42 ∨ (47 : UInt8) ∉ b) → fit inb (s :: c) (b ++ c) = true
  | [], _ => by
    cases c with
    | nil => rw [List.append_nil, fit_end, hs, hc]; rfl
    | cons d c => rw [List.nil_append, fit_star hs, hc]; rfl
  | d :: b, h => by
    have ih := fit_skip hs c hc b (h.imp id (fun h hb => h (by simp [hb])))
    rw [List.cons_append, fit_star hs, ih]
    rcases h with h | h
    · simp [h]
    · have : d ≠ 47 := fun e => h (by simp [e])
      simp [this]
theorem fit_put {inb : Bool} {s : UInt8} (hs : starB s = true) (a b c : List UInt8) (ha : ∀ x ∈ a, starB x = false) (hc : ∀ x ∈ c, starB x = false) (h : s = 42 ∨ (47 : UInt8) ∉ b) : fit inb (a ++ s :: c) (a ++ (b ++ c)) = true := by
  rw [fit_pre inb _ _ a ha]
  exact fit_skip hs c (fit_self inb c hc) b h
/-- The document's table, an entry of it: what is left of the pattern against what is left of the name. -/
theorem fit_drop {inb : Bool} {P N : List UInt8} {p n : Nat} (hp : p < P.length) (hn : n < N.length) : fit inb (P.drop p) (N.drop n) =
    if starB P[p] then fit inb (P.drop (p + 1)) (N.drop n) || ((P[p] == 42 || N[n] != 47) && fit inb (P.drop p) (N.drop (n + 1))) else sameI inb P[p] N[n] && fit inb (P.drop (p + 1)) (N.drop (n + 1)) := by
  rw [List.drop_eq_getElem_cons hp, List.drop_eq_getElem_cons hn, fit]
theorem fit_drop_end {inb : Bool} {P : List UInt8} {p : Nat} (hp : p < P.length) : fit inb (P.drop p) [] = (starB P[p] && fit inb (P.drop (p + 1)) []) := by
  rw [List.drop_eq_getElem_cons hp, fit_end]
/-- The part between slashes: a byte of a name. -/
def plnB (pat : Bool) (c : UInt8) : Bool := decide (33 ≤ c.toNat ∧ c.toNat ≤ 126) && !(c == 40 || c == 41 || c == 123 || c == 34 || c == 92) && (pat || !starB c)
def inboxL : List UInt8 := [105, 110, 98, 111, 120]
def inboxU : List UInt8 := [73, 78, 66, 79, 88]
/-- No slash at the beginning, none at the end, no two together. -/
def apartB : Bool → List UInt8 → Bool
  | last, [] => !last
  | last, c :: r => if c = 47 then !last && apartB true r else apartB false r
def boxB (s : List UInt8) : Bool := decide (1 ≤ s.length ∧ s.length ≤ 60) && s.all (plnB false) && apartB true s
def boxO (s : List UInt8) : Option (List UInt8) := if boxB s then some (if s.map lowB = inboxL then inboxU else s) else none
def patB (s : List UInt8) : Bool := s.all (plnB true) && decide (s.length ≤ 100)
/-- Whether a name is under another one; where it goes with it. -/
def undB (name base : List UInt8) : Bool := decide (base.length + 1 < name.length) && decide (name.take (base.length + 1) = base ++ [47])
def movO (name frm to : List UInt8) : Option (List UInt8) := if name = frm then some to else if undB name frm then some (to ++ name.drop frm.length) else none
/-- What stands ahead of each slash. -/
def abvL (name : List UInt8) : List (List UInt8) := ((List.range name.length).filter (fun i => name[i]? == some 47)).map (fun i => name.take i)
/-- Put into a rising row, once. -/
def insU (x : List UInt8) : List (List UInt8) → List (List UInt8)
  | [] => [x]
  | y :: r => if x = y then y :: r else if x < y then x :: y :: r else y :: insU x r
theorem insU_mem (x z : List UInt8) : ∀ l, z ∈ insU x l ↔ z = x ∨ z ∈ l
  | [] => by simp [insU]
  | y :: r => by
    unfold insU
    split
    · rename_i h; subst h; simp
    · split
      · simp
      · simp only [List.mem_cons, insU_mem x z r]
        constructor
        · rintro (h | h | h)
          · exact .inr (.inl h)
          · exact .inl h
          · exact .inr (.inr h)
        · rintro (h | h | h)
          · exact .inr (.inl h)
          · exact .inl h
          · exact .inr (.inr h)
theorem insU_ord (x : List UInt8) : ∀ l : List (List UInt8), l.Pairwise (· < ·) → (insU x l).Pairwise (· < ·)
  | [], _ => by simp [insU]
  | y :: r, h => by
    obtain ⟨h1, h2⟩ := List.pairwise_cons.1 h
    unfold insU
    split
    · exact h
    · rename_i hne
      split
      · rename_i hlt
        refine List.pairwise_cons.2 ⟨fun z hz => ?_, h⟩
        rcases List.mem_cons.1 hz with rfl | hz
        · exact hlt
        · exact List.lt_trans hlt (h1 z hz)
      · rename_i hnl
        refine List.pairwise_cons.2 ⟨fun z hz => ?_, insU_ord x r h2⟩
        rcases (insU_mem x z r).1 hz with rfl | hz
        · exact Decidable.byContradiction fun hc => hne (List.le_antisymm (List.not_lt.1 hc) (List.not_lt.1 hnl))
        · exact h1 z hz
/-- The names that a pattern fits, each once, rising. -/
def matL (f : List UInt8 → Bool) (names : List (List UInt8)) : List (List UInt8) := names.foldl (fun out n => if f n then insU n out else out) []
theorem matL_fold (f : List UInt8 → Bool) : ∀ (names out : List (List UInt8)), out.Pairwise (· < ·) → (names.foldl (fun out n => if f n then insU n out else out) out).Pairwise (· < ·) ∧ ∀ z, z ∈ names.foldl (fun out n => if f n then insU n out else out) out ↔ z ∈ out ∨ (z ∈ names ∧ f z = true)
  | [], out, h => ⟨h, fun z => by simp⟩
  | n :: names, out, h => by
    rw [List.foldl_cons]
    have h' : (if f n then insU n out else out).Pairwise (· < ·) := by
      split
      · exact insU_ord n out h
      · exact h
    obtain ⟨k1, k2⟩ := matL_fold f names _ h'
    refine ⟨k1, fun z => ?_⟩
    rw [k2 z]
    by_cases hf : f n = true
    · rw [if_pos hf, insU_mem]
      constructor
      · rintro ((rfl | h) | h)
        · exact .inr ⟨by simp, hf⟩
        · exact .inl h
        · exact .inr ⟨by simp [h.1], h.2⟩
      · rintro (h | ⟨h, hz⟩)
        · exact .inl (.inr h)
        · rcases List.mem_cons.1 h with rfl | h
          · exact .inl (.inl rfl)
          · exact .inr ⟨h, hz⟩
    · rw [if_neg hf]
      constructor
      · rintro (h | h)
        · exact .inl h
        · exact .inr ⟨by simp [h.1], h.2⟩
      · rintro (h | ⟨h, hz⟩)
        · exact .inl h
        · rcases List.mem_cons.1 h with rfl | h
          · exact absurd hz hf
          · exact .inr ⟨h, hz⟩
theorem matL_ord (f : List UInt8 → Bool) (names : List (List UInt8)) : (matL f names).Pairwise (· < ·) := (matL_fold f names [] List.Pairwise.nil).1
theorem matL_mem (f : List UInt8 → Bool) (names : List (List UInt8)) (z : List UInt8) : z ∈ matL f names ↔ z ∈ names ∧ f z = true := by
  have h := (matL_fold f names [] List.Pairwise.nil).2 z
  simp only [List.not_mem_nil, false_or] at h
  exact h
theorem abv_mem {name a : List UInt8} (h : a ∈ abvL name) : ∃ i, name[i]? = some 47 ∧ a = name.take i := by
  unfold abvL at h
  obtain ⟨i, hi, rfl⟩ := List.mem_map.1 h
  have := (List.mem_filter.1 hi).2
  exact ⟨i, by simpa using this, rfl⟩
/-- A name does not end with a slash. -/
theorem apart_last : ∀ (s : List UInt8) (b : Bool) (i : Nat), apartB b s = true → s[i]? = some 47 → i + 1 < s.length
  | [], _, i, _, h => by simp at h
  | c :: r, b, i, ha, h => by
    unfold apartB at ha
    cases i with
    | zero =>
      have hc : c = 47 := by simpa using h
      rw [if_pos hc] at ha
      cases r with
      | nil => simp [apartB] at ha
      | cons d r => simp
    | succ i =>
      have h' : r[i]? = some 47 := by simpa using h
      rw [List.length_cons]
      by_cases hc : c = 47
      · rw [if_pos hc, Bool.and_eq_true] at ha
        have := apart_last r true i ha.2 h'
        omega
      · rw [if_neg hc] at ha
        have := apart_last r false i ha h'
        omega
theorem box_last {s : List UInt8} (h : boxB s = true) {i : Nat} (hi : s[i]? = some 47) : i + 1 < s.length := by
  unfold boxB at h
  simp only [Bool.and_eq_true] at h
  exact apart_last s true i h.2 hi
theorem und_at {name : List UInt8} {i : Nat} (hi : i + 1 < name.length) (hc : name[i]? = some 47) : undB name (name.take i) = true := by
  have hl : (name.take i).length = i := by rw [List.length_take]; omega
  have hg : name[i]'(by omega) = 47 := by
    rw [List.getElem?_eq_getElem (by omega)] at hc
    exact Option.some.inj hc
  unfold undB
  rw [hl, decide_eq_true hi, Bool.true_and]
  refine decide_eq_true ?_
  rw [List.take_succ_eq_append_getElem (by omega), hg]
theorem und_self (name : List UInt8) : undB name name = false := by
  unfold undB
  rw [decide_eq_false (by omega), Bool.false_and]
theorem mov_at {name to : List UInt8} {i : Nat} (hi : i + 1 < name.length) (hc : name[i]? = some 47) : movO name (name.take i) to = some (to ++ name.drop i) := by
  have hl : (name.take i).length = i := by rw [List.length_take]; omega
  unfold movO
  rw [if_neg (fun e => by have := congrArg List.length e; omega), if_pos (und_at hi hc), hl]
theorem mov_back {name to : List UInt8} {i : Nat} (hi : i + 1 < name.length) (hc : name[i]? = some 47) : movO (to ++ name.drop i) to (name.take i) = some name := by
  have h1 : (to ++ name.drop i)[to.length]? = some 47 := by
    rw [List.getElem?_append_right (Nat.le_refl _), Nat.sub_self, List.getElem?_drop, Nat.add_zero, hc]
  have h2 := mov_at (name := to ++ name.drop i) (to := name.take i) (i := to.length) (by rw [List.length_append, List.length_drop]; omega) h1
  rw [List.take_left' rfl, List.drop_left' rfl, List.take_append_drop] at h2
  exact h2
end Go.Proofs.YtbjencibkkhbhaaGreatDoor

end
section
namespace Go.Proofs.YtbjencibkkhbhaaGreatDoor
/-- A pattern fits a text, letters standing for themselves. -/
def Fi (P a : List UInt8) : Prop := fit false P a = true
theorem same0 (c d : UInt8) : sameI false c d = (c == d) := by simp [sameI]
theorem Fi_nil {a : List UInt8} : Fi [] a ↔ a = [] := by
  unfold Fi; rw [fit_nil]; cases a <;> simp
theorem Fi_lit {c : UInt8} (h : starB c = false) {P a : List UInt8} : Fi (c :: P) a ↔ ∃ r, a = c :: r ∧ Fi P r := by
  unfold Fi
  cases a with
  | nil => rw [fit_end, h]; simp
  | cons d n =>
    rw [fit_char h, same0]
    constructor
    · intro hh
      simp only [Bool.and_eq_true, beq_iff_eq] at hh
      exact ⟨n, by rw [hh.1], hh.2⟩
    · rintro ⟨r, hr, hf⟩
      injection hr with h1 h2
      subst h1; subst h2
      simp [hf]
theorem Fi_star {c : UInt8} (h : starB c = true) {P : List UInt8} : ∀ {a : List UInt8}, Fi (c :: P) a ↔ ∃ u v, a = u ++ v ∧ (c = 42 ∨ (47 : UInt8) ∉ u) ∧ Fi P v
  | [] => by
    unfold Fi
    rw [fit_end, h, Bool.true_and]
    constructor
    · intro hh; exact ⟨[], [], rfl, .inr (by simp), hh⟩
    · rintro ⟨u, v, hh, _, hf⟩
      have := List.append_eq_nil_iff.1 hh.symm
      rw [this.2] at hf; exact hf
  | d :: n => by
    have ih := Fi_star h (P := P) (a := n)
    unfold Fi at ih ⊢
    rw [fit_star h, Bool.or_eq_true, Bool.and_eq_true, ih]
    constructor
    · rintro (hh | ⟨hd, u, v, hn, hu, hf⟩)
      · exact ⟨[], d :: n, rfl, .inr (by simp), hh⟩
      · refine ⟨d :: u, v, by rw [hn]; rfl, ?_, hf⟩
        simp only [Bool.or_eq_true, beq_iff_eq, bne_iff_ne] at hd
        rcases hd with hd | hd
        · exact .inl hd
        · rcases hu with hu | hu
          · exact .inl hu
          · exact .inr (by simp only [List.mem_cons, not_or]; exact ⟨fun e => hd e.symm, hu⟩)
    · rintro ⟨u, v, hn, hu, hf⟩
      cases u with
      | nil => exact .inl (by rw [List.nil_append] at hn; rw [hn]; exact hf)
      | cons x u =>
        rw [List.cons_append] at hn
        injection hn with h1 h2
        subst h1
        refine .inr ⟨?_, u, v, h2, ?_, hf⟩
        · rcases hu with hu | hu
          · simp [hu]
          · have : d ≠ 47 := fun e => hu (by simp [e])
            simp [this]
        · exact hu.imp id (fun h hm => h (by simp [hm]))
theorem Fi_app : ∀ {P Q a : List UInt8}, Fi (P ++ Q) a ↔ ∃ u v, a = u ++ v ∧ Fi P u ∧ Fi Q v
  | [], Q, a => by
    constructor
    · intro h; exact ⟨[], a, rfl, Fi_nil.2 rfl, h⟩
    · rintro ⟨u, v, h, hu, hv⟩
      rw [Fi_nil.1 hu] at h
      rw [List.nil_append] at h ⊢
      rw [h]; exact hv
  | c :: P, Q, a => by
    rw [List.cons_append]
    cases hc : starB c with
    | true =>
      rw [Fi_star hc]
      constructor
      · rintro ⟨u, v, rfl, hu, hv⟩
        obtain ⟨x, y, rfl, hx, hy⟩ := Fi_app.1 hv
        exact ⟨u ++ x, y, by simp, (Fi_star hc).2 ⟨u, x, rfl, hu, hx⟩, hy⟩
      · rintro ⟨u, v, rfl, hu, hv⟩
        obtain ⟨x, y, rfl, hx, hy⟩ := (Fi_star hc).1 hu
        exact ⟨x, y ++ v, by simp, hx, Fi_app.2 ⟨y, v, rfl, hy, hv⟩⟩
    | false =>
      rw [Fi_lit hc]
      constructor
      · rintro ⟨r, rfl, hr⟩
        obtain ⟨x, y, rfl, hx, hy⟩ := Fi_app.1 hr
        exact ⟨c :: x, y, by simp, (Fi_lit hc).2 ⟨x, rfl, hx⟩, hy⟩
      · rintro ⟨u, v, rfl, hu, hv⟩
        obtain ⟨r, rfl, hr⟩ := (Fi_lit hc).1 hu
        exact ⟨r ++ v, rfl, Fi_app.2 ⟨r, v, rfl, hr, hv⟩⟩
theorem Fi_word : ∀ {p a : List UInt8}, (∀ c ∈ p, starB c = false) → (Fi p a ↔ a = p)
  | [], a, _ => Fi_nil
  | c :: p, a, h => by
    rw [Fi_lit (h c (by simp))]
    constructor
    · rintro ⟨r, rfl, hr⟩
      rw [(Fi_word (fun x hx => h x (by simp [hx]))).1 hr]
    · rintro rfl
      exact ⟨p, rfl, (Fi_word (fun x hx => h x (by simp [hx]))).2 rfl⟩
theorem Fi_flat : ∀ {G a : List UInt8}, (∀ c ∈ G, c ≠ 42 ∧ c ≠ 47) → Fi G a → (47 : UInt8) ∉ a
  | [], a, _, h => by rw [Fi_nil.1 h]; simp
  | c :: G, a, hG, h => by
    have hc := hG c (by simp)
    cases hs : starB c with
    | true =>
      obtain ⟨u, v, rfl, hu, hv⟩ := (Fi_star hs).1 h
      have h1 := hu.resolve_left hc.1
      have h2 := Fi_flat (fun x hx => hG x (by simp [hx])) hv
      simp [h1, h2]
    | false =>
      obtain ⟨r, rfl, hr⟩ := (Fi_lit hs).1 h
      have h2 := Fi_flat (fun x hx => hG x (by simp [hx])) hr
      simp only [List.mem_cons, not_or]
      exact ⟨fun e => hc.2 e.symm, h2⟩
theorem Fi_congr {k P Q : List UInt8} (h : ∀ a, Fi P a ↔ Fi Q a) (a : List UInt8) : Fi (k ++ P) a ↔ Fi (k ++ Q) a := by
  rw [Fi_app, Fi_app]
  constructor
  · rintro ⟨u, v, h1, h2, h3⟩; exact ⟨u, v, h1, h2, (h v).1 h3⟩
  · rintro ⟨u, v, h1, h2, h3⟩; exact ⟨u, v, h1, h2, (h v).2 h3⟩
/-- Two signs side by side. -/
theorem Fi_two {c d e : UInt8} (hc : starB c = true) (hd : starB d = true) (he : e = if c = 42 ∨ d = 42 then 42 else 37) (P a : List UInt8) : Fi (c :: d :: P) a ↔ Fi (e :: P) a := by
  have hs : starB e = true := by rw [he]; split <;> rfl
  rw [Fi_star hc, Fi_star hs]
  constructor
  · rintro ⟨u, v, rfl, hu, hv⟩
    obtain ⟨x, y, rfl, hx, hy⟩ := (Fi_star hd).1 hv
    refine ⟨u ++ x, y, by simp, ?_, hy⟩
    rw [he]
    by_cases h : c = 42 ∨ d = 42
    · exact .inl (if_pos h)
    · rw [not_or] at h
      exact .inr (by simp [hu.resolve_left h.1, hx.resolve_left h.2])
  · rintro ⟨u, v, rfl, hu, hv⟩
    rw [he] at hu
    by_cases h1 : c = 42
    · exact ⟨u, v, rfl, .inl h1, (Fi_star hd).2 ⟨[], v, rfl, .inr (by simp), hv⟩⟩
    · by_cases h2 : d = 42
      · exact ⟨[], u ++ v, rfl, .inr (by simp), (Fi_star hd).2 ⟨u, v, rfl, .inl h2, hv⟩⟩
      · rw [if_neg (by simp [h1, h2])] at hu
        exact ⟨u, v, rfl, .inr (hu.resolve_left (by decide)), (Fi_star hd).2 ⟨[], v, rfl, .inr (by simp), hv⟩⟩
/-- What package boxes keeps of a pattern: no two signs side by side. -/
def simS (k : List UInt8) (c : UInt8) : List UInt8 :=
  match k.getLast? with
  | none => k ++ [c]
  | some d => if starB c && starB d then (if c = 42 then k.dropLast ++ [42] else k) else k ++ [c]
def simL (P : List UInt8) : List UInt8 := P.foldl simS []
theorem simS_len (k : List UInt8) (c : UInt8) : (simS k c).length ≤ k.length + 1 := by
  unfold simS
  split
  · simp
  · split
    · split
      · simp
      · omega
    · simp
theorem simS_fi (k : List UInt8) (c : UInt8) (Q a : List UInt8) : Fi (simS k c ++ Q) a ↔ Fi (k ++ c :: Q) a := by
  unfold simS
  split
  · simp
  · rename_i d hd
    obtain ⟨k', rfl⟩ : ∃ k', k = k' ++ [d] := by
      rw [List.getLast?_eq_some_iff] at hd; exact hd
    split
    · rename_i hs
      rw [Bool.and_eq_true] at hs
      rw [List.dropLast_concat]
      have key : ∀ e, e = (if d = 42 ∨ c = 42 then (42 : UInt8) else 37) → (Fi (k' ++ e :: Q) a ↔ Fi (k' ++ [d] ++ c :: Q) a) := fun e he => by
        rw [List.append_assoc]
        exact Fi_congr (fun a => (Fi_two hs.2 hs.1 he Q a).symm) a
      split
      · rename_i h
        rw [List.append_assoc]
        exact key 42 (by rw [if_pos (.inr h)])
      · rename_i h
        rw [show k' ++ [d] ++ Q = k' ++ d :: Q from by simp]
        refine key d ?_
        by_cases h1 : d = 42
        · rw [if_pos (.inl h1), h1]
        · rw [if_neg (by simp [h, h1])]
          have := hs.2
          simp [starB, h1] at this
          exact this
    · simp
theorem simF_fi : ∀ (P k a : List UInt8), Fi (P.foldl simS k) a ↔ Fi (k ++ P) a
  | [], k, a => by simp
  | c :: P, k, a => by rw [List.foldl_cons, simF_fi P (simS k c) a, simS_fi k c P a]
theorem simL_fi (P a : List UInt8) : Fi (simL P) a ↔ Fi P a := simF_fi P [] a
theorem simF_len : ∀ (P k : List UInt8), (P.foldl simS k).length ≤ k.length + P.length
  | [], k => by simp
  | c :: P, k => by
    have h1 := simF_len P (simS k c)
    have h2 := simS_len k c
    rw [List.foldl_cons]
    simp only [List.length_cons]
    omega
/-- Texts with a byte between them; a text cut at a byte. -/
def jn (c : UInt8) : List (List UInt8) → List UInt8
  | [] => []
  | [p] => p
  | p :: q :: r => p ++ c :: jn c (q :: r)
theorem jn_cons {c : UInt8} {p : List UInt8} {r : List (List UInt8)} (h : r ≠ []) : jn c (p :: r) = p ++ c :: jn c r := by
  cases r with
  | nil => exact absurd rfl h
  | cons q r => rfl
def spc (c : UInt8) : List UInt8 → List (List UInt8)
  | [] => [[]]
  | x :: r => if x = c then [] :: spc c r else match spc c r with
    | [] => [[x]]
    | p :: ps => (x :: p) :: ps
theorem spc_ne (c : UInt8) (l : List UInt8) : spc c l ≠ [] := by
  cases l with
  | nil => simp [spc]
  | cons x l =>
    unfold spc
    split
    · simp
    · split <;> simp
theorem spc_end {c : UInt8} : ∀ {p : List UInt8}, c ∉ p → spc c p = [p]
  | [], _ => rfl
  | x :: p, h => by
    have h1 := spc_end (c := c) (p := p) (fun hp => h (List.mem_cons_of_mem _ hp))
    have hc : x ≠ c := fun e => h (by simp [e])
    rw [spc, if_neg hc, h1]
theorem spc_mid {c : UInt8} : ∀ {p : List UInt8} (r : List UInt8), c ∉ p → spc c (p ++ c :: r) = p :: spc c r
  | [], r, _ => by simp [spc]
  | x :: p, r, h => by
    have h1 := spc_mid (c := c) (p := p) r (fun hp => h (List.mem_cons_of_mem _ hp))
    have hc : x ≠ c := fun e => h (by simp [e])
    rw [List.cons_append, spc, if_neg hc, h1]
theorem spc_in {c : UInt8} : ∀ (l : List UInt8), ∀ x ∈ spc c l, c ∉ x ∧ ∀ y ∈ x, y ∈ l
  | [], x, h => by
    simp [spc] at h
    simp [h]
  | b :: l, x, h => by
    have h1 := spc_in (c := c) l
    by_cases hc : b = c
    · rw [spc, if_pos hc] at h
      rcases List.mem_cons.1 h with rfl | h
      · simp
      · exact ⟨(h1 x h).1, fun y hy => List.mem_cons_of_mem _ ((h1 x h).2 y hy)⟩
    · rw [spc, if_neg hc] at h
      split at h
      · rename_i e; exact absurd e (spc_ne c l)
      · rename_i p ps e
        rw [e] at h1
        rcases List.mem_cons.1 h with rfl | h
        · have := h1 p (by simp)
          refine ⟨?_, fun y hy => ?_⟩
          · simp only [List.mem_cons, not_or]; exact ⟨fun e => hc e.symm, this.1⟩
          · rcases List.mem_cons.1 hy with rfl | hy
            · simp
            · exact List.mem_cons_of_mem _ (this.2 y hy)
        · have := h1 x (by simp [h])
          exact ⟨this.1, fun y hy => List.mem_cons_of_mem _ (this.2 y hy)⟩
theorem jn_spc (c : UInt8) : ∀ (l : List UInt8), jn c (spc c l) = l
  | [] => rfl
  | x :: l => by
    have ih := jn_spc c l
    unfold spc
    split
    · rename_i h
      rw [jn_cons (spc_ne c l), ih, h]; rfl
    · split
      · rename_i e; exact absurd e (spc_ne c l)
      · rename_i p ps e
        rw [e] at ih
        cases ps with
        | nil => rw [← ih]; rfl
        | cons q r => rw [← ih]; rfl
theorem spc_len (c : UInt8) : ∀ (l : List UInt8), (spc c l).length ≤ l.length + 1
  | [] => by simp [spc]
  | x :: l => by
    have ih := spc_len c l
    unfold spc
    split
    · simp; omega
    · split
      · simp
      · rename_i p ps e
        rw [e] at ih
        simp at ih ⊢; omega
theorem spc_size {c : UInt8} : ∀ (l : List UInt8), ∀ x ∈ spc c l, x.length ≤ l.length
  | [], x, h => by
    simp [spc] at h
    simp [h]
  | b :: l, x, h => by
    have h1 := spc_size (c := c) l
    by_cases hc : b = c
    · rw [spc, if_pos hc] at h
      rcases List.mem_cons.1 h with rfl | h
      · simp
      · have := h1 x h; simp; omega
    · rw [spc, if_neg hc] at h
      split at h
      · rename_i e; exact absurd e (spc_ne c l)
      · rename_i p ps e
        rw [e] at h1
        rcases List.mem_cons.1 h with rfl | h
        · have := h1 p (by simp); simp; omega
        · have := h1 x (by simp [h]); simp; omega
end Go.Proofs.YtbjencibkkhbhaaGreatDoor

end
section
namespace Go.Proofs.YtbjencibkkhbhaaGreatDoor
/-- The number of a text; 0: it is none. -/
def sqN (t : List UInt8) : Nat := if (1 ≤ t.length ∧ t.length ≤ 10) ∧ t.head? ≠ some 48 ∧ t.all dgB = true ∧ valD 0 t ≤ 2147483648 then valD 0 t else 0
theorem sqN_le (t : List UInt8) : sqN t ≤ 2147483648 := by
  unfold sqN
  split
  · rename_i h; exact h.2.2.2
  · omega
theorem valD_pos {t : List UInt8} (h1 : 1 ≤ t.length) (h2 : t.head? ≠ some 48) (h3 : t.all dgB = true) : 1 ≤ valD 0 t := by
  refine (dec_valD t.length t (Nat.le_refl _) (fun e => by simp [e] at h1) (fun c hc => List.all_eq_true.1 h3 c hc) (fun c r e hc => h2 (by rw [e, hc]; rfl))).2
theorem valD_lt : ∀ (l : List UInt8) (acc : Nat), l.all dgB = true → valD acc l < (acc + 1) * 10 ^ l.length
  | [], acc, _ => by rw [valD_nil]; simp
  | c :: r, acc, h => by
    rw [List.all_cons, Bool.and_eq_true] at h
    have ih := valD_lt r (acc * 10 + (c.toNat - 48)) h.2
    have hc : c.toNat ≤ 57 := by have := h.1; simp [dgB] at this; omega
    rw [valD_cons, List.length_cons, Nat.pow_succ]
    refine Nat.lt_of_lt_of_le ih ?_
    have : acc * 10 + (c.toNat - 48) + 1 ≤ (acc + 1) * 10 := by omega
    calc _ ≤ (acc + 1) * 10 * 10 ^ r.length := Nat.mul_le_mul_right _ this
      _ = (acc + 1) * (10 ^ r.length * 10) := by rw [Nat.mul_assoc, Nat.mul_comm 10]
theorem valD_max {l : List UInt8} (h : l.all dgB = true) (hl : l.length ≤ 10) : valD 0 l < 10000000000 := by
  have h1 := valD_lt l 0 h
  have h2 : 10 ^ l.length ≤ 10 ^ 10 := Nat.pow_le_pow_right (by omega) hl
  omega
theorem valD_snoc (l : List UInt8) (c : UInt8) : valD 0 (l ++ [c]) = valD 0 l * 10 + (c.toNat - 48) := by rw [valD_app]; rfl
/-- One end of a range. -/
def sqE (t : List UInt8) : Option Nat := if t = [42] then some 0 else if sqN t = 0 then none else some (sqN t)
theorem sqN_star : sqN [42] = 0 := by decide
theorem sqE_val (t : List UInt8) : sqE t = if sqN t = 0 ∧ t ≠ [42] then none else some (sqN t) := by
  unfold sqE
  by_cases h : t = [42]
  · subst h
    rw [if_pos rfl, if_neg (fun h => h.2 rfl), sqN_star]
  · rw [if_neg h]
    by_cases h0 : sqN t = 0
    · rw [if_pos h0, if_pos ⟨h0, h⟩]
    · rw [if_neg h0, if_neg (fun e => h0 e.1)]
/-- An item: one end, or two. -/
def sqI (item : List UInt8) : Option (Nat × Nat) := match spc 58 item with
  | [a] => (sqE a).map fun x => (x, x)
  | [a, b] => (sqE a).bind fun x => (sqE b).map fun y => (x, y)
  | _ => none
def sqS (s : List UInt8) : Option (List (Nat × Nat)) := if (spc 44 s).length ≤ 50 then (spc 44 s).mapM sqI else none
/-- Texts of ends, items and sets. -/
def sqT1 (n : Nat) : List UInt8 := if n = 0 then [42] else Lib.decDigits n
def sqTI (r : Nat × Nat) : List UInt8 := if r.1 = r.2 then sqT1 r.1 else sqT1 r.1 ++ 58 :: sqT1 r.2
def sqT (set : List (Nat × Nat)) : List UInt8 := jn 44 (set.map sqTI)
theorem nd_le : ∀ (k u : Nat), u < 10 ^ (k + 1) → Lib.nDigits u ≤ k + 1
  | 0, u, h => by rw [Lib.nDigits_small (by simpa using h)]; exact Nat.le_refl _
  | k + 1, u, h => by
    by_cases h10 : u < 10
    · rw [Lib.nDigits_small h10]; omega
    · have := nd_le k (u / 10) (by rw [Nat.pow_succ] at h; omega)
      rw [Lib.nDigits_big h10]
      omega
theorem sq_len {u : Nat} (h : u ≤ 2147483648) : (Lib.decDigits u).length ≤ 10 := by
  rw [Lib.decDigits_length]
  exact nd_le 9 u (by omega)
theorem sqN_dec {u : Nat} (h1 : 1 ≤ u) (h2 : u ≤ 2147483648) : sqN (Lib.decDigits u) = u := by
  have hv := valD_dec u u (Nat.le_refl _)
  have hne := dec_ne u
  unfold sqN
  rw [if_pos, hv]
  refine ⟨⟨List.length_pos_iff.2 hne, sq_len h2⟩, ?_, List.all_eq_true.2 (dec_all u u (Nat.le_refl _)), by rw [hv]; exact h2⟩
  cases hd : Lib.decDigits u with
  | nil => exact absurd hd hne
  | cons c r =>
    have := dec_head u u (Nat.le_refl _) h1 c r hd
    simpa using this
theorem sqE_back {n : Nat} (h : n ≤ 2147483648) : sqE (sqT1 n) = some n := by
  unfold sqT1
  by_cases h0 : n = 0
  · rw [if_pos h0, h0]; rfl
  · rw [if_neg h0]
    unfold sqE
    rw [sqN_dec (by omega) h, if_neg h0, if_neg]
    intro e
    have := dec_all n n (Nat.le_refl _) 42 (by rw [e]; simp)
    revert this
    decide
theorem sqT1_no (n : Nat) (c : UInt8) (hc : dgB c = false) (h42 : c ≠ 42) : c ∉ sqT1 n := by
  unfold sqT1
  split
  · simpa using h42
  · intro h
    have := dec_all n n (Nat.le_refl _) c h
    rw [hc] at this
    cases this
theorem sqI_back {r : Nat × Nat} (h1 : r.1 ≤ 2147483648) (h2 : r.2 ≤ 2147483648) : sqI (sqTI r) = some r := by
  obtain ⟨a, b⟩ := r
  have n1 := sqT1_no a 58 (by decide) (by decide)
  have n2 := sqT1_no b 58 (by decide) (by decide)
  unfold sqTI sqI
  by_cases e : a = b
  · subst e
    rw [if_pos rfl, spc_end n1]
    show (sqE (sqT1 a)).map (fun x => (x, x)) = _
    rw [sqE_back h1]
    rfl
  · rw [if_neg e, spc_mid _ n1, spc_end n2]
    show (sqE (sqT1 a)).bind (fun x => (sqE (sqT1 b)).map fun y => (x, y)) = _
    rw [sqE_back h1, sqE_back h2]
    rfl
theorem spc_jn {c : UInt8} : ∀ (ts : List (List UInt8)), ts ≠ [] → (∀ t ∈ ts, c ∉ t) → spc c (jn c ts) = ts
  | [], h, _ => absurd rfl h
  | [t], _, h => spc_end (h t (by simp))
  | t :: u :: ts, _, h => by
    rw [jn_cons (by simp), spc_mid _ (h t (by simp)), spc_jn (u :: ts) (by simp) (fun x hx => h x (by simp only [List.mem_cons] at hx ⊢; exact .inr hx))]
theorem mapM_some {α β : Type} {f : α → Option β} {g : β → α} : ∀ (l : List β), (∀ x ∈ l, f (g x) = some x) → (l.map g).mapM f = some l
  | [], _ => rfl
  | x :: l, h => by
    rw [List.map_cons, List.mapM_cons, h x (by simp), mapM_some l (fun y hy => h y (by simp [hy]))]
    rfl
/-- A set's text is read back. -/
theorem sq_back {set : List (Nat × Nat)} (h0 : set ≠ []) (hl : set.length ≤ 50) (h : ∀ r ∈ set, r.1 ≤ 2147483648 ∧ r.2 ≤ 2147483648) : sqS (sqT set) = some set := by
  have hs : spc 44 (sqT set) = set.map sqTI := by
    unfold sqT
    refine spc_jn _ (by simpa using h0) (fun t ht => ?_)
    obtain ⟨r, _, rfl⟩ := List.mem_map.1 ht
    have n1 := sqT1_no r.1 44 (by decide) (by decide)
    have n2 := sqT1_no r.2 44 (by decide) (by decide)
    unfold sqTI
    split
    · exact n1
    · intro hm
      rcases List.mem_append.1 hm with hm | hm
      · exact n1 hm
      · rcases List.mem_cons.1 hm with hm | hm
        · revert hm; decide
        · exact n2 hm
  unfold sqS
  rw [hs, if_pos (by rw [List.length_map]; exact hl)]
  exact mapM_some set (fun r hr => sqI_back (h r hr).1 (h r hr).2)
/-- A text cut at a byte, under way: what stands from k on, of which the bytes up to i are not c. -/
theorem cut_hit {c : UInt8} {s : List UInt8} {k i : Nat} (hk : k ≤ i) (hi : i < s.length) (hc : s[i] = c) (h : ∀ j (hj : j < s.length), k ≤ j → j < i → s[j] ≠ c) : spc c (s.drop k) = ((s.drop k).take (i - k)) :: spc c (s.drop (i + 1)) := by
  have e : s.drop k = (s.drop k).take (i - k) ++ c :: s.drop (i + 1) := by
    conv => lhs; rw [← List.take_append_drop (i - k) (s.drop k)]
    rw [List.drop_drop, show k + (i - k) = i from by omega, List.drop_eq_getElem_cons hi, hc]
  conv => lhs; rw [e]
  refine spc_mid _ (fun hm => ?_)
  obtain ⟨j, hj, he⟩ := List.mem_iff_getElem.1 hm
  rw [List.length_take, List.length_drop] at hj
  rw [List.getElem_take, List.getElem_drop] at he
  exact h (k + j) (by omega) (by omega) (by omega) he
theorem cut_last {c : UInt8} {s : List UInt8} {k : Nat} (h : ∀ j (hj : j < s.length), k ≤ j → s[j] ≠ c) : spc c (s.drop k) = [s.drop k] := by
  refine spc_end (fun hm => ?_)
  obtain ⟨j, hj, he⟩ := List.mem_iff_getElem.1 hm
  rw [List.length_drop] at hj
  rw [List.getElem_drop] at he
  exact h (k + j) (by omega) (by omega) he
theorem jn_snoc {c : UInt8} (t : List UInt8) : ∀ (ts : List (List UInt8)), ts ≠ [] → jn c (ts ++ [t]) = jn c ts ++ c :: t
  | [], h => absurd rfl h
  | [a], _ => rfl
  | a :: b :: ts, _ => by
    rw [List.cons_append, jn_cons (by simp), jn_snoc t (b :: ts) (by simp), jn_cons (r := b :: ts) (by simp)]
    simp
/-- The text of a set of whatever numbers; none: it has none. -/
def rgOk (r : Int × Int) : Bool := decide (0 ≤ r.1) && decide (0 ≤ r.2) && decide (r.1 ≤ 2147483648) && decide (r.2 ≤ 2147483648)
def ratN (r : Int × Int) : Nat × Nat := (r.1.toNat, r.2.toNat)
def txO (rs : List (Int × Int)) : Option (List UInt8) := if rs.all rgOk = true ∧ 1 ≤ rs.length ∧ rs.length ≤ 50 then some (sqT (rs.map ratN)) else none
theorem sqT1_len {n : Nat} (h : n ≤ 2147483648) : (sqT1 n).length ≤ 10 := by
  unfold sqT1
  split
  · simp
  · exact sq_len h
theorem sqT_next {rs : List (Nat × Nat)} {i : Nat} (h : i < rs.length) : sqT (rs.take (i + 1)) = (if i = 0 then [] else sqT (rs.take i) ++ [44]) ++ sqTI rs[i] := by
  unfold sqT
  rw [List.take_succ_eq_append_getElem h, List.map_append]
  by_cases h0 : i = 0
  · subst h0
    rw [if_pos rfl]
    rfl
  · rw [if_neg h0]
    have hne : (rs.take i).map sqTI ≠ [] := by
      intro e
      have := congrArg List.length e
      rw [List.length_map, List.length_take, List.length_nil] at this
      omega
    show jn 44 ((rs.take i).map sqTI ++ [sqTI rs[i]]) = _
    rw [jn_snoc _ _ hne]
    simp
/-- Whether a range has a number; a set. -/
def sqH (r : Int × Int) (n mx : Int) : Bool :=
  let m := if mx < 0 then 0 else mx
  let a := if r.1 = 0 then m else r.1
  let b := if r.2 = 0 then m else r.2
  decide (1 ≤ n) && ((decide (a ≤ n) && decide (n ≤ b)) || (decide (b ≤ n) && decide (n ≤ a)))
def sqIn (set : List (Int × Int)) (n mx : Int) : Bool := set.any fun r => sqH r n mx
def sqOf (set : List (Int × Int)) (ns : List Int) : List Int := ns.filter fun n => sqIn set n (ns.getLastD 0)
theorem sqH_turn (a b n mx : Int) : sqH (a, b) n mx = sqH (b, a) n mx := by
  unfold sqH
  dsimp only
  rw [Bool.or_comm]
theorem sqH_star (n mx : Int) : sqH (0, 0) n mx = (decide (1 ≤ n) && decide (n = mx)) := by
  unfold sqH
  dsimp only
  simp only [if_true]
  rw [Bool.eq_iff_iff]
  simp
  intro h
  split <;> omega
theorem sqIn_app (a b : List (Int × Int)) (n mx : Int) : sqIn (a ++ b) n mx = (sqIn a n mx || sqIn b n mx) := List.any_append
/-- Items read one behind the other. -/
theorem mapM_none {α β : Type} {f : α → Option β} : ∀ (l : List α) (k : Nat) (h : k < l.length), f l[k] = none → l.mapM f = none
  | x :: l, 0, _, h => by
    rw [List.mapM_cons]
    have h' : f x = none := h
    rw [h']
    rfl
  | x :: l, k + 1, hk, h => by
    rw [List.mapM_cons, mapM_none l k (by simpa using hk) (by simpa using h)]
    cases f x <;> rfl
theorem mapM_snoc {α β : Type} {f : α → Option β} {y : β} : ∀ (l : List α) (x : α) (out : List β), l.mapM f = some out → f x = some y → (l ++ [x]).mapM f = some (out ++ [y])
  | [], x, out, h, hx => by
    cases h
    show ([x] : List α).mapM f = _
    rw [List.mapM_cons, hx]
    rfl
  | z :: l, x, out, h, hx => by
    rw [List.mapM_cons] at h
    rw [List.cons_append, List.mapM_cons]
    cases hz : f z with
    | none => rw [hz] at h; cases h
    | some a =>
      rw [hz] at h
      cases hl : l.mapM f with
      | none => rw [hl] at h; cases h
      | some o =>
        rw [hl] at h
        cases h
        rw [mapM_snoc l x o hl hx]
        rfl
theorem mapM_len {α β : Type} {f : α → Option β} : ∀ (l : List α) (out : List β), l.mapM f = some out → out.length = l.length
  | [], out, h => by cases h; rfl
  | z :: l, out, h => by
    rw [List.mapM_cons] at h
    cases hz : f z with
    | none => rw [hz] at h; cases h
    | some a =>
      rw [hz] at h
      cases hl : l.mapM f with
      | none => rw [hl] at h; cases h
      | some o =>
        rw [hl] at h
        cases h
        rw [List.length_cons, List.length_cons, mapM_len l o hl]
theorem sqI_long {item : List UInt8} (h : 2 < (spc 58 item).length) : sqI item = none := by
  unfold sqI
  match spc 58 item, h with
  | _ :: _ :: _ :: _, _ => rfl
theorem sqI_bad {item : List UInt8} {j : Nat} (hj : j < (spc 58 item).length) (h : sqE (spc 58 item)[j] = none) : sqI item = none := by
  unfold sqI
  generalize spc 58 item = l at *
  match l, j, hj, h with
  | [a], 0, _, h => have h' : sqE a = none := h; simp [h']
  | [a, b], 0, _, h => have h' : sqE a = none := h; simp [h']
  | [a, b], 1, _, h =>
    have h' : sqE b = none := h
    simp [h']
  | _ :: _ :: _ :: _, _, _, _ => rfl
theorem sqI_good {item : List UInt8} (hl : (spc 58 item).length ≤ 2) (h : ∀ t ∈ spc 58 item, sqE t = some (sqN t)) : ∃ a b, sqI item = some (a, b) ∧ ((spc 58 item).map sqN)[0]? = some a ∧ ((spc 58 item).map sqN)[(spc 58 item).length - 1]? = some b := by
  have hne := spc_ne 58 item
  unfold sqI
  generalize spc 58 item = l at *
  match l, hl, h, hne with
  | [a], _, h, _ => exact ⟨sqN a, sqN a, by simp [h a (by simp)], rfl, rfl⟩
  | [a, b], _, h, _ => exact ⟨sqN a, sqN b, by simp [h a (by simp), h b (by simp)], rfl, rfl⟩
/-- The flags' names, in order. -/
def flN : List (List UInt8) := [[92, 83, 101, 101, 110], [92, 65, 110, 115, 119, 101, 114, 101, 100], [92, 70, 108, 97, 103, 103, 101, 100], [92, 68, 101, 108, 101, 116, 101, 100], [92, 68, 114, 97, 102, 116]]
/-- A word against the first names: the bits of those that it is, whether it is one. -/
def flA (l : List UInt8) : Nat → Nat
  | 0 => 0
  | i + 1 => if l = (flN.getD i []).map lowB then flA l i ||| 2 ^ i else flA l i
def flK (l : List UInt8) : Nat → Bool
  | 0 => false
  | i + 1 => if l = (flN.getD i []).map lowB then true else flK l i
/-- The bit of a word: none, if it is no flag's name. -/
def flW (w : List UInt8) : Option Nat := if flK (w.map lowB) 5 then some (flA (w.map lowB) 5) else none
theorem flA_lt (l : List UInt8) : ∀ i, i ≤ 5 → flA l i < 32
  | 0, _ => by simp [flA]
  | i + 1, h => by
    have ih := flA_lt l i (by omega)
    unfold flA
    split
    · exact Nat.or_lt_two_pow (n := 5) ih (Nat.pow_lt_pow_right (by omega) (by omega))
    · exact ih
def flF : Nat → List (List UInt8) → Option Nat
  | f, [] => some f
  | f, w :: ws => (flW w).bind fun b => flF (f ||| b) ws
/-- The flags of a text. -/
def flO (s : List UInt8) : Option Nat := if s.length < 2 ∨ s.head? ≠ some 40 ∨ s.getLast? ≠ some 41 then none else if s.length = 2 then some 0 else flF 0 (spc 32 ((s.drop 1).take (s.length - 2)))
/-- Flags' text. -/
def flT (f : Nat) : List UInt8 := 40 :: (jn 32 ((List.range 5).filterMap fun i => if f.testBit i then flN[i]? else none) ++ [41])
theorem fl_back : ∀ f, f < 32 → flO (flT f) = some f := by decide +kernel
end Go.Proofs.YtbjencibkkhbhaaGreatDoor

end
