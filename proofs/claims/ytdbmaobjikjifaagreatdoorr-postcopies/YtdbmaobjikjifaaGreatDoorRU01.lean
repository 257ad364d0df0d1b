/- Lines of a text that are quoted and unquoted: plain mathematics of lists of bytes. -/
/- Small letters, byte by byte. -/
/- Names and patterns of mailboxes, in plain lists. -/
import Derived.WalkKit
import Derived.Lib.TrimByte
import Derived.Lib.Strings
import Derived.Lib.Bytealg
section
namespace Go.Proofs.YtdbmaobjikjifaaGreatDoorR
open Go.RowKit
def cut10 : List UInt8 → Option (List UInt8 × List UInt8)
  | [] => none
  | c :: r => if c = 10 then some ([], r) else (cut10 r).map fun p => (c :: p.1, p.2)
theorem cut10_none : ∀ {l : List UInt8}, cut10 l = none → (10 : UInt8) ∉ l
  | [], _ => by simp
  | c :: r, h => by
    unfold cut10 at h
    split at h
    · cases h
    · next hc =>
      have := cut10_none (Option.map_eq_none_iff.1 h)
      simp only [List.mem_cons, not_or]
      exact ⟨fun e => hc e.symm, this⟩
theorem cut10_some : ∀ {l p r : List UInt8}, cut10 l = some (p, r) → l = p ++ 10 :: r ∧ (10 : UInt8) ∉ p
  | [], _, _, h => by cases h
  | c :: l, p, r, h => by
    unfold cut10 at h
    split at h
    · next hc =>
      cases h
      exact ⟨by rw [hc]; rfl, by simp⟩
    · next hc =>
      obtain ⟨⟨p', r'⟩, h1, h2⟩ := Option.map_eq_some_iff.1 h
      obtain ⟨rfl, h4⟩ := cut10_some h1
      cases h2
      exact ⟨rfl, by simp only [List.mem_cons, not_or]; exact ⟨fun e => hc e.symm, h4⟩⟩
theorem index_none : ∀ {l : List UInt8}, (10 : UInt8) ∉ l → Lib.indexByte l 10 = -1
  | [], _ => rfl
  | c :: r, h => by
    simp only [List.mem_cons, not_or] at h
    unfold Lib.indexByte
    rw [if_neg (by simpa using fun e => h.1 e.symm), index_none h.2]
    rfl
theorem index_mid : ∀ {p : List UInt8} (r : List UInt8), (10 : UInt8) ∉ p → Lib.indexByte (p ++ 10 :: r) 10 = p.length
  | [], _, _ => by simp [Lib.indexByte]
  | c :: p, r, h => by
    simp only [List.mem_cons, not_or] at h
    show Lib.indexByte (c :: (p ++ 10 :: r)) 10 = _
    unfold Lib.indexByte
    rw [if_neg (by simpa using fun e => h.1 e.symm), index_mid r h.2, if_neg (by simp; try omega)]
    simp
/-- A text's lines. -/
def splitS : List UInt8 → List (List UInt8)
  | [] => []
  | c :: r => if c = 10 then [10] :: splitS r else match splitS r with
    | [] => [[c]]
    | x :: xs => (c :: x) :: xs
theorem splitS_mid : ∀ (p r : List UInt8), (10 : UInt8) ∉ p → splitS (p ++ 10 :: r) = (p ++ [10]) :: splitS r
  | [], r, _ => by simp [splitS]
  | c :: p, r, h => by
    simp only [List.mem_cons, not_or] at h
    show splitS (c :: (p ++ 10 :: r)) = _
    rw [splitS, if_neg (fun e => h.1 e.symm), splitS_mid p r h.2]
    rfl
theorem splitS_end : ∀ (l : List UInt8), (10 : UInt8) ∉ l → l ≠ [] → splitS l = [l]
  | [c], h, _ => by
    simp only [List.mem_cons, not_or] at h
    rw [splitS, if_neg (fun e => h.1 e.symm)]
    rfl
  | c :: d :: r, h, _ => by
    simp only [List.mem_cons, not_or] at h
    rw [splitS, if_neg (fun e => h.1 e.symm), splitS_end (d :: r) (by simp only [List.mem_cons, not_or]; exact h.2) (by simp)]
theorem splitS_flat : ∀ (l : List UInt8), (splitS l).flatten = l
  | [] => rfl
  | c :: r => by
    have ih := splitS_flat r
    rw [splitS]
    split
    · next hc => simp [ih, hc]
    · split
      · next h =>
        rw [h] at ih
        simp at ih
        simp [← ih]
      · next x xs h =>
        rw [h] at ih
        simp at ih
        simp [ih]
theorem splitS_len : ∀ (l : List UInt8), (splitS l).length ≤ l.length
  | [] => Nat.le_refl _
  | c :: r => by
    have ih := splitS_len r
    rw [splitS]
    split
    · simp; omega
    · split
      · next h => simp
      · next x xs h =>
        rw [h] at ih
        simp at ih ⊢
        omega
theorem ext_take (l : List UInt8) (k : Nat) : (⟨l.toArray⟩ : ByteArray).extract 0 k = ⟨(l.take k).toArray⟩ := by
  apply ByteArray.ext
  simp [ByteArray.data_extract]
theorem ext_drop (l : List UInt8) (k : Nat) : (⟨l.toArray⟩ : ByteArray).extract k l.length = ⟨(l.drop k).toArray⟩ := by
  apply ByteArray.ext
  simp only [ByteArray.data_extract, List.extract_toArray]
  congr 1
  rw [List.extract_eq_take_drop]
  apply List.take_of_length_le
  rw [List.length_drop]
  omega
theorem ext_mid (l : List UInt8) (a b : Nat) : (⟨l.toArray⟩ : ByteArray).extract a b = ⟨((l.drop a).take (b - a)).toArray⟩ := by
  apply ByteArray.ext
  simp [ByteArray.data_extract, List.extract_eq_take_drop]

/-- The five bytes that a separator begins with. -/
def fromS : List UInt8 := [70, 114, 111, 109, 32]
/-- It looks like a separator. -/
def sepB (l : List UInt8) : Bool := fromS.isPrefixOf l
/-- It looks quoted, or like a separator. -/
def nm : List UInt8 → Bool
  | [] => false
  | c :: r => if c = 62 then nm r else sepB (c :: r)
/-- It looks quoted. -/
def quoB : List UInt8 → Bool
  | [] => false
  | c :: r => if c = 62 then nm r else false
theorem sep_62 (r : List UInt8) : sepB (62 :: r) = false := by simp [sepB, fromS, List.isPrefixOf]
theorem sep_nil : sepB [] = false := rfl
theorem nm_cons62 (r : List UInt8) : nm (62 :: r) = nm r := by rw [nm, if_pos rfl]
theorem quo_62 (r : List UInt8) : quoB (62 :: r) = nm r := by rw [quoB, if_pos rfl]
theorem nm_or : ∀ l : List UInt8, nm l = (sepB l || quoB l)
  | [] => rfl
  | c :: r => by
    by_cases h : c = 62
    · subst h; rw [nm_cons62, sep_62, quo_62]; simp
    · rw [nm, quoB, if_neg h, if_neg h]; simp
theorem nm_sep {l : List UInt8} (h : sepB l = true) : nm l = true := by rw [nm_or, h]; rfl
theorem nm_quo {l : List UInt8} (h : quoB l = true) : nm l = true := by rw [nm_or, h]; simp
theorem sep_not_quo : ∀ {l : List UInt8}, sepB l = true → quoB l = false
  | [], h => by cases h
  | c :: r, h => by
    by_cases e : c = 62
    · subst e; rw [sep_62] at h; cases h
    · rw [quoB, if_neg e]
theorem quo_form : ∀ {l : List UInt8}, quoB l = true → ∃ r, l = 62 :: r ∧ nm r = true
  | [], h => by cases h
  | c :: r, h => by
    by_cases e : c = 62
    · subst e; rw [quo_62] at h; exact ⟨r, rfl, h⟩
    · rw [quoB, if_neg e] at h; cases h
theorem nm_trim : ∀ l : List UInt8, Lib.hasPrefix (Lib.trimLeftB l 62) fromS = nm l
  | [] => rfl
  | c :: r => by
    by_cases h : c = 62
    · subst h
      rw [nm_cons62, ← nm_trim r]
      rfl
    · have : Lib.trimLeftB (c :: r) 62 = c :: r := by
        unfold Lib.trimLeftB
        rw [List.dropWhile_cons_of_neg (by simpa using h)]
      rw [this, nm, if_neg h]
      rfl
theorem trim_le : ∀ l : List UInt8, (Lib.trimLeftB l 62).length ≤ l.length
  | [] => Nat.le_refl _
  | c :: r => by
    have := trim_le r
    unfold Lib.trimLeftB at *
    rw [List.dropWhile_cons]
    split
    · simp; omega
    · simp
theorem sep_trim {l : List UInt8} (h : nm l = true) : sepB l = decide ((Lib.trimLeftB l 62).length = l.length) := by
  cases l with
  | nil => cases h
  | cons c r =>
    by_cases e : c = 62
    · subst e
      rw [sep_62]
      have h1 : Lib.trimLeftB (62 :: r) 62 = Lib.trimLeftB r 62 := rfl
      have h2 := trim_le r
      rw [h1, eq_comm, decide_eq_false_iff_not, List.length_cons]
      omega
    · have : Lib.trimLeftB (c :: r) 62 = c :: r := by
        unfold Lib.trimLeftB
        rw [List.dropWhile_cons_of_neg (by simpa using e)]
      rw [this, decide_eq_true rfl]
      rw [nm, if_neg e] at h
      exact h
theorem quo_not_sep {l : List UInt8} (h : nm l = true) : quoB l = !sepB l := by
  cases hs : sepB l with
  | true => rw [sep_not_quo hs]; rfl
  | false => rw [nm_or, hs] at h; simpa using h

/-- A line quoted. -/
def quoteL (l : List UInt8) : List UInt8 := if nm l then 62 :: l else l
/-- A line unquoted. -/
def unquoteL (l : List UInt8) : List UInt8 := if quoB l then l.drop 1 else l
theorem quote_nm {l : List UInt8} : nm (quoteL l) = nm l := by
  unfold quoteL
  split
  · rw [nm_cons62]
  · rfl
theorem unquote_quote (l : List UInt8) : unquoteL (quoteL l) = l := by
  unfold quoteL
  split
  · next h => unfold unquoteL; rw [quo_62, if_pos h]; rfl
  · next h =>
    unfold unquoteL
    rw [if_neg]
    intro hq
    exact h (nm_quo hq)
theorem sep_quote (l : List UInt8) : sepB (quoteL l) = false := by
  unfold quoteL
  split
  · exact sep_62 l
  · next h =>
    cases hs : sepB l with
    | true => exact absurd (nm_sep hs) h
    | false => rfl
theorem quote_unquote {l : List UInt8} (h : sepB l = false) : quoteL (unquoteL l) = l := by
  unfold unquoteL
  split
  · next hq =>
    obtain ⟨r, rfl, hr⟩ := quo_form hq
    show quoteL r = _
    rw [quoteL, if_pos hr]
  · next hq =>
    rw [quoteL, if_neg]
    rw [nm_or, h]
    simpa using hq

/-! Ends of lines -/
theorem pre_mid : ∀ (pat p r : List UInt8), (10 : UInt8) ∉ pat → pat.isPrefixOf (p ++ 10 :: r) = pat.isPrefixOf p
  | [], p, r, _ => by simp
  | a :: pat, [], r, h => by
    simp only [List.mem_cons, not_or] at h
    have : (a == 10) = false := by simpa using fun e => h.1 e.symm
    simp [List.isPrefixOf, this]
  | a :: pat, c :: p, r, h => by
    simp only [List.mem_cons, not_or] at h
    show (a == c && pat.isPrefixOf (p ++ 10 :: r)) = (a == c && pat.isPrefixOf p)
    rw [pre_mid pat p r h.2]
theorem sep_mid (p r : List UInt8) : sepB (p ++ 10 :: r) = sepB p := pre_mid fromS p r (by decide)
theorem nm_mid : ∀ (p r : List UInt8), nm (p ++ 10 :: r) = nm p
  | [], r => by simp [nm, sepB, fromS, List.isPrefixOf]
  | c :: p, r => by
    show nm (c :: (p ++ 10 :: r)) = _
    by_cases h : c = 62
    · subst h; rw [nm_cons62, nm_cons62, nm_mid p r]
    · rw [nm, nm, if_neg h, if_neg h]; exact sep_mid (c :: p) r
theorem quo_mid : ∀ (p r : List UInt8), quoB (p ++ 10 :: r) = quoB p
  | [], r => by simp [quoB]
  | c :: p, r => by
    show quoB (c :: (p ++ 10 :: r)) = _
    rw [quoB, quoB, nm_mid p r]
/-- A whole line. -/
def Term (x : List UInt8) : Prop := ∃ p, x = p ++ [10] ∧ (10 : UInt8) ∉ p
theorem Term.ne {x : List UInt8} (h : Term x) : x ≠ [] := by obtain ⟨p, rfl, _⟩ := h; simp
theorem Term.quote {x : List UInt8} (h : Term x) : Term (quoteL x) := by
  obtain ⟨p, rfl, hp⟩ := h
  unfold quoteL
  split
  · exact ⟨62 :: p, rfl, by simp [hp]⟩
  · exact ⟨p, rfl, hp⟩
theorem Term.unquote {x : List UInt8} (h : Term x) : Term (unquoteL x) := by
  obtain ⟨p, rfl, hp⟩ := h
  unfold unquoteL
  split
  · next hq =>
    cases p with
    | nil => simp [quoB] at hq
    | cons c p =>
      simp only [List.mem_cons, not_or] at hp
      exact ⟨p, rfl, hp.2⟩
  · exact ⟨p, rfl, hp⟩
theorem splitS_terms : ∀ (xs : List (List UInt8)), (∀ x ∈ xs, Term x) → splitS xs.flatten = xs
  | [], _ => rfl
  | x :: xs, h => by
    obtain ⟨p, rfl, hp⟩ := h x (by simp)
    have ih := splitS_terms xs (fun y hy => h y (by simp [hy]))
    show splitS ((p ++ [10]) ++ xs.flatten) = _
    rw [List.append_assoc]
    show splitS (p ++ 10 :: xs.flatten) = _
    rw [splitS_mid p _ hp, ih]
theorem cut10_len {l p r : List UInt8} (h : l = p ++ 10 :: r) : r.length < l.length := by rw [h]; simp; omega
theorem term_split (n : Nat) : ∀ (s : List UInt8), s.length ≤ n → ∀ x ∈ splitS (s ++ [10]), Term x := by
  induction n with
  | zero =>
    intro s hs x hx
    obtain rfl : s = [] := List.length_eq_zero_iff.1 (by omega)
    simp [splitS] at hx
    exact ⟨[], hx, by simp⟩
  | succ n ih =>
    intro s hs x hx
    cases hc : cut10 s with
    | none =>
      rw [splitS_mid s [] (cut10_none hc)] at hx
      simp [splitS] at hx
      exact ⟨s, hx, cut10_none hc⟩
    | some pr =>
      obtain ⟨p, r⟩ := pr
      obtain ⟨h, hp⟩ := cut10_some hc
      have hl := cut10_len h
      rw [h, List.append_assoc] at hx
      rw [List.cons_append, splitS_mid p _ hp] at hx
      rcases List.mem_cons.1 hx with rfl | hx
      · exact ⟨p, rfl, hp⟩
      · exact ih r (by omega) x hx
/-- A message as it stands in a file. -/
def encL (s : List UInt8) : List UInt8 := ((splitS (s ++ [10])).map quoteL).flatten
theorem nm_end (p : List UInt8) : nm (p ++ [10]) = nm p := nm_mid p []
theorem quote_end (p : List UInt8) : quoteL (p ++ [10]) = quoteL p ++ [10] := by
  unfold quoteL
  rw [nm_end]
  split <;> rfl
theorem enc_alt (n : Nat) : ∀ (s : List UInt8), s.length ≤ n → ((splitS s).map quoteL).flatten ++ [10] = encL s := by
  induction n with
  | zero =>
    intro s hs
    obtain rfl : s = [] := List.length_eq_zero_iff.1 (by omega)
    rfl
  | succ n ih =>
    intro s hs
    cases hc : cut10 s with
    | none =>
      have h10 := cut10_none hc
      unfold encL
      rw [splitS_mid s [] h10]
      by_cases h0 : s = []
      · subst h0; rfl
      · rw [splitS_end s h10 h0]
        simp [splitS, quote_end]
    | some pr =>
      obtain ⟨p, r⟩ := pr
      obtain ⟨h, hp⟩ := cut10_some hc
      have hl := cut10_len h
      have := ih r (by omega)
      unfold encL at *
      rw [h, List.append_assoc, List.cons_append, splitS_mid p _ hp, splitS_mid p _ hp]
      simp only [List.map_cons, List.flatten_cons, List.append_assoc]
      rw [this]
theorem flat_end : ∀ (xs : List (List UInt8)), xs ≠ [] → (∀ x ∈ xs, Term x) → ∃ m, xs.flatten = m ++ [10]
  | [], h, _ => absurd rfl h
  | [x], _, h => by
    obtain ⟨p, rfl, _⟩ := h x (by simp)
    exact ⟨p, by simp⟩
  | x :: y :: xs, _, h => by
    obtain ⟨m, hm⟩ := flat_end (y :: xs) (by simp) (fun z hz => h z (by simp [hz]))
    exact ⟨x ++ m, by rw [List.flatten_cons, hm, List.append_assoc]⟩
theorem split_ne (s : List UInt8) : splitS (s ++ [10]) ≠ [] := by
  intro h
  have := splitS_flat (s ++ [10])
  rw [h] at this
  simp at this
/-- The lines of what stands in a file, unquoted. -/
def unqL (t : List UInt8) : List UInt8 := ((splitS t).map unquoteL).flatten
/-- Does a line of it look like a separator? -/
def anySep (t : List UInt8) : Bool := (splitS t).any sepB
theorem enc_lines (s : List UInt8) : splitS (encL s) = (splitS (s ++ [10])).map quoteL := by
  refine splitS_terms _ (fun x hx => ?_)
  obtain ⟨y, hy, rfl⟩ := List.mem_map.1 hx
  exact (term_split s.length s (Nat.le_refl _) y hy).quote
theorem enc_noSep (s : List UInt8) : anySep (encL s) = false := by
  unfold anySep
  rw [enc_lines]
  simp [sep_quote]
theorem enc_back (s : List UInt8) : unqL (encL s) = s ++ [10] := by
  unfold unqL
  rw [enc_lines, List.map_map]
  have : (unquoteL ∘ quoteL) = id := by funext l; exact unquote_quote l
  rw [this, List.map_id, splitS_flat]
theorem enc_end (s : List UInt8) : ∃ m, encL s = m ++ [10] := by
  refine flat_end _ (by simpa using split_ne s) (fun x hx => ?_)
  obtain ⟨y, hy, rfl⟩ := List.mem_map.1 hx
  exact (term_split s.length s (Nat.le_refl _) y hy).quote
theorem unq_end (t : List UInt8) : ∃ m, unqL (t ++ [10]) = m ++ [10] := by
  refine flat_end _ (by simpa using split_ne t) (fun x hx => ?_)
  obtain ⟨y, hy, rfl⟩ := List.mem_map.1 hx
  exact (term_split t.length t (Nat.le_refl _) y hy).unquote
theorem unq_back (t m : List UInt8) (h : anySep (t ++ [10]) = false) (hm : unqL (t ++ [10]) = m ++ [10]) : encL m = t ++ [10] := by
  unfold encL
  rw [← hm]
  unfold unqL
  rw [splitS_terms, List.map_map]
  · have : (splitS (t ++ [10])).map (quoteL ∘ unquoteL) = splitS (t ++ [10]) := by
      refine (List.map_congr_left (fun x hx => ?_)).trans (List.map_id _)
      refine quote_unquote ?_
      unfold anySep at h
      rw [List.any_eq_false] at h
      simpa using h x hx
    rw [this, splitS_flat]
  · intro x hx
    obtain ⟨y, hy, rfl⟩ := List.mem_map.1 hx
    exact (term_split t.length t (Nat.le_refl _) y hy).unquote
theorem unq_len : ∀ (xs : List (List UInt8)), (xs.map unquoteL).flatten.length ≤ xs.flatten.length
  | [] => Nat.le_refl _
  | x :: xs => by
    have := unq_len xs
    have h2 : (unquoteL x).length ≤ x.length := by unfold unquoteL; split <;> simp
    simp only [List.map_cons, List.flatten_cons, List.length_append]
    omega
theorem quote_len (x : List UInt8) : (quoteL x).length = x.length + if nm x then 1 else 0 := by
  unfold quoteL
  split <;> simp
theorem quo_len : ∀ (xs : List (List UInt8)), (xs.map quoteL).flatten.length = xs.flatten.length + (xs.filter nm).length
  | [] => rfl
  | x :: xs => by
    have := quo_len xs
    have h2 := quote_len x
    simp only [List.map_cons, List.flatten_cons, List.length_append]
    rw [this, h2, List.filter_cons]
    split <;> simp <;> omega
theorem enc_len (s : List UInt8) : (encL s).length = s.length + 1 + ((splitS s).filter nm).length := by
  rw [← enc_alt s.length s (Nat.le_refl _), List.length_append, quo_len, splitS_flat]
  simp
  omega

/-! The document's way: byte by byte -/
/-- How many marks stand ahead of the name; -1: that isn't there. -/
def marksN : List UInt8 → Int
  | [] => -1
  | c :: r => if c = 62 then (if nm r then marksN r + 1 else -1) else if sepB (c :: r) then 0 else -1
theorem marks_no : ∀ {l : List UInt8}, nm l = false → marksN l = -1
  | [], _ => rfl
  | c :: r, h => by
    unfold marksN
    by_cases e : c = 62
    · subst e
      rw [nm_cons62] at h
      rw [if_pos rfl, if_neg (by simp [h])]
    · rw [nm, if_neg e] at h
      rw [if_neg e, if_neg (by simp [h])]
theorem marks_yes : ∀ {l : List UInt8}, nm l = true → 0 ≤ marksN l
  | [], h => by cases h
  | c :: r, h => by
    unfold marksN
    by_cases e : c = 62
    · subst e
      rw [nm_cons62] at h
      rw [if_pos rfl, if_pos h]
      have := marks_yes h
      omega
    · rw [nm, if_neg e] at h
      rw [if_neg e, if_pos h]
      omega
theorem marks_zero {l : List UInt8} : marksN l = 0 ↔ sepB l = true := by
  cases l with
  | nil => simp [marksN, sep_nil]
  | cons c r =>
    unfold marksN
    by_cases e : c = 62
    · subst e
      rw [if_pos rfl, sep_62]
      by_cases h : nm r = true
      · rw [if_pos h]
        have := marks_yes h
        constructor
        · intro; omega
        · intro h; cases h
      · rw [if_neg h]; simp
    · rw [if_neg e]
      by_cases h : sepB (c :: r) = true
      · simp [h]
      · simp [h]
theorem marks_pos {l : List UInt8} : 0 < marksN l ↔ quoB l = true := by
  cases hn : nm l with
  | false =>
    rw [marks_no hn]
    constructor
    · intro h; omega
    · intro h; rw [nm_quo h] at hn; cases hn
  | true =>
    have h0 := marks_yes hn
    have hz := @marks_zero l
    rw [quo_not_sep hn]
    cases hs : sepB l with
    | true => rw [hz.2 hs]; simp
    | false =>
      have : marksN l ≠ 0 := fun h => by rw [hz.1 h] at hs; cases hs
      simp; omega
theorem marks_nonneg {l : List UInt8} : 0 ≤ marksN l ↔ nm l = true := by
  cases hn : nm l with
  | false => rw [marks_no hn]; simp
  | true => simpa using marks_yes hn
def encR : Bool → List UInt8 → List UInt8
  | _, [] => []
  | b, c :: r => (if b && nm (c :: r) then [62] else []) ++ c :: encR (c == 10) r
theorem encR_false : ∀ (p r : List UInt8), (10 : UInt8) ∉ p → encR false (p ++ 10 :: r) = p ++ 10 :: encR true r
  | [], r, _ => by simp [encR]
  | c :: p, r, h => by
    simp only [List.mem_cons, not_or] at h
    have : (c == 10) = false := by simpa using fun e => h.1 e.symm
    show encR false (c :: (p ++ 10 :: r)) = _
    rw [encR, this, encR_false p r h.2]
    rfl
theorem encR_none : ∀ (p : List UInt8), (10 : UInt8) ∉ p → encR false p = p
  | [], _ => by simp [encR]
  | c :: p, h => by
    simp only [List.mem_cons, not_or] at h
    have : (c == 10) = false := by simpa using fun e => h.1 e.symm
    rw [encR, this, encR_none p h.2]
    rfl
theorem encR_line (p r : List UInt8) (h : (10 : UInt8) ∉ p) : encR true (p ++ 10 :: r) = quoteL (p ++ [10]) ++ encR true r := by
  cases p with
  | nil => simp [encR, quoteL, nm, sepB, fromS, List.isPrefixOf]
  | cons c p =>
    have hn := nm_mid (c :: p) r
    have hn2 := nm_end (c :: p)
    simp only [List.mem_cons, not_or] at h
    have : (c == 10) = false := by simpa using fun e => h.1 e.symm
    show encR true (c :: (p ++ 10 :: r)) = _
    rw [encR, this, encR_false p r h.2]
    rw [List.cons_append] at hn hn2
    rw [hn, quoteL, List.cons_append, hn2]
    split <;> simp_all
theorem encR_last (p : List UInt8) (h : (10 : UInt8) ∉ p) : encR true p ++ [10] = quoteL (p ++ [10]) := by
  cases p with
  | nil => simp [encR, quoteL, nm, sepB, fromS, List.isPrefixOf]
  | cons c p =>
    have hn2 := nm_end (c :: p)
    simp only [List.mem_cons, not_or] at h
    have : (c == 10) = false := by simpa using fun e => h.1 e.symm
    rw [encR, this, encR_none p h.2]
    rw [List.cons_append] at hn2
    rw [quoteL, List.cons_append, hn2]
    split <;> simp_all
theorem encR_eq (n : Nat) : ∀ (s : List UInt8), s.length ≤ n → encR true s ++ [10] = encL s := by
  induction n with
  | zero =>
    intro s hs
    obtain rfl : s = [] := List.length_eq_zero_iff.1 (by omega)
    rfl
  | succ n ih =>
    intro s hs
    cases hc : cut10 s with
    | none =>
      have h10 := cut10_none hc
      unfold encL
      rw [splitS_mid s [] h10, encR_last s h10]
      simp [splitS]
    | some pr =>
      obtain ⟨p, r⟩ := pr
      obtain ⟨h, hp⟩ := cut10_some hc
      have hl := cut10_len h
      have := ih r (by omega)
      unfold encL at *
      rw [h, encR_line p r hp, List.append_assoc, this, List.append_assoc, List.cons_append, splitS_mid p _ hp]
      rfl
/-- The document's reading of a text that a byte 10 ends: without that byte. -/
def decR : Bool → List UInt8 → Option (List UInt8)
  | _, [] => some []
  | b, c :: r => if b && sepB (c :: r) then none else if b && quoB (c :: r) then decR (c == 10) r else (decR (c == 10) r).map (c :: ·)
theorem decR_false : ∀ (p r : List UInt8), (10 : UInt8) ∉ p → decR false (p ++ 10 :: r) = (decR true r).map ((p ++ [10]) ++ ·)
  | [], r, _ => by simp [decR]
  | c :: p, r, h => by
    simp only [List.mem_cons, not_or] at h
    have : (c == 10) = false := by simpa using fun e => h.1 e.symm
    show decR false (c :: (p ++ 10 :: r)) = _
    rw [decR, this, decR_false p r h.2]
    simp [Function.comp_def]
theorem decR_none : ∀ (p : List UInt8), (10 : UInt8) ∉ p → decR false p = some p
  | [], _ => by simp [decR]
  | c :: p, h => by
    simp only [List.mem_cons, not_or] at h
    have : (c == 10) = false := by simpa using fun e => h.1 e.symm
    rw [decR, this, decR_none p h.2]
    rfl
theorem decR_line (p r : List UInt8) (h : (10 : UInt8) ∉ p) : decR true (p ++ 10 :: r) = if sepB (p ++ [10]) then none else (decR true r).map (unquoteL (p ++ [10]) ++ ·) := by
  cases p with
  | nil => simp [decR, unquoteL, quoB, sepB, fromS, List.isPrefixOf]
  | cons c p =>
    have hs := sep_mid (c :: p) r
    have hs2 := sep_mid (c :: p) []
    have hq := quo_mid (c :: p) r
    have hq2 := quo_mid (c :: p) []
    simp only [List.mem_cons, not_or] at h
    have : (c == 10) = false := by simpa using fun e => h.1 e.symm
    show decR true (c :: (p ++ 10 :: r)) = _
    rw [decR, this, decR_false p r h.2]
    rw [List.cons_append] at hs hs2 hq hq2
    rw [hs, hq, unquoteL, List.cons_append, hs2, hq2]
    simp only [Bool.true_and]
    split
    · rfl
    · split
      · simp
      · simp [Function.comp_def]
theorem decR_last (p : List UInt8) (h : (10 : UInt8) ∉ p) : decR true p = if sepB (p ++ [10]) then none else some ((unquoteL (p ++ [10])).dropLast) := by
  cases p with
  | nil => simp [decR, unquoteL, quoB, sepB, fromS, List.isPrefixOf]
  | cons c p =>
    have hs2 := sep_mid (c :: p) []
    have hq2 := quo_mid (c :: p) []
    simp only [List.mem_cons, not_or] at h
    have : (c == 10) = false := by simpa using fun e => h.1 e.symm
    rw [decR, this, decR_none p h.2]
    rw [List.cons_append] at hs2 hq2
    rw [unquoteL, List.cons_append, hs2, hq2]
    simp only [Bool.true_and]
    split
    · rfl
    · split
      · simp
      · show some (c :: p) = some ((c :: p ++ [10]).dropLast)
        rw [List.dropLast_concat]
theorem decR_eq (n : Nat) : ∀ (s : List UInt8), s.length ≤ n → decR true s = if anySep (s ++ [10]) then none else some ((unqL (s ++ [10])).dropLast) := by
  induction n with
  | zero =>
    intro s hs
    obtain rfl : s = [] := List.length_eq_zero_iff.1 (by omega)
    rfl
  | succ n ih =>
    intro s hs
    cases hc : cut10 s with
    | none =>
      have h10 := cut10_none hc
      unfold anySep unqL
      rw [splitS_mid s [] h10, decR_last s h10]
      simp [splitS]
    | some pr =>
      obtain ⟨p, r⟩ := pr
      obtain ⟨h, hp⟩ := cut10_some hc
      have hl := cut10_len h
      have hi := ih r (by omega)
      obtain ⟨m, hm⟩ := unq_end r
      unfold anySep unqL at *
      rw [h, decR_line p r hp, hi, List.append_assoc, List.cons_append, splitS_mid p _ hp]
      simp only [List.any_cons, List.map_cons, List.flatten_cons]
      cases sepB (p ++ [10]) with
      | true => rfl
      | false =>
        rw [hm]
        cases (splitS (r ++ [10])).any sepB with
        | true => rfl
        | false =>
          simp only [Bool.or_false, Bool.false_eq_true, if_false, Option.map_some, List.dropLast_concat]
          rw [← List.append_assoc, List.dropLast_concat]
/-! Where lines begin in a file, none looks like a separator -/
theorem sep_term {x : List UInt8} (h : Term x) (r : List UInt8) : sepB (x ++ r) = sepB x := by
  obtain ⟨p, rfl, _⟩ := h
  rw [List.append_assoc, List.singleton_append, sep_mid, sep_mid]
theorem drop_past {x r : List UInt8} {i : Nat} (h : ¬ i < x.length) : (x ++ r).drop i = r.drop (i - x.length) := by
  rw [List.drop_append, List.drop_of_length_le (by omega), List.nil_append]
theorem begins_noSep : ∀ (xs : List (List UInt8)), (∀ x ∈ xs, Term x ∧ sepB x = false) → ∀ i, (i = 0 ∨ xs.flatten[i - 1]? = some 10) → sepB (xs.flatten.drop i) = false
  | [], _, i, _ => by simp [sep_nil]
  | x :: xs, h, i, hi => by
    obtain ⟨ht, hs⟩ := h x (by simp)
    have ih := begins_noSep xs (fun y hy => h y (by simp [hy]))
    rw [List.flatten_cons] at hi ⊢
    by_cases hlt : i < x.length
    · have h0 : i = 0 := by
        rcases hi with h0 | h1
        · exact h0
        · by_cases hz : i = 0
          · exact hz
          · exfalso
            obtain ⟨p, rfl, hp⟩ := ht
            simp only [List.length_append, List.length_singleton] at hlt
            rw [List.append_assoc, List.getElem?_append_left (by omega)] at h1
            exact hp (List.mem_of_getElem? h1)
      subst h0
      rw [List.drop_zero, sep_term ht, hs]
    · rw [drop_past hlt]
      refine ih (i - x.length) ?_
      by_cases he : i = x.length
      · left; omega
      · right
        rcases hi with h0 | h1
        · have := ht.ne
          have : 0 < x.length := List.length_pos_iff.2 this
          omega
        · rw [List.getElem?_append_right (by omega)] at h1
          rw [show i - x.length - 1 = i - 1 - x.length from by omega]
          exact h1
theorem enc_begins (s : List UInt8) (i : Nat) (h : i = 0 ∨ (encL s)[i - 1]? = some 10) : sepB ((encL s).drop i) = false := by
  refine begins_noSep _ (fun x hx => ?_) i h
  obtain ⟨y, hy, rfl⟩ := List.mem_map.1 hx
  exact ⟨(term_split s.length s (Nat.le_refl _) y hy).quote, sep_quote y⟩
end Go.Proofs.YtdbmaobjikjifaaGreatDoorR

end
section
namespace Go.Proofs.YtdbmaobjikjifaaGreatDoorR
def lowB (c : UInt8) : UInt8 := if 65 ≤ c.toNat ∧ c.toNat ≤ 90 then c + 32 else c
end Go.Proofs.YtdbmaobjikjifaaGreatDoorR

end
section
namespace Go.Proofs.YtdbmaobjikjifaaGreatDoorR
/-- Two bytes stand for one another: the same, or, of the name INBOX, but for capital letters. -/
def sameI (inb : Bool) (c d : UInt8) : Bool := c == d || (inb && lowB c == lowB d)
def starB (c : UInt8) : Bool := c == 42 || c == 37
/-- Does a pattern fit a name? -/
def fit (inb : Bool) : List UInt8 → List UInt8 → Bool
  | [], [] => true
  | [], _ :: _ => false
  | c :: p, [] => starB c && fit inb p []
  | c :: p, d :: n => if starB c then fit inb p (d :: n) || ((c == 42 || d != 47) && fit inb (c :: p) n) else sameI inb c d && fit inb p n
termination_by p n => p.length + n.length
theorem sameI_refl (inb : Bool) (c : UInt8) : sameI inb c c = true := by simp [sameI]
theorem fit_nil (inb : Bool) (n : List UInt8) : fit inb [] n = n.isEmpty := by
  cases n <;> rw [fit] <;> rfl
theorem fit_end (inb : Bool) (c : UInt8) (p : List UInt8) : fit inb (c :: p) [] = (starB c && fit inb p []) := by rw [fit]
theorem fit_star {inb : Bool} {c : UInt8} (h : starB c = true) (p : List UInt8) (d : UInt8) (n : List UInt8) : fit inb (c :: p) (d :: n) = (fit inb p (d :: n) || ((c == 42 || d != 47) && fit inb (c :: p) n)) := by
  rw [fit, if_pos h]
theorem fit_char {inb : Bool} {c : UInt8} (h : starB c = false) (p : List UInt8) (d : UInt8) (n : List UInt8) : fit inb (c :: p) (d :: n) = (sameI inb c d && fit inb p n) := by
  rw [fit, if_neg (by simp [h])]
/-- A star fits all. -/
theorem fit_all (inb : Bool) : ∀ n : List UInt8, fit inb [42] n = true
  | [] => by rw [fit_end, fit_nil]; rfl
  | d :: n => by rw [fit_star rfl, fit_all inb n]; simp
/-- A percent sign fits all without a slash. -/
theorem fit_pct (inb : Bool) : ∀ n : List UInt8, fit inb [37] n = !n.contains 47
  | [] => by rw [fit_end, fit_nil]; rfl
  | d :: n => by
    rw [fit_star rfl, fit_pct inb n, fit_nil]
    by_cases h : d = 47
    · subst h; simp
    · simp [h, Ne.symm h]
/-- A name fits itself. -/
theorem fit_self (inb : Bool) : ∀ a : List UInt8, (∀ c ∈ a, starB c = false) → fit inb a a = true
  | [], _ => by rw [fit_nil]; rfl
  | c :: a, h => by
    rw [fit_char (h c (by simp)), sameI_refl, fit_self inb a (fun x hx => h x (by simp [hx]))]
    rfl
theorem fit_pre (inb : Bool) (p n : List UInt8) : ∀ a : List UInt8, (∀ c ∈ a, starB c = false) → fit inb (a ++ p) (a ++ n) = fit inb p n
  | [], _ => rfl
  | c :: a, h => by
    rw [List.cons_append, List.cons_append, fit_char (h c (by simp)), sameI_refl, fit_pre inb p n a (fun x hx => h x (by simp [hx]))]
    rfl
/-- What a star stands for. -/
theorem fit_skip {inb : Bool} {s : UInt8} (hs : starB s = true) (c : List UInt8) (hc : fit inb c c = true) : ∀ b : List UInt8, (s = 42 ∨ (47 : UInt8) ∉ b) → fit inb (s :: c) (b ++ c) = true
  | [], _ => by
    cases c with
    | nil => rw [List.append_nil, fit_end, hs, hc]; rfl
    | cons d c => rw [List.nil_append, fit_star hs, hc]; rfl
  | d :: b, h => by
    have ih := fit_skip hs c hc b (h.imp id (fun h hb => h (by simp [hb])))
    rw [List.cons_append, fit_star hs, ih]
    rcases h with h | h
    · simp [h]
    · have : d ≠ 47 := fun e => h (by simp [e])
      simp [this]
theorem fit_put {inb : Bool} {s : UInt8} (hs : starB s = true) (a b c : List UInt8) (ha : ∀ x ∈ a, starB x = false) (hc : ∀ x ∈ c, starB x = false) (h : s = 42 ∨ (47 : UInt8) ∉ b) : fit inb (a ++ s :: c) (a ++ (b ++ c)) = true := by
  rw [fit_pre inb _ _ a ha]
  exact fit_skip hs c (fit_self inb c hc) b h
/-- The document's table, an entry of it: what is left of the pattern against what is left of the name. -/
theorem fit_drop {inb : Bool} {P N : List UInt8} {p n : Nat} (hp : p < P.length) (hn : n < N.length) : fit inb (P.drop p) (N.drop n) =
    if starB P[p] then fit inb (P.drop (p + 1)) (N.drop n) || ((P[p] == 42 || N[n] != 47) && fit inb (P.drop p) (N.drop (n + 1))) else sameI inb P[p] N[n] && fit inb (P.drop (p + 1)) (N.drop (n + 1)) := by
  rw [List.drop_eq_getElem_cons hp, List.drop_eq_getElem_cons hn, fit]
theorem fit_drop_end {inb : Bool} {P : List UInt8} {p : Nat} (hp : p < P.length) : fit inb (P.drop p) [] = (starB P[p] && fit inb (P.drop (p + 1)) []) := by
  rw [List.drop_eq_getElem_cons hp, fit_end]
/-- The part between slashes: a byte of a name. -/
def plnB (pat : Bool) (c : UInt8) : Bool := decide (33 ≤ c.toNat ∧ c.toNat ≤ 126) && !(c == 40 || c == 41 || c == 123 || c == 34 || c == 92) && (pat || !starB c)
def inboxL : List UInt8 := [105, 110, 98, 111, 120]
def inboxU : List UInt8 := [73, 78, 66, 79, 88]
/-- No slash at the beginning, none at the end, no two together. -/
def apartB : Bool → List UInt8 → Bool
  | last, [] => !last
  | last, c :: r => if c = 47 then !last && apartB true r else apartB false r
def boxB (s : List UInt8) : Bool := decide (1 ≤ s.length ∧ s.length ≤ 60) && s.all (plnB false) && apartB true s
def boxO (s : List UInt8) : Option (List UInt8) := if boxB s then some (if s.map lowB = inboxL then inboxU else s) else none
def patB (s : List UInt8) : Bool := s.all (plnB true) && decide (s.length ≤ 100)
/-- Whether a name is under another one; where it goes with it. -/
def undB (name base : List UInt8) : Bool := decide (base.length + 1 < name.length) && decide (name.take (base.length + 1) = base ++ [47])
def movO (name frm to : List UInt8) : Option (List UInt8) := if name = frm then some to else if undB name frm then some (to ++ name.drop frm.length) else none
/-- What stands ahead of each slash. -/
def abvL (name : List UInt8) : List (List UInt8) := ((List.range name.length).filter (fun i => name[i]? == some 47)).map (fun i => name.take i)
/-- Put into a rising row, once. -/
def insU (x : List UInt8) : List (List UInt8) → List (List UInt8)
  | [] => [x]
  | y :: r => if x = y then y :: r else if x < y then x :: y :: r else y :: insU x r
theorem insU_mem (x z : List UInt8) : ∀ l, z ∈ insU x l ↔ z = x ∨ z ∈ l
  | [] => by simp [insU]
  | y :: r => by
    unfold insU
    split
    · rename_i h; subst h; simp
    · split
      · simp
      · simp only [List.mem_cons, insU_mem x z r]
        constructor
        · rintro (h | h | h)
          · exact .inr (.inl h)
          · exact .inl h
          · exact .inr (.inr h)
        · rintro (h | h | h)
          · exact .inr (.inl h)
          · exact .inl h
          · exact .inr (.inr h)
theorem insU_ord (x : List UInt8) : ∀ l : List (List UInt8), l.Pairwise (· < ·) → (insU x l).Pairwise (· < ·)
  | [], _ => by simp [insU]
  | y :: r, h => by
    obtain ⟨h1, h2⟩ := List.pairwise_cons.1 h
    unfold insU
    split
    · exact h
    · rename_i hne
      split
      · rename_i hlt
        refine List.pairwise_cons.2 ⟨fun z hz => ?_, h⟩
        rcases List.mem_cons.1 hz with rfl | hz
        · exact hlt
        · exact List.lt_trans hlt (h1 z hz)
      · rename_i hnl
        refine List.pairwise_cons.2 ⟨fun z hz => ?_, insU_ord x r h2⟩
        rcases (insU_mem x z r).1 hz with rfl | hz
        · exact Decidable.byContradiction fun hc => hne (List.le_antisymm (List.not_lt.1 hc) (List.not_lt.1 hnl))
        · exact h1 z hz
/-- The names that a pattern fits, each once, rising. -/
def matL (f : List UInt8 → Bool) (names : List (List UInt8)) : List (List UInt8) := names.foldl (fun out n => if f n then insU n out else out) []
theorem matL_fold (f : List UInt8 → Bool) : ∀ (names out : List (List UInt8)), out.Pairwise (· < ·) → (names.foldl (fun out n => if f n then insU n out else out) out).Pairwise (· < ·) ∧ ∀ z, z ∈ names.foldl (fun out n => if f n then insU n out else out) out ↔ z ∈ out ∨ (z ∈ names ∧ f z = true)
  | [], out, h => ⟨h, fun z => by simp⟩
  | n :: names, out, h => by
    rw [List.foldl_cons]
    have h' : (if f n then insU n out else out).Pairwise (· < ·) := by
      split
      · exact insU_ord n out h
      · exact h
    obtain ⟨k1, k2⟩ := matL_fold f names _ h'
    refine ⟨k1, fun z => ?_⟩
    rw [k2 z]
    by_cases hf : f n = true
    · rw [if_pos hf, insU_mem]
      constructor
      · rintro ((rfl | h) | h)
        · exact .inr ⟨by simp, hf⟩
        · exact .inl h
        · exact .inr ⟨by simp [h.1], h.2⟩
      · rintro (h | ⟨h, hz⟩)
        · exact .inl (.inr h)
        · rcases List.mem_cons.1 h with rfl | h
          · exact .inl (.inl rfl)
          · exact .inr ⟨h, hz⟩
    · rw [if_neg hf]
      constructor
      · rintro (h | h)
        · exact .inl h
        · exact .inr ⟨by simp [h.1], h.2⟩
      · rintro (h | ⟨h, hz⟩)
        · exact .inl h
        · rcases List.mem_cons.1 h with rfl | h
          · exact absurd hz hf
          · exact .inr ⟨h, hz⟩
theorem matL_ord (f : List UInt8 → Bool) (names : List (List UInt8)) : (matL f names).Pairwise (· < ·) := (matL_fold f names [] List.Pairwise.nil).1
theorem matL_mem (f : List UInt8 → Bool) (names : List (List UInt8)) (z : List UInt8) : z ∈ matL f names ↔ z ∈ names ∧ f z = true := by
  have h := (matL_fold f names [] List.Pairwise.nil).2 z
  simp only [List.not_mem_nil, false_or] at h
  exact h
theorem abv_mem {name a : List UInt8} (h : a ∈ abvL name) : ∃ i, name[i]? = some 47 ∧ a = name.take i := by
  unfold abvL at h
  obtain ⟨i, hi, rfl⟩ := List.mem_map.1 h
  have := (List.mem_filter.1 hi).2
  exact ⟨i, by simpa using this, rfl⟩
/-- A name does not end with a slash. -/
theorem apart_last : ∀ (s : List UInt8) (b : Bool) (i : Nat), apartB b s = true → s[i]? = some 47 → i + 1 < s.length
  | [], _, i, _, h => by simp at h
  | c :: r, b, i, ha, h => by
    unfold apartB at ha
    cases i with
    | zero =>
      have hc : c = 47 := by simpa using h
      rw [if_pos hc] at ha
      cases r with
      | nil => simp [apartB] at ha
      | cons d r => simp
    | succ i =>
      have h' : r[i]? = some 47 := by simpa using h
      rw [List.length_cons]
      by_cases hc : c = 47
      · rw [if_pos hc, Bool.and_eq_true] at ha
        have := apart_last r true i ha.2 h'
        omega
      · rw [if_neg hc] at ha
        have := apart_last r false i ha h'
        omega
theorem box_last {s : List UInt8} (h : boxB s = true) {i : Nat} (hi : s[i]? = some 47) : i + 1 < s.length := by
  unfold boxB at h
  simp only [Bool.and_eq_true] at h
  exact apart_last s true i h.2 hi
theorem und_at {name : List UInt8} {i : Nat} (hi : i + 1 < name.length) (hc : name[i]? = some 47) : undB name (name.take i) = true := by
  have hl : (name.take i).length = i := by rw [List.length_take]; omega
  have hg : name[i]'(by omega) = 47 := by
    rw [List.getElem?_eq_getElem (by omega)] at hc
    exact Option.some.inj hc
  unfold undB
  rw [hl, decide_eq_true hi, Bool.true_and]
  refine decide_eq_true ?_
  rw [List.take_succ_eq_append_getElem (by omega), hg]
theorem und_self (name : List UInt8) : undB name name = false := by
  unfold undB
  rw [decide_eq_false (by omega), Bool.false_and]
theorem mov_at {name to : List UInt8} {i : Nat} (hi : i + 1 < name.length) (hc : name[i]? = some 47) : movO name (name.take i) to = some (to ++ name.drop i) := by
  have hl : (name.take i).length = i := by rw [List.length_take]; omega
  unfold movO
  rw [if_neg (fun e => by have := congrArg List.length e; omega), if_pos (und_at hi hc), hl]
theorem mov_back {name to : List UInt8} {i : Nat} (hi : i + 1 < name.length) (hc : name[i]? = some 47) : movO (to ++ name.drop i) to (name.take i) = some name := by
  have h1 : (to ++ name.drop i)[to.length]? = some 47 := by
    rw [List.getElem?_append_right (Nat.le_refl _), Nat.sub_self, List.getElem?_drop, Nat.add_zero, hc]
  have h2 := mov_at (name := to ++ name.drop i) (to := name.take i) (i := to.length) (by rw [List.length_append, List.length_drop]; omega) h1
  rw [List.take_left' rfl, List.drop_left' rfl, List.take_append_drop] at h2
  exact h2
end Go.Proofs.YtdbmaobjikjifaaGreatDoorR

end
