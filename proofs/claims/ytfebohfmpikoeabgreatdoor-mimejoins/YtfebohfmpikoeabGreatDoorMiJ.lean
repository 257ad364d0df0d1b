/- Bodies put between delimiters: the parts of such a message, in plain lists. -/
import Derived.Test.YtfebohfmpikoeabGreatDoorMi11
set_option linter.unusedSimpArgs false
set_option linter.unusedVariables false
namespace Go.Proofs.YtfebohfmpikoeabGreatDoor
open Go.RowKit
def zq : List UInt8 := [122, 113, 122, 113, 122, 113]
def hl1 : List UInt8 := [67, 111, 110, 116, 101, 110, 116, 45, 84, 121, 112, 101, 58, 32, 109, 117, 108, 116, 105, 112, 97, 114, 116, 47, 109, 105, 120, 101, 100, 59, 32, 98, 111, 117, 110, 100, 97, 114, 121, 61, 122, 113, 122, 113, 122, 113, 13, 10]
def crlf : List UInt8 := [13, 10]
def dlJ : List UInt8 := [45, 45, 122, 113, 122, 113, 122, 113, 13, 10]
def clJ : List UInt8 := [45, 45, 122, 113, 122, 113, 122, 113, 45, 45, 13, 10]
/-- What stands behind a delimiter, up to the next one. -/
def inJ (b : List UInt8) : List UInt8 := crlf ++ (b ++ crlf)
def bodyJ : List (List UInt8) → List UInt8
  | [] => []
  | b :: r => dlJ ++ (inJ b ++ bodyJ r)
def tailJ (c : Bool) : List UInt8 := if c then clJ else []
/-- No boundary stands in it. -/
def FreeJ (b : List UInt8) : Prop := ∀ p s, b = p ++ (zq ++ s) → False
theorem split_cat : ∀ (q r : List UInt8), splitS (q ++ 10 :: r) = splitS (q ++ [10]) ++ splitS r
  | [], r => by simp [splitS]
  | c :: q, r => by
    have ih := split_cat q r
    by_cases hc : c = 10
    · subst hc
      simp [splitS, ih]
    · rw [List.cons_append, List.cons_append, splitS, splitS, if_neg hc, if_neg hc, ih]
      cases h : splitS (q ++ [10]) with
      | nil =>
        have := congrArg List.flatten h
        rw [splitS_flat] at this
        simp at this
      | cons y ys => rfl
theorem split_in (b r : List UInt8) : splitS (inJ b ++ r) = splitS (inJ b) ++ splitS r := by
  have e1 : inJ b ++ r = (crlf ++ (b ++ [13])) ++ 10 :: r := by simp [inJ, crlf]
  have e2 : inJ b = (crlf ++ (b ++ [13])) ++ [10] := by simp [inJ, crlf]
  rw [e1, split_cat, ← e2]
theorem split_dl (r : List UInt8) : splitS (dlJ ++ r) = dlJ :: splitS r := by
  have e : dlJ ++ r = [45, 45, 122, 113, 122, 113, 122, 113, 13] ++ 10 :: r := by simp [dlJ]
  rw [e, splitS_mid _ _ (by decide)]
  rfl
theorem trimE_pre (x : List UInt8) : ∃ r, x = trimE x ++ r := by
  have h1 : ∃ r, x = txt x ++ r := by
    unfold txt
    split
    · rename_i h
      obtain ⟨q, rfl⟩ : ∃ q, x = q ++ [10] := by
        rcases List.eq_nil_or_concat x with rfl | ⟨q, c, rfl⟩
        · simp at h
        · rw [List.concat_eq_append] at h ⊢
          simp at h
          exact ⟨q, by rw [h]⟩
      rw [List.dropLast_concat]
      unfold cr
      split
      · rename_i h2
        obtain ⟨s, rfl⟩ : ∃ s, q = s ++ [13] := by
          rcases List.eq_nil_or_concat q with rfl | ⟨s, c, rfl⟩
          · simp at h2
          · rw [List.concat_eq_append] at h2 ⊢
            simp at h2
            exact ⟨s, by rw [h2]⟩
        rw [List.dropLast_concat]
        exact ⟨[13, 10], by simp⟩
      · exact ⟨[10], rfl⟩
    · exact ⟨[], by simp⟩
  obtain ⟨r, hr⟩ := h1
  have h2 : ∃ s, txt x = trimE x ++ s := by
    refine ⟨((txt x).reverse.takeWhile (fun c => ([32, 9] : List UInt8).contains c)).reverse, ?_⟩
    show txt x = ((txt x).reverse.dropWhile (fun c => ([32, 9] : List UInt8).contains c)).reverse ++ _
    rw [← List.reverse_append, List.takeWhile_append_dropWhile, List.reverse_reverse]
  obtain ⟨s, hs⟩ := h2
  exact ⟨s ++ r, by rw [← List.append_assoc, ← hs]; exact hr⟩
theorem free_in {b : List UInt8} (h : FreeJ b) : FreeJ (inJ b) := by
  intro p s e
  unfold inJ crlf at e
  cases p with
  | nil =>
    rw [List.nil_append] at e
    injection e with e1 _
    cases e1
  | cons p0 p =>
    injection e with e1 e
    cases p with
    | nil =>
      have e : 10 :: (b ++ [13, 10]) = zq ++ s := e
      injection e with e1 _
      cases e1
    | cons p1 p =>
      injection e with e2 e
      have e : b ++ [13, 10] = p ++ (zq ++ s) := e
      rcases List.eq_nil_or_concat s with rfl | ⟨s1, c, rfl⟩
      · have := congrArg List.getLast? e
        simp [zq] at this
      · rw [List.concat_eq_append] at e
        have e' : (b ++ [13]) ++ [10] = (p ++ (zq ++ s1)) ++ [c] := by simpa using e
        have e3 := (List.append_inj' e' rfl).1
        rcases List.eq_nil_or_concat s1 with rfl | ⟨s2, d, rfl⟩
        · have := congrArg List.getLast? e3
          simp [zq] at this
        · rw [List.concat_eq_append] at e3
          have e4 : b ++ [13] = (p ++ (zq ++ s2)) ++ [d] := by simpa using e3
          exact h p s2 (List.append_inj' e4 rfl).1
theorem line_no {b x : List UInt8} (h : FreeJ b) (hx : x ∈ splitS (inJ b)) : trimE x ≠ dlm zq ∧ trimE x ≠ clo zq := by
  obtain ⟨r, hr⟩ := trimE_pre x
  obtain ⟨l1, l2, hl⟩ := List.append_of_mem hx
  have hf := splitS_flat (inJ b)
  rw [hl] at hf
  simp only [List.flatten_append, List.flatten_cons] at hf
  refine ⟨fun e => ?_, fun e => ?_⟩
  · refine free_in h (l1.flatten ++ [45, 45]) (r ++ l2.flatten) ?_
    rw [← hf, hr, e]
    simp [dlm]
  · refine free_in h (l1.flatten ++ [45, 45]) ([45, 45] ++ (r ++ l2.flatten)) ?_
    rw [← hf, hr, e]
    simp [clo]
theorem kids_skip (m bd : List UInt8) (e : Nat) : ∀ (ls rest : List (List UInt8)) (a : Nat) (cur : Option Nat), (∀ x ∈ ls, trimE x ≠ dlm bd ∧ trimE x ≠ clo bd) → kidsP m bd e (ls ++ rest) a cur = kidsP m bd e rest (a + ls.flatten.length) cur
  | [], rest, a, cur, _ => by simp
  | x :: ls, rest, a, cur, h => by
    obtain ⟨h1, h2⟩ := h x (by simp)
    rw [List.cons_append, kidsP, if_neg h1, if_neg h2, kids_skip m bd e ls rest _ cur (fun y hy => h y (by simp [hy]))]
    congr 1
    simp
    omega
/-- Where the kids stand. -/
def plJ (c : Bool) : List (List UInt8) → Nat → List (Nat × Nat)
  | [], _ => []
  | b :: r, a => (a + 10, a + 12 + b.length + (if r = [] ∧ c = false then 2 else 0)) :: plJ c r (a + 14 + b.length)
theorem in_len (b : List UInt8) : (inJ b).length = b.length + 4 := by simp [inJ, crlf]
theorem dl_len : dlJ.length = 10 := rfl
theorem seg_mid (p q r : List UInt8) : seg (p ++ (q ++ r)) p.length (p.length + q.length) = q := by
  unfold seg
  rw [List.drop_left' rfl, show p.length + q.length - p.length = q.length by omega, List.take_left' rfl]
theorem txt_in (b : List UInt8) : (txt (inJ b)).length = b.length + 2 := by
  have e : inJ b = ((crlf ++ b) ++ [13]) ++ [10] := by simp [inJ, crlf]
  rw [e, txt_term]
  unfold cr
  rw [if_pos (by simp), List.dropLast_concat]
  simp [crlf]
theorem kidE_J (pre b post : List UInt8) : kidE (pre ++ (inJ b ++ post)) (pre.length + (b.length + 4)) pre.length = (pre.length, pre.length + (b.length + 2)) := by
  unfold kidE
  have h := seg_mid pre (inJ b) post
  rw [in_len] at h
  rw [h, txt_in]
theorem dl_trim : trimE dlJ = dlm zq := by decide
theorem cl_trim : trimE clJ = clo zq := by decide
theorem kids_J (c : Bool) : ∀ (bs : List (List UInt8)) (pre : List UInt8) (cur : Option Nat) (m : List UInt8), m = pre ++ (bodyJ bs ++ tailJ c) → (∀ b ∈ bs, FreeJ b) → bs ≠ [] →
    kidsP m zq m.length (splitS (bodyJ bs ++ tailJ c)) pre.length cur = (cur.map (kidE m pre.length)).toList ++ plJ c bs pre.length
  | [], _, _, _, _, _, h => absurd rfl h
  | b :: r, pre, cur, m, hm, hf, _ => by
    have hb := hf b (by simp)
    have e1 : bodyJ (b :: r) ++ tailJ c = dlJ ++ (inJ b ++ (bodyJ r ++ tailJ c)) := by simp [bodyJ]
    have hm1 : m = (pre ++ dlJ) ++ (inJ b ++ (bodyJ r ++ tailJ c)) := by rw [hm, e1]; simp
    have hm2 : m = ((pre ++ dlJ) ++ inJ b) ++ (bodyJ r ++ tailJ c) := by rw [hm1]; simp
    have hl1 : (pre ++ dlJ).length = pre.length + 10 := by rw [List.length_append, dl_len]
    have hl2 : ((pre ++ dlJ) ++ inJ b).length = pre.length + 14 + b.length := by rw [List.length_append, hl1, in_len]; omega
    have hk := kidE_J (pre ++ dlJ) b (bodyJ r ++ tailJ c)
    rw [← hm1, hl1] at hk
    rw [e1, split_dl, split_in, kidsP, if_pos dl_trim, dl_len, kids_skip _ _ _ _ _ _ _ (fun x hx => line_no hb hx), splitS_flat, in_len]
    congr 1
    have ha : pre.length + 10 + (b.length + 4) = pre.length + 14 + b.length := by omega
    rw [ha] at hk ⊢
    rw [plJ]
    cases r with
    | nil =>
      cases c with
      | true =>
        have e3 : bodyJ [] ++ tailJ true = [45, 45, 122, 113, 122, 113, 122, 113, 45, 45, 13] ++ 10 :: [] := rfl
        rw [e3, splitS_mid _ _ (by decide)]
        have e4 : ([45, 45, 122, 113, 122, 113, 122, 113, 45, 45, 13] ++ [10] : List UInt8) = clJ := rfl
        rw [e4, kidsP, if_neg (by rw [cl_trim]; exact clo_ne zq), if_pos cl_trim]
        show [kidE m (pre.length + 14 + b.length) (pre.length + 10)] = _
        rw [hk]
        simp [plJ]
        omega
      | false =>
        have hlm : m.length = pre.length + 14 + b.length := by
          rw [hm2]
          simp only [bodyJ, tailJ, List.nil_append, Bool.false_eq_true, if_false, List.append_nil]
          exact hl2
        show kidsP m zq m.length (splitS []) _ _ = _
        rw [hlm]
        simp [splitS, kidsP, plJ]
        omega
    | cons b2 r2 =>
      have ih := kids_J c (b2 :: r2) ((pre ++ dlJ) ++ inJ b) (some (pre.length + 10)) m hm2 (fun x hx => hf x (by simp [hx])) (by simp)
      rw [hl2] at ih
      rw [ih, Option.map_some, hk]
      simp
      omega
/-- The message. -/
def msgJ (c : Bool) (bs : List (List UInt8)) : List UInt8 := (hl1 ++ crlf) ++ (bodyJ bs ++ tailJ c)
theorem hl1_len : hl1.length = 48 := rfl
theorem split_msg (c : Bool) (bs : List (List UInt8)) : splitS (msgJ c bs) = hl1 :: crlf :: splitS (bodyJ bs ++ tailJ c) := by
  have e : msgJ c bs = [67, 111, 110, 116, 101, 110, 116, 45, 84, 121, 112, 101, 58, 32, 109, 117, 108, 116, 105, 112, 97, 114, 116, 47, 109, 105, 120, 101, 100, 59, 32, 98, 111, 117, 110, 100, 97, 114, 121, 61, 122, 113, 122, 113, 122, 113, 13] ++ 10 :: ([13] ++ 10 :: (bodyJ bs ++ tailJ c)) := by simp [msgJ, hl1, crlf]
  rw [e, splitS_mid _ _ (by decide), splitS_mid _ _ (by decide)]
  rfl
theorem crlf_txt : txt crlf = [] := by decide
theorem hl1_fd : fdOf hl1 [] 0 = some ⟨nCT, [109, 117, 108, 116, 105, 112, 97, 114, 116, 47, 109, 105, 120, 101, 100, 59, 32, 98, 111, 117, 110, 100, 97, 114, 121, 61, 122, 113, 122, 113, 122, 113], 0, 48⟩ := by kernel_rfl
theorem hd_msg (c : Bool) (bs : List (List UInt8)) : hd (splitS (msgJ c bs)) 0 = ([⟨nCT, [109, 117, 108, 116, 105, 112, 97, 114, 116, 47, 109, 105, 120, 101, 100, 59, 32, 98, 111, 117, 110, 100, 97, 114, 121, 61, 122, 113, 122, 113, 122, 113], 0, 48⟩], 50) := by
  rw [split_msg, hd_cons (by decide)]
  have h1 : (crlf :: splitS (bodyJ bs ++ tailJ c)).takeWhile blB = [] := List.takeWhile_cons_of_neg (by decide)
  have h2 : (crlf :: splitS (bodyJ bs ++ tailJ c)).dropWhile blB = crlf :: splitS (bodyJ bs ++ tailJ c) := List.dropWhile_cons_of_neg (by decide)
  rw [h1, h2, hl1_fd, hd_stop crlf_txt]
  rfl
theorem seg_all (m : List UInt8) : seg m 0 m.length = m := by
  unfold seg
  simp
theorem base_t (m : List UInt8) (a b : Nat) : (baseP m a b).type = (typV (firstV nCT (fdsOf (seg m a b)))).1 := rfl
theorem base_u (m : List UInt8) (a b : Nat) : (baseP m a b).sub = (typV (firstV nCT (fdsOf (seg m a b)))).2.1 := rfl
theorem base_p (m : List UInt8) (a b : Nat) : (baseP m a b).params = (typV (firstV nCT (fdsOf (seg m a b)))).2.2 := rfl
theorem base_msg (c : Bool) (bs : List (List UInt8)) : (baseP (msgJ c bs) 0 (msgJ c bs).length).type = tMulti ∧ (baseP (msgJ c bs) 0 (msgJ c bs).length).sub = [109, 105, 120, 101, 100] ∧ (baseP (msgJ c bs) 0 (msgJ c bs).length).params = [⟨tBound, zq⟩] ∧ bodyN (msgJ c bs) 0 (msgJ c bs).length = 50 := by
  have h := hd_msg c bs
  have hf : fdsOf (seg (msgJ c bs) 0 (msgJ c bs).length) = [⟨nCT, [109, 117, 108, 116, 105, 112, 97, 114, 116, 47, 109, 105, 120, 101, 100, 59, 32, 98, 111, 117, 110, 100, 97, 114, 121, 61, 122, 113, 122, 113, 122, 113], 0, 48⟩] := by
    rw [seg_all]
    unfold fdsOf
    rw [h, if_pos (by decide)]
  have hb : bodyN (msgJ c bs) 0 (msgJ c bs).length = 50 := by
    unfold bodyN
    rw [seg_all, ← hd_body, h]
    rfl
  have e1 := base_t (msgJ c bs) 0 (msgJ c bs).length
  have e2 := base_u (msgJ c bs) 0 (msgJ c bs).length
  have e3 := base_p (msgJ c bs) 0 (msgJ c bs).length
  rw [hf] at e1 e2 e3
  refine ⟨?_, ?_, ?_, hb⟩
  · rw [e1]
    kernel_rfl
  · rw [e2]
    kernel_rfl
  · rw [e3]
    kernel_rfl
theorem places_msg (c : Bool) (bs : List (List UInt8)) (hf : ∀ b ∈ bs, FreeJ b) (hne : bs ≠ []) : placesOf (msgJ c bs) 0 (msgJ c bs).length = (plJ c bs 50).take 100 := by
  obtain ⟨_, _, h3, h4⟩ := base_msg c bs
  have hb : bdV (baseP (msgJ c bs) 0 (msgJ c bs).length).params = (zq, true) := by
    rw [h3]
    kernel_rfl
  rw [places_bd hb, h4]
  have e : seg (msgJ c bs) 50 (msgJ c bs).length = bodyJ bs ++ tailJ c := by
    unfold seg msgJ
    rw [List.drop_left' (by rfl), List.take_of_length_le]
    have e0 : (hl1 ++ crlf ++ (bodyJ bs ++ tailJ c)).length = 50 + (bodyJ bs ++ tailJ c).length := by
      rw [List.length_append]
      rfl
    omega
  rw [e]
  have := kids_J c bs (hl1 ++ crlf) none (msgJ c bs) rfl hf hne
  have hl : (hl1 ++ crlf).length = 50 := rfl
  rw [hl] at this
  rw [this]
  rfl
theorem pl_len (c : Bool) : ∀ (bs : List (List UInt8)) (a : Nat), (plJ c bs a).length = bs.length
  | [], _ => rfl
  | b :: r, a => by rw [plJ, List.length_cons, List.length_cons, pl_len c r]
/-- One kid. -/
structure KidJ (c : Bool) (m : List UInt8) (last : Bool) (b : List UInt8) (k : Nat × Nat) : Prop where
  seg' : seg m k.1 k.2 = crlf ++ (b ++ (if last = true ∧ c = false then crlf else []))
  le : k.1 + 2 ≤ k.2
  hi : k.2 ≤ m.length
theorem pl_kids (c : Bool) : ∀ (bs : List (List UInt8)) (pre m : List UInt8), m = pre ++ (bodyJ bs ++ tailJ c) → ∀ i (hi : i < bs.length) (hj : i < (plJ c bs pre.length).length), KidJ c m (decide (i + 1 = bs.length)) bs[i] (plJ c bs pre.length)[i]
  | [], _, _, _, i, hi, _ => by simp at hi
  | b :: r, pre, m, hm, i, hi, hj => by
    have e1 : bodyJ (b :: r) ++ tailJ c = dlJ ++ (inJ b ++ (bodyJ r ++ tailJ c)) := by simp [bodyJ]
    have hm1 : m = (pre ++ dlJ) ++ (inJ b ++ (bodyJ r ++ tailJ c)) := by rw [hm, e1]; simp
    have hm2 : m = ((pre ++ dlJ) ++ inJ b) ++ (bodyJ r ++ tailJ c) := by rw [hm1]; simp
    have hl1 : (pre ++ dlJ).length = pre.length + 10 := by rw [List.length_append, dl_len]
    have hl2 : ((pre ++ dlJ) ++ inJ b).length = pre.length + 14 + b.length := by rw [List.length_append, hl1, in_len]; omega
    have hml : pre.length + 14 + b.length ≤ m.length := by
      rw [hm2, List.length_append, hl2]
      omega
    cases i with
    | zero =>
      show KidJ c m (decide (0 + 1 = (b :: r).length)) b (pre.length + 10, pre.length + 12 + b.length + (if r = [] ∧ c = false then 2 else 0))
      by_cases hl : r = [] ∧ c = false
      · obtain ⟨rfl, rfl⟩ := hl
        refine ⟨?_, by simp; omega, by simp; omega⟩
        have h := seg_mid (pre ++ dlJ) (inJ b) (bodyJ [] ++ tailJ false)
        rw [← hm1, hl1, in_len] at h
        simp only [and_self, if_true, List.length_singleton, Nat.zero_add, decide_true]
        rw [show pre.length + 12 + b.length + 2 = pre.length + 10 + (b.length + 4) by omega, h]
        rfl
      · rw [if_neg hl]
        refine ⟨?_, by dsimp only; omega, by dsimp only; omega⟩
        have hm3 : m = (pre ++ dlJ) ++ ((crlf ++ b) ++ (crlf ++ (bodyJ r ++ tailJ c))) := by rw [hm1]; simp [inJ]
        have h := seg_mid (pre ++ dlJ) (crlf ++ b) (crlf ++ (bodyJ r ++ tailJ c))
        have hcb : (crlf ++ b).length = b.length + 2 := by simp [crlf]
        rw [← hm3, hl1, hcb] at h
        rw [show pre.length + 12 + b.length + 0 = pre.length + 10 + (b.length + 2) by omega, h, if_neg, List.append_nil]
        rintro ⟨h1, h2⟩
        refine hl ⟨?_, h2⟩
        have h3 := of_decide_eq_true h1
        cases r with
        | nil => rfl
        | cons _ _ =>
          simp at h3
    | succ i =>
      have hi' : i < r.length := by simpa using hi
      have ih := pl_kids c r ((pre ++ dlJ) ++ inJ b) m hm2 i hi' (by rw [pl_len]; exact hi')
      simp only [hl2] at ih
      have e2 : (plJ c (b :: r) pre.length)[i + 1] = (plJ c r (pre.length + 14 + b.length))[i]'(by rw [pl_len]; exact hi') := rfl
      rw [e2]
      have e3 : decide (i + 1 + 1 = (b :: r).length) = decide (i + 1 = r.length) := by
        rw [List.length_cons]
        exact decide_eq_decide.2 (by omega)
      rw [e3]
      exact ih
theorem split_crlf (t : List UInt8) : splitS (crlf ++ t) = crlf :: splitS t := by
  have e : crlf ++ t = [13] ++ 10 :: t := rfl
  rw [e, splitS_mid _ _ (by decide)]
  rfl
theorem typ_nil : (typV (firstV nCT [])).1 = tText := by kernel_rfl
/-- A kid's part. -/
theorem kid_part {c l : Bool} {m b : List UInt8} {k : Nat × Nat} (h : KidJ c m l b k) (d : Nat) : (parseP d m k.1 k.2).h.type = tText ∧ (parseP d m k.1 k.2).h.body = ((k.1 + 2 : Nat) : Int) ∧ (parseP d m k.1 k.2).h.end' = (k.2 : Int) := by
  have hs := h.seg'
  have hh : hd (splitS (seg m k.1 k.2)) 0 = ([], 2) := by
    rw [hs, split_crlf, hd_stop crlf_txt]
    rfl
  have hf : fdsOf (seg m k.1 k.2) = [] := by
    unfold fdsOf
    rw [hh]
    rfl
  have hb : bodyN m k.1 k.2 = k.1 + 2 := by
    unfold bodyN
    rw [← hd_body, hh]
  have ht : (baseP m k.1 k.2).type = tText := by
    rw [base_t, hf]
    exact typ_nil
  have hp : parseP d m k.1 k.2 = .mk (baseP m k.1 k.2) [] := parse_leaf (by rw [ht]; decide)
  rw [hp]
  refine ⟨ht, ?_, rfl⟩
  show ((bodyN m k.1 k.2 : Nat) : Int) = _
  rw [hb]
theorem kid_text {c l : Bool} {m b : List UInt8} {k : Nat × Nat} (h : KidJ c m l b k) : seg m (k.1 + 2) k.2 = b ++ (if l = true ∧ c = false then crlf else []) := by
  have hs := h.seg'
  have h1 := h.le
  have e : seg m (k.1 + 2) k.2 = (seg m k.1 k.2).drop 2 := by
    unfold seg
    rw [List.drop_take, List.drop_drop]
    congr 1
  rw [e, hs]
  rfl
/-- All of it. -/
theorem joins_all (c : Bool) (bs : List (List UInt8)) (hf : ∀ b ∈ bs, FreeJ b) (hne : bs ≠ []) (hl : bs.length ≤ 30) (m : List UInt8) (hm : msgJ c bs = m) (P : Part) (hPP : parseP 32 m 0 m.length = P) :
    P.h.sub = [109, 105, 120, 101, 100] ∧ P.kids.length = bs.length ∧
      ∀ i (hi : i < bs.length) (hk : i < P.kids.length), ∃ x y : Nat, P.kids[i].h.type = tText ∧ P.kids[i].h.body = (x : Int) ∧ P.kids[i].h.end' = (y : Int) ∧ x ≤ y ∧ y ≤ m.length ∧ seg m x y = bs[i] ++ (if i + 1 = bs.length ∧ c = false then crlf else []) := by
  obtain ⟨h1, h2, _, _⟩ := base_msg c bs
  have hp := places_msg c bs hf hne
  have hpl : (plJ c bs 50).length = bs.length := pl_len c bs 50
  rw [List.take_of_length_le (by omega)] at hp
  have hK := pl_kids c bs (hl1 ++ crlf) (msgJ c bs) rfl
  have hl50 : (hl1 ++ crlf).length = 50 := rfl
  simp only [hl50] at hK
  rw [hm] at h1 h2 hp hK
  obtain ⟨H, hH⟩ : ∃ H, baseP m 0 m.length = H := ⟨_, rfl⟩
  rw [hH] at h1 h2
  have hP : P = .mk H ((plJ c bs 50).map fun k => parseP 31 m k.1 k.2) := by
    rw [← hPP, parseP, hH, if_pos h1, hp]
    unfold withK
    rw [if_neg]
    intro e
    rw [List.isEmpty_iff, List.map_eq_nil_iff] at e
    rw [e] at hpl
    exact hne (List.eq_nil_of_length_eq_zero hpl.symm)
  subst hP
  have hkl : ((plJ c bs 50).map fun k => parseP 31 m k.1 k.2).length = bs.length := by rw [List.length_map, hpl]
  refine ⟨h2, hkl, fun i hi hk => ?_⟩
  have hj : i < (plJ c bs 50).length := by omega
  have hki := hK i hi hj
  have hj2 : i < ((plJ c bs 50).map fun k => parseP 31 m k.1 k.2).length := by omega
  have e : ((plJ c bs 50).map fun k => parseP 31 m k.1 k.2)[i]'hj2 = parseP 31 m (plJ c bs 50)[i].1 (plJ c bs 50)[i].2 := List.getElem_map _
  have e' : (Part.mk H ((plJ c bs 50).map fun k => parseP 31 m k.1 k.2)).kids[i]'hk = parseP 31 m (plJ c bs 50)[i].1 (plJ c bs 50)[i].2 := e
  rw [e']
  obtain ⟨g1, g2, g3⟩ := kid_part hki 31
  refine ⟨_, _, g1, g2, g3, hki.le, hki.hi, ?_⟩
  have := kid_text hki
  rw [this]
  simp only [decide_eq_true_eq]
theorem body_len : ∀ (bs : List (List UInt8)), (∀ b ∈ bs, b.length ≤ 1000) → (bodyJ bs).length ≤ bs.length * 1014
  | [], _ => by simp [bodyJ]
  | b :: r, h => by
    have h1 := h b (by simp)
    have h2 := body_len r (fun x hx => h x (by simp [hx]))
    rw [bodyJ, List.length_append, List.length_append, dl_len, in_len, List.length_cons]
    omega
theorem body_snoc : ∀ (bs : List (List UInt8)) (b : List UInt8), bodyJ (bs ++ [b]) = bodyJ bs ++ (dlJ ++ inJ b)
  | [], b => by simp [bodyJ]
  | x :: r, b => by
    rw [List.cons_append, bodyJ, bodyJ, body_snoc r b]
    simp
end Go.Proofs.YtfebohfmpikoeabGreatDoor
