/- Sections, in plain lists: which are right, their texts, and what a text is read as, by the program and by the document. -/
/- What a text is read as: by the program, by the document, and that both are the same. -/
import Derived.Test.YtegplihhbdmnbaaGreatDoorU03
import Derived.Test.YtegplihhbdmnbaaGreatDoorU04
import Derived.Lib.AtoiAll
import Derived.Lib.ItoaNum
import Derived.Lib.Join
section
namespace Go.Proofs.YtegplihhbdmnbaaGreatDoor
/-- A section. -/
structure Spc where
  path : List Int
  what : List UInt8
  names : List (List UInt8)
def wMime : List UInt8 := [77, 73, 77, 69]
def wHead : List UInt8 := [72, 69, 65, 68, 69, 82]
def wText : List UInt8 := [84, 69, 88, 84]
def wFlds : List UInt8 := [72, 69, 65, 68, 69, 82, 46, 70, 73, 69, 76, 68, 83]
def wNot : List UInt8 := [72, 69, 65, 68, 69, 82, 46, 70, 73, 69, 76, 68, 83, 46, 78, 79, 84]
def spcL : List UInt8 := [40, 41, 58, 34, 123, 92]
def nmB (c : UInt8) : Bool := decide (33 ≤ c.toNat) && decide (c.toNat ≤ 126) && !(spcL.contains c)
def nmeB (s : List UInt8) : Bool := !s.isEmpty && s.all nmB
def numB (n : Int) : Bool := decide (1 ≤ n) && decide (n ≤ 999)
def lstB (w : List UInt8) : Bool := w == wFlds || w == wNot
/-- Has a section a text? As the document asks. -/
def rgtB (p : Spc) : Bool := decide (p.path.length ≤ 20) && decide (p.names.length ≤ 20) && p.path.all numB && p.names.all nmeB && (lstB p.what == !p.names.isEmpty) &&
  (lstB p.what || p.what == [] || p.what == wHead || p.what == wText || (p.what == wMime && !p.path.isEmpty))
/-- As the program asks. -/
def hasB (p : Spc) : Bool := decide (p.path.length ≤ 20) && p.path.all numB &&
  (if p.what = [] ∨ p.what = wHead ∨ p.what = wText then p.names.isEmpty
   else if p.what = wMime then p.names.isEmpty && !p.path.isEmpty
   else if p.what = wFlds ∨ p.what = wNot then decide (1 ≤ p.names.length) && decide (p.names.length ≤ 20) && p.names.all nmeB
   else false)
theorem has_rgt (p : Spc) : hasB p = rgtB p := by
  obtain ⟨path, what, names⟩ := p
  unfold hasB rgtB
  simp only
  cases hp : decide (path.length ≤ 20) && path.all numB with
  | false =>
    have h0 : (decide (path.length ≤ 20) && decide (names.length ≤ 20) && path.all numB) = false := by
      cases h1 : decide (path.length ≤ 20) <;> cases h2 : path.all numB <;> simp_all
    rw [h0]
    simp
  | true =>
    rw [Bool.and_eq_true] at hp
    obtain ⟨h1, h2⟩ := hp
    rw [h1, h2]
    simp only [Bool.true_and, Bool.and_true]
    by_cases e1 : what = [] ∨ what = wHead ∨ what = wText
    · rw [if_pos e1]
      have hl : lstB what = false := by rcases e1 with rfl | rfl | rfl <;> rfl
      have hr : (lstB what || what == [] || what == wHead || what == wText || (what == wMime && !path.isEmpty)) = true := by rcases e1 with rfl | rfl | rfl <;> rfl
      rw [hr, hl]
      cases names <;> simp
    · rw [if_neg e1]
      by_cases e2 : what = wMime
      · rw [if_pos e2]
        subst e2
        have hl : lstB wMime = false := rfl
        rw [hl]
        have hr : (false || wMime == [] || wMime == wHead || wMime == wText || (wMime == wMime && !path.isEmpty)) = !path.isEmpty := by
          cases path.isEmpty <;> rfl
        rw [hr]
        cases names <;> simp
      · rw [if_neg e2]
        by_cases e3 : what = wFlds ∨ what = wNot
        · rw [if_pos e3]
          have hl : lstB what = true := by rcases e3 with rfl | rfl <;> rfl
          rw [hl]
          cases names with
          | nil => simp
          | cons a r => simp
        · rw [if_neg e3]
          have hl : lstB what = false := by
            unfold lstB
            simp only [not_or] at e3
            simp [e3.1, e3.2]
          rw [hl]
          simp only [not_or] at e1
          simp [e1.1, e1.2.1, e1.2.2, e2]
/-- A number's text. -/
def digI (n : Int) : List UInt8 := Lib.decDigits n.toNat
/-- The path's text. -/
def pthT : List Int → List UInt8
  | [] => []
  | [n] => digI n
  | n :: m :: r => digI n ++ 46 :: pthT (m :: r)
/-- What stands ahead of the word. -/
def preT (p : List Int) (w : List UInt8) : List UInt8 := if p = [] ∨ w = [] then pthT p else pthT p ++ [46]
def nmsT (ns : List (List UInt8)) : List UInt8 := if ns = [] then [] else 32 :: 40 :: (Lib.join ns [32] ++ [41])
/-- A section's text, with its word as it is written. -/
def secW (p : Spc) (w : List UInt8) : List UInt8 := preT p.path w ++ (w ++ nmsT p.names)
def secT (p : Spc) : List UInt8 := secW p p.what
def upB (c : UInt8) : UInt8 := if 97 ≤ c.toNat ∧ c.toNat ≤ 122 then c - 32 else c
/-- t is a text of the section p. -/
def Sec (t : List UInt8) (p : Spc) : Prop := rgtB p = true ∧ ∃ w, w.map upB = p.what ∧ t = secW p w
theorem up_low (c : UInt8) : upB (lowB c) = upB c := by
  have h : ∀ n, n < 256 → upB (lowB (UInt8.ofNat n)) = upB (UInt8.ofNat n) := by decide +kernel
  have := h c.toNat (UInt8.toNat_lt c)
  rwa [UInt8.ofNat_toNat] at this
theorem low_up (c : UInt8) : lowB (upB c) = lowB c := by
  have h : ∀ n, n < 256 → lowB (upB (UInt8.ofNat n)) = lowB (UInt8.ofNat n) := by decide +kernel
  have := h c.toNat (UInt8.toNat_lt c)
  rwa [UInt8.ofNat_toNat] at this
theorem same_up {a b : List UInt8} (hb : b.map upB = b) : decide (a.map lowB = b.map lowB) = decide (a.map upB = b) := by
  rw [decide_eq_decide]
  constructor
  · intro h
    have h2 := congrArg (List.map upB) h
    rw [List.map_map, List.map_map] at h2
    have e : ∀ l : List UInt8, l.map (upB ∘ lowB) = l.map upB := fun l => List.map_congr_left fun c _ => up_low c
    rw [e, e, hb] at h2
    exact h2
  · intro h
    rw [← h, List.map_map]
    exact List.map_congr_left fun c _ => (low_up c).symm
theorem rgt_what {p : Spc} (h : rgtB p = true) : p.what = [] ∨ p.what = wHead ∨ p.what = wText ∨ p.what = wMime ∨ p.what = wFlds ∨ p.what = wNot := by
  unfold rgtB at h
  simp only [Bool.and_eq_true, Bool.or_eq_true, lstB, beq_iff_eq] at h
  obtain ⟨_, h⟩ := h
  rcases h with (((h | h) | h) | h) | h
  · rcases h with h | h <;> simp [h]
  · simp [h]
  · simp [h]
  · simp [h]
  · simp [h.1]
theorem what_up {p : Spc} (h : rgtB p = true) : p.what.map upB = p.what := by
  rcases rgt_what h with e | e | e | e | e | e <;> rw [e] <;> decide
theorem sec_self {p : Spc} (h : rgtB p = true) : Sec (secT p) p := ⟨h, p.what, what_up h, rfl⟩
/- Numbers. -/
def dgB (c : UInt8) : Bool := decide (48 ≤ c.toNat) && decide (c.toNat ≤ 57)
theorem dec_step {u : Nat} (h : ¬ u < 10) : Lib.decDigits u = Lib.decDigits (u / 10) ++ [UInt8.ofNat (48 + u % 10)] := by
  rw [Lib.decDigits, dif_neg h]
theorem of_nat_dig (d : Nat) (h : d < 10) : (UInt8.ofNat (48 + d)).toNat = 48 + d := by
  rw [UInt8.toNat_ofNat']
  omega
theorem dec_all (n : Nat) : ∀ u, u ≤ n → ∀ c ∈ Lib.decDigits u, dgB c = true := by
  induction n with
  | zero =>
    intro u hu c hc
    have : u = 0 := by omega
    subst this
    rw [Lib.decDigits_one (by omega)] at hc
    simp at hc
    subst hc
    decide
  | succ n ih =>
    intro u hu c hc
    by_cases h : u < 10
    · rw [Lib.decDigits_one h] at hc
      rw [List.mem_singleton] at hc
      subst hc
      simp only [dgB, of_nat_dig u h, Bool.and_eq_true, decide_eq_true_eq]
      omega
    · rw [dec_step h, List.mem_append] at hc
      rcases hc with hc | hc
      · exact ih (u / 10) (by omega) c hc
      · rw [List.mem_singleton] at hc
        subst hc
        simp only [dgB, of_nat_dig _ (Nat.mod_lt u (by omega : 0 < 10)), Bool.and_eq_true, decide_eq_true_eq]
        omega
theorem dec_ne (u : Nat) : Lib.decDigits u ≠ [] := by
  by_cases h : u < 10
  · rw [Lib.decDigits_one h]; simp
  · rw [dec_step h]; simp
/-- The first digit of a number that is not nought is not nought. -/
theorem dec_head (n : Nat) : ∀ u, u ≤ n → 1 ≤ u → ∀ c r, Lib.decDigits u = c :: r → c ≠ 48 := by
  induction n with
  | zero => intro u hu h1; omega
  | succ n ih =>
    intro u hu h1 c r hc
    by_cases h : u < 10
    · rw [Lib.decDigits_one h] at hc
      injection hc with hc _
      intro e
      have := of_nat_dig u h
      rw [hc, e] at this
      have h48 : (48 : UInt8).toNat = 48 := rfl
      omega
    · rw [dec_step h] at hc
      cases hd : Lib.decDigits (u / 10) with
      | nil => exact absurd hd (dec_ne _)
      | cons a b =>
        rw [hd, List.cons_append] at hc
        injection hc with hc _
        subst hc
        exact ih (u / 10) (by omega) (by omega) a b hd
/-- The value of digits, one behind the other. -/
def stD (a : Nat) (c : UInt8) : Nat := a * 10 + (c.toNat - 48)
def valD (acc : Nat) (l : List UInt8) : Nat := l.foldl stD acc
theorem valD_nil (acc : Nat) : valD acc [] = acc := rfl
theorem valD_cons (acc : Nat) (c : UInt8) (r : List UInt8) : valD acc (c :: r) = valD (acc * 10 + (c.toNat - 48)) r := List.foldl_cons ..
theorem valD_app (acc : Nat) (a b : List UInt8) : valD acc (a ++ b) = valD (valD acc a) b := List.foldl_append
theorem valD_ge (l : List UInt8) : ∀ acc : Nat, acc ≤ valD acc l := by
  induction l with
  | nil => intro acc; exact Nat.le_refl _
  | cons c r ih =>
    intro acc
    rw [valD_cons]
    exact Nat.le_trans (by omega) (ih _)
theorem valD_dec (n : Nat) : ∀ u, u ≤ n → valD 0 (Lib.decDigits u) = u := by
  induction n with
  | zero =>
    intro u hu
    have : u = 0 := by omega
    subst this
    rw [Lib.decDigits_one (by omega)]
    decide
  | succ n ih =>
    intro u hu
    by_cases h : u < 10
    · rw [Lib.decDigits_one h]
      simp only [valD_cons, valD_nil, of_nat_dig u h]
      omega
    · rw [dec_step h, valD_app, ih (u / 10) (by omega)]
      simp only [valD_cons, valD_nil, of_nat_dig _ (Nat.mod_lt u (by omega : 0 < 10))]
      omega
/-- Digits without a nought ahead are the text of their value. -/
theorem dec_valD : ∀ (n : Nat) (l : List UInt8), l.length ≤ n → l ≠ [] → (∀ c ∈ l, dgB c = true) → (∀ c r, l = c :: r → c ≠ 48) → Lib.decDigits (valD 0 l) = l ∧ 1 ≤ valD 0 l := by
  intro n
  induction n with
  | zero => intro l hl hn; exact absurd (List.length_eq_zero_iff.1 (by omega)) hn
  | succ n ih =>
    intro l hl hn hd h0
    obtain ⟨q, c, rfl⟩ : ∃ q c, l = q ++ [c] := ⟨l.dropLast, l.getLast hn, (List.dropLast_concat_getLast hn).symm⟩
    have hc : dgB c = true := hd c (by simp)
    simp only [dgB, Bool.and_eq_true, decide_eq_true_eq] at hc
    have hce : UInt8.ofNat (48 + (c.toNat - 48)) = c := by
      rw [← UInt8.toNat_inj, of_nat_dig _ (by omega)]
      omega
    rw [valD_app]
    cases q with
    | nil =>
      have h1 : c ≠ 48 := h0 c [] rfl
      have h2 : c.toNat ≠ 48 := fun e => h1 (UInt8.toNat_inj.1 e)
      simp only [valD_cons, valD_nil, List.nil_append]
      rw [Lib.decDigits_one (by omega)]
      refine ⟨?_, by omega⟩
      rw [show 0 * 10 + (c.toNat - 48) = c.toNat - 48 by omega, hce]
    | cons a r =>
      obtain ⟨e1, e2⟩ := ih (a :: r) (by simp at hl ⊢; omega) (by simp) (fun x hx => hd x (by simp at hx ⊢; rcases hx with h | h <;> simp [h])) (fun x y h => h0 x (y ++ [c]) (by rw [h]; rfl))
      obtain ⟨v, hv⟩ : ∃ v, valD 0 (a :: r) = v := ⟨_, rfl⟩
      rw [hv] at e1 e2 ⊢
      simp only [valD_cons, valD_nil]
      rw [dec_step (by omega), show (v * 10 + (c.toNat - 48)) / 10 = v by omega, show (v * 10 + (c.toNat - 48)) % 10 = c.toNat - 48 by omega, e1, hce]
      exact ⟨rfl, by omega⟩
theorem parse_ok_val : ∀ (l : List UInt8) (acc u : Nat), Lib.parseUint10 acc l = .ok u → (∀ c ∈ l, dgB c = true) ∧ valD acc l = u
  | [], acc, u, h => by
    simp only [Lib.parseUint10] at h
    injection h with h
    exact ⟨(fun c hc => by cases hc), h⟩
  | c :: r, acc, u, h => by
    simp only [Lib.parseUint10] at h
    split at h
    · rename_i hc
      split at h
      · cases h
      · split at h
        · cases h
        · obtain ⟨h1, h2⟩ := parse_ok_val r _ u h
          refine ⟨fun x hx => ?_, h2⟩
          rw [List.mem_cons] at hx
          rcases hx with rfl | hx
          · simp [dgB, hc.1, hc.2]
          · exact h1 x hx
    · cases h
theorem parse_of_val : ∀ (l : List UInt8) (acc : Nat), (∀ c ∈ l, dgB c = true) → valD acc l < 1000000 → Lib.parseUint10 acc l = .ok (valD acc l)
  | [], _, _, _ => rfl
  | c :: r, acc, h, hv => by
    have hc := h c (by simp)
    simp only [dgB, Bool.and_eq_true, decide_eq_true_eq] at hc
    have hg := valD_ge r (acc * 10 + (c.toNat - 48))
    rw [valD_cons] at hv ⊢
    simp only [Lib.parseUint10]
    rw [if_pos hc, if_neg (by omega), if_neg (by omega)]
    exact parse_of_val r _ (fun x hx => h x (by simp [hx])) hv
/-- What Atoi reads of a text that begins with a digit, but not with a nought. -/
theorem atoi_first {c : UInt8} {r : List UInt8} {v : Int} (hc : dgB c = true) (h0 : c ≠ 48) (h : Lib.atoiAll (c :: r) = .ok v) : 1 ≤ v ∧ digI v = c :: r ∧ (∀ x ∈ c :: r, dgB x = true) := by
  simp only [dgB, Bool.and_eq_true, decide_eq_true_eq] at hc
  unfold Lib.atoiAll at h
  simp only at h
  rw [if_neg (by omega)] at h
  unfold Lib.parseMag at h
  rw [if_neg (by simp)] at h
  cases hp : Lib.parseUint10 0 (c :: r) with
  | «syntax» => rw [hp] at h; cases h
  | range => rw [hp] at h; cases h
  | ok u =>
    obtain ⟨h1, h2⟩ := parse_ok_val _ _ _ hp
    obtain ⟨e1, e2⟩ := dec_valD _ (c :: r) (Nat.le_refl _) (by simp) h1 (fun x y e => by injection e with e _; exact e ▸ h0)
    rw [h2] at e1 e2
    rw [hp] at h
    simp only at h
    split at h
    · cases h
    · rw [if_neg (by omega), if_neg (by omega)] at h
      injection h with h
      subst h
      exact ⟨by omega, by unfold digI; rw [Int.toNat_natCast]; exact e1, h1⟩
theorem atoi_digI {v : Int} (h1 : 1 ≤ v) (h2 : v ≤ 999) : Lib.atoiAll (digI v) = .ok v := by
  obtain ⟨u, rfl⟩ : ∃ u : Nat, v = u := ⟨v.toNat, by omega⟩
  unfold digI
  rw [Int.toNat_natCast]
  have hv := valD_dec u u (Nat.le_refl _)
  have hd := dec_all u u (Nat.le_refl _)
  have hp := parse_of_val (Lib.decDigits u) 0 hd (by omega)
  rw [hv] at hp
  cases hl : Lib.decDigits u with
  | nil => exact absurd hl (dec_ne u)
  | cons c r =>
    rw [hl] at hp hd
    have hc := hd c (by simp)
    simp only [dgB, Bool.and_eq_true, decide_eq_true_eq] at hc
    unfold Lib.atoiAll
    simp only
    rw [if_neg (by omega)]
    unfold Lib.parseMag
    rw [if_neg (by simp), hp]
    simp only
    rw [if_neg (by omega), if_neg (by omega), if_neg (by omega)]
theorem digI_head {v : Int} (h1 : 1 ≤ v) : ∃ c r, digI v = c :: r ∧ dgB c = true ∧ c ≠ 48 := by
  unfold digI
  cases hl : Lib.decDigits v.toNat with
  | nil => exact absurd hl (dec_ne _)
  | cons c r => exact ⟨c, r, rfl, dec_all _ _ (Nat.le_refl _) c (by rw [hl]; simp), dec_head _ _ (Nat.le_refl _) (by omega) c r hl⟩
theorem digI_all (v : Int) : ∀ c ∈ digI v, dgB c = true := dec_all _ _ (Nat.le_refl _)
theorem dgB_46 : dgB 46 = false := by decide
theorem digI_46 (v : Int) : (46 : UInt8) ∉ digI v := fun h => by
  have := digI_all v _ h
  rw [dgB_46] at this
  cases this
end Go.Proofs.YtegplihhbdmnbaaGreatDoor

end
section
namespace Go.Proofs.YtegplihhbdmnbaaGreatDoor
/- The path. -/
def pjT (q : List Int) (rest : List UInt8) : List UInt8 := if q = [] ∨ rest = [] then pthT q ++ rest else pthT q ++ 46 :: rest
theorem pj_nil (rest : List UInt8) : pjT [] rest = rest := by simp [pjT, pthT]
theorem pj_one (n : Int) : pjT [n] [] = digI n := by simp [pjT, pthT]
theorem pj_last {n : Int} {rest : List UInt8} (h : rest ≠ []) : pjT [n] rest = digI n ++ 46 :: rest := by simp [pjT, pthT, h]
theorem pj_more (n m : Int) (q : List Int) (rest : List UInt8) : pjT (n :: m :: q) rest = digI n ++ 46 :: pjT (m :: q) rest := by
  unfold pjT
  by_cases h : rest = []
  · simp [h, pthT]
  · simp [h, pthT]
theorem digI_ne (n : Int) : digI n ≠ [] := dec_ne _
theorem pj_ne (m : Int) (q : List Int) (rest : List UInt8) : pjT (m :: q) rest ≠ [] := by
  cases q with
  | nil =>
    by_cases h : rest = []
    · subst h
      rw [pj_one]
      exact digI_ne m
    · rw [pj_last h]
      simp
  | cons a r =>
    rw [pj_more]
    simp
theorem pj_len (n : Int) (q : List Int) (rest : List UInt8) : (pjT q rest).length < (pjT (n :: q) rest).length := by
  have hd : 0 < (digI n).length := List.length_pos_iff.2 (digI_ne n)
  cases q with
  | nil =>
    rw [pj_nil]
    by_cases h : rest = []
    · subst h
      rw [pj_one]
      simpa using hd
    · rw [pj_last h, List.length_append, List.length_cons]
      omega
  | cons a r =>
    rw [pj_more, List.length_append, List.length_cons]
    omega
theorem sec_pj {p : Spc} {w : List UInt8} (h : rgtB p = true) (hw : w.map upB = p.what) : secW p w = pjT p.path (w ++ nmsT p.names) := by
  unfold secW preT pjT
  by_cases h1 : p.path = []
  · simp [h1]
  · by_cases h2 : w = []
    · subst h2
      have hn : p.names = [] := by
        have hw' : p.what = [] := hw.symm
        simp only [rgtB, hw', Bool.and_eq_true] at h
        have := h.1.2
        simpa [lstB, wFlds, wNot] using this
      simp [hn, nmsT]
    · simp [h1, h2]
/-- The program's takePath. -/
def tkP : Nat → List Int → List UInt8 → Option (List Int × List UInt8)
  | 0, _, _ => none
  | _ + 1, p, [] => some (p, [])
  | f + 1, p, c :: r =>
    if dgB c = false then some (p, c :: r) else
    match Lib.atoiAll (cutV 46 (c :: r)).1 with
    | .ok v => if c = 48 ∨ p.length = 20 ∨ ((cutV 46 (c :: r)).2.2 = true ∧ (cutV 46 (c :: r)).2.1 = []) then none else tkP f (p ++ [v]) (cutV 46 (c :: r)).2.1
    | .«syntax» => none
    | .range => none
/-- Not a digit ahead. -/
def ND (l : List UInt8) : Prop := ∀ c r, l = c :: r → dgB c = false
theorem cut_first {c : UInt8} {r : List UInt8} (h : c ≠ 46) : ∃ d, (cutV 46 (c :: r)).1 = c :: d := by
  refine ⟨(cutV 46 r).1, ?_⟩
  rw [cutV, if_neg h]
theorem dg_46 {c : UInt8} (h : dgB c = true) : c ≠ 46 := fun e => by rw [e, dgB_46] at h; cases h
theorem tk_out : ∀ (f : Nat) (p q : List Int) (t rest : List UInt8), p.length ≤ 20 → tkP f p t = some (q, rest) → q.length ≤ 20 ∧ ND rest ∧ ∃ q', q = p ++ q' ∧ t = pjT q' rest := by
  intro f
  induction f with
  | zero => intro p q t rest _ h; simp [tkP] at h
  | succ f ih =>
    intro p q t rest hp h
    cases t with
    | nil =>
      simp only [tkP, Option.some.injEq, Prod.mk.injEq] at h
      obtain ⟨rfl, rfl⟩ := h
      exact ⟨hp, (fun c r h => by cases h), [], by simp, by rw [pj_nil]⟩
    | cons c r =>
      rw [tkP] at h
      by_cases hc : dgB c = false
      · rw [if_pos hc] at h
        simp only [Option.some.injEq, Prod.mk.injEq] at h
        obtain ⟨rfl, rfl⟩ := h
        exact ⟨hp, (fun x y e => by injection e with e _; exact e ▸ hc), [], by simp, by rw [pj_nil]⟩
      · rw [if_neg hc] at h
        have hc' : dgB c = true := by simpa using hc
        obtain ⟨d, hd⟩ := cut_first (r := r) (dg_46 hc')
        cases hcut : cutV 46 (c :: r) with
        | mk x yz =>
          obtain ⟨b, dot⟩ := yz
          rw [hcut] at h hd
          simp only at h hd
          subst hd
          cases ha : Lib.atoiAll (c :: d) with
          | «syntax» => rw [ha] at h; cases h
          | range => rw [ha] at h; cases h
          | ok v =>
            rw [ha] at h
            simp only at h
            split at h
            · cases h
            · rename_i hno
              simp only [not_or] at hno
              obtain ⟨h48, h20, hdot⟩ := hno
              obtain ⟨h1, h2, h3⟩ := atoi_first hc' h48 ha
              have hl : (p ++ [v]).length ≤ 20 := by rw [List.length_append]; simp; omega
              cases dot with
              | true =>
                obtain ⟨e1, _⟩ := cutV_inv hcut
                have hb : b ≠ [] := fun e => hdot ⟨rfl, e⟩
                obtain ⟨k1, k2, q', k3, k4⟩ := ih (p ++ [v]) q b rest hl h
                refine ⟨k1, k2, v :: q', by rw [k3]; simp, ?_⟩
                rw [e1, ← h2]
                cases q' with
                | nil =>
                  rw [pj_nil] at k4
                  rw [pj_last (k4 ▸ hb), k4]
                | cons m q' => rw [pj_more, k4]
              | false =>
                obtain ⟨e1, _⟩ := cutV_no hcut
                have hb : b = [] := by
                  have := cutV_out (b := 46) (l := c :: r) (by
                    obtain ⟨_, e2⟩ := cutV_no hcut
                    exact e2)
                  rw [hcut] at this
                  simp only [Prod.mk.injEq] at this
                  exact this.2.1
                subst hb
                cases f with
                | zero => simp [tkP] at h
                | succ f =>
                  simp only [tkP, Option.some.injEq, Prod.mk.injEq] at h
                  obtain ⟨rfl, rfl⟩ := h
                  exact ⟨hl, (fun x y e => by cases e), [v], rfl, by rw [pj_one, ← e1, h2]⟩
theorem numB_iff {n : Int} : numB n = true ↔ 1 ≤ n ∧ n ≤ 999 := by simp [numB]
theorem tk_in : ∀ (q : List Int) (f : Nat) (p : List Int) (rest : List UInt8), q.all numB = true → p.length + q.length ≤ 20 → ND rest → (pjT q rest).length < f → tkP f p (pjT q rest) = some (p ++ q, rest) := by
  intro q
  induction q with
  | nil =>
    intro f p rest _ _ hr hf
    rw [pj_nil] at hf ⊢
    cases f with
    | zero => omega
    | succ f =>
      cases rest with
      | nil => simp [tkP]
      | cons c r => rw [tkP, if_pos (hr c r rfl), List.append_nil]
  | cons n q ih =>
    intro f p rest hq hp hr hf
    rw [List.all_cons, Bool.and_eq_true] at hq
    obtain ⟨hn1, hn2⟩ := numB_iff.1 hq.1
    have hlen := pj_len n q rest
    obtain ⟨c, r, hd, hc, h48⟩ := digI_head hn1
    have ha := atoi_digI hn1 hn2
    have hpl : p.length ≠ 20 := by simp only [List.length_cons] at hp; omega
    have hp' : (p ++ [n]).length + q.length ≤ 20 := by simp only [List.length_append, List.length_cons, List.length_nil] at hp ⊢; omega
    cases f with
    | zero => omega
    | succ f =>
      have IH := ih f (p ++ [n]) rest hq.2 hp' hr (by omega)
      by_cases hX : q = [] ∧ rest = []
      · obtain ⟨rfl, rfl⟩ := hX
        rw [pj_nil] at IH
        have hcut : cutV 46 (c :: r) = (c :: r, [], false) := by rw [← hd]; exact cutV_out (digI_46 n)
        rw [pj_one, hd, tkP, if_neg (by rw [hc]; simp), hcut]
        simp only
        rw [← hd, ha]
        simp only
        rw [if_neg (by simp [h48, hpl]), IH]
        simp
      · have ht : pjT (n :: q) rest = digI n ++ 46 :: pjT q rest := by
          cases q with
          | nil => rw [pj_last (fun e => hX ⟨rfl, e⟩), pj_nil]
          | cons m q => rw [pj_more]
        have hY : pjT q rest ≠ [] := by
          cases q with
          | nil => rw [pj_nil]; exact fun e => hX ⟨rfl, e⟩
          | cons m q => exact pj_ne m q rest
        have hcut : cutV 46 (c :: (r ++ 46 :: pjT q rest)) = (c :: r, pjT q rest, true) := by
          have := cutV_in (b := 46) (p := c :: r) (pjT q rest) (hd ▸ digI_46 n)
          simpa using this
        rw [ht, hd, List.cons_append, tkP, if_neg (by rw [hc]; simp), hcut]
        simp only
        rw [← hd, ha]
        simp only
        rw [if_neg (by simp [h48, hpl, hY]), IH]
        simp
/- The names. -/
def spl : Nat → List UInt8 → List (List UInt8)
  | 0, s => [s]
  | k + 1, s => match cutV 32 s with
    | (p, q, true) => p :: spl k q
    | (_, _, false) => [s]
theorem spl_ne (k : Nat) (s : List UInt8) : spl k s ≠ [] := by
  cases k with
  | zero => simp [spl]
  | succ k => rw [spl]; split <;> simp
theorem join_cons2 (a : List UInt8) {r : List (List UInt8)} (h : r ≠ []) (x : List UInt8) : Lib.join (a :: r) x = a ++ (x ++ Lib.join r x) := by
  cases r with
  | nil => exact absurd rfl h
  | cons b r => simp [Lib.join, List.intercalate]
theorem join_one (a x : List UInt8) : Lib.join [a] x = a := by simp [Lib.join, List.intercalate]
theorem spl_join : ∀ (k : Nat) (s : List UInt8), Lib.join (spl k s) [32] = s
  | 0, s => by simp [spl, join_one]
  | k + 1, s => by
    rw [spl]
    split
    · rename_i p q h
      obtain ⟨e, _⟩ := cutV_inv h
      rw [join_cons2 _ (spl_ne k q), spl_join k q, e]
      simp
    · exact join_one _ _
theorem spl_fuel : ∀ (k k' : Nat) (s : List UInt8), s.length ≤ k → s.length ≤ k' → spl k s = spl k' s := by
  intro k
  induction k with
  | zero =>
    intro k' s h _
    have : s = [] := List.length_eq_zero_iff.1 (by omega)
    subst this
    cases k' <;> simp [spl, cutV]
  | succ k ih =>
    intro k' s h h'
    cases k' with
    | zero =>
      have : s = [] := List.length_eq_zero_iff.1 (by omega)
      subst this
      simp [spl, cutV]
    | succ k' =>
      rw [spl, spl]
      cases hc : cutV 32 s with
      | mk p y =>
        obtain ⟨q, b⟩ := y
        cases b with
        | false => rfl
        | true =>
          obtain ⟨e, _⟩ := cutV_inv hc
          have hl : s.length = p.length + (q.length + 1) := by rw [e]; simp
          simp only
          rw [ih k' q (by omega) (by omega)]
theorem spl_back : ∀ (ns : List (List UInt8)) (k : Nat), ns ≠ [] → (∀ x ∈ ns, (32 : UInt8) ∉ x) → ns.length ≤ k + 1 → spl k (Lib.join ns [32]) = ns := by
  intro ns
  induction ns with
  | nil => intro k h; exact absurd rfl h
  | cons a r ih =>
    intro k _ h hk
    have ha : (32 : UInt8) ∉ a := h a (by simp)
    cases r with
    | nil =>
      rw [join_one]
      cases k with
      | zero => rfl
      | succ k => rw [spl, cutV_out ha]
    | cons b r =>
      cases k with
      | zero => simp at hk
      | succ k =>
        rw [join_cons2 _ (by simp), spl, List.singleton_append, cutV_in _ ha]
        simp only
        rw [ih k (by simp) (fun x hx => h x (List.mem_cons_of_mem _ hx)) (by simp only [List.length_cons] at hk ⊢; omega)]
def namO (l : List UInt8) : Option (List (List UInt8)) :=
  if l.head? = some 40 ∧ (l.drop 1).getLast? = some 41 then some (spl 20 (l.drop 1).dropLast) else none
def whatL : List (List UInt8) := [[], wMime, wHead, wText, wFlds, wNot]
def whatO (w : List UInt8) : Option (List UInt8) := if w.map upB ∈ whatL then some (w.map upB) else none
/-- What the program reads. -/
def prgO (t : List UInt8) : Option Spc :=
  match tkP (t.length + 1) [] t with
  | none => none
  | some (path, rest) =>
    match whatO (cutV 32 rest).1 with
    | none => none
    | some what =>
      match (if (cutV 32 rest).2.2 = true then namO (cutV 32 rest).2.1 else some []) with
      | none => none
      | some names => if hasB ⟨path, what, names⟩ = true then some ⟨path, what, names⟩ else none
theorem namO_some {l : List UInt8} {ns : List (List UInt8)} (h : namO l = some ns) : l = 40 :: (Lib.join ns [32] ++ [41]) ∧ ns ≠ [] := by
  unfold namO at h
  split at h
  · rename_i hh
    obtain ⟨h1, h2⟩ := hh
    injection h with h
    cases l with
    | nil => simp at h1
    | cons c r =>
      simp only [List.head?_cons, Option.some.injEq] at h1
      simp only [List.drop_succ_cons, List.drop_zero] at h2 h
      subst h1
      rw [← h, spl_join]
      refine ⟨?_, spl_ne _ _⟩
      congr 1
      have hr : r ≠ [] := fun e => by rw [e] at h2; cases h2
      rw [List.getLast?_eq_some_getLast hr] at h2
      injection h2 with h2
      rw [← h2]
      exact (List.dropLast_concat_getLast hr).symm
  · cases h
theorem namO_of {ns : List (List UInt8)} (h0 : ns ≠ []) (h1 : ∀ x ∈ ns, (32 : UInt8) ∉ x) (h2 : ns.length ≤ 20) : namO (40 :: (Lib.join ns [32] ++ [41])) = some ns := by
  unfold namO
  rw [if_pos (by simp)]
  simp only [List.drop_succ_cons, List.drop_zero, List.dropLast_concat]
  rw [spl_back ns 20 h0 h1 (by omega)]
theorem prg_sec {t : List UInt8} {p : Spc} (h : prgO t = some p) : Sec t p := by
  unfold prgO at h
  cases h1 : tkP (t.length + 1) [] t with
  | none => rw [h1] at h; cases h
  | some pr =>
    obtain ⟨path, rest⟩ := pr
    rw [h1] at h
    simp only at h
    obtain ⟨_, _, q', e1, e2⟩ := tk_out _ _ _ _ _ (by simp) h1
    rw [List.nil_append] at e1
    subst e1
    cases hc : cutV 32 rest with
    | mk word y =>
      obtain ⟨lst, b⟩ := y
      rw [hc] at h
      simp only at h
      unfold whatO at h
      by_cases hw : word.map upB ∈ whatL
      · rw [if_pos hw] at h
        simp only at h
        cases b with
        | false =>
          simp only [Bool.false_eq_true, if_false] at h
          split at h
          · rename_i hh
            injection h with h
            subst h
            rw [has_rgt] at hh
            refine ⟨hh, word, rfl, ?_⟩
            rw [sec_pj hh rfl, e2]
            simp only [nmsT, if_true, List.append_nil]
            rw [(cutV_no hc).1]
          · cases h
        | true =>
          simp only [if_true] at h
          cases hn : namO lst with
          | none => rw [hn] at h; cases h
          | some ns =>
            rw [hn] at h
            simp only at h
            split at h
            · rename_i hh
              injection h with h
              subst h
              rw [has_rgt] at hh
              obtain ⟨k1, k2⟩ := namO_some hn
              refine ⟨hh, word, rfl, ?_⟩
              rw [sec_pj hh rfl, e2, (cutV_inv hc).1]
              simp only [nmsT, if_neg k2]
              rw [k1]
            · cases h
      · rw [if_neg hw] at h
        cases h
/- What is known of a word that stands for What. -/
theorem up_fact (c : UInt8) : (upB c = 32 ↔ c = 32) ∧ (dgB c = true → upB c = c) ∧ (upB c = 46 ↔ c = 46) := by
  have h : ∀ n, n < 256 → (upB (UInt8.ofNat n) = 32 ↔ UInt8.ofNat n = 32) ∧ (dgB (UInt8.ofNat n) = true → upB (UInt8.ofNat n) = UInt8.ofNat n) ∧ (upB (UInt8.ofNat n) = 46 ↔ UInt8.ofNat n = 46) := by decide +kernel
  have := h c.toNat (UInt8.toNat_lt c)
  rwa [UInt8.ofNat_toNat] at this
theorem rgt_mem {p : Spc} (h : rgtB p = true) : p.what ∈ whatL := by
  rcases rgt_what h with e | e | e | e | e | e <;> rw [e] <;> decide
theorem whatL_32 : ∀ w ∈ whatL, (32 : UInt8) ∉ w := by decide
theorem whatL_hd : ∀ w ∈ whatL, ∀ c ∈ w.head?, dgB c = false ∧ c ≠ 46 := by decide
theorem word_32 {p : Spc} (h : rgtB p = true) {w : List UInt8} (hw : w.map upB = p.what) : (32 : UInt8) ∉ w := fun hm => by
  have := List.mem_map_of_mem (f := upB) hm
  rw [hw, (up_fact 32).1.2 rfl] at this
  exact whatL_32 _ (rgt_mem h) this
theorem rgt_names {p : Spc} (h : rgtB p = true) : p.path.length ≤ 20 ∧ p.names.length ≤ 20 ∧ p.path.all numB = true ∧ (∀ x ∈ p.names, nmeB x = true) ∧ (p.what = [] → p.names = []) := by
  have h0 := h
  unfold rgtB at h
  simp only [Bool.and_eq_true, decide_eq_true_eq, List.all_eq_true (p := nmeB)] at h
  refine ⟨h.1.1.1.1.1, h.1.1.1.1.2, h.1.1.1.2, h.1.1.2, fun e => ?_⟩
  have := h.1.2
  rw [e] at this
  simpa [lstB, wFlds, wNot] using this
theorem nmB_fact {c : UInt8} (h : nmB c = true) : c ≠ 32 ∧ c ≠ 41 := by
  unfold nmB at h
  simp only [Bool.and_eq_true, decide_eq_true_eq, Bool.not_eq_true', spcL] at h
  refine ⟨fun e => ?_, fun e => ?_⟩
  · have h1 := h.1.1
    rw [e] at h1
    have : (32 : UInt8).toNat = 32 := rfl
    omega
  · have h1 := h.2
    rw [e] at h1
    revert h1
    decide
theorem nme_fact {x : List UInt8} (h : nmeB x = true) : x ≠ [] ∧ (32 : UInt8) ∉ x ∧ (41 : UInt8) ∉ x := by
  unfold nmeB at h
  simp only [Bool.and_eq_true, List.all_eq_true] at h
  refine ⟨fun e => by rw [e] at h; exact absurd h.1 (by simp), fun hm => (nmB_fact (h.2 _ hm)).1 rfl, fun hm => (nmB_fact (h.2 _ hm)).2 rfl⟩
theorem nd_rest {p : Spc} (h : rgtB p = true) {w : List UInt8} (hw : w.map upB = p.what) : ND (w ++ nmsT p.names) := by
  intro c r e
  cases w with
  | nil =>
    have := (rgt_names h).2.2.2.2 hw.symm
    rw [this] at e
    simp [nmsT] at e
  | cons a w =>
    rw [List.cons_append] at e
    injection e with e _
    subst e
    have hm := whatL_hd _ (rgt_mem h) (upB a) (by rw [← hw]; simp)
    cases hd : dgB a with
    | false => rfl
    | true =>
      rw [(up_fact a).2.1 hd, hd] at hm
      exact absurd hm.1 (by simp)
theorem cut_rest {p : Spc} (h : rgtB p = true) {w : List UInt8} (hw : w.map upB = p.what) :
    cutV 32 (w ++ nmsT p.names) = (w, (nmsT p.names).drop 1, !p.names.isEmpty) := by
  have h32 := word_32 h hw
  cases hn : p.names with
  | nil => simp [nmsT, cutV_out h32]
  | cons a r =>
    simp only [nmsT, if_neg (List.cons_ne_nil a r)]
    rw [cutV_in _ h32]
    rfl
theorem sec_prg {t : List UInt8} {p : Spc} (h : Sec t p) : prgO t = some p := by
  obtain ⟨hr, w, hw, rfl⟩ := h
  obtain ⟨h1, h2, h3, h4, h5⟩ := rgt_names hr
  rw [sec_pj hr hw]
  unfold prgO
  rw [tk_in p.path _ [] _ h3 (by simpa using h1) (nd_rest hr hw) (Nat.lt_succ_self _)]
  simp only [List.nil_append]
  rw [cut_rest hr hw]
  simp only
  unfold whatO
  rw [hw, if_pos (rgt_mem hr)]
  simp only
  have hh : hasB ⟨p.path, p.what, p.names⟩ = true := by rw [has_rgt]; exact hr
  by_cases hn : p.names = []
  · rw [hn] at hh ⊢
    simp only [List.isEmpty_nil, Bool.not_true, Bool.false_eq_true, if_false]
    rw [if_pos hh, ← hn]
  · have hb : (!p.names.isEmpty) = true := by simpa using hn
    rw [if_pos hb]
    simp only [nmsT, if_neg hn, List.drop_succ_cons, List.drop_zero]
    rw [namO_of hn (fun x hx => (nme_fact (h4 x hx)).2.1) h2]
    simp only
    rw [if_pos hh]
end Go.Proofs.YtegplihhbdmnbaaGreatDoor

end
