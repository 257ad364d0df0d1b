/- Sections, in plain lists: which are right, their texts, and what a text is read as, by the program and by the document. -/
import Derived.Test.YtbjencibkkhbhaaGreatDoorHMath
import Derived.Test.YtbjencibkkhbhaaGreatDoorLowB
import Derived.Lib.AtoiAll
import Derived.Lib.ItoaNum
import Derived.Lib.Join
namespace Go.Proofs.YtbjencibkkhbhaaGreatDoor
/-- A section. -/
structure Spc where
  path : List Int
  what : List UInt8
  names : List (List UInt8)
def wMime : List UInt8 := [77, 73, 77, 69]
def wHead : List UInt8 := [72, 69, 65, 68, 69, 82]
def wText : List UInt8 := [84, 69, 88, 84]
def wFlds : List UInt8 := [72, 69, 65, 68, 69, 82, 46, 70, 73, 69, 76, 68, 83]
def wNot : List UInt8 := [72, 69, 65, 68, 69, 82, 46, 70, 73, 69, 76, 68, 83, 46, 78, 79, 84]
def spcL : List UInt8 := [40, 41, 58, 34, 123, 92]
def nmB (c : UInt8) : Bool := decide (33 ≤ c.toNat) && decide (c.toNat ≤ 126) && !(spcL.contains c)
def nmeB (s : List UInt8) : Bool := !s.isEmpty && s.all nmB
def numB (n : Int) : Bool := decide (1 ≤ n) && decide (n ≤ 999)
def lstB (w : List UInt8) : Bool := w == wFlds || w == wNot
/-- Has a section a text? As the document asks. -/
def rgtB (p : Spc) : Bool := decide (p.path.length ≤ 20) && decide (p.names.length ≤ 20) && p.path.all numB && p.names.all nmeB && (lstB p.what == !p.names.isEmpty) &&
  (lstB p.what || p.what == [] || p.what == wHead || p.what == wText || (p.what == wMime && !p.path.isEmpty))
/-- As the program asks. -/
def hasB (p : Spc) : Bool := decide (p.path.length ≤ 20) && p.path.all numB &&
  (if p.what = [] ∨ p.what = wHead ∨ p.what = wText then p.names.isEmpty
   else if p.what = wMime then p.names.isEmpty && !p.path.isEmpty
   else if p.what = wFlds ∨ p.what = wNot then decide (1 ≤ p.names.length) && decide (p.names.length ≤ 20) && p.names.all nmeB
   else false)
theorem has_rgt (p : Spc) : hasB p = rgtB p := by
  obtain ⟨path, what, names⟩ := p
  unfold hasB rgtB
  simp only
  cases hp : decide (path.length ≤ 20) && path.all numB with
  | false =>
    have h0 : (decide (path.length ≤ 20) && decide (names.length ≤ 20) && path.all numB) = false := by
      cases h1 : decide (path.length ≤ 20) <;> cases h2 : path.all numB <;> simp_all
    rw [h0]
    simp
  | true =>
    rw [Bool.and_eq_true] at hp
    obtain ⟨h1, h2⟩ := hp
    rw [h1, h2]
    simp only [Bool.true_and, Bool.and_true]
    by_cases e1 : what = [] ∨ what = wHead ∨ what = wText
    · rw [if_pos e1]
      have hl : lstB what = false := by rcases e1 with rfl | rfl | rfl <;> rfl
      have hr : (lstB what || what == [] || what == wHead || what == wText || (what == wMime && !path.isEmpty)) = true := by rcases e1 with rfl | rfl | rfl <;> rfl
      rw [hr, hl]
      cases names <;> simp
    · rw [if_neg e1]
      by_cases e2 : what = wMime
      · rw [if_pos e2]
        subst e2
        have hl : lstB wMime = false := rfl
        rw [hl]
        have hr : (false || wMime == [] || wMime == wHead || wMime == wText || (wMime == wMime && !path.isEmpty)) = !path.isEmpty := by
          cases path.isEmpty <;> rfl
        rw [hr]
        cases names <;> simp
      · rw [if_neg e2]
        by_cases e3 : what = wFlds ∨ what = wNot
        · rw [if_pos e3]
          have hl : lstB what = true := by rcases e3 with rfl | rfl <;> rfl
          rw [hl]
          cases names with
          | nil => simp
          | cons a r => simp
        · rw [if_neg e3]
          have hl : lstB what = false := by
            unfold lstB
            simp only [not_or] at e3
            simp [e3.1, e3.2]
          rw [hl]
          simp only [not_or] at e1
          simp [e1.1, e1.2.1, e1.2.2, e2]
/-- A number's text. -/
def digI (n : Int) : List UInt8 := Lib.decDigits n.toNat
/-- The path's text. -/
def pthT : List Int → List UInt8
  | [] => []
  | [n] => digI n
  | n :: m :: r => digI n ++ 46 :: pthT (m :: r)
/-- What stands ahead of the word. -/
def preT (p : List Int) (w : List UInt8) : List UInt8 := if p = [] ∨ w = [] then pthT p else pthT p ++ [46]
def nmsT (ns : List (List UInt8)) : List UInt8 := if ns = [] then [] else 32 :: 40 :: (Lib.join ns [32] ++ [41])
/-- A section's text, with its word as it is written. -/
def secW (p : Spc) (w : List UInt8) : List UInt8 := preT p.path w ++ (w ++ nmsT p.names)
def secT (p : Spc) : List UInt8 := secW p p.what
def upB (c : UInt8) : UInt8 := if 97 ≤ c.toNat ∧ c.toNat ≤ 122 then c - 32 else c
/-- t is a text of the section p. -/
def Sec (t : List UInt8) (p : Spc) : Prop := rgtB p = true ∧ ∃ w, w.map upB = p.what ∧ t = secW p w
theorem up_low (c : UInt8) : upB (lowB c) = upB c := by
  have h : ∀ n, n < 256 → upB (lowB (UInt8.ofNat n)) = upB (UInt8.ofNat n) := by decide +kernel
  have := h c.toNat (UInt8.toNat_lt c)
  rwa [UInt8.ofNat_toNat] at this
theorem low_up (c : UInt8) : lowB (upB c) = lowB c := by
  have h : ∀ n, n < 256 → lowB (upB (UInt8.ofNat n)) = lowB (UInt8.ofNat n) := by decide +kernel
  have := h c.toNat (UInt8.toNat_lt c)
  rwa [UInt8.ofNat_toNat] at this
theorem same_up {a b : List UInt8} (hb : b.map upB = b) : decide (a.map lowB = b.map lowB) = decide (a.map upB = b) := by
  rw [decide_eq_decide]
  constructor
  · intro h
    have h2 := congrArg (List.map upB) h
    rw [List.map_map, List.map_map] at h2
    have e : ∀ l : List UInt8, l.map (upB ∘ lowB) = l.map upB := fun l => List.map_congr_left fun c _ => up_low c
    rw [e, e, hb] at h2
    exact h2
  · intro h
    rw [← h, List.map_map]
    exact List.map_congr_left fun c _ => (low_up c).symm
theorem rgt_what {p : Spc} (h : rgtB p = true) : p.what = [] ∨ p.what = wHead ∨ p.what = wText ∨ p.what = wMime ∨ p.what = wFlds ∨ p.what = wNot := by
  unfold rgtB at h
  simp only [Bool.and_eq_true, Bool.or_eq_true, lstB, beq_iff_eq] at h
  obtain ⟨_, h⟩ := h
  rcases h with (((h | h) | h) | h) | h
  · rcases h with h | h <;> simp [h]
  · simp [h]
  · simp [h]
  · simp [h]
  · simp [h.1]
theorem what_up {p : Spc} (h : rgtB p = true) : p.what.map upB = p.what := by
  rcases rgt_what h with e | e | e | e | e | e <;> rw [e] <;> decide
theorem sec_self {p : Spc} (h : rgtB p = true) : Sec (secT p) p := ⟨h, p.what, what_up h, rfl⟩
/- Numbers. -/
def dgB (c : UInt8) : Bool := decide (48 ≤ c.toNat) && decide (c.toNat ≤ 57)
theorem dec_step {u : Nat} (h : ¬ u < 10) : Lib.decDigits u = Lib.decDigits (u / 10) ++ [UInt8.ofNat (48 + u % 10)] := by
  rw [Lib.decDigits, dif_neg h]
theorem of_nat_dig (d : Nat) (h : d < 10) : (UInt8.ofNat (48 + d)).toNat = 48 + d := by
  rw [UInt8.toNat_ofNat']
  omega
theorem dec_all (n : Nat) : ∀ u, u ≤ n → ∀ c ∈ Lib.decDigits u, dgB c = true := by
  induction n with
  | zero =>
    intro u hu c hc
    have : u = 0 := by omega
    subst this
    rw [Lib.decDigits_one (by omega)] at hc
    simp at hc
    subst hc
    decide
  | succ n ih =>
    intro u hu c hc
    by_cases h : u < 10
    · rw [Lib.decDigits_one h] at hc
      rw [List.mem_singleton] at hc
      subst hc
      simp only [dgB, of_nat_dig u h, Bool.and_eq_true, decide_eq_true_eq]
      omega
    · rw [dec_step h, List.mem_append] at hc
      rcases hc with hc | hc
      · exact ih (u / 10) (by omega) c hc
      · rw [List.mem_singleton] at hc
        subst hc
        simp only [dgB, of_nat_dig _ (Nat.mod_lt u (by omega : 0 < 10)), Bool.and_eq_true, decide_eq_true_eq]
        omega
theorem dec_ne (u : Nat) : Lib.decDigits u ≠ [] := by
  by_cases h : u < 10
  · rw [Lib.decDigits_one h]; simp
  · rw [dec_step h]; simp
/-- The first digit of a number that is not nought is not nought. -/
theorem dec_head (n : Nat) : ∀ u, u ≤ n → 1 ≤ u → ∀ c r, Lib.decDigits u = c :: r → c ≠ 48 := by
  induction n with
  | zero => intro u hu h1; omega
  | succ n ih =>
    intro u hu h1 c r hc
    by_cases h : u < 10
    · rw [Lib.decDigits_one h] at hc
      injection hc with hc _
      intro e
      have := of_nat_dig u h
      rw [hc, e] at this
      have h48 : (48 : UInt8).toNat = 48 := rfl
      omega
    · rw [dec_step h] at hc
      cases hd : Lib.decDigits (u / 10) with
      | nil => exact absurd hd (dec_ne _)
      | cons a b =>
        rw [hd, List.cons_append] at hc
        injection hc with hc _
        subst hc
        exact ih (u / 10) (by omega) (by omega) a b hd
/-- The value of digits, one behind the other. -/
def stD (a : Nat) (c : UInt8) : Nat := a * 10 + (c.toNat - 48)
def valD (acc : Nat) (l : List UInt8) : Nat := l.foldl stD acc
theorem valD_nil (acc : Nat) : valD acc [] = acc := rfl
theorem valD_cons (acc : Nat) (c : UInt8) (r : List UInt8) : valD acc (c :: r) = valD (acc * 10 + (c.toNat - 48)) r := List.foldl_cons ..
theorem valD_app (acc : Nat) (a b : List UInt8) : valD acc (a ++ b) = valD (valD acc a) b := List.foldl_append
theorem valD_ge (l : List UInt8) : ∀ acc : Nat, acc ≤ valD acc l := by
  induction l with
  | nil => intro acc; exact Nat.le_refl _
  | cons c r ih =>
    intro acc
    rw [valD_cons]
    exact Nat.le_trans (by omega) (ih _)
theorem valD_dec (n : Nat) : ∀ u, u ≤ n → valD 0 (Lib.decDigits u) = u := by
  induction n with
  | zero =>
    intro u hu
    have : u = 0 := by omega
    subst this
    rw [Lib.decDigits_one (by omega)]
    decide
  | succ n ih =>
    intro u hu
    by_cases h : u < 10
    · rw [Lib.decDigits_one h]
      simp only [valD_cons, valD_nil, of_nat_dig u h]
      omega
    · rw [dec_step h, valD_app, ih (u / 10) (by omega)]
      simp only [valD_cons, valD_nil, of_nat_dig _ (Nat.mod_lt u (by omega : 0 < 10))]
      omega
/-- Digits without a nought ahead are the text of their value. -/
theorem dec_valD : ∀ (n : Nat) (l : List UInt8), l.length ≤ n → l ≠ [] → (∀ c ∈ l, dgB c = true) → (∀ c r, l = c :: r → c ≠ 48) → Lib.decDigits (valD 0 l) = l ∧ 1 ≤ valD 0 l := by
  intro n
  induction n with
  | zero => intro l hl hn; exact absurd (List.length_eq_zero_iff.1 (by omega)) hn
  | succ n ih =>
    intro l hl hn hd h0
    obtain ⟨q, c, rfl⟩ : ∃ q c, l = q ++ [c] := ⟨l.dropLast, l.getLast hn, (List.dropLast_concat_getLast hn).symm⟩
    have hc : dgB c = true := hd c (by simp)
    simp only [dgB, Bool.and_eq_true, decide_eq_true_eq] at hc
    have hce : UInt8.ofNat (48 + (c.toNat - 48)) = c := by
      rw [← UInt8.toNat_inj, of_nat_dig _ (by omega)]
      omega
    rw [valD_app]
    cases q with
    | nil =>
      have h1 : c ≠ 48 := h0 c [] rfl
      have h2 : c.toNat ≠ 48 := fun e => h1 (UInt8.toNat_inj.1 e)
      simp only [valD_cons, valD_nil, List.nil_append]
      rw [Lib.decDigits_one (by omega)]
      refine ⟨?_, by omega⟩
      rw [show 0 * 10 + (c.toNat - 48) = c.toNat - 48 by omega, hce]
    | cons a r =>
      obtain ⟨e1, e2⟩ := ih (a :: r) (by simp at hl ⊢; omega) (by simp) (fun x hx => hd x (by simp at hx ⊢; rcases hx with h | h <;> simp [h])) (fun x y h => h0 x (y ++ [c]) (by rw [h]; rfl))
      obtain ⟨v, hv⟩ : ∃ v, valD 0 (a :: r) = v := ⟨_, rfl⟩
      rw [hv] at e1 e2 ⊢
      simp only [valD_cons, valD_nil]
      rw [dec_step (by omega), show (v * 10 + (c.toNat - 48)) / 10 = v by omega, show (v * 10 + (c.toNat - 48)) % 10 = c.toNat - 48 by omega, e1, hce]
      exact ⟨rfl, by omega⟩
theorem parse_ok_val : ∀ (l : List UInt8) (acc u : Nat), Lib.parseUint10 acc l = .ok u → (∀ c ∈ l, dgB c = true) ∧ valD acc l = u
  | [], acc, u, h => by
    simp only [Lib.parseUint10] at h
    injection h with h
    exact ⟨(fun c hc => by cases hc), h⟩
  | c :: r, acc, u, h => by
    simp only [Lib.parseUint10] at h
    split at h
    · rename_i hc
      split at h
      · cases h
      · split at h
        · cases h
        · obtain ⟨h1, h2⟩ := parse_ok_val r _ u h
          refine ⟨fun x hx => ?_, h2⟩
          rw [List.mem_cons] at hx
          rcases hx with rfl | hx
          · simp [dgB, hc.1, hc.2]
          · exact h1 x hx
    · cases h
theorem parse_of_val : ∀ (l : List UInt8) (acc : Nat), (∀ c ∈ l, dgB c = true) → valD acc l < 1000000 → Lib.parseUint10 acc l = .ok (valD acc l)
  | [], _, _, _ => rfl
  | c :: r, acc, h, hv => by
    have hc := h c (by simp)
    simp only [dgB, Bool.and_eq_true, decide_eq_true_eq] at hc
    have hg := valD_ge r (acc * 10 + (c.toNat - 48))
    rw [valD_cons] at hv ⊢
    simp only [Lib.parseUint10]
    rw [if_pos hc, if_neg (by omega), if_neg (by omega)]
    exact parse_of_val r _ (fun x hx => h x (by simp [hx])) hv
/-- What Atoi reads of a text that begins with a digit, but not with a nought. -/
theorem atoi_first {c : UInt8} {r : List UInt8} {v : Int} (hc : dgB c = true) (h0 : c ≠ 48) (h : Lib.atoiAll (c :: r) = .ok v) : 1 ≤ v ∧ digI v = c :: r ∧ (∀ x ∈ c :: r, dgB x = true) := by
  simp only [dgB, Bool.and_eq_true, decide_eq_true_eq] at hc
  unfold Lib.atoiAll at h
  simp only at h
  rw [if_neg (by omega)] at h
  unfold Lib.parseMag at h
  rw [if_neg (by simp)] at h
  cases hp : Lib.parseUint10 0 (c :: r) with
  | «syntax» => rw [hp] at h; cases h
  | range => rw [hp] at h; cases h
  | ok u =>
    obtain ⟨h1, h2⟩ := parse_ok_val _ _ _ hp
    obtain ⟨e1, e2⟩ := dec_valD _ (c :: r) (Nat.le_refl _) (by simp) h1 (fun x y e => by injection e with e _; exact e ▸ h0)
    rw [h2] at e1 e2
    rw [hp] at h
    simp only at h
    split at h
    · cases h
    · rw [if_neg (by omega), if_neg (by omega)] at h
      injection h with h
      subst h
      exact ⟨by omega, by unfold digI; rw [Int.toNat_natCast]; exact e1, h1⟩
theorem atoi_digI {v : Int} (h1 : 1 ≤ v) (h2 : v ≤ 999) : Lib.atoiAll (digI v) = .ok v := by
  obtain ⟨u, rfl⟩ : ∃ u : Nat, v = u := ⟨v.toNat, by omega⟩
  unfold digI
  rw [Int.toNat_natCast]
  have hv := valD_dec u u (Nat.le_refl _)
  have hd := dec_all u u (Nat.le_refl _)
  have hp := parse_of_val (Lib.decDigits u) 0 hd (by omega)
  rw [hv] at hp
  cases hl : Lib.decDigits u with
  | nil => exact absurd hl (dec_ne u)
  | cons c r =>
    rw [hl] at hp hd
    have hc := hd c (by simp)
    simp only [dgB, Bool.and_eq_true, decide_eq_true_eq] at hc
    unfold Lib.atoiAll
    simp only
    rw [if_neg (by omega)]
    unfold Lib.parseMag
    rw [if_neg (by simp), hp]
    simp only
    rw [if_neg (by omega), if_neg (by omega), if_neg (by omega)]
theorem digI_head {v : Int} (h1 : 1 ≤ v) : ∃ c r, digI v = c :: r ∧ dgB c = true ∧ c ≠ 48 := by
  unfold digI
  cases hl : Lib.decDigits v.toNat with
  | nil => exact absurd hl (dec_ne _)
  | cons c r => exact ⟨c, r, rfl, dec_all _ _ (Nat.le_refl _) c (by rw [hl]; simp), dec_head _ _ (Nat.le_refl _) (by omega) c r hl⟩
theorem digI_all (v : Int) : ∀ c ∈ digI v, dgB c = true := dec_all _ _ (Nat.le_refl _)
theorem dgB_46 : dgB 46 = false := by decide
theorem digI_46 (v : Int) : (46 : UInt8) ∉ digI v := fun h => by
  have := digI_all v _ h
  rw [dgB_46] at this
  cases this
end Go.Proofs.YtbjencibkkhbhaaGreatDoor
