/- Parts of a message: plain mathematics. -/
import Derived.Test.YtegplihhbdmnbaaGreatDoorU21
import Derived.Test.YtegplihhbdmnbaaGreatDoorU31
import Derived.Lib.ItoaNum
import Derived.Lib.Join
namespace Go.Proofs.YtegplihhbdmnbaaGreatDoor
open Go.RowKit
/-- What a part has beside its kids. -/
structure PH where
  type : List UInt8
  sub : List UInt8
  params : List Pm
  id : List UInt8
  desc : List UInt8
  enc : List UInt8
  at' : Int
  body : Int
  end' : Int
  lines : Int
deriving DecidableEq
inductive Part where
  | mk (h : PH) (kids : List Part) : Part
def Part.h : Part → PH
  | .mk h _ => h
def Part.kids : Part → List Part
  | .mk _ ks => ks
/-- A line's text, without blanks at its end. -/
def trimE (x : List UInt8) : List UInt8 := Lib.trimRightS (txt x) [32, 9]
def dlm (bd : List UInt8) : List UInt8 := 45 :: 45 :: bd
def clo (bd : List UInt8) : List UInt8 := (45 :: 45 :: bd) ++ [45, 45]
theorem clo_ne (bd : List UInt8) : clo bd ≠ dlm bd := by
  intro h
  have := congrArg List.length h
  simp [clo, dlm] at this
/-- The bytes from a to b. -/
def seg (m : List UInt8) (a b : Nat) : List UInt8 := (m.drop a).take (b - a)
/-- A kid from k that a delimiter at a ends. -/
def kidE (m : List UInt8) (a k : Nat) : Nat × Nat := (k, k + (txt (seg m k a)).length)
/-- Where the kids stand: the lines left, where the first of them begins, the kid under way. -/
def kidsP (m bd : List UInt8) (e : Nat) : List (List UInt8) → Nat → Option Nat → List (Nat × Nat)
  | [], _, none => []
  | [], _, some k => [(k, e)]
  | x :: r, a, cur =>
    if trimE x = dlm bd then (cur.map (kidE m a)).toList ++ kidsP m bd e r (a + x.length) (some (a + x.length))
    else if trimE x = clo bd then (cur.map (kidE m a)).toList
    else kidsP m bd e r (a + x.length) cur
theorem seg_len (m : List UInt8) (a b : Nat) (hb : b ≤ m.length) : (seg m a b).length = b - a := by
  unfold seg
  rw [List.length_take, List.length_drop]
  omega
theorem kidE_le (m : List UInt8) (a k : Nat) (hk : k ≤ a) : (kidE m a k).1 = k ∧ k ≤ (kidE m a k).2 ∧ (kidE m a k).2 ≤ a := by
  unfold kidE
  have h1 := txt_len (seg m k a)
  have h2 : (seg m k a).length ≤ a - k := by
    unfold seg
    rw [List.length_take]
    omega
  dsimp only
  omega
/-- Kids stand one behind the other, from a place on. -/
def Row' (e : Nat) : Nat → List (Nat × Nat) → Prop
  | _, [] => True
  | a, k :: r => a ≤ k.1 ∧ k.1 ≤ k.2 ∧ k.2 ≤ e ∧ Row' e k.2 r
theorem Row'.mono {e : Nat} : ∀ {a b : Nat} {l : List (Nat × Nat)}, a ≤ b → Row' e b l → Row' e a l
  | _, _, [], _, _ => trivial
  | _, _, _ :: _, h, ⟨h1, h2⟩ => ⟨Nat.le_trans h h1, h2⟩
theorem kids_row (m bd : List UInt8) (e : Nat) : ∀ (ls : List (List UInt8)) (a : Nat) (cur : Option Nat), a + ls.flatten.length = e → (∀ k, cur = some k → k ≤ a) → Row' e (cur.getD a) (kidsP m bd e ls a cur)
  | [], a, none, _, _ => trivial
  | [], a, some k, h, hk => by
    have := hk k rfl
    simp at h
    exact ⟨Nat.le_refl _, by show k ≤ e; omega, Nat.le_refl _, trivial⟩
  | x :: r, a, cur, h, hk => by
    have hx : a + x.length + r.flatten.length = e := by simpa [Nat.add_assoc] using h
    rw [kidsP]
    have ih := kids_row m bd e r (a + x.length) (some (a + x.length)) hx (fun k hk => by cases hk; exact Nat.le_refl _)
    have ih2 := kids_row m bd e r (a + x.length) cur hx (fun k hk' => by have := hk k hk'; omega)
    split
    · cases cur with
      | none => exact ih.mono (by simp)
      | some k =>
        obtain ⟨h1, h2, h3⟩ := kidE_le m a k (hk k rfl)
        exact ⟨by rw [h1]; exact Nat.le_refl _, by rw [h1]; exact h2, by omega, ih.mono (by simp; omega)⟩
    · split
      · cases cur with
        | none => trivial
        | some k =>
          obtain ⟨h1, h2, h3⟩ := kidE_le m a k (hk k rfl)
          exact ⟨by rw [h1]; exact Nat.le_refl _, by rw [h1]; exact h2, by omega, trivial⟩
      · cases cur with
        | none => exact ih2.mono (by simp)
        | some k => exact ih2
theorem Row'.take {e : Nat} : ∀ {a : Nat} {l : List (Nat × Nat)} (n : Nat), Row' e a l → Row' e a (l.take n)
  | _, _, 0, _ => trivial
  | _, [], _ + 1, _ => trivial
  | _, _ :: _, n + 1, ⟨h1, h2, h3, h4⟩ => ⟨h1, h2, h3, h4.take n⟩
theorem Row'.all {e : Nat} : ∀ {a : Nat} {l : List (Nat × Nat)}, Row' e a l → ∀ k ∈ l, a ≤ k.1 ∧ k.1 ≤ k.2 ∧ k.2 ≤ e
  | _, [], _, k, hk => by cases hk
  | a, x :: r, ⟨h1, h2, h3, h4⟩, k, hk => by
    rcases List.mem_cons.1 hk with rfl | hk
    · exact ⟨h1, h2, h3⟩
    · have := h4.all k hk
      omega
def Fd.fi (f : Fd) : FI := ⟨f.name, f.value, f.from', f.to⟩
/-- The fields that a text has, none where there are too many. -/
def fdsOf (s : List UInt8) : List Fd := if (hd (splitS s) 0).1.length ≤ 200 then (hd (splitS s) 0).1 else []
/-- The first value of a name. -/
def firstV (n : List UInt8) (fs : List Fd) : List UInt8 := (valsOf n (fs.map Fd.fi)).head?.getD []
def nCT : List UInt8 := [67, 111, 110, 116, 101, 110, 116, 45, 84, 121, 112, 101]
def nCI : List UInt8 := [67, 111, 110, 116, 101, 110, 116, 45, 73, 68]
def nCD : List UInt8 := [67, 111, 110, 116, 101, 110, 116, 45, 68, 101, 115, 99, 114, 105, 112, 116, 105, 111, 110]
def nCE : List UInt8 := [67, 111, 110, 116, 101, 110, 116, 45, 84, 114, 97, 110, 115, 102, 101, 114, 45, 69, 110, 99, 111, 100, 105, 110, 103]
def tText : List UInt8 := [116, 101, 120, 116]
def tPlain : List UInt8 := [112, 108, 97, 105, 110]
def t7bit : List UInt8 := [55, 98, 105, 116]
def tMulti : List UInt8 := [109, 117, 108, 116, 105, 112, 97, 114, 116]
def tApp : List UInt8 := [97, 112, 112, 108, 105, 99, 97, 116, 105, 111, 110]
def tOct : List UInt8 := [111, 99, 116, 101, 116, 45, 115, 116, 114, 101, 97, 109]
def tBound : List UInt8 := [98, 111, 117, 110, 100, 97, 114, 121]
def encV (v : List UInt8) : List UInt8 := if v = [] then t7bit else v.map lowB
/-- What a content type's text means for a part. -/
def typV (v : List UInt8) : List UInt8 × List UInt8 × List Pm := (typeO v).getD (tText, tPlain, [])
/-- Where the body of the part from a to b begins. -/
def bodyN (m : List UInt8) (a b : Nat) : Nat := a + bodyL (splitS (seg m a b)) 0
/-- What a part's own header and lines say of it. -/
def baseP (m : List UInt8) (a b : Nat) : PH :=
  let fs := fdsOf (seg m a b)
  let t := typV (firstV nCT fs)
  { type := t.1, sub := t.2.1, params := t.2.2, id := firstV nCI fs, desc := firstV nCD fs, enc := encV (firstV nCE fs), at' := (a : Int), body := (bodyN m a b : Int), end' := (b : Int), lines := ((splitS (seg m (bodyN m a b) b)).length : Int) }
/-- The first boundary. -/
def bdOf (ps : List Pm) : Option (List UInt8) := (ps.find? fun p => p.name == tBound).map Pm.value
def bdOk (bd : List UInt8) : Bool := decide (1 ≤ bd.length) && decide (bd.length ≤ 70)
def placesOf (m : List UInt8) (a b : Nat) : List (Nat × Nat) := match bdOf (baseP m a b).params with
  | some bd => if bdOk bd then (kidsP m bd b (splitS (seg m (bodyN m a b) b)) (bodyN m a b) none).take 100 else []
  | none => []
def octP (h : PH) : PH := { h with type := tApp, sub := tOct, params := [] }
def withK (h : PH) (ks : List Part) : Part := if ks.isEmpty then .mk (octP h) [] else .mk h ks
/-- The part from a to b, in which so many may be in one another. -/
def parseP : Nat → List UInt8 → Nat → Nat → Part
  | 0, m, a, b => if (baseP m a b).type = tMulti then withK (baseP m a b) [] else .mk (baseP m a b) []
  | d + 1, m, a, b => if (baseP m a b).type = tMulti then withK (baseP m a b) ((placesOf m a b).map fun k => parseP d m k.1 k.2) else .mk (baseP m a b) []
theorem bodyL_le : ∀ (ls : List (List UInt8)) (a : Nat), a ≤ bodyL ls a ∧ bodyL ls a ≤ a + ls.flatten.length
  | [], a => by simp [bodyL]
  | x :: r, a => by
    rw [bodyL, List.flatten_cons, List.length_append]
    have := bodyL_le r (a + x.length)
    split <;> omega
theorem bodyN_le (m : List UInt8) (a b : Nat) (h : a ≤ b) (hb : b ≤ m.length) : a ≤ bodyN m a b ∧ bodyN m a b ≤ b := by
  unfold bodyN
  have h1 := bodyL_le (splitS (seg m a b)) 0
  rw [splitS_flat, seg_len m a b hb] at h1
  omega
theorem places_row (m : List UInt8) (a b : Nat) (h : a ≤ b) (hb : b ≤ m.length) : Row' b (bodyN m a b) (placesOf m a b) ∧ (placesOf m a b).length ≤ 100 := by
  obtain ⟨h1, h2⟩ := bodyN_le m a b h hb
  unfold placesOf
  split
  · split
    · refine ⟨Row'.take 100 ?_, by rw [List.length_take]; omega⟩
      have hx : bodyN m a b + (splitS (seg m (bodyN m a b) b)).flatten.length = b := by
        rw [splitS_flat, seg_len m _ b hb]
        omega
      exact kids_row m _ b _ (bodyN m a b) none hx (fun k hk => by cases hk)
    · exact ⟨trivial, by simp⟩
  · exact ⟨trivial, by simp⟩
/-- What can be seen. -/
def prB (c : UInt8) : Bool := decide (32 ≤ c.toNat) && decide (c.toNat ≤ 126)
def escL (s : List UInt8) : List UInt8 := s.flatMap fun c => if c = 34 ∨ c = 92 then [92, c] else [c]
/-- A text quoted for IMAP. -/
def quoI (s : List UInt8) : List UInt8 := if s.all prB then 34 :: (escL s ++ [34]) else 123 :: (Lib.decDigits s.length ++ (125 :: 13 :: 10 :: s))
def tNil : List UInt8 := [78, 73, 76]
def nilI (s : List UInt8) : List UInt8 := if s = [] then tNil else quoI s
def parI (ps : List Pm) : List UInt8 := if ps = [] then tNil else 40 :: (Lib.join (ps.flatMap fun p => [quoI p.name, quoI p.value]) [32] ++ [41])
def leafW (h : PH) : List (List UInt8) := [quoI h.type, quoI h.sub, parI h.params, nilI h.id, nilI h.desc, quoI h.enc, Lib.decDigits (h.end' - h.body).toNat] ++ if h.type = tText then [Lib.decDigits h.lines.toNat] else []
mutual
/-- A part's structure, as IMAP tells it. -/
def textP : Part → List UInt8
  | .mk h ks => if ks.isEmpty then 40 :: (Lib.join (leafW h) [32] ++ [41]) else 40 :: (textL ks ++ (32 :: (quoI h.sub ++ [41])))
def textL : List Part → List UInt8
  | [] => []
  | k :: r => textP k ++ textL r
end
mutual
def countP : Part → Nat
  | .mk _ ks => 1 + countL ks
def countL : List Part → Nat
  | [] => 0
  | k :: r => countP k + countL r
end
theorem textL_app : ∀ (a b : List Part), textL (a ++ b) = textL a ++ textL b
  | [], b => by simp [textL]
  | k :: r, b => by simp [textL, textL_app r b]
theorem countL_app : ∀ (a b : List Part), countL (a ++ b) = countL a + countL b
  | [], b => by simp [countL]
  | k :: r, b => by simp [countL, countL_app r b]; omega
end Go.Proofs.YtegplihhbdmnbaaGreatDoor
