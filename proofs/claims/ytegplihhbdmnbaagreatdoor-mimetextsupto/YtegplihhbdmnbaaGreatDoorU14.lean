/- All and Get of package header; the document's Get; rows of texts that are the same. -/
/- Parts of a message: plain mathematics. -/
import Derived.Test.YtegplihhbdmnbaaGreatDoorU13
import Derived.Test.YtegplihhbdmnbaaGreatDoorU02
import Derived.Lib.ItoaNum
import Derived.Lib.Join
section
namespace Go.Proofs.YtegplihhbdmnbaaGreatDoor
open Go.RowKit Go.Shelf
/-- A field that came in: its numbers are any. -/
structure FI where
  name : List UInt8
  value : List UInt8
  a : Int
  e : Int
/-- A slice that reads as these fields. -/
def FA (w : World) (v : Value) (xs : List FI) : Prop := ∃ A cap, v = .slice A xs.length cap ∧ ∀ i (hi : i < xs.length), ∃ g o, A = some ⟨g, o, none⟩ ∧ g < w.heap.size ∧
  w.cell? ⟨g, o + i * 4, none⟩ = some (.string ⟨xs[i].name.toArray⟩) ∧ w.cell? ⟨g, o + i * 4 + 1, none⟩ = some (.string ⟨xs[i].value.toArray⟩) ∧ w.cell? ⟨g, o + i * 4 + 2, none⟩ = some (.int .i64 xs[i].a) ∧ w.cell? ⟨g, o + i * 4 + 3, none⟩ = some (.int .i64 xs[i].e)
theorem FA.below {w w' : World} {v : Value} {xs : List FI} (h : FA w v xs) (hb : Below w.heap.size w w') : FA w' v xs := by
  obtain ⟨A, c, rfl, h⟩ := h
  refine ⟨A, c, rfl, fun i hi => ?_⟩
  obtain ⟨g, o, e, hg, c0, c1, c2, c3⟩ := h i hi
  exact ⟨g, o, e, Nat.lt_of_lt_of_le hg hb.size, (hb.cell (p := ⟨g, _, none⟩) hg).trans c0, (hb.cell (p := ⟨g, _, none⟩) hg).trans c1, (hb.cell (p := ⟨g, _, none⟩) hg).trans c2, (hb.cell (p := ⟨g, _, none⟩) hg).trans c3⟩
/-- The values of a name. -/
def valsOf (n : List UInt8) (xs : List FI) : List (List UInt8) := (xs.filter fun x => sameT x.name n).map FI.value
theorem vals_yes {n : List UInt8} {xs : List FI} {i : Nat} (hi : i < xs.length) (h : sameT xs[i].name n = true) : valsOf n (xs.take (i + 1)) = valsOf n (xs.take i) ++ [xs[i].value] := by
  unfold valsOf
  rw [List.take_succ_eq_append_getElem hi, List.filter_append, List.map_append]
  simp [h]
theorem vals_no {n : List UInt8} {xs : List FI} {i : Nat} (hi : i < xs.length) (h : sameT xs[i].name n = false) : valsOf n (xs.take (i + 1)) = valsOf n (xs.take i) := by
  unfold valsOf
  rw [List.take_succ_eq_append_getElem hi, List.filter_append, List.map_append]
  simp [h]
theorem vals_len (n : List UInt8) (xs : List FI) (i : Nat) : (valsOf n (xs.take i)).length ≤ xs.length := by
  unfold valsOf
  rw [List.length_map]
  refine Nat.le_trans (List.length_filter_le _ _) ?_
  rw [List.length_take]
  omega
set_option maxRecDepth 20000 in
set_option maxHeartbeats 1000000 in
theorem get_any (n : List UInt8) (v : Value) (xs : List FI) (w : World) (hv : FA w v xs) (hl : xs.length ≤ 1000) (hn : n.length ≤ 1000000) (hx : ∀ x ∈ xs, x.name.length ≤ 1000000) :
    Calls Tryz.prog 112 #[v, .string ⟨n.toArray⟩] w fun e w' => e = .returned (.tuple #[.string ⟨((valsOf n xs).head?.getD []).toArray⟩, .bool (!(valsOf n xs).isEmpty)]) ∧ Below w.heap.size w w' := by
  obtain ⟨A, c, rfl, hr⟩ := hv
  have HR := hide hr
  have HX := hide hx
  clear hr hx
  go_enter Tryz.func112, Tryz.ntmps112
  go_wp2
  go_loopw [10] (fun v10 wr => ∃ k : Nat, k ≤ xs.length ∧ v10 = .int .i64 k ∧ Hid (valsOf n (xs.take k) = []) ∧ Hid (Below w.heap.size w wr)) (fun v10 _ => xs.length - (intOf v10).toNat)
  case atStart => exact ⟨0, Nat.zero_le _, rfl, rfl, Below.refl _ _⟩
  case round =>
    obtain ⟨k, hk, rfl, HT, HB⟩ := hrel
    have hbs := HB.out.size
    by_cases hlt : k < xs.length
    · obtain ⟨g, o, rfl, hgl, q0, q1, q2, q3⟩ := HR.out k hlt
      have hlt' : (k : Int) < xs.length := by omega
      have hnl := HX.out _ (List.getElem_mem hlt)
      replace q0 := (HB.out.cell (p := ⟨g, o + k * 4, none⟩) hgl).trans q0
      replace q1 := (HB.out.cell (p := ⟨g, o + k * 4 + 1, none⟩) hgl).trans q1
      replace q2 := (HB.out.cell (p := ⟨g, o + k * 4 + 2, none⟩) hgl).trans q2
      replace q3 := (HB.out.cell (p := ⟨g, o + k * 4 + 3, none⟩) hgl).trans q3
      have HS := hide (fun w => hsame_any xs[k].name n w (by omega) (by omega))
      cases hs : sameT xs[k].name n with
      | true =>
        have HV : Hid ((valsOf n xs).head?.getD [] = xs[k].value ∧ (valsOf n xs).isEmpty = false) := by
          have h1 := vals_yes hlt hs
          rw [HT.out] at h1
          have h2 : valsOf n xs = valsOf n (xs.take (k + 1)) ++ valsOf n (xs.drop (k + 1)) := by
            unfold valsOf
            rw [← List.map_append, ← List.filter_append, List.take_append_drop]
          rw [h2, h1]
          exact ⟨rfl, rfl⟩
        rw [hs] at HS
        generalize xs[k] = p at *
        obtain ⟨pn, pv, pa, pe⟩ := p
        dsimp only at *
        clear hs HT
        go_wp2_with (first
          | (go_at_call 42; refine (HS.out _).mono ?_; rintro e w2 ⟨rfl, hb2⟩
             have hq2 := ((Blk.new wr #[.string ⟨pn.toArray⟩, .string ⟨pv.toArray⟩, .int .i64 pa, .int .i64 pe] 180).below hb2 (by simp)).cell 1
             have HB2 := hide (HB.out.trans ((((Below.refl wr.heap.size wr).alloc (Nat.le_refl _) _).trans (hb2.mono (by simp))).mono HB.out.size))
             clear hb2))
        exact bodyPost_ret (v := .tuple #[.string ⟨pv.toArray⟩, .bool true]) (by simp [results, Tryz.results112, go_sem]) rfl ⟨by rw [HV.out.1, HV.out.2]; rfl, HB2.out⟩
      | false =>
        have HV : Hid (valsOf n (xs.take (k + 1)) = []) := by
          show _ = _
          rw [vals_no hlt hs, HT.out]
        rw [hs] at HS
        generalize xs[k] = p at *
        obtain ⟨pn, pv, pa, pe⟩ := p
        dsimp only at *
        clear hs HT
        go_wp2_with (first
          | (go_at_call 42; refine (HS.out _).mono ?_; rintro e w2 ⟨rfl, hb2⟩
             have HB2 := hide (HB.out.trans ((((Below.refl wr.heap.size wr).alloc (Nat.le_refl _) _).trans (hb2.mono (by simp))).mono HB.out.size))
             clear hb2))
        go_roundw
        case rel => exact ⟨k + 1, by omega, by go_num, HV, HB2⟩
        case measure => simp [intOf]; omega
    · obtain rfl : k = xs.length := by omega
      have HV : Hid (valsOf n xs = []) := by
        have := HT.out
        rw [List.take_length] at this
        exact this
      go_wp2
      exact bodyPost_ret (v := .tuple #[.string ⟨#[]⟩, .bool false]) (by simp [results, Tryz.results112, go_sem]) rfl ⟨by rw [HV.out]; rfl, HB.out⟩
/-- A slice that reads as these texts. -/
def TX (w : World) (v : Value) (xs : List (List UInt8)) : Prop := ∃ A cap, v = .slice A xs.length cap ∧ ∀ i (hi : i < xs.length), ∃ g o, A = some ⟨g, o, none⟩ ∧ g < w.heap.size ∧ w.cell? ⟨g, o + i, none⟩ = some (.string ⟨xs[i].toArray⟩)
theorem TX.below {w w' : World} {v : Value} {xs : List (List UInt8)} (h : TX w v xs) (hb : Below w.heap.size w w') : TX w' v xs := by
  obtain ⟨A, c, rfl, h⟩ := h
  refine ⟨A, c, rfl, fun i hi => ?_⟩
  obtain ⟨g, o, e, hg, c0⟩ := h i hi
  exact ⟨g, o, e, Nat.lt_of_lt_of_le hg hb.size, (hb.cell (p := ⟨g, _, none⟩) hg).trans c0⟩
theorem Texts.tx {w wr : World} {v : Value} {xs : List (List UInt8)} (h : Texts w wr v xs) : TX wr v xs := by
  obtain ⟨_, G, hr, _⟩ := h
  obtain ⟨A, c, rfl⟩ := hr.form
  refine ⟨A, c, rfl, fun i hi => ?_⟩
  rcases hr.2 with ⟨_, h0, _⟩ | ⟨g, o, cap, _, e, _, _, h3, h4, _⟩
  · omega
  · exact ⟨g, o, by cases e; rfl, h3, h4 i _ (by rw [List.getElem?_map, List.getElem?_eq_getElem hi]; rfl)⟩
set_option maxHeartbeats 1000000 in
theorem tsame_yes {v1 v2 : Value} {xs : List (List UInt8)} (w : World) (h1 : TX w v1 xs) (h2 : TX w v2 xs) (hl : xs.length ≤ 1000000) :
    Calls Tryz.prog 28 #[v1, v2] w fun e w' => e = .returned (.bool true) ∧ ∃ n, w' = w.drewN n := by
  obtain ⟨A1, c1, rfl, k1⟩ := h1
  obtain ⟨A2, c2, rfl, k2⟩ := h2
  have H1 := hide k1
  have H2 := hide k2
  clear k1 k2
  go_enter Tryz.func28, Tryz.ntmps28
  go_wp2
  go_loopw [13] (fun i wr => ∃ k : Nat, k ≤ xs.length ∧ i = .int .i64 k ∧ ∃ n, wr = w.drewN n) (fun i _ => xs.length - (intOf i).toNat)
  case atStart => exact ⟨0, Nat.zero_le _, rfl, 0, rfl⟩
  case round =>
    obtain ⟨k, hk, rfl, n, rfl⟩ := hrel
    by_cases hlt : k < xs.length
    · obtain ⟨g, o, rfl, _, q1⟩ := H1.out k hlt
      obtain ⟨g2, o2, rfl, _, r1⟩ := H2.out k hlt
      have hlt' : (k : Int) < xs.length := by omega
      generalize xs[k] = p at *
      go_wp2
      go_quiet (fail)
      go_wp2
      go_roundw
      case rel => exact ⟨k + 1, by omega, by go_num, n + nq, by simp⟩
      case measure => simp [intOf]; omega
    · obtain rfl : k = xs.length := by omega
      go_wp2
      go_ret
      exact ⟨rfl, n, rfl⟩
end Go.Proofs.YtegplihhbdmnbaaGreatDoor

end
section
namespace Go.Proofs.YtegplihhbdmnbaaGreatDoor
open Go.RowKit
/-- What a part has beside its kids. -/
structure PH where
  type : List UInt8
  sub : List UInt8
  params : List Pm
  id : List UInt8
  desc : List UInt8
  enc : List UInt8
  at' : Int
  body : Int
  end' : Int
  lines : Int
deriving DecidableEq
inductive Part where
  | mk (h : PH) (kids : List Part) : Part
def Part.h : Part → PH
  | .mk h _ => h
def Part.kids : Part → List Part
  | .mk _ ks => ks
/-- A line's text, without blanks at its end. -/
def trimE (x : List UInt8) : List UInt8 := Lib.trimRightS (txt x) [32, 9]
def dlm (bd : List UInt8) : List UInt8 := 45 :: 45 :: bd
def clo (bd : List UInt8) : List UInt8 := (45 :: 45 :: bd) ++ [45, 45]
theorem clo_ne (bd : List UInt8) : clo bd ≠ dlm bd := by
  intro h
  have := congrArg List.length h
  simp [clo, dlm] at this
/-- The bytes from a to b. -/
def seg (m : List UInt8) (a b : Nat) : List UInt8 := (m.drop a).take (b - a)
/-- A kid from k that a delimiter at a ends. -/
def kidE (m : List UInt8) (a k : Nat) : Nat × Nat := (k, k + (txt (seg m k a)).length)
/-- Where the kids stand: the lines left, where the first of them begins, the kid under way. -/
def kidsP (m bd : List UInt8) (e : Nat) : List (List UInt8) → Nat → Option Nat → List (Nat × Nat)
  | [], _, none => []
  | [], _, some k => [(k, e)]
  | x :: r, a, cur =>
    if trimE x = dlm bd then (cur.map (kidE m a)).toList ++ kidsP m bd e r (a + x.length) (some (a + x.length))
    else if trimE x = clo bd then (cur.map (kidE m a)).toList
    else kidsP m bd e r (a + x.length) cur
theorem seg_len (m : List UInt8) (a b : Nat) (hb : b ≤ m.length) : (seg m a b).length = b - a := by
  unfold seg
  rw [List.length_take, List.length_drop]
  omega
theorem kidE_le (m : List UInt8) (a k : Nat) (hk : k ≤ a) : (kidE m a k).1 = k ∧ k ≤ (kidE m a k).2 ∧ (kidE m a k).2 ≤ a := by
  unfold kidE
  have h1 := txt_len (seg m k a)
  have h2 : (seg m k a).length ≤ a - k := by
    unfold seg
    rw [List.length_take]
    omega
  dsimp only
  omega
/-- Kids stand one behind the other, from a place on. -/
def Row' (e : Nat) : Nat → List (Nat × Nat) → Prop
  | _, [] => True
  | a, k :: r => a ≤ k.1 ∧ k.1 ≤ k.2 ∧ k.2 ≤ e ∧ Row' e k.2 r
theorem Row'.mono {e : Nat} : ∀ {a b : Nat} {l : List (Nat × Nat)}, a ≤ b → Row' e b l → Row' e a l
  | _, _, [], _, _ => trivial
  | _, _, _ :: _, h, ⟨h1, h2⟩ => ⟨Nat.le_trans h h1, h2⟩
theorem kids_row (m bd : List UInt8) (e : Nat) : ∀ (ls : List (List UInt8)) (a : Nat) (cur : Option Nat), a + ls.flatten.length = e → (∀ k, cur = some k → k ≤ a) → Row' e (cur.getD a) (kidsP m bd e ls a cur)
  | [], a, none, _, _ => trivial
  | [], a, some k, h, hk => by
    have := hk k rfl
    simp at h
    exact ⟨Nat.le_refl _, by show k ≤ e; omega, Nat.le_refl _, trivial⟩
  | x :: r, a, cur, h, hk => by
    have hx : a + x.length + r.flatten.length = e := by simpa [Nat.add_assoc] using h
    rw [kidsP]
    have ih := kids_row m bd e r (a + x.length) (some (a + x.length)) hx (fun k hk => by cases hk; exact Nat.le_refl _)
    have ih2 := kids_row m bd e r (a + x.length) cur hx (fun k hk' => by have := hk k hk'; omega)
    split
    · cases cur with
      | none => exact ih.mono (by simp)
      | some k =>
        obtain ⟨h1, h2, h3⟩ := kidE_le m a k (hk k rfl)
        exact ⟨by rw [h1]; exact Nat.le_refl _, by rw [h1]; exact h2, by omega, ih.mono (by simp; omega)⟩
    · split
      · cases cur with
        | none => trivial
        | some k =>
          obtain ⟨h1, h2, h3⟩ := kidE_le m a k (hk k rfl)
          exact ⟨by rw [h1]; exact Nat.le_refl _, by rw [h1]; exact h2, by omega, trivial⟩
      · cases cur with
        | none => exact ih2.mono (by simp)
        | some k => exact ih2
theorem Row'.take {e : Nat} : ∀ {a : Nat} {l : List (Nat × Nat)} (n : Nat), Row' e a l → Row' e a (l.take n)
  | _, _, 0, _ => trivial
  | _, [], _ + 1, _ => trivial
  | _, _ :: _, n + 1, ⟨h1, h2, h3, h4⟩ => ⟨h1, h2, h3, h4.take n⟩
theorem Row'.all {e : Nat} : ∀ {a : Nat} {l : List (Nat × Nat)}, Row' e a l → ∀ k ∈ l, a ≤ k.1 ∧ k.1 ≤ k.2 ∧ k.2 ≤ e
  | _, [], _, k, hk => by cases hk
  | a, x :: r, ⟨h1, h2, h3, h4⟩, k, hk => by
    rcases List.mem_cons.1 hk with rfl | hk
    · exact ⟨h1, h2, h3⟩
    · have := h4.all k hk
      omega
def Fd.fi (f : Fd) : FI := ⟨f.name, f.value, f.from', f.to⟩
/-- The fields that a text has, none where there are too many. -/
def fdsOf (s : List UInt8) : List Fd := if (hd (splitS s) 0).1.length ≤ 200 then (hd (splitS s) 0).1 else []
/-- The first value of a name. -/
def firstV (n : List UInt8) (fs : List Fd) : List UInt8 := (valsOf n (fs.map Fd.fi)).head?.getD []
def nCT : List UInt8 := [67, 111, 110, 116, 101, 110, 116, 45, 84, 121, 112, 101]
def nCI : List UInt8 := [67, 111, 110, 116, 101, 110, 116, 45, 73, 68]
def nCD : List UInt8 := [67, 111, 110, 116, 101, 110, 116, 45, 68, 101, 115, 99, 114, 105, 112, 116, 105, 111, 110]
def nCE : List UInt8 := [67, 111, 110, 116, 101, 110, 116, 45, 84, 114, 97, 110, 115, 102, 101, 114, 45, 69, 110, 99, 111, 100, 105, 110, 103]
def tText : List UInt8 := [116, 101, 120, 116]
def tPlain : List UInt8 := [112, 108, 97, 105, 110]
def t7bit : List UInt8 := [55, 98, 105, 116]
def tMulti : List UInt8 := [109, 117, 108, 116, 105, 112, 97, 114, 116]
def tApp : List UInt8 := [97, 112, 112, 108, 105, 99, 97, 116, 105, 111, 110]
def tOct : List UInt8 := [111, 99, 116, 101, 116, 45, 115, 116, 114, 101, 97, 109]
def tBound : List UInt8 := [98, 111, 117, 110, 100, 97, 114, 121]
def encV (v : List UInt8) : List UInt8 := if v = [] then t7bit else v.map lowB
/-- What a content type's text means for a part. -/
def typV (v : List UInt8) : List UInt8 × List UInt8 × List Pm := (typeO v).getD (tText, tPlain, [])
/-- Where the body of the part from a to b begins. -/
def bodyN (m : List UInt8) (a b : Nat) : Nat := a + bodyL (splitS (seg m a b)) 0
/-- What a part's own header and lines say of it. -/
def baseP (m : List UInt8) (a b : Nat) : PH :=
  let fs := fdsOf (seg m a b)
  let t := typV (firstV nCT fs)
  { type := t.1, sub := t.2.1, params := t.2.2, id := firstV nCI fs, desc := firstV nCD fs, enc := encV (firstV nCE fs), at' := (a : Int), body := (bodyN m a b : Int), end' := (b : Int), lines := ((splitS (seg m (bodyN m a b) b)).length : Int) }
/-- The first boundary. -/
def bdOf (ps : List Pm) : Option (List UInt8) := (ps.find? fun p => p.name == tBound).map Pm.value
def bdOk (bd : List UInt8) : Bool := decide (1 ≤ bd.length) && decide (bd.length ≤ 70)
def placesOf (m : List UInt8) (a b : Nat) : List (Nat × Nat) := match bdOf (baseP m a b).params with
  | some bd => if bdOk bd then (kidsP m bd b (splitS (seg m (bodyN m a b) b)) (bodyN m a b) none).take 100 else []
  | none => []
def octP (h : PH) : PH := { h with type := tApp, sub := tOct, params := [] }
def withK (h : PH) (ks : List Part) : Part := if ks.isEmpty then .mk (octP h) [] else .mk h ks
/-- The part from a to b, in which so many may be in one another. -/
def parseP : Nat → List UInt8 → Nat → Nat → Part
  | 0, m, a, b => if (baseP m a b).type = tMulti then withK (baseP m a b) [] else .mk (baseP m a b) []
  | d + 1, m, a, b => if (baseP m a b).type = tMulti then withK (baseP m a b) ((placesOf m a b).map fun k => parseP d m k.1 k.2) else .mk (baseP m a b) []
theorem bodyL_le : ∀ (ls : List (List UInt8)) (a : Nat), a ≤ bodyL ls a ∧ bodyL ls a ≤ a + ls.flatten.length
  | [], a => by simp [bodyL]
  | x :: r, a => by
    rw [bodyL, List.flatten_cons, List.length_append]
    have := bodyL_le r (a + x.length)
    split <;> omega
theorem bodyN_le (m : List UInt8) (a b : Nat) (h : a ≤ b) (hb : b ≤ m.length) : a ≤ bodyN m a b ∧ bodyN m a b ≤ b := by
  unfold bodyN
  have h1 := bodyL_le (splitS (seg m a b)) 0
  rw [splitS_flat, seg_len m a b hb] at h1
  omega
theorem places_row (m : List UInt8) (a b : Nat) (h : a ≤ b) (hb : b ≤ m.length) : Row' b (bodyN m a b) (placesOf m a b) ∧ (placesOf m a b).length ≤ 100 := by
  obtain ⟨h1, h2⟩ := bodyN_le m a b h hb
  unfold placesOf
  split
  · split
    · refine ⟨Row'.take 100 ?_, by rw [List.length_take]; omega⟩
      have hx : bodyN m a b + (splitS (seg m (bodyN m a b) b)).flatten.length = b := by
        rw [splitS_flat, seg_len m _ b hb]
        omega
      exact kids_row m _ b _ (bodyN m a b) none hx (fun k hk => by cases hk)
    · exact ⟨trivial, by simp⟩
  · exact ⟨trivial, by simp⟩
/-- What can be seen. -/
def prB (c : UInt8) : Bool := decide (32 ≤ c.toNat) && decide (c.toNat ≤ 126)
def escL (s : List UInt8) : List UInt8 := s.flatMap fun c => if c = 34 ∨ c = 92 then [92, c] else [c]
/-- A text quoted for IMAP. -/
def quoI (s : List UInt8) : List UInt8 := if s.all prB then 34 :: (escL s ++ [34]) else 123 :: (Lib.decDigits s.length ++ (125 :: 13 :: 10 :: s))
def tNil : List UInt8 := [78, 73, 76]
def nilI (s : List UInt8) : List UInt8 := if s = [] then tNil else quoI s
def parI (ps : List Pm) : List UInt8 := if ps = [] then tNil else 40 :: (Lib.join (ps.flatMap fun p => [quoI p.name, quoI p.value]) [32] ++ [41])
def leafW (h : PH) : List (List UInt8) := [quoI h.type, quoI h.sub, parI h.params, nilI h.id, nilI h.desc, quoI h.enc, Lib.decDigits (h.end' - h.body).toNat] ++ if h.type = tText then [Lib.decDigits h.lines.toNat] else []
mutual
/-- A part's structure, as IMAP tells it. -/
def textP : Part → List UInt8
  | .mk h ks => if ks.isEmpty then 40 :: (Lib.join (leafW h) [32] ++ [41]) else 40 :: (textL ks ++ (32 :: (quoI h.sub ++ [41])))
def textL : List Part → List UInt8
  | [] => []
  | k :: r => textP k ++ textL r
end
mutual
def countP : Part → Nat
  | .mk _ ks => 1 + countL ks
def countL : List Part → Nat
  | [] => 0
  | k :: r => countP k + countL r
end
theorem textL_app : ∀ (a b : List Part), textL (a ++ b) = textL a ++ textL b
  | [], b => by simp [textL]
  | k :: r, b => by simp [textL, textL_app r b]
theorem countL_app : ∀ (a b : List Part), countL (a ++ b) = countL a + countL b
  | [], b => by simp [countL]
  | k :: r, b => by simp [countL, countL_app r b]; omega
end Go.Proofs.YtegplihhbdmnbaaGreatDoor

end
