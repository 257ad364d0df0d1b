/- capitals of package boxes. -/
/- Rows of texts, of globs and of runs in memory; cutPart of package boxes. -/
import Derived.Test.YtelpjiiladbigaaDoorU07
import Derived.Test.YtelpjiiladbigaaDoorU09
import Derived.Test.YtelpjiiladbigaaDoorU14
import Derived.Test.YtelpjiiladbigaaDoorShelf
import Derived.Test.YtelpjiiladbigaaDoorU13
section
set_option linter.unusedSimpArgs false
set_option linter.unusedVariables false
namespace Go.Proofs.YtelpjiiladbigaaDoor
open Go.RowKit Go.Shelf
def capB (c : UInt8) : UInt8 := if 97 ≤ c.toNat ∧ c.toNat ≤ 122 then c - 32 else c
/-- The bytes behind k rounds. -/
def capK (l : List UInt8) (k : Nat) : List UInt8 := (l.take k).map capB ++ l.drop k
theorem capK_len (l : List UInt8) (k : Nat) : (capK l k).length = l.length := by
  unfold capK
  simp
  omega
theorem capK_zero (l : List UInt8) : capK l 0 = l := by simp [capK]
theorem capK_end (l : List UInt8) : capK l l.length = l.map capB := by simp [capK]
theorem capK_at (l : List UInt8) (k : Nat) (h : k < l.length) : (capK l k)[k]'(by rw [capK_len]; exact h) = l[k] := by
  unfold capK
  rw [List.getElem_append_right (by simp; omega)]
  simp [Nat.min_eq_left (Nat.le_of_lt h)]
theorem capK_next (l : List UInt8) (k : Nat) (h : k < l.length) : capK l (k + 1) = (capK l k).set k (capB l[k]) := by
  unfold capK
  rw [List.take_succ_eq_append_getElem h, List.map_append, List.set_append_right _ _ (by simp; omega)]
  simp [Nat.min_eq_left (Nat.le_of_lt h)]
  rw [List.drop_eq_getElem_cons h, List.set_cons_zero]
theorem capK_same (l : List UInt8) (k : Nat) (h : k < l.length) (hl : capB l[k] = l[k]) : capK l (k + 1) = capK l k := by
  rw [capK_next l k h, hl]
  apply List.ext_getElem (by simp)
  intro n h1 h2
  by_cases hn : n = k
  · subst hn
    rw [List.getElem_set_self, capK_at l n h]
  · rw [List.getElem_set_ne (fun e => hn e.symm)]
set_option maxRecDepth 20000 in
set_option maxHeartbeats 2000000 in
theorem capitals_any (l : List UInt8) (w : World) (hs : l.length ≤ 1000000) : Calls Tryd.prog 31 #[.string ⟨l.toArray⟩] w fun e w' => e = .returned (.string ⟨(l.map capB).toArray⟩) ∧ Below w.heap.size w w' := by
  obtain ⟨W1, cap, hcv, hb1, hz1, hy1⟩ := conv_in l w
  go_enter Tryd.func31, Tryd.ntmps31
  go_wp2
  clear hcv
  go_loopw [10] (fun k wr => ∃ i : Nat, k = .int .i64 i ∧ i ≤ l.length ∧ Hid (BY wr w.heap.size (capK l i)) ∧ Hid (Below w.heap.size w wr)) (fun k _ => l.length - (intOf k).toNat)
  case atStart => exact ⟨0, rfl, Nat.zero_le _, by rw [capK_zero]; exact hy1, hb1⟩
  case round =>
    obtain ⟨i, rfl, hi, HY, HB⟩ := hrel
    clear hy1 hb1 hz1
    by_cases hlt : i < l.length
    · have hlt' : (i : Int) < l.length := by omega
      obtain ⟨hc, hf⟩ := HY.out i (by rw [capK_len]; exact hlt)
      rw [capK_at l i hlt] at hc
      obtain ⟨c, hcc⟩ : ∃ c, l[i] = c := ⟨_, rfl⟩
      rw [hcc] at hc
      have h255 := c.toNat_lt
      by_cases h1 : 97 ≤ c.toNat
      · have a1 : decide (97 ≤ (c.toNat : Int)) = true := decide_eq_true (by omega)
        have b1 : 97 ≤ (c.toNat : Int) := by omega
        by_cases h2 : c.toNat ≤ 122
        · have a2 : decide ((c.toNat : Int) ≤ 122) = true := decide_eq_true (by omega)
          have b2 : (c.toNat : Int) ≤ 122 := by omega
          have hlow : capB c = c - 32 := if_pos ⟨h1, h2⟩
          have hval : ((c - 32).toNat : Int) = (c.toNat : Int) - 97 + 65 := by
            rw [UInt8.toNat_sub_of_le _ _ (by rw [UInt8.le_iff_toNat_le]; show 32 ≤ _; omega), show (32 : UInt8).toNat = 32 from rfl]
            omega
          have HN : Hid (BY (wr.setCell ⟨w.heap.size, i, none⟩ (.int .u8 ((c.toNat : Int) - 97 + 65))) w.heap.size (capK l (i + 1))) := by
            show BY _ _ _
            have := HY.out.put i (c - 32)
            rw [hval] at this
            rw [capK_next l i hlt, hcc, hlow]
            exact this
          clear hcc hlow hval HY
          go_wp2
          go_roundw
          case rel => exact ⟨i + 1, by go_num, by omega, HN, HB.out.setCell (p := ⟨w.heap.size, i, none⟩) (Nat.le_refl _) _⟩
          case measure => simp [intOf]; omega
        · have a2 : decide ((c.toNat : Int) ≤ 122) = false := decide_eq_false (by omega)
          have b2 : ¬ (c.toNat : Int) ≤ 122 := by omega
          have HN : Hid (BY wr w.heap.size (capK l (i + 1))) := by
            show BY _ _ _
            rw [capK_same l i hlt (by rw [hcc]; exact if_neg (fun h => h2 h.2))]
            exact HY.out
          clear hcc HY
          go_wp2
          go_roundw
          case rel => exact ⟨i + 1, by go_num, by omega, HN, HB⟩
          case measure => simp [intOf]; omega
      · have a1 : decide (97 ≤ (c.toNat : Int)) = false := decide_eq_false (by omega)
        have b1 : ¬ 97 ≤ (c.toNat : Int) := by omega
        have HN : Hid (BY wr w.heap.size (capK l (i + 1))) := by
          show BY _ _ _
          rw [capK_same l i hlt (by rw [hcc]; exact if_neg (fun h => h1 h.1))]
          exact HY.out
        clear hcc HY
        go_wp2
        go_roundw
        case rel => exact ⟨i + 1, by go_num, by omega, HN, HB⟩
        case measure => simp [intOf]; omega
    · obtain rfl : i = l.length := by omega
      have hy := HY.out
      rw [capK_end] at hy
      have hcv := conv_out (cap := cap) hy
      rw [List.length_map] at hcv
      clear HY hy
      go_wp2
      go_ret
      exact ⟨rfl, HB.out⟩
/-- For the name INBOX a pattern with capital letters fits just as the pattern with capital and small ones. -/
theorem cap_star (c : UInt8) : starB (capB c) = starB c := by
  unfold capB
  split
  · rename_i h
    have h1 : c ≠ 42 := by rintro rfl; exact absurd h.1 (by decide)
    have h2 : c ≠ 37 := by rintro rfl; exact absurd h.1 (by decide)
    have e : (c - 32).toNat = c.toNat - 32 := by rw [UInt8.toNat_sub_of_le _ _ (by rw [UInt8.le_iff_toNat_le]; show 32 ≤ _; omega)]; rfl
    have h3 : c - 32 ≠ 42 := fun q => by have := congrArg UInt8.toNat q; rw [e, show (42 : UInt8).toNat = 42 from rfl] at this; omega
    have h4 : c - 32 ≠ 37 := fun q => by have := congrArg UInt8.toNat q; rw [e, show (37 : UInt8).toNat = 37 from rfl] at this; omega
    rw [starB, starB, beq_eq_false_iff_ne.2 h1, beq_eq_false_iff_ne.2 h2, beq_eq_false_iff_ne.2 h3, beq_eq_false_iff_ne.2 h4]
  · rfl
theorem cap_42 (c : UInt8) : (capB c == 42) = (c == 42) := by
  unfold capB
  split
  · rename_i h
    have h1 : c ≠ 42 := by rintro rfl; exact absurd h.1 (by decide)
    have e : (c - 32).toNat = c.toNat - 32 := by rw [UInt8.toNat_sub_of_le _ _ (by rw [UInt8.le_iff_toNat_le]; show 32 ≤ _; omega)]; rfl
    have h3 : c - 32 ≠ 42 := fun q => by have := congrArg UInt8.toNat q; rw [e, show (42 : UInt8).toNat = 42 from rfl] at this; omega
    rw [beq_eq_false_iff_ne.2 h1, beq_eq_false_iff_ne.2 h3]
  · rfl
theorem cap_same {d : UInt8} (h1 : 65 ≤ d.toNat) (h2 : d.toNat ≤ 90) (c : UInt8) : (capB c == d) = sameI true c d := by
  have h255 := c.toNat_lt
  have hl : lowB d = d + 32 := if_pos ⟨h1, h2⟩
  have hd : (d + 32).toNat = d.toNat + 32 := by rw [UInt8.toNat_add, show (32 : UInt8).toNat = 32 from rfl]; omega
  rw [Bool.eq_iff_iff]
  simp only [sameI, Bool.true_and, Bool.or_eq_true, beq_iff_eq]
  unfold capB
  split
  · rename_i h
    have e : (c - 32).toNat = c.toNat - 32 := by rw [UInt8.toNat_sub_of_le _ _ (by rw [UInt8.le_iff_toNat_le]; show 32 ≤ _; omega)]; rfl
    have hc : lowB c = c := if_neg (fun k => by omega)
    rw [hc, hl]
    constructor
    · intro q
      refine .inr (UInt8.toNat_inj.1 ?_)
      have := congrArg UInt8.toNat q
      omega
    · rintro (q | q)
      · have := congrArg UInt8.toNat q
        omega
      · refine UInt8.toNat_inj.1 ?_
        have := congrArg UInt8.toNat q
        omega
  · rename_i h
    constructor
    · exact fun q => .inl q
    · rintro (q | q)
      · exact q
      · rw [hl] at q
        unfold lowB at q
        split at q
        · rename_i k
          refine UInt8.toNat_inj.1 ?_
          have := congrArg UInt8.toNat q
          rw [UInt8.toNat_add, hd, show (32 : UInt8).toNat = 32 from rfl] at this
          omega
        · have := congrArg UInt8.toNat q
          omega
theorem cap_fit : ∀ (P N : List UInt8), (∀ d ∈ N, 65 ≤ d.toNat ∧ d.toNat ≤ 90) → fit false (P.map capB) N = fit true P N
  | [], [], _ => by simp [fit]
  | [], d :: N, _ => by simp [fit]
  | c :: P, [], h => by
    rw [List.map_cons, fit, fit, cap_star, cap_fit P [] h]
  | c :: P, d :: N, h => by
    have hd := h d (by simp)
    have hN : ∀ x ∈ N, 65 ≤ x.toNat ∧ x.toNat ≤ 90 := fun x hx => h x (by simp [hx])
    have i1 := cap_fit P (d :: N) h
    have i2 := cap_fit (c :: P) N hN
    have i3 := cap_fit P N hN
    rw [List.map_cons] at i2 ⊢
    rw [fit, fit, cap_star, cap_42, i1, i2, i3, same0, cap_same hd.1 hd.2]
  termination_by P N => P.length + N.length
end Go.Proofs.YtelpjiiladbigaaDoor

end
section
set_option linter.unusedSimpArgs false
set_option linter.unusedVariables false
namespace Go.Proofs.YtelpjiiladbigaaDoor
open Go.RowKit Go.Shelf
/-- The variable internal/bytealg.MaxLen holds a number. -/
def MX (B : Nat) (w : World) : Prop := 13 < B ∧ ∃ m, w.cell? ⟨13, 0, none⟩ = some (.int .i64 m)
theorem MX.keep {B : Nat} {w w' : World} (h : MX B w) (hb : Below B w w') : MX B w' := ⟨h.1, h.2.imp fun _ e => (hb.cell (p := ⟨13, 0, none⟩) h.1).trans e⟩
theorem MX.mono {B B' : Nat} {w : World} (h : MX B w) (hb : B ≤ B') : MX B' w := ⟨Nat.lt_of_lt_of_le h.1 hb, h.2⟩
section
variable {α : Type} {E : World → Value → α → Prop} {B B' : Nat} {w w' : World} {v : Value} {xs : List α}
/-- A slice that reads as these, in blocks below B. -/
def Rd (B : Nat) (E : World → Value → α → Prop) (w : World) (v : Value) (xs : List α) : Prop :=
  ∃ g o cap, v = .slice (some ⟨g, o, none⟩) xs.length cap ∧ xs.length ≤ cap ∧ g < B ∧ ∀ i (hi : i < xs.length), ∃ u, w.cell? ⟨g, o + i, none⟩ = some u ∧ E w u xs[i]
theorem Rd.keep (hE : ∀ u x, E w u x → E w' u x) (h : Rd B E w v xs) (hb : Below B w w') : Rd B E w' v xs := by
  obtain ⟨g, o, cap, rfl, h1, h2, h3⟩ := h
  refine ⟨g, o, cap, rfl, h1, h2, fun i hi => ?_⟩
  obtain ⟨u, hu, he⟩ := h3 i hi
  exact ⟨u, (hb.cell (p := ⟨g, o + i, none⟩) h2).trans hu, hE _ _ he⟩
theorem Rd.mono {E' : World → Value → α → Prop} (hE : ∀ u x, E w u x → E' w u x) (h : Rd B E w v xs) (hb : B ≤ B') : Rd B' E' w v xs := by
  obtain ⟨g, o, cap, rfl, h1, h2, h3⟩ := h
  refine ⟨g, o, cap, rfl, h1, Nat.lt_of_lt_of_le h2 hb, fun i hi => ?_⟩
  obtain ⟨u, hu, he⟩ := h3 i hi
  exact ⟨u, hu, hE _ _ he⟩
end
def E0 (_ : World) (u : Value) (x : List UInt8) : Prop := u = .string ⟨x.toArray⟩
def E1 (B : Nat) (w : World) (u : Value) (g : Glob) : Prop := Rd B E0 w u g
def E2 (B : Nat) (w : World) (u : Value) (r : List Glob) : Prop := Rd B (E1 B) w u r
section
variable {B B' : Nat} {w w' : World} {v : Value}
theorem Rd.keep0 {g : Glob} (h : Rd B E0 w v g) (hb : Below B w w') : Rd B E0 w' v g := Rd.keep (w := w) (fun _ _ h => h) h hb
theorem Rd.keep1 {r : List Glob} (h : Rd B (E1 B) w v r) (hb : Below B w w') : Rd B (E1 B) w' v r := Rd.keep (w := w) (fun _ _ h => Rd.keep0 h hb) h hb
theorem Rd.keep2 {rs : List (List Glob)} (h : Rd B (E2 B) w v rs) (hb : Below B w w') : Rd B (E2 B) w' v rs := Rd.keep (w := w) (fun _ _ h => Rd.keep1 h hb) h hb
theorem Rd.mono0 {g : Glob} (h : Rd B E0 w v g) (hb : B ≤ B') : Rd B' E0 w v g := Rd.mono (fun _ _ h => h) h hb
theorem Rd.mono1 {r : List Glob} (h : Rd B (E1 B) w v r) (hb : B ≤ B') : Rd B' (E1 B') w v r := Rd.mono (fun _ _ h => Rd.mono0 h hb) h hb
theorem Rd.mono2 {rs : List (List Glob)} (h : Rd B (E2 B) w v rs) (hb : B ≤ B') : Rd B' (E2 B') w v rs := Rd.mono (fun _ _ h => Rd.mono1 h hb) h hb
end
/-- What cutPart answers, in all cases. -/
def loopV : List (List UInt8) → List UInt8 × Bool → List UInt8 × Bool
  | [], s => s
  | x :: xs, s => if s.2 then loopV xs ((Lib.cut s.1 x).2.1, (Lib.cut s.1 x).2.2) else s
def cutG (g : Glob) (p : List UInt8) : List UInt8 × Bool :=
  match g with
  | [] => ([], false)
  | x :: xs => loopV xs (Lib.trimPrefix p x, Lib.hasPrefix p x)
theorem loopV_no : ∀ (xs : List (List UInt8)) (r : List UInt8), loopV xs (r, false) = (r, false)
  | [], r => rfl
  | x :: xs, r => by simp [loopV]
theorem loopV_cutL : ∀ (xs : List (List UInt8)) (r : List UInt8), (loopV xs (r, true)).2 = (cutL xs r).isSome ∧ ((loopV xs (r, true)).2 = true → cutL xs r = some (loopV xs (r, true)).1)
  | [], r => by simp [loopV, cutL]
  | x :: xs, r => by
    unfold loopV cutL
    simp only [if_true]
    cases hc : (Lib.cut r x).2.2 with
    | true => simpa using loopV_cutL xs (Lib.cut r x).2.1
    | false => rw [loopV_no]; simp
theorem cutG_cutP {g : Glob} (p : List UInt8) : (cutG g p).2 = (cutP g p).isSome ∧ ((cutG g p).2 = true → cutP g p = some (cutG g p).1) := by
  cases g with
  | nil => simp [cutG, cutP]
  | cons x xs =>
    unfold cutG cutP
    simp only
    cases hp : Lib.hasPrefix p x with
    | true =>
      have hp' : x.isPrefixOf p = true := hp
      rw [if_pos hp']
      have : Lib.trimPrefix p x = p.drop x.length := by unfold Lib.trimPrefix; rw [if_pos hp]
      rw [this]
      exact loopV_cutL xs _
    | false =>
      have hp' : x.isPrefixOf p = false := hp
      rw [loopV_no, if_neg (by simp [hp'])]
      simp
theorem cut_len (s x : List UInt8) : (Lib.cut s x).2.1.length ≤ s.length := by
  unfold Lib.cut
  split <;> simp
theorem trimP_len (s x : List UInt8) : (Lib.trimPrefix s x).length ≤ s.length := by
  unfold Lib.trimPrefix
  split <;> simp
theorem prefix_bo (p x : List UInt8) (w : World) : Calls Tryd.prog 34 #[.string ⟨p.toArray⟩, .string ⟨x.toArray⟩] w fun e w' => e = .returned (.tuple #[.string ⟨(Lib.trimPrefix p x).toArray⟩, .bool (Lib.hasPrefix p x)]) ∧ w = w' := (Tryd.strings_CutPrefix ⟨p.toArray⟩ ⟨x.toArray⟩ w).mono fun _ _ h => ⟨h.1, h.2.symm⟩
theorem cut_bo {B : Nat} {w : World} (hM : MX B w) (p x : List UInt8) (hp : p.length ≤ 1000000) : Calls Tryd.prog 89 #[.string ⟨p.toArray⟩, .string ⟨x.toArray⟩] w fun e w' => e = .returned (.tuple #[.string ⟨(Lib.cut p x).1.toArray⟩, .string ⟨(Lib.cut p x).2.1.toArray⟩, .bool (Lib.cut p x).2.2]) ∧ Below w.heap.size w w' := by
  obtain ⟨_, m, hm⟩ := hM
  refine (Tryd.strings_Cut ⟨p.toArray⟩ ⟨x.toArray⟩ m w (by simp [ByteArray.size]; omega) hm).mono ?_
  rintro e w' ⟨rfl, n, rfl⟩
  exact ⟨rfl, below_drewN _ _⟩
set_option maxRecDepth 20000 in
set_option maxHeartbeats 1000000 in
theorem cutPart_any {B : Nat} {w : World} {gv : Value} {g : Glob} (hne : g ≠ []) (h : Rd B E0 w gv g) (hM : MX B w) (hB : B ≤ w.heap.size) (p : List UInt8) (hp : p.length ≤ 1000000) (hl : g.length ≤ 1000000) :
    Calls Tryd.prog 65 #[.string ⟨p.toArray⟩, gv] w fun e w' => e = .returned (.tuple #[.string ⟨(cutG g p).1.toArray⟩, .bool (cutG g p).2]) ∧ Below w.heap.size w w' := by
  obtain ⟨b, o, cap, rfl, h1, h2, h3⟩ := h
  obtain ⟨x, xs, rfl⟩ : ∃ x xs, g = x :: xs := by
    cases g with
    | nil => exact absurd rfl hne
    | cons x xs => exact ⟨x, xs, rfl⟩
  have H3 := hide h3
  have HM := hide hM
  have c0 : w.cell? ⟨b, o, none⟩ = some (.string ⟨x.toArray⟩) := by
    obtain ⟨u, hu, he⟩ := h3 0 (by simp)
    rw [show u = _ from he] at hu
    exact hu
  have HP := hide (prefix_bo p x)
  obtain ⟨n, hn⟩ : ∃ n, Hid (n = (x :: xs).length) := ⟨_, hide rfl⟩
  have hT := trimP_len p x
  have HV : Hid (loopV ((x :: xs).drop 1) (Lib.trimPrefix p x, Lib.hasPrefix p x) = cutG (x :: xs) p) := rfl
  have hn1 : 1 ≤ n := by rw [hn.out]; simp
  rw [← hn.out] at h1 hl
  rw [← hn.out]
  clear h3 hM hne
  generalize Lib.trimPrefix p x = R0 at *
  generalize Lib.hasPrefix p x = f0 at *
  go_enter Tryd.func65, Tryd.ntmps65
  go_wp2_with (go_at_call 34; refine (HP.out _).mono ?_; rintro e w' ⟨rfl, rfl⟩)
  go_loopw [4, 5, 6] (fun v4 v5 v6 wr => ∃ (i : Nat) (r : List UInt8) (f : Bool), v4 = .string ⟨r.toArray⟩ ∧ v5 = .bool f ∧ v6 = .int .i64 i ∧ 1 ≤ i ∧ i ≤ n ∧ r.length ≤ 1000000 ∧ Hid (loopV ((x :: xs).drop i) (r, f) = cutG (x :: xs) p) ∧ Hid (Below w.heap.size w wr)) (fun _ _ v6 _ => n - (intOf v6).toNat)
  case atStart => exact ⟨1, R0, f0, rfl, rfl, rfl, by omega, by omega, by omega, HV.out, Below.refl _ _⟩
  case round =>
    obtain ⟨i, r, f, rfl, rfl, rfl, hi1, hi2, hr, HL, HB⟩ := hrel
    cases f with
    | false =>
      have e1 : cutG (x :: xs) p = (r, false) := by rw [← HL.out, loopV_no]
      have E1 := hide e1
      clear e1
      go_wp2
      go_ret2
      exact ⟨by rw [E1.out]; rfl, HB.out⟩
    | true =>
      by_cases hlt : i < n
      · have hlt' : (i : Int) < n := by omega
        have hix : i < (x :: xs).length := by rw [← hn.out]; exact hlt
        obtain ⟨y, hy⟩ : ∃ y, Hid (y = (x :: xs)[i]) := ⟨_, hide rfl⟩
        have ci : wr.cell? ⟨b, o + i, none⟩ = some (.string ⟨y.toArray⟩) := by
          obtain ⟨u, hu, he⟩ := H3.out i hix
          rw [show u = _ from he, ← hy.out] at hu
          exact (HB.out.cell (p := ⟨b, o + i, none⟩) (by show b < _; omega)).trans hu
        have HC := hide (cut_bo (HM.out.keep (HB.out.mono hB)) r y hr)
        have hcl := cut_len r y
        have HL2 : Hid (loopV ((x :: xs).drop (i + 1)) ((Lib.cut r y).2.1, (Lib.cut r y).2.2) = cutG (x :: xs) p) := by
          show _ = _
          rw [← HL.out, List.drop_eq_getElem_cons hix, ← hy.out]
          simp [loopV]
        clear hy HL
        clear hix
        generalize (Lib.cut r y).1 = r1 at *
        generalize (Lib.cut r y).2.1 = r2 at *
        generalize (Lib.cut r y).2.2 = f2 at *
        go_wp2_with (go_at_call 89; refine HC.out.mono ?_; rintro e w' ⟨rfl, hb'⟩)
        go_roundw
        case rel => exact ⟨i + 1, r2, f2, rfl, rfl, by go_num, by omega, by omega, by omega, HL2.out, HB.out.trans (hb'.mono HB.out.size)⟩
        case measure => simp [intOf]; omega
      · obtain rfl : i = n := by omega
        have e1 : cutG (x :: xs) p = (r, true) := by rw [← HL.out, List.drop_of_length_le (by rw [← hn.out]; exact Nat.le_refl _)]; rfl
        have E1 := hide e1
        clear e1
        go_wp2
        go_ret2
        exact ⟨by rw [E1.out]; rfl, HB.out⟩
end Go.Proofs.YtelpjiiladbigaaDoor

end
