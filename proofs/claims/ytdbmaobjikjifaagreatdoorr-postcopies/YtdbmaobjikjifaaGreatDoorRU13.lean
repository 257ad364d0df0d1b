/- Small letters: small, smallText, Same of package header; the document's Small. -/
/- capitals of package boxes. -/
/- Rows of texts, of globs and of runs in memory; cutPart of package boxes. -/
import Derived.Test.YtdbmaobjikjifaaGreatDoorRU12
import Derived.Test.YtdbmaobjikjifaaGreatDoorRU04
import Derived.Test.YtdbmaobjikjifaaGreatDoorRU01
import Derived.Lib.ConvBytes
import Derived.Laws.IdiomStrings
import Derived.Test.YtdbmaobjikjifaaGreatDoorRU10
import Derived.Test.YtdbmaobjikjifaaGreatDoorRU09
import Derived.Test.YtdbmaobjikjifaaGreatDoorRShelf
section
namespace Go.Proofs.YtdbmaobjikjifaaGreatDoorR
open Go.RowKit Go.Shelf
/-- Block B holds these bytes, none of them frozen. -/
def BY (w : World) (B : Nat) (bs : List UInt8) : Prop := ∀ j (hj : j < bs.length), w.cell? ⟨B, j, none⟩ = some (.int .u8 (bs[j].toNat : Int)) ∧ w.frozen? ⟨B, j, none⟩ = false
theorem BY.put {w : World} {B : Nat} {bs : List UInt8} (h : BY w B bs) (i : Nat) (c : UInt8) : BY (w.setCell ⟨B, i, none⟩ (.int .u8 (c.toNat : Int))) B (bs.set i c) := by
  intro j hj
  rw [List.length_set] at hj
  obtain ⟨h1, h2⟩ := h j hj
  refine ⟨?_, by rw [World.frozen?_setCell]; exact h2⟩
  by_cases hji : j = i
  · subst hji
    rw [List.getElem_set_self]
    exact World.cell?_setCell_same _ _ _ h1
  · rw [List.getElem_set_ne (fun e => hji e.symm), World.cell?_setCell_other _ ⟨B, i, none⟩ ⟨B, j, none⟩ _ (fun e => hji (by have := congrArg Addr.off e; simpa using this.symm))]
    exact h1
/-- The bytes behind k rounds. -/
def lowK (l : List UInt8) (k : Nat) : List UInt8 := (l.take k).map lowB ++ l.drop k
theorem lowK_len (l : List UInt8) (k : Nat) : (lowK l k).length = l.length := by
  unfold lowK
  simp
  omega
theorem lowK_zero (l : List UInt8) : lowK l 0 = l := by simp [lowK]
theorem lowK_end (l : List UInt8) : lowK l l.length = l.map lowB := by simp [lowK]
theorem lowK_at (l : List UInt8) (k : Nat) (h : k < l.length) : (lowK l k)[k]'(by rw [lowK_len]; exact h) = l[k] := by
  unfold lowK
  rw [List.getElem_append_right (by simp; omega)]
  simp [Nat.min_eq_left (Nat.le_of_lt h)]
theorem lowK_next (l : List UInt8) (k : Nat) (h : k < l.length) : lowK l (k + 1) = (lowK l k).set k (lowB l[k]) := by
  unfold lowK
  rw [List.take_succ_eq_append_getElem h, List.map_append, List.set_append_right _ _ (by simp; omega)]
  simp [Nat.min_eq_left (Nat.le_of_lt h)]
  rw [List.drop_eq_getElem_cons h, List.set_cons_zero]
theorem lowK_same (l : List UInt8) (k : Nat) (h : k < l.length) (hl : lowB l[k] = l[k]) : lowK l (k + 1) = lowK l k := by
  rw [lowK_next l k h, hl]
  apply List.ext_getElem (by simp)
  intro n h1 h2
  by_cases hn : n = k
  · subst hn
    rw [List.getElem_set_self, lowK_at l n h]
  · rw [List.getElem_set_ne (fun e => hn e.symm)]
theorem lowB_int (c : UInt8) : ((lowB c).toNat : Int) = if 65 ≤ c.toNat ∧ c.toNat ≤ 90 then (c.toNat : Int) + 32 else (c.toNat : Int) := by
  unfold lowB
  split
  · rw [UInt8.toNat_add, show (32 : UInt8).toNat = 32 from rfl]
    omega
  · rfl
theorem hsmall_any (c : UInt8) (w : World) : Calls Tryz.prog 133 #[.int .u8 (c.toNat : Nat)] w fun e w' => e = .returned (.int .u8 ((lowB c).toNat : Nat)) ∧ w' = w := by
  have h255 := c.toNat_lt
  have HL := hide (lowB_int c)
  by_cases h1 : 65 ≤ c.toNat
  · have a1 : decide ((c.toNat : Int) ≥ 65) = true := decide_eq_true (by omega)
    have b1 : (c.toNat : Int) ≥ 65 := by omega
    by_cases h2 : c.toNat ≤ 90
    · have b2 : (c.toNat : Int) ≤ 90 := by omega
      have HV : Hid (((lowB c).toNat : Int) = (c.toNat : Int) + 32) := by
        show _ = _
        rw [HL.out, if_pos ⟨h1, h2⟩]
      have hsum : (c.toNat : Int) + 97 - 65 = (c.toNat : Int) + 32 := by omega
      go_enter Tryz.func133, Tryz.ntmps133
      go_wp2
      go_ret
      exact ⟨by rw [HV.out]; rfl, rfl⟩
    · have b2 : ¬ (c.toNat : Int) ≤ 90 := by omega
      have HV : Hid (((lowB c).toNat : Int) = (c.toNat : Int)) := by
        show _ = _
        rw [HL.out, if_neg (fun h => h2 h.2)]
      go_enter Tryz.func133, Tryz.ntmps133
      go_wp2
      go_ret
      exact ⟨by rw [HV.out]; rfl, rfl⟩
  · have b1 : ¬ (c.toNat : Int) ≥ 65 := by omega
    have HV : Hid (((lowB c).toNat : Int) = (c.toNat : Int)) := by
      show _ = _
      rw [HL.out, if_neg (fun h => h1 h.1)]
    go_enter Tryz.func133, Tryz.ntmps133
    go_wp2
    go_ret
    exact ⟨by rw [HV.out]; rfl, rfl⟩
/-- The same but for capital letters. -/
def sameT (a b : List UInt8) : Bool := decide (a.map lowB = b.map lowB)
theorem map_take_next {a b : List UInt8} {i : Nat} (ha : i < a.length) (hb : i < b.length) (h : (a.take i).map lowB = (b.take i).map lowB) (hc : lowB a[i] = lowB b[i]) : (a.take (i + 1)).map lowB = (b.take (i + 1)).map lowB := by
  rw [List.take_succ_eq_append_getElem ha, List.take_succ_eq_append_getElem hb, List.map_append, List.map_append, h]
  simp [hc]
theorem map_ne {a b : List UInt8} {i : Nat} (ha : i < a.length) (hb : i < b.length) (hc : lowB a[i] ≠ lowB b[i]) : a.map lowB ≠ b.map lowB := by
  intro h
  apply hc
  have h1 : (a.map lowB)[i]? = (b.map lowB)[i]? := by rw [h]
  simpa [List.getElem?_eq_getElem ha, List.getElem?_eq_getElem hb] using h1
set_option maxRecDepth 20000 in
set_option maxHeartbeats 2000000 in
theorem hsame_any (a b : List UInt8) (w : World) (_ha : a.length ≤ 1000000) (hb : b.length ≤ 1000000) : Calls Tryz.prog 111 #[.string ⟨a.toArray⟩, .string ⟨b.toArray⟩] w fun e w' => e = .returned (.bool (sameT a b)) ∧ Below w.heap.size w w' := by
  have hsa := size_lit a
  have hsb := size_lit b
  by_cases hl : a.length = b.length
  · obtain ⟨n, hn⟩ : ∃ n, b.length = n := ⟨_, rfl⟩
    rw [hn] at hl hsb hb
    rw [hl] at hsa
    have HLA := hide hl
    have HLB := hide hn
    clear hl hn
    go_enter Tryz.func111, Tryz.ntmps111
    go_wp2
    go_loopw [13] (fun k wr => ∃ i : Nat, k = .int .i64 i ∧ i ≤ n ∧ Hid ((a.take i).map lowB = (b.take i).map lowB) ∧ Hid (Below w.heap.size w wr)) (fun k _ => n - (intOf k).toNat)
    case atStart => exact ⟨0, rfl, Nat.zero_le _, rfl, Below.refl _ _⟩
    case round =>
      obtain ⟨i, rfl, hi, HX, HB⟩ := hrel
      by_cases hlt : i < n
      · have hlt' : (i : Int) < n := by omega
        have hia : i < a.length := by have := HLA.out; omega
        have hib : i < b.length := by have := HLB.out; omega
        obtain ⟨x, hx, hatx⟩ : ∃ c, a[i] = c ∧ ∀ h : i < (⟨a.toArray⟩ : ByteArray).size, (⟨a.toArray⟩ : ByteArray)[i]'h = c := ⟨_, rfl, fun _ => rfl⟩
        obtain ⟨y, hy, haty⟩ : ∃ c, b[i] = c ∧ ∀ h : i < (⟨b.toArray⟩ : ByteArray).size, (⟨b.toArray⟩ : ByteArray)[i]'h = c := ⟨_, rfl, fun _ => rfl⟩
        have HS := hide hsmall_any
        have hn1 := ext_some wr
        by_cases hxy : lowB x = lowB y
        · have HX2 := hide (map_take_next hia hib HX.out (by rw [hx, hy]; exact hxy))
          have hxy' : ((lowB x).toNat : Int) = (lowB y).toNat := by rw [hxy]
          clear hx hy hxy hia hib
          go_wp2
          refine wp_region_ext (by kernel_rfl) (by kernel_rfl) ?_
          repeat (go_big_quiet_step ((go_at_call 133; exact ext_same (HS.out _ _))))
          refine wpQuiet_nil ?_
          rintro w1 ⟨⟨_, hb1⟩, rfl⟩
          go_wp2
          go_roundw
          case rel => exact ⟨i + 1, by go_num, by omega, HX2, HB.out.trans (hb1.mono HB.out.size)⟩
          case measure => simp [intOf]; omega
        · have HV : Hid (sameT a b = false) := by
            show _ = _
            unfold sameT
            exact decide_eq_false (map_ne hia hib (by rw [hx, hy]; exact hxy))
          have hxy' : ¬ ((lowB x).toNat : Int) = (lowB y).toNat := fun e => hxy (UInt8.toNat_inj.1 (by omega))
          clear hx hy hxy hia hib
          go_wp2
          refine wp_region_ext (by kernel_rfl) (by kernel_rfl) ?_
          repeat (go_big_quiet_step ((go_at_call 133; exact ext_same (HS.out _ _))))
          refine wpQuiet_nil ?_
          rintro w1 ⟨⟨_, hb1⟩, rfl⟩
          go_wp2
          go_ret
          exact ⟨by rw [HV.out]; rfl, HB.out.trans (hb1.mono HB.out.size)⟩
      · obtain rfl : i = n := by omega
        have HV : Hid (sameT a b = true) := by
          show _ = _
          unfold sameT
          have := HX.out
          rw [List.take_of_length_le (by have := HLA.out; omega), List.take_of_length_le (by have := HLB.out; omega)] at this
          exact decide_eq_true this
        go_wp2
        go_ret
        exact ⟨by rw [HV.out]; rfl, HB.out⟩
  · have HV : Hid (sameT a b = false) := by
      show _ = _
      unfold sameT
      refine decide_eq_false (fun h => hl ?_)
      have := congrArg List.length h
      simpa using this
    have hl' : ¬ ((a.length : Int) = b.length) := by omega
    clear hl
    go_enter Tryz.func111, Tryz.ntmps111
    go_wp2
    go_ret
    exact ⟨by rw [HV.out]; rfl, Below.refl _ _⟩
end Go.Proofs.YtdbmaobjikjifaaGreatDoorR

end
section
set_option linter.unusedSimpArgs false
set_option linter.unusedVariables false
namespace Go.Proofs.YtdbmaobjikjifaaGreatDoorR
open Go.RowKit Go.Shelf
def capB (c : UInt8) : UInt8 := if 97 ≤ c.toNat ∧ c.toNat ≤ 122 then c - 32 else c
/-- The bytes behind k rounds. -/
def capK (l : List UInt8) (k : Nat) : List UInt8 := (l.take k).map capB ++ l.drop k
theorem capK_len (l : List UInt8) (k : Nat) : (capK l k).length = l.length := by
  unfold capK
  simp
  omega
theorem capK_zero (l : List UInt8) : capK l 0 = l := by simp [capK]
theorem capK_end (l : List UInt8) : capK l l.length = l.map capB := by simp [capK]
theorem capK_at (l : List UInt8) (k : Nat) (h : k < l.length) : (capK l k)[k]'(by rw [capK_len]; exact h) = l[k] := by
  unfold capK
  rw [List.getElem_append_right (by simp; omega)]
  simp [Nat.min_eq_left (Nat.le_of_lt h)]
theorem capK_next (l : List UInt8) (k : Nat) (h : k < l.length) : capK l (k + 1) = (capK l k).set k (capB l[k]) := by
  unfold capK
  rw [List.take_succ_eq_append_getElem h, List.map_append, List.set_append_right _ _ (by simp; omega)]
  simp [Nat.min_eq_left (Nat.le_of_lt h)]
  rw [List.drop_eq_getElem_cons h, List.set_cons_zero]
theorem capK_same (l : List UInt8) (k : Nat) (h : k < l.length) (hl : capB l[k] = l[k]) : capK l (k + 1) = capK l k := by
  rw [capK_next l k h, hl]
  apply List.ext_getElem (by simp)
  intro n h1 h2
  by_cases hn : n = k
  · subst hn
    rw [List.getElem_set_self, capK_at l n h]
  · rw [List.getElem_set_ne (fun e => hn e.symm)]
/-- For the name INBOX a pattern with capital letters fits just as the pattern with capital and small ones. -/
theorem cap_star (c : UInt8) : starB (capB c) = starB c := by
  unfold capB
  split
  · rename_i h
    have h1 : c ≠ 42 := by rintro rfl; exact absurd h.1 (by decide)
    have h2 : c ≠ 37 := by rintro rfl; exact absurd h.1 (by decide)
    have e : (c - 32).toNat = c.toNat - 32 := by rw [UInt8.toNat_sub_of_le _ _ (by rw [UInt8.le_iff_toNat_le]; show 32 ≤ _; omega)]; rfl
    have h3 : c - 32 ≠ 42 := fun q => by have := congrArg UInt8.toNat q; rw [e, show (42 : UInt8).toNat = 42 from rfl] at this; omega
    have h4 : c - 32 ≠ 37 := fun q => by have := congrArg UInt8.toNat q; rw [e, show (37 : UInt8).toNat = 37 from rfl] at this; omega
    rw [starB, starB, beq_eq_false_iff_ne.2 h1, beq_eq_false_iff_ne.2 h2, beq_eq_false_iff_ne.2 h3, beq_eq_false_iff_ne.2 h4]
  · rfl
theorem cap_42 (c : UInt8) : (capB c == 42) = (c == 42) := by
  unfold capB
  split
  · rename_i h
    have h1 : c ≠ 42 := by rintro rfl; exact absurd h.1 (by decide)
    have e : (c - 32).toNat = c.toNat - 32 := by rw [UInt8.toNat_sub_of_le _ _ (by rw [UInt8.le_iff_toNat_le]; show 32 ≤ _; omega)]; rfl
    have h3 : c - 32 ≠ 42 := fun q => by have := congrArg UInt8.toNat q; rw [e, show (42 : UInt8).toNat = 42 from rfl] at this; omega
    rw [beq_eq_false_iff_ne.2 h1, beq_eq_false_iff_ne.2 h3]
  · rfl
theorem cap_same {d : UInt8} (h1 : 65 ≤ d.toNat) (h2 : d.toNat ≤ 90) (c : UInt8) : (capB c == d) = sameI true c d := by
  have h255 := c.toNat_lt
  have hl : lowB d = d + 32 := if_pos ⟨h1, h2⟩
  have hd : (d + 32).toNat = d.toNat + 32 := by rw [UInt8.toNat_add, show (32 : UInt8).toNat = 32 from rfl]; omega
  rw [Bool.eq_iff_iff]
  simp only [sameI, Bool.true_and, Bool.or_eq_true, beq_iff_eq]
  unfold capB
  split
  · rename_i h
    have e : (c - 32).toNat = c.toNat - 32 := by rw [UInt8.toNat_sub_of_le _ _ (by rw [UInt8.le_iff_toNat_le]; show 32 ≤ _; omega)]; rfl
    have hc : lowB c = c := if_neg (fun k => by omega)
    rw [hc, hl]
    constructor
    · intro q
      refine .inr (UInt8.toNat_inj.1 ?_)
      have := congrArg UInt8.toNat q
      omega
    · rintro (q | q)
      · have := congrArg UInt8.toNat q
        omega
      · refine UInt8.toNat_inj.1 ?_
        have := congrArg UInt8.toNat q
        omega
  · rename_i h
    constructor
    · exact fun q => .inl q
    · rintro (q | q)
      · exact q
      · rw [hl] at q
        unfold lowB at q
        split at q
        · rename_i k
          refine UInt8.toNat_inj.1 ?_
          have := congrArg UInt8.toNat q
          rw [UInt8.toNat_add, hd, show (32 : UInt8).toNat = 32 from rfl] at this
          omega
        · have := congrArg UInt8.toNat q
          omega
theorem cap_fit : ∀ (P N : List UInt8), (∀ d ∈ N, 65 ≤ d.toNat ∧ d.toNat ≤ 90) → fit false (P.map capB) N = fit true P N
  | [], [], _ => by simp [fit]
  | [], d :: N, _ => by simp [fit]
  | c :: P, [], h => by
    rw [List.map_cons, fit, fit, cap_star, cap_fit P [] h]
  | c :: P, d :: N, h => by
    have hd := h d (by simp)
    have hN : ∀ x ∈ N, 65 ≤ x.toNat ∧ x.toNat ≤ 90 := fun x hx => h x (by simp [hx])
    have i1 := cap_fit P (d :: N) h
    have i2 := cap_fit (c :: P) N hN
    have i3 := cap_fit P N hN
    rw [List.map_cons] at i2 ⊢
    rw [fit, fit, cap_star, cap_42, i1, i2, i3, same0, cap_same hd.1 hd.2]
  termination_by P N => P.length + N.length
end Go.Proofs.YtdbmaobjikjifaaGreatDoorR

end
section
set_option linter.unusedSimpArgs false
set_option linter.unusedVariables false
namespace Go.Proofs.YtdbmaobjikjifaaGreatDoorR
open Go.RowKit Go.Shelf
/-- The variable internal/bytealg.MaxLen holds a number. -/
def MX (B : Nat) (w : World) : Prop := 8 < B ∧ ∃ m, w.cell? ⟨8, 0, none⟩ = some (.int .i64 m)
theorem MX.keep {B : Nat} {w w' : World} (h : MX B w) (hb : Below B w w') : MX B w' := ⟨h.1, h.2.imp fun _ e => (hb.cell (p := ⟨8, 0, none⟩) h.1).trans e⟩
theorem MX.mono {B B' : Nat} {w : World} (h : MX B w) (hb : B ≤ B') : MX B' w := ⟨Nat.lt_of_lt_of_le h.1 hb, h.2⟩
section
variable {α : Type} {E : World → Value → α → Prop} {B B' : Nat} {w w' : World} {v : Value} {xs : List α}
/-- A slice that reads as these, in blocks below B. -/
def Rd (B : Nat) (E : World → Value → α → Prop) (w : World) (v : Value) (xs : List α) : Prop :=
  ∃ g o cap, v = .slice (some ⟨g, o, none⟩) xs.length cap ∧ xs.length ≤ cap ∧ g < B ∧ ∀ i (hi : i < xs.length), ∃ u, w.cell? ⟨g, o + i, none⟩ = some u ∧ E w u xs[i]
theorem Rd.keep (hE : ∀ u x, E w u x → E w' u x) (h : Rd B E w v xs) (hb : Below B w w') : Rd B E w' v xs := by
  obtain ⟨g, o, cap, rfl, h1, h2, h3⟩ := h
  refine ⟨g, o, cap, rfl, h1, h2, fun i hi => ?_⟩
  obtain ⟨u, hu, he⟩ := h3 i hi
  exact ⟨u, (hb.cell (p := ⟨g, o + i, none⟩) h2).trans hu, hE _ _ he⟩
theorem Rd.mono {E' : World → Value → α → Prop} (hE : ∀ u x, E w u x → E' w u x) (h : Rd B E w v xs) (hb : B ≤ B') : Rd B' E' w v xs := by
  obtain ⟨g, o, cap, rfl, h1, h2, h3⟩ := h
  refine ⟨g, o, cap, rfl, h1, Nat.lt_of_lt_of_le h2 hb, fun i hi => ?_⟩
  obtain ⟨u, hu, he⟩ := h3 i hi
  exact ⟨u, hu, hE _ _ he⟩
end
def E0 (_ : World) (u : Value) (x : List UInt8) : Prop := u = .string ⟨x.toArray⟩
def E1 (B : Nat) (w : World) (u : Value) (g : Glob) : Prop := Rd B E0 w u g
def E2 (B : Nat) (w : World) (u : Value) (r : List Glob) : Prop := Rd B (E1 B) w u r
section
variable {B B' : Nat} {w w' : World} {v : Value}
theorem Rd.keep0 {g : Glob} (h : Rd B E0 w v g) (hb : Below B w w') : Rd B E0 w' v g := Rd.keep (w := w) (fun _ _ h => h) h hb
theorem Rd.keep1 {r : List Glob} (h : Rd B (E1 B) w v r) (hb : Below B w w') : Rd B (E1 B) w' v r := Rd.keep (w := w) (fun _ _ h => Rd.keep0 h hb) h hb
theorem Rd.keep2 {rs : List (List Glob)} (h : Rd B (E2 B) w v rs) (hb : Below B w w') : Rd B (E2 B) w' v rs := Rd.keep (w := w) (fun _ _ h => Rd.keep1 h hb) h hb
theorem Rd.mono0 {g : Glob} (h : Rd B E0 w v g) (hb : B ≤ B') : Rd B' E0 w v g := Rd.mono (fun _ _ h => h) h hb
theorem Rd.mono1 {r : List Glob} (h : Rd B (E1 B) w v r) (hb : B ≤ B') : Rd B' (E1 B') w v r := Rd.mono (fun _ _ h => Rd.mono0 h hb) h hb
theorem Rd.mono2 {rs : List (List Glob)} (h : Rd B (E2 B) w v rs) (hb : B ≤ B') : Rd B' (E2 B') w v rs := Rd.mono (fun _ _ h => Rd.mono1 h hb) h hb
end
/-- What cutPart answers, in all cases. -/
def loopV : List (List UInt8) → List UInt8 × Bool → List UInt8 × Bool
  | [], s => s
  | x :: xs, s => if s.2 then loopV xs ((Lib.cut s.1 x).2.1, (Lib.cut s.1 x).2.2) else s
def cutG (g : Glob) (p : List UInt8) : List UInt8 × Bool :=
  match g with
  | [] => ([], false)
  | x :: xs => loopV xs (Lib.trimPrefix p x, Lib.hasPrefix p x)
theorem loopV_no : ∀ (xs : List (List UInt8)) (r : List UInt8), loopV xs (r, false) = (r, false)
  | [], r => rfl
  | x :: xs, r => by simp [loopV]
theorem loopV_cutL : ∀ (xs : List (List UInt8)) (r : List UInt8), (loopV xs (r, true)).2 = (cutL xs r).isSome ∧ ((loopV xs (r, true)).2 = true → cutL xs r = some (loopV xs (r, true)).1)
  | [], r => by simp [loopV, cutL]
  | x :: xs, r => by
    unfold loopV cutL
    simp only [if_true]
    cases hc : (Lib.cut r x).2.2 with
    | true => simpa using loopV_cutL xs (Lib.cut r x).2.1
    | false => rw [loopV_no]; simp
theorem cutG_cutP {g : Glob} (p : List UInt8) : (cutG g p).2 = (cutP g p).isSome ∧ ((cutG g p).2 = true → cutP g p = some (cutG g p).1) := by
  cases g with
  | nil => simp [cutG, cutP]
  | cons x xs =>
    unfold cutG cutP
    simp only
    cases hp : Lib.hasPrefix p x with
    | true =>
      have hp' : x.isPrefixOf p = true := hp
      rw [if_pos hp']
      have : Lib.trimPrefix p x = p.drop x.length := by unfold Lib.trimPrefix; rw [if_pos hp]
      rw [this]
      exact loopV_cutL xs _
    | false =>
      have hp' : x.isPrefixOf p = false := hp
      rw [loopV_no, if_neg (by simp [hp'])]
      simp
theorem cut_len (s x : List UInt8) : (Lib.cut s x).2.1.length ≤ s.length := by
  unfold Lib.cut
  split <;> simp
theorem trimP_len (s x : List UInt8) : (Lib.trimPrefix s x).length ≤ s.length := by
  unfold Lib.trimPrefix
  split <;> simp
theorem prefix_bo (p x : List UInt8) (w : World) : Calls Tryz.prog 181 #[.string ⟨p.toArray⟩, .string ⟨x.toArray⟩] w fun e w' => e = .returned (.tuple #[.string ⟨(Lib.trimPrefix p x).toArray⟩, .bool (Lib.hasPrefix p x)]) ∧ w = w' := (Tryz.strings_CutPrefix ⟨p.toArray⟩ ⟨x.toArray⟩ w).mono fun _ _ h => ⟨h.1, h.2.symm⟩
end Go.Proofs.YtdbmaobjikjifaaGreatDoorR

end
