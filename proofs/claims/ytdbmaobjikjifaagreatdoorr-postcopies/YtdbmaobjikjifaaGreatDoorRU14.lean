/- fitsPart and fitsEach of package boxes. -/
/- fitsEnd, cutFront and cutFirst of package boxes. -/
/- strings.Split at a byte; cutFirst of package boxes. -/
import Derived.Test.YtdbmaobjikjifaaGreatDoorRU13
import Derived.Lib.CountLaws
import Derived.Lib.Split
section
set_option linter.unusedSimpArgs false
set_option linter.unusedVariables false
namespace Go.Proofs.YtdbmaobjikjifaaGreatDoorR
open Go.RowKit Go.Shelf
theorem fitP_one (p x : List UInt8) : fitP p [x] = (p == x) := by simp [fitP]
theorem fitP_more (p y : List UInt8) (g : Glob) (hg : g ≠ []) : fitP p (g ++ [y]) = (Lib.hasSuffix p y && (cutG g (Lib.trimSuffix p y)).2) := by
  unfold fitP
  have h1 : ¬ (g ++ [y]).length = 1 := by
    cases g with
    | nil => exact absurd rfl hg
    | cons x xs => simp
  rw [if_neg h1, List.dropLast_concat, show (g ++ [y]).getLastD [] = y from by simp, (cutG_cutP _).1]
  unfold Lib.trimSuffix Lib.hasSuffix
  cases h : y.isSuffixOf p with
  | false => simp
  | true => simp
theorem trimS_len (s x : List UInt8) : (Lib.trimSuffix s x).length ≤ s.length := by
  unfold Lib.trimSuffix
  split <;> simp
theorem fitR_drop {ps : List (List UInt8)} {gs : List Glob} {i : Nat} (h1 : i < ps.length) (h2 : i < gs.length) : fitR (ps.drop i) (gs.drop i) = (fitP ps[i] gs[i] && fitR (ps.drop (i + 1)) (gs.drop (i + 1))) := by
  rw [List.drop_eq_getElem_cons h1, List.drop_eq_getElem_cons h2]
  rfl
/-- The parts of a name under way, in a block of their own. -/
def Pt (q : Nat) (w : World) (v : Value) (ps : List (List UInt8)) : Prop :=
  (∃ vs t, Blk w q vs t) ∧ ∃ o cap, v = .slice (some ⟨q, o, none⟩) ps.length cap ∧ ps.length ≤ cap ∧ ∀ i (hi : i < ps.length), w.cell? ⟨q, o + i, none⟩ = some (.string ⟨ps[i].toArray⟩) ∧ w.frozen? ⟨q, o + i, none⟩ = false
theorem Pt.keep {q : Nat} {w w' : World} {v : Value} {ps : List (List UInt8)} (h : Pt q w v ps) (hq : q < w.heap.size) (hb : Below w.heap.size w w') : Pt q w' v ps := by
  obtain ⟨⟨vs, t, hv⟩, o, cap, rfl, h1, h2⟩ := h
  exact ⟨⟨vs, t, hv.below hb hq⟩, o, cap, rfl, h1, fun i hi => ⟨(hb.cell (p := ⟨q, o + i, none⟩) hq).trans (h2 i hi).1, (hb.frozen (p := ⟨q, o + i, none⟩) hq).trans (h2 i hi).2⟩⟩
/-- Bounds of a row of parts, and of a run. -/
def Sml (ps : List (List UInt8)) : Prop := ps.length ≤ 1000000 ∧ ∀ p ∈ ps, p.length ≤ 1000000
def SmR (r : List Glob) : Prop := r.length ≤ 1000000 ∧ ∀ g ∈ r, g ≠ [] ∧ g.length ≤ 1000000
end Go.Proofs.YtdbmaobjikjifaaGreatDoorR

end
section
set_option linter.unusedSimpArgs false
set_option linter.unusedVariables false
namespace Go.Proofs.YtdbmaobjikjifaaGreatDoorR
open Go.RowKit Go.Shelf
theorem Pt.drop {q o n cap : Nat} {w : World} {ps : List (List UInt8)} (h : Pt q w (.slice (some ⟨q, o, none⟩) n cap) ps) {k : Nat} (hk : k ≤ n) : Pt q w (.slice (some ⟨q, o + k, none⟩) (n - k) (cap - k)) (ps.drop k) := by
  obtain ⟨hv, o', cap', e, h1, h2⟩ := h
  cases e
  refine ⟨hv, o + k, cap - k, by rw [List.length_drop], by rw [List.length_drop]; omega, fun i hi => ?_⟩
  rw [List.length_drop] at hi
  have := h2 (k + i) (by omega)
  rw [List.getElem_drop]
  rwa [show o + k + i = o + (k + i) from by omega]
theorem Sml.drop {ps : List (List UInt8)} (h : Sml ps) (k : Nat) : Sml (ps.drop k) := ⟨by rw [List.length_drop]; have := h.1; omega, fun p hp => h.2 p (List.mem_of_mem_drop hp)⟩
/-- cutFront as the program goes about it. -/
theorem cutF_form : ∀ (r : List Glob) (g : Glob) (ps : List (List UInt8)), cutF ps (r ++ [g]) = if h : r.length < ps.length then (if fitR ps r then (cutP g ps[r.length]).map (· :: ps.drop (r.length + 1)) else none) else none
  | [], g, [] => by simp [cutF]
  | [], g, p :: ps => by simp [cutF, fitR]
  | x :: r, g, [] => by
    cases r <;> simp [cutF]
  | x :: r, g, p :: ps => by
    have ih := cutF_form r g ps
    have e : cutF (p :: ps) (x :: r ++ [g]) = if fitP p x then cutF ps (r ++ [g]) else none := by
      cases r with
      | nil => simp [cutF]
      | cons y r => simp [cutF]
    rw [e, ih]
    by_cases hl : r.length < ps.length
    · rw [dif_pos hl, dif_pos (by simp; omega)]
      cases hf : fitP p x with
      | false => simp [fitR, hf]
      | true => simp [fitR, hf]
    · rw [dif_neg hl, dif_neg (by simp; omega)]
      split <;> rfl
/-- What cutFront and cutFirst answer. -/
inductive CfOut (q : Nat) (w : World) (c : Option (List (List UInt8))) (e : Ending) (w' : World) : Prop
  | no (h : c = none) (he : e = .returned (.tuple #[.slice none 0 0, .bool false])) (hb : Below w.heap.size w w')
  | yes (l : List (List UInt8)) (lv : Value) (h : c = some l) (he : e = .returned (.tuple #[lv, .bool true])) (hp : Pt q w' lv l) (hm : Mvs (fun k => k = q) w w')
theorem Pt.put {q o n cap : Nat} {w : World} {p : List UInt8} {ps : List (List UInt8)} (h : Pt q w (.slice (some ⟨q, o, none⟩) n cap) (p :: ps)) (x : List UInt8) : Pt q (w.setCell ⟨q, o, none⟩ (.string ⟨x.toArray⟩)) (.slice (some ⟨q, o, none⟩) n cap) (x :: ps) := by
  obtain ⟨⟨vs, t, hB⟩, o', cap', e, h1, h2⟩ := h
  cases e
  refine ⟨⟨_, _, hB.set o _⟩, o, cap, rfl, h1, fun i hi => ?_⟩
  have h3 := h2 i hi
  rw [hB.cell, hB.frozen] at h3
  rw [(hB.set o _).cell, (hB.set o _).frozen]
  refine ⟨?_, rfl⟩
  have h0 := (h2 0 (by simp)).1
  rw [hB.cell] at h0
  cases i with
  | zero =>
    have : o < vs.size := (Array.getElem?_eq_some_iff.1 h0).1
    simp [this]
  | succ i =>
    rw [Array.getElem?_setIfInBounds_ne (by omega)]
    simpa using h3.1
end Go.Proofs.YtdbmaobjikjifaaGreatDoorR

end
section
set_option linter.unusedSimpArgs false
set_option linter.unusedVariables false
namespace Go.Proofs.YtdbmaobjikjifaaGreatDoorR
open Go.RowKit Go.Shelf
theorem idx_bo (s : List UInt8) (c : UInt8) : Lib.indexB ⟨s.toArray⟩ ⟨#[c]⟩ = Lib.indexByte s c := Lib.index_one s c
theorem splitB_bo (c : UInt8) : ∀ (n : Nat) (s : List UInt8), s.length ≤ n → Lib.splitB ⟨#[c]⟩ 0 (Lib.countB ⟨s.toArray⟩ ⟨#[c]⟩) ⟨s.toArray⟩ = (spc c s).map (fun x => (⟨x.toArray⟩ : ByteArray)) ∧ Lib.countB ⟨s.toArray⟩ ⟨#[c]⟩ + 1 = (spc c s).length
  | n, s, hn => by
    by_cases hc : c ∈ s
    · obtain ⟨p, r, rfl, hp⟩ := split_at_byte s hc
      have hi : Lib.indexB ⟨(p ++ c :: r).toArray⟩ ⟨#[c]⟩ = (p.length : Nat) := (idx_bo _ c).trans (index_in r hp)
      have e2 : (⟨(p ++ c :: r).toArray⟩ : ByteArray).extract (p.length + (⟨#[c]⟩ : ByteArray).size) (⟨(p ++ c :: r).toArray⟩ : ByteArray).size = ⟨r.toArray⟩ := by
        rw [show (⟨#[c]⟩ : ByteArray).size = 1 from rfl, size_lit, ext_drop]
        have : (p ++ c :: r).drop (p.length + 1) = r := by
          rw [List.drop_append, List.drop_of_length_le (by omega), show p.length + 1 - p.length = 1 from by omega]; rfl
        rw [this]
      have hcnt := Lib.countB_hit ⟨(p ++ c :: r).toArray⟩ ⟨#[c]⟩ p.length (Nat.le_refl 1) hi
      rw [e2] at hcnt
      cases n with
      | zero => simp at hn
      | succ n =>
        obtain ⟨h1, h2⟩ := splitB_bo c n r (by simp at hn; omega)
        rw [hcnt, Nat.add_comm 1, Lib.splitB_hit _ _ _ _ p.length hi, e2, h1, spc_mid r hp, Nat.add_zero, ext_take, List.take_left' rfl]
        exact ⟨rfl, by rw [h2]; rfl⟩
    · have hi : Lib.indexB ⟨s.toArray⟩ ⟨#[c]⟩ = -1 := (idx_bo _ c).trans (index_out hc)
      rw [Lib.countB_miss _ _ hi, Lib.splitB_miss _ _ _ _ hi, spc_end hc]
      exact ⟨rfl, rfl⟩
def svB (x : List UInt8) : Value := .string ⟨x.toArray⟩
theorem pt_new (w : World) (ps : List (List UInt8)) : Pt w.heap.size (w.alloc (.cells (ps.map svB).toArray 9)) (.slice (some ⟨w.heap.size, 0, none⟩) ps.length ps.length) ps := by
  have hB := Blk.new w (ps.map svB).toArray 9
  refine ⟨⟨_, _, hB⟩, 0, ps.length, rfl, Nat.le_refl _, fun i hi => ⟨?_, hB.frozen _⟩⟩
  rw [hB.cell]
  simp [List.getElem?_eq_getElem hi, svB]
theorem cutL_len : ∀ {gs : List (List UInt8)} {r b : List UInt8}, cutL gs r = some b → b.length ≤ r.length := fun h => by
  obtain ⟨a, rfl, _⟩ := cutL_yes h
  simp
theorem cutP_len {g : Glob} {p b : List UInt8} (h : cutP g p = some b) : b.length ≤ p.length := by
  cases g with
  | nil => simp [cutP] at h
  | cons x xs =>
    unfold cutP at h
    simp only at h
    split at h
    · have := cutL_len h
      rw [List.length_drop] at this
      omega
    · exact absurd h (by simp)
theorem cutF_sml {r : List Glob} {ps l : List (List UInt8)} (hs : Sml ps) (h : cutF ps r = some l) : Sml l := by
  by_cases hne : r = []
  · subst hne
    cases ps <;> simp [cutF] at h
  · obtain ⟨r, g, rfl⟩ : ∃ r' g, r = r' ++ [g] := ⟨r.dropLast, r.getLast hne, (List.dropLast_concat_getLast hne).symm⟩
    rw [cutF_form] at h
    split at h
    · rename_i hlt
      split at h
      · obtain ⟨b, hb, rfl⟩ := Option.map_eq_some_iff.1 h
        have h1 := cutP_len hb
        have h2 := hs.2 _ (List.getElem_mem hlt)
        have h3 := hs.drop (r.length + 1)
        refine ⟨?_, fun p hp => ?_⟩
        · have := hs.1
          simp only [List.length_cons, List.length_drop]
          omega
        · rcases List.mem_cons.1 hp with rfl | hp
          · omega
          · exact h3.2 p hp
      · exact absurd h (by simp)
    · exact absurd h (by simp)
theorem cutS_sml {r : List Glob} : ∀ {ps l : List (List UInt8)}, Sml ps → cutS r ps = some l → Sml l
  | [], _, _, h => by simp [cutS] at h
  | p :: ps, l, hs, h => by
    rw [cutS] at h
    split at h
    · exact absurd h (by simp)
    · split at h
      · rename_i l' hl
        injection h with h
        subst h
        exact cutF_sml hs hl
      · exact cutS_sml (hs.drop 1) h
def lenV : Value → Nat
  | .slice _ n _ => n
  | _ => 0
theorem CfOut.none' {q : Nat} {w w' : World} {e : Ending} (h : CfOut q w none e w') : e = .returned (.tuple #[.slice none 0 0, .bool false]) ∧ Below w.heap.size w w' := by
  cases h with
  | no _ he hb => exact ⟨he, hb⟩
  | yes l lv h => exact absurd h (by simp)
theorem CfOut.some' {q : Nat} {w w' : World} {e : Ending} {l : List (List UInt8)} (h : CfOut q w (some l) e w') : ∃ lv, e = .returned (.tuple #[lv, .bool true]) ∧ Pt q w' lv l ∧ Mvs (fun k => k = q) w w' := by
  cases h with
  | no h => exact absurd h (by simp)
  | yes l' lv h he hp hm =>
    injection h with h
    subst h
    exact ⟨lv, he, hp, hm⟩
end Go.Proofs.YtdbmaobjikjifaaGreatDoorR

end
