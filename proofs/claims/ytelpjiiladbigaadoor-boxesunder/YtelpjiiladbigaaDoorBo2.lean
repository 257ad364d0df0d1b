/- fitsPart and fitsEach of package boxes. -/
import Derived.Test.YtelpjiiladbigaaDoorBo1
set_option linter.unusedSimpArgs false
set_option linter.unusedVariables false
namespace Go.Proofs.YtelpjiiladbigaaDoor
open Go.RowKit Go.Shelf
theorem suffix_bo (p x : List UInt8) (w : World) (hp : p.length ≤ 1000000) : Calls Tryd.prog 100 #[.string ⟨p.toArray⟩, .string ⟨x.toArray⟩] w fun e w' => e = .returned (.tuple #[.string ⟨(Lib.trimSuffix p x).toArray⟩, .bool (Lib.hasSuffix p x)]) ∧ w = w' :=
  (Tryd.strings_CutSuffix ⟨p.toArray⟩ ⟨x.toArray⟩ w (by simp [ByteArray.size]; omega)).mono fun _ _ h => ⟨h.1, h.2.symm⟩
theorem fitP_one (p x : List UInt8) : fitP p [x] = (p == x) := by simp [fitP]
theorem fitP_more (p y : List UInt8) (g : Glob) (hg : g ≠ []) : fitP p (g ++ [y]) = (Lib.hasSuffix p y && (cutG g (Lib.trimSuffix p y)).2) := by
  unfold fitP
  have h1 : ¬ (g ++ [y]).length = 1 := by
    cases g with
    | nil => exact absurd rfl hg
    | cons x xs => simp
  rw [if_neg h1, List.dropLast_concat, show (g ++ [y]).getLastD [] = y from by simp, (cutG_cutP _).1]
  unfold Lib.trimSuffix Lib.hasSuffix
  cases h : y.isSuffixOf p with
  | false => simp
  | true => simp
theorem trimS_len (s x : List UInt8) : (Lib.trimSuffix s x).length ≤ s.length := by
  unfold Lib.trimSuffix
  split <;> simp
set_option maxRecDepth 20000 in
set_option maxHeartbeats 1000000 in
theorem fitsPart_any {B : Nat} {w : World} {gv : Value} {g : Glob} (hne : g ≠ []) (h : Rd B E0 w gv g) (hM : MX B w) (hB : B ≤ w.heap.size) (p : List UInt8) (hp : p.length ≤ 1000000) (hl : g.length ≤ 1000000) :
    Calls Tryd.prog 88 #[.string ⟨p.toArray⟩, gv] w fun e w' => e = .returned (.bool (fitP p g)) ∧ Below w.heap.size w w' := by
  obtain ⟨b, o, cap, rfl, h1, h2, h3⟩ := h
  obtain ⟨g, y, rfl⟩ : ∃ g' y, g = g' ++ [y] := ⟨g.dropLast, g.getLast hne, (List.dropLast_concat_getLast hne).symm⟩
  have hy : ∃ u, w.cell? ⟨b, o + g.length, none⟩ = some u ∧ E0 w u y := by
    have := h3 g.length (by simp)
    rwa [show (g ++ [y])[g.length]'(by simp) = y from by simp] at this
  obtain ⟨u, hu, he⟩ := hy
  rw [show u = _ from he] at hu
  clear he
  rw [List.length_append, show [y].length = 1 from rfl] at h1 hl ⊢
  by_cases hg : g = []
  · subst hg
    have e0 := fitP_one p y
    clear h3
    simp only [List.length_nil, Nat.add_zero, Nat.zero_add, List.nil_append] at *
    by_cases hpy : p = y
    · subst hpy
      rw [show (p == p) = true from by simp] at e0
      have HE := hide e0
      clear e0
      go_enter Tryd.func88, Tryd.ntmps88
      go_wp2
      go_ret
      exact ⟨by rw [HE.out]; rfl, Below.refl _ _⟩
    · have hq : (p == y) = false := by simp [hpy]
      rw [hq] at e0
      have HE := hide e0
      clear e0 hpy
      go_enter Tryd.func88, Tryd.ntmps88
      go_wp2
      go_ret
      exact ⟨by rw [HE.out]; rfl, Below.refl _ _⟩
  · have HE := hide (fitP_more p y g hg)
    have HS := hide (suffix_bo p y · hp)
    have hR : Rd B E0 w (.slice (some ⟨b, o, none⟩) g.length cap) g := ⟨b, o, cap, rfl, by omega, h2, fun i hi => by
      have := h3 i (by simp; omega)
      rwa [List.getElem_append_left hi] at this⟩
    have hk1 : 1 ≤ g.length := by
      cases g with
      | nil => exact absurd rfl hg
      | cons => simp
    have HC := hide (cutPart_any hg hR hM hB (Lib.trimSuffix p y) (Nat.le_trans (trimS_len p y) hp) (by omega))
    clear hR h3 hM
    generalize Lib.trimSuffix p y = R at *
    generalize Lib.hasSuffix p y = f at *
    generalize (cutG g R).1 = R2 at *
    generalize (cutG g R).2 = f2 at *
    generalize g.length = k at *
    have hk0 : ¬ ((k : Int) = 0) := by omega
    cases f with
    | false =>
      go_enter Tryd.func88, Tryd.ntmps88
      go_wp2_with (go_at_call 100; refine (HS.out _).mono ?_; rintro e w' ⟨rfl, rfl⟩)
      go_ret
      exact ⟨by rw [HE.out]; rfl, Below.refl _ _⟩
    | true =>
      go_enter Tryd.func88, Tryd.ntmps88
      go_wp2_with (first
        | (go_at_call 100; refine (HS.out _).mono ?_; rintro e w' ⟨rfl, rfl⟩)
        | (go_at_call 65; refine HC.out.mono ?_; rintro e w' ⟨rfl, hb'⟩))
      go_ret
      exact ⟨by rw [HE.out]; simp, hb'⟩
theorem fitR_drop {ps : List (List UInt8)} {gs : List Glob} {i : Nat} (h1 : i < ps.length) (h2 : i < gs.length) : fitR (ps.drop i) (gs.drop i) = (fitP ps[i] gs[i] && fitR (ps.drop (i + 1)) (gs.drop (i + 1))) := by
  rw [List.drop_eq_getElem_cons h1, List.drop_eq_getElem_cons h2]
  rfl
/-- The parts of a name under way, in a block of their own. -/
def Pt (q : Nat) (w : World) (v : Value) (ps : List (List UInt8)) : Prop :=
  (∃ vs t, Blk w q vs t) ∧ ∃ o cap, v = .slice (some ⟨q, o, none⟩) ps.length cap ∧ ps.length ≤ cap ∧ ∀ i (hi : i < ps.length), w.cell? ⟨q, o + i, none⟩ = some (.string ⟨ps[i].toArray⟩) ∧ w.frozen? ⟨q, o + i, none⟩ = false
theorem Pt.keep {q : Nat} {w w' : World} {v : Value} {ps : List (List UInt8)} (h : Pt q w v ps) (hq : q < w.heap.size) (hb : Below w.heap.size w w') : Pt q w' v ps := by
  obtain ⟨⟨vs, t, hv⟩, o, cap, rfl, h1, h2⟩ := h
  exact ⟨⟨vs, t, hv.below hb hq⟩, o, cap, rfl, h1, fun i hi => ⟨(hb.cell (p := ⟨q, o + i, none⟩) hq).trans (h2 i hi).1, (hb.frozen (p := ⟨q, o + i, none⟩) hq).trans (h2 i hi).2⟩⟩
/-- Bounds of a row of parts, and of a run. -/
def Sml (ps : List (List UInt8)) : Prop := ps.length ≤ 1000000 ∧ ∀ p ∈ ps, p.length ≤ 1000000
def SmR (r : List Glob) : Prop := r.length ≤ 1000000 ∧ ∀ g ∈ r, g ≠ [] ∧ g.length ≤ 1000000
set_option maxRecDepth 20000 in
set_option maxHeartbeats 1000000 in
theorem fitsEach_any {B q : Nat} {w : World} {pv rv : Value} {ps : List (List UInt8)} {r : List Glob} (hP : Pt q w pv ps) (hq : q < w.heap.size) (h : Rd B (E1 B) w rv r) (hM : MX B w) (hB : B ≤ w.heap.size) (hs : Sml ps) (hr : SmR r) (hle : r.length ≤ ps.length) :
    Calls Tryd.prog 64 #[pv, rv] w fun e w' => e = .returned (.bool (fitR ps r)) ∧ Below w.heap.size w w' := by
  obtain ⟨b, o, cap, rfl, h1, h2, h3⟩ := h
  obtain ⟨_, o2, cap2, rfl, k1, k2⟩ := hP
  have H3 := hide h3
  have HM := hide hM
  have K2 := hide k2
  have HS := hide hs
  have HR := hide hr
  have hr1 := hr.1
  have hs1 := hs.1
  clear h3 hM k2 hs hr
  obtain ⟨n, hn⟩ : ∃ n, Hid (n = r.length) := ⟨_, hide rfl⟩
  obtain ⟨m, hm⟩ : ∃ m, Hid (m = ps.length) := ⟨_, hide rfl⟩
  rw [← hn.out] at h1 hr1 hle
  rw [← hm.out] at k1 hs1 hle
  rw [← hn.out, ← hm.out]
  go_enter Tryd.func64, Tryd.ntmps64
  go_wp2
  go_loopw [5, 6, 9] (fun _ _ v9 wr => ∃ i : Nat, v9 = .int .i64 i ∧ i ≤ n ∧ Hid (fitR (ps.drop i) (r.drop i) = fitR ps r) ∧ Hid (Below w.heap.size w wr)) (fun _ _ v9 _ => n - (intOf v9).toNat)
  case atStart => exact ⟨0, rfl, by omega, rfl, Below.refl _ _⟩
  case round =>
    obtain ⟨i, rfl, hi, HL, HB⟩ := hrel
    by_cases hlt : i < n
    · have hlt' : (i : Int) < n := by omega
      have hir : i < r.length := by rw [← hn.out]; exact hlt
      have hip : i < ps.length := by rw [← hm.out]; omega
      obtain ⟨u, hu, he⟩ := H3.out i hir
      have ci : wr.cell? ⟨b, o + i, none⟩ = some u := (HB.out.cell (p := ⟨b, o + i, none⟩) (by show b < _; omega)).trans hu
      have cp : wr.cell? ⟨q, o2 + i, none⟩ = some (.string ⟨ps[i].toArray⟩) := (HB.out.cell (p := ⟨q, o2 + i, none⟩) hq).trans (K2.out i hip).1
      have hgi := HR.out.2 r[i] (List.getElem_mem hir)
      have HC := hide (fitsPart_any hgi.1 (Rd.keep0 he (HB.out.mono hB)) (HM.out.keep (HB.out.mono hB)) (Nat.le_trans hB HB.out.size) ps[i] (HS.out.2 _ (List.getElem_mem hip)) hgi.2)
      have HF := hide (fitR_drop hip hir)
      have him : (i : Int) < m := by omega
      clear hu he hgi
      generalize ps[i] = p at *
      generalize fitP p r[i] = f at *
      cases f with
      | false =>
        have HE : Hid (fitR ps r = false) := by show _ = _; rw [← HL.out, HF.out]; rfl
        go_wp2_with (go_at_call 88; refine HC.out.mono ?_; rintro e w' ⟨rfl, hb'⟩)
        go_ret
        exact ⟨by rw [HE.out]; rfl, HB.out.trans (hb'.mono HB.out.size)⟩
      | true =>
        have HE : Hid (fitR (ps.drop (i + 1)) (r.drop (i + 1)) = fitR ps r) := by show _ = _; rw [← HL.out, HF.out]; rfl
        go_wp2_with (go_at_call 88; refine HC.out.mono ?_; rintro e w' ⟨rfl, hb'⟩)
        go_roundw
        case rel => exact ⟨i + 1, by go_num, by omega, HE.out, HB.out.trans (hb'.mono HB.out.size)⟩
        case measure => simp [intOf]; omega
    · obtain rfl : i = n := by omega
      have HE : Hid (fitR ps r = true) := by
        show _ = _
        rw [← HL.out, List.drop_of_length_le (l := r) (by rw [← hn.out]; exact Nat.le_refl _)]
        cases ps.drop i <;> rfl
      go_wp2
      go_ret
      exact ⟨by rw [HE.out]; rfl, HB.out⟩
end Go.Proofs.YtelpjiiladbigaaDoor
