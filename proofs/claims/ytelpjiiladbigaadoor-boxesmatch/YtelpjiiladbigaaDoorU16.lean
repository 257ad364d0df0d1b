/- fitsPart and fitsEach of package boxes. -/
/- fitsEnd, cutFront and cutFirst of package boxes. -/
import Derived.Test.YtelpjiiladbigaaDoorU15
section
set_option linter.unusedSimpArgs false
set_option linter.unusedVariables false
namespace Go.Proofs.YtelpjiiladbigaaDoor
open Go.RowKit Go.Shelf
theorem suffix_bo (p x : List UInt8) (w : World) (hp : p.length ≤ 1000000) : Calls Tryd.prog 100 #[.string ⟨p.toArray⟩, .string ⟨x.toArray⟩] w fun e w' => e = .returned (.tuple #[.string ⟨(Lib.trimSuffix p x).toArray⟩, .bool (Lib.hasSuffix p x)]) ∧ w = w' :=
  (Tryd.strings_CutSuffix ⟨p.toArray⟩ ⟨x.toArray⟩ w (by simp [ByteArray.size]; omega)).mono fun _ _ h => ⟨h.1, h.2.symm⟩
theorem fitP_one (p x : List UInt8) : fitP p [x] = (p == x) := by simp [fitP]
theorem fitP_more (p y : List UInt8) (g : Glob) (hg : g ≠ []) : fitP p (g ++ [y]) = (Lib.hasSuffix p y && (cutG g (Lib.trimSuffix p y)).2) := by
  unfold fitP
  have h1 : ¬ (g ++ [y]).length = 1 := by
    cases g with
    | nil => exact absurd rfl hg
    | cons x xs => simp
  rw [if_neg h1, List.dropLast_concat, show (g ++ [y]).getLastD [] = y from by simp, (cutG_cutP _).1]
  unfold Lib.trimSuffix Lib.hasSuffix
  cases h : y.isSuffixOf p with
  | false => simp
  | true => simp
theorem trimS_len (s x : List UInt8) : (Lib.trimSuffix s x).length ≤ s.length := by
  unfold Lib.trimSuffix
  split <;> simp
set_option maxRecDepth 20000 in
set_option maxHeartbeats 1000000 in
theorem fitsPart_any {B : Nat} {w : World} {gv : Value} {g : Glob} (hne : g ≠ []) (h : Rd B E0 w gv g) (hM : MX B w) (hB : B ≤ w.heap.size) (p : List UInt8) (hp : p.length ≤ 1000000) (hl : g.length ≤ 1000000) :
    Calls Tryd.prog 88 #[.string ⟨p.toArray⟩, gv] w fun e w' => e = .returned (.bool (fitP p g)) ∧ Below w.heap.size w w' := by
  obtain ⟨b, o, cap, rfl, h1, h2, h3⟩ := h
  obtain ⟨g, y, rfl⟩ : ∃ g' y, g = g' ++ [y] := ⟨g.dropLast, g.getLast hne, (List.dropLast_concat_getLast hne).symm⟩
  have hy : ∃ u, w.cell? ⟨b, o + g.length, none⟩ = some u ∧ E0 w u y := by
    have := h3 g.length (by simp)
    rwa [show (g ++ [y])[g.length]'(by simp) = y from by simp] at this
  obtain ⟨u, hu, he⟩ := hy
  rw [show u = _ from he] at hu
  clear he
  rw [List.length_append, show [y].length = 1 from rfl] at h1 hl ⊢
  by_cases hg : g = []
  · subst hg
    have e0 := fitP_one p y
    clear h3
    simp only [List.length_nil, Nat.add_zero, Nat.zero_add, List.nil_append] at *
    by_cases hpy : p = y
    · subst hpy
      rw [show (p == p) = true from by simp] at e0
      have HE := hide e0
      clear e0
      go_enter Tryd.func88, Tryd.ntmps88
      go_wp2
      go_ret
      exact ⟨by rw [HE.out]; rfl, Below.refl _ _⟩
    · have hq : (p == y) = false := by simp [hpy]
      rw [hq] at e0
      have HE := hide e0
      clear e0 hpy
      go_enter Tryd.func88, Tryd.ntmps88
      go_wp2
      go_ret
      exact ⟨by rw [HE.out]; rfl, Below.refl _ _⟩
  · have HE := hide (fitP_more p y g hg)
    have HS := hide (suffix_bo p y · hp)
    have hR : Rd B E0 w (.slice (some ⟨b, o, none⟩) g.length cap) g := ⟨b, o, cap, rfl, by omega, h2, fun i hi => by
      have := h3 i (by simp; omega)
      rwa [List.getElem_append_left hi] at this⟩
    have hk1 : 1 ≤ g.length := by
      cases g with
      | nil => exact absurd rfl hg
      | cons => simp
    have HC := hide (cutPart_any hg hR hM hB (Lib.trimSuffix p y) (Nat.le_trans (trimS_len p y) hp) (by omega))
    clear hR h3 hM
    generalize Lib.trimSuffix p y = R at *
    generalize Lib.hasSuffix p y = f at *
    generalize (cutG g R).1 = R2 at *
    generalize (cutG g R).2 = f2 at *
    generalize g.length = k at *
    have hk0 : ¬ ((k : Int) = 0) := by omega
    cases f with
    | false =>
      go_enter Tryd.func88, Tryd.ntmps88
      go_wp2_with (go_at_call 100; refine (HS.out _).mono ?_; rintro e w' ⟨rfl, rfl⟩)
      go_ret
      exact ⟨by rw [HE.out]; rfl, Below.refl _ _⟩
    | true =>
      go_enter Tryd.func88, Tryd.ntmps88
      go_wp2_with (first
        | (go_at_call 100; refine (HS.out _).mono ?_; rintro e w' ⟨rfl, rfl⟩)
        | (go_at_call 65; refine HC.out.mono ?_; rintro e w' ⟨rfl, hb'⟩))
      go_ret
      exact ⟨by rw [HE.out]; simp, hb'⟩
theorem fitR_drop {ps : List (List UInt8)} {gs : List Glob} {i : Nat} (h1 : i < ps.length) (h2 : i < gs.length) : fitR (ps.drop i) (gs.drop i) = (fitP ps[i] gs[i] && fitR (ps.drop (i + 1)) (gs.drop (i + 1))) := by
  rw [List.drop_eq_getElem_cons h1, List.drop_eq_getElem_cons h2]
  rfl
/-- The parts of a name under way, in a block of their own. -/
def Pt (q : Nat) (w : World) (v : Value) (ps : List (List UInt8)) : Prop :=
  (∃ vs t, Blk w q vs t) ∧ ∃ o cap, v = .slice (some ⟨q, o, none⟩) ps.length cap ∧ ps.length ≤ cap ∧ ∀ i (hi : i < ps.length), w.cell? ⟨q, o + i, none⟩ = some (.string ⟨ps[i].toArray⟩) ∧ w.frozen? ⟨q, o + i, none⟩ = false
theorem Pt.keep {q : Nat} {w w' : World} {v : Value} {ps : List (List UInt8)} (h : Pt q w v ps) (hq : q < w.heap.size) (hb : Below w.heap.size w w') : Pt q w' v ps := by
  obtain ⟨⟨vs, t, hv⟩, o, cap, rfl, h1, h2⟩ := h
  exact ⟨⟨vs, t, hv.below hb hq⟩, o, cap, rfl, h1, fun i hi => ⟨(hb.cell (p := ⟨q, o + i, none⟩) hq).trans (h2 i hi).1, (hb.frozen (p := ⟨q, o + i, none⟩) hq).trans (h2 i hi).2⟩⟩
/-- Bounds of a row of parts, and of a run. -/
def Sml (ps : List (List UInt8)) : Prop := ps.length ≤ 1000000 ∧ ∀ p ∈ ps, p.length ≤ 1000000
def SmR (r : List Glob) : Prop := r.length ≤ 1000000 ∧ ∀ g ∈ r, g ≠ [] ∧ g.length ≤ 1000000
set_option maxRecDepth 20000 in
set_option maxHeartbeats 1000000 in
theorem fitsEach_any {B q : Nat} {w : World} {pv rv : Value} {ps : List (List UInt8)} {r : List Glob} (hP : Pt q w pv ps) (hq : q < w.heap.size) (h : Rd B (E1 B) w rv r) (hM : MX B w) (hB : B ≤ w.heap.size) (hs : Sml ps) (hr : SmR r) (hle : r.length ≤ ps.length) :
    Calls Tryd.prog 64 #[pv, rv] w fun e w' => e = .returned (.bool (fitR ps r)) ∧ Below w.heap.size w w' := by
  obtain ⟨b, o, cap, rfl, h1, h2, h3⟩ := h
  obtain ⟨_, o2, cap2, rfl, k1, k2⟩ := hP
  have H3 := hide h3
  have HM := hide hM
  have K2 := hide k2
  have HS := hide hs
  have HR := hide hr
  have hr1 := hr.1
  have hs1 := hs.1
  clear h3 hM k2 hs hr
  obtain ⟨n, hn⟩ : ∃ n, Hid (n = r.length) := ⟨_, hide rfl⟩
  obtain ⟨m, hm⟩ : ∃ m, Hid (m = ps.length) := ⟨_, hide rfl⟩
  rw [← hn.out] at h1 hr1 hle
  rw [← hm.out] at k1 hs1 hle
  rw [← hn.out, ← hm.out]
  go_enter Tryd.func64, Tryd.ntmps64
  go_wp2
  go_loopw [5, 6, 9] (fun _ _ v9 wr => ∃ i : Nat, v9 = .int .i64 i ∧ i ≤ n ∧ Hid (fitR (ps.drop i) (r.drop i) = fitR ps r) ∧ Hid (Below w.heap.size w wr)) (fun _ _ v9 _ => n - (intOf v9).toNat)
  case atStart => exact ⟨0, rfl, by omega, rfl, Below.refl _ _⟩
  case round =>
    obtain ⟨i, rfl, hi, HL, HB⟩ := hrel
    by_cases hlt : i < n
    · have hlt' : (i : Int) < n := by omega
      have hir : i < r.length := by rw [← hn.out]; exact hlt
      have hip : i < ps.length := by rw [← hm.out]; omega
      obtain ⟨u, hu, he⟩ := H3.out i hir
      have ci : wr.cell? ⟨b, o + i, none⟩ = some u := (HB.out.cell (p := ⟨b, o + i, none⟩) (by show b < _; omega)).trans hu
      have cp : wr.cell? ⟨q, o2 + i, none⟩ = some (.string ⟨ps[i].toArray⟩) := (HB.out.cell (p := ⟨q, o2 + i, none⟩) hq).trans (K2.out i hip).1
      have hgi := HR.out.2 r[i] (List.getElem_mem hir)
      have HC := hide (fitsPart_any hgi.1 (Rd.keep0 he (HB.out.mono hB)) (HM.out.keep (HB.out.mono hB)) (Nat.le_trans hB HB.out.size) ps[i] (HS.out.2 _ (List.getElem_mem hip)) hgi.2)
      have HF := hide (fitR_drop hip hir)
      have him : (i : Int) < m := by omega
      clear hu he hgi
      generalize ps[i] = p at *
      generalize fitP p r[i] = f at *
      cases f with
      | false =>
        have HE : Hid (fitR ps r = false) := by show _ = _; rw [← HL.out, HF.out]; rfl
        go_wp2_with (go_at_call 88; refine HC.out.mono ?_; rintro e w' ⟨rfl, hb'⟩)
        go_ret
        exact ⟨by rw [HE.out]; rfl, HB.out.trans (hb'.mono HB.out.size)⟩
      | true =>
        have HE : Hid (fitR (ps.drop (i + 1)) (r.drop (i + 1)) = fitR ps r) := by show _ = _; rw [← HL.out, HF.out]; rfl
        go_wp2_with (go_at_call 88; refine HC.out.mono ?_; rintro e w' ⟨rfl, hb'⟩)
        go_roundw
        case rel => exact ⟨i + 1, by go_num, by omega, HE.out, HB.out.trans (hb'.mono HB.out.size)⟩
        case measure => simp [intOf]; omega
    · obtain rfl : i = n := by omega
      have HE : Hid (fitR ps r = true) := by
        show _ = _
        rw [← HL.out, List.drop_of_length_le (l := r) (by rw [← hn.out]; exact Nat.le_refl _)]
        cases ps.drop i <;> rfl
      go_wp2
      go_ret
      exact ⟨by rw [HE.out]; rfl, HB.out⟩
end Go.Proofs.YtelpjiiladbigaaDoor

end
section
set_option linter.unusedSimpArgs false
set_option linter.unusedVariables false
namespace Go.Proofs.YtelpjiiladbigaaDoor
open Go.RowKit Go.Shelf
theorem Pt.drop {q o n cap : Nat} {w : World} {ps : List (List UInt8)} (h : Pt q w (.slice (some ⟨q, o, none⟩) n cap) ps) {k : Nat} (hk : k ≤ n) : Pt q w (.slice (some ⟨q, o + k, none⟩) (n - k) (cap - k)) (ps.drop k) := by
  obtain ⟨hv, o', cap', e, h1, h2⟩ := h
  cases e
  refine ⟨hv, o + k, cap - k, by rw [List.length_drop], by rw [List.length_drop]; omega, fun i hi => ?_⟩
  rw [List.length_drop] at hi
  have := h2 (k + i) (by omega)
  rw [List.getElem_drop]
  rwa [show o + k + i = o + (k + i) from by omega]
theorem Sml.drop {ps : List (List UInt8)} (h : Sml ps) (k : Nat) : Sml (ps.drop k) := ⟨by rw [List.length_drop]; have := h.1; omega, fun p hp => h.2 p (List.mem_of_mem_drop hp)⟩
set_option maxRecDepth 20000 in
set_option maxHeartbeats 1000000 in
theorem fitsEnd_any {B q : Nat} {w : World} {pv rv : Value} {ps : List (List UInt8)} {r : List Glob} (hP : Pt q w pv ps) (hq : q < w.heap.size) (h : Rd B (E1 B) w rv r) (hM : MX B w) (hB : B ≤ w.heap.size) (hs : Sml ps) (hr : SmR r) (hne : 1 ≤ r.length) :
    Calls Tryd.prog 47 #[pv, rv] w fun e w' => e = .returned (.bool (endB ps r)) ∧ Below w.heap.size w w' := by
  obtain ⟨b, o, cap, rfl, h1, h2, h3⟩ := id h
  obtain ⟨_, o2, cap2, rfl, k1, k2⟩ := id hP
  have hr1 := hr.1
  have hs1 := hs.1
  by_cases hlt : ps.length < r.length
  · have HE : Hid (endB ps r = false) := by
      show _ = _
      unfold endB
      simp; omega
    clear h3 k2 h hP hs hr
    generalize ps.length = m at *
    generalize r.length = n at *
    have hlt' : (m : Int) < n := by omega
    go_enter Tryd.func47, Tryd.ntmps47
    go_wp2
    go_ret
    exact ⟨by rw [HE.out]; rfl, Below.refl _ _⟩
  · obtain ⟨k, hk⟩ : ∃ k, ps.length = r.length + k := ⟨ps.length - r.length, by omega⟩
    have HE : Hid (endB ps r = fitR (ps.drop k) r) := by
      show _ = _
      unfold endB
      rw [hk, Nat.add_sub_cancel_left]
      simp
    have HP := hP.drop (k := k) (by omega)
    rw [show ps.length - k = r.length from by omega] at HP
    have HC := hide (fitsEach_any HP hq h hM hB (hs.drop k) hr (by rw [List.length_drop]; omega))
    clear h3 k2 h hP hs hr HP
    rw [hk] at k1 hs1 ⊢
    clear hk
    generalize r.length = n at *
    have hlt' : ¬ (((n + k : Nat) : Int) < n) := by omega
    have hz : wrap64 ((n : Int) + k - n) = k := by rw [show (n : Int) + k - n = k from by omega]; unfold wrap64; omega
    have hsz : n + k - k = n := by omega
    have hck : ¬ cap2 = k := by omega
    go_enter Tryd.func47, Tryd.ntmps47
    go_wp2_with (go_at_call 64; refine HC.out.mono ?_; rintro e w' ⟨rfl, hb'⟩)
    go_ret
    exact ⟨by rw [HE.out]; rfl, hb'⟩
/-- cutFront as the program goes about it. -/
theorem cutF_form : ∀ (r : List Glob) (g : Glob) (ps : List (List UInt8)), cutF ps (r ++ [g]) = if h : r.length < ps.length then (if fitR ps r then (cutP g ps[r.length]).map (· :: ps.drop (r.length + 1)) else none) else none
  | [], g, [] => by simp [cutF]
  | [], g, p :: ps => by simp [cutF, fitR]
  | x :: r, g, [] => by
    cases r <;> simp [cutF]
  | x :: r, g, p :: ps => by
    have ih := cutF_form r g ps
    have e : cutF (p :: ps) (x :: r ++ [g]) = if fitP p x then cutF ps (r ++ [g]) else none := by
      cases r with
      | nil => simp [cutF]
      | cons y r => simp [cutF]
    rw [e, ih]
    by_cases hl : r.length < ps.length
    · rw [dif_pos hl, dif_pos (by simp; omega)]
      cases hf : fitP p x with
      | false => simp [fitR, hf]
      | true => simp [fitR, hf]
    · rw [dif_neg hl, dif_neg (by simp; omega)]
      split <;> rfl
/-- What cutFront and cutFirst answer. -/
inductive CfOut (q : Nat) (w : World) (c : Option (List (List UInt8))) (e : Ending) (w' : World) : Prop
  | no (h : c = none) (he : e = .returned (.tuple #[.slice none 0 0, .bool false])) (hb : Below w.heap.size w w')
  | yes (l : List (List UInt8)) (lv : Value) (h : c = some l) (he : e = .returned (.tuple #[lv, .bool true])) (hp : Pt q w' lv l) (hm : Mvs (fun k => k = q) w w')
theorem Pt.put {q o n cap : Nat} {w : World} {p : List UInt8} {ps : List (List UInt8)} (h : Pt q w (.slice (some ⟨q, o, none⟩) n cap) (p :: ps)) (x : List UInt8) : Pt q (w.setCell ⟨q, o, none⟩ (.string ⟨x.toArray⟩)) (.slice (some ⟨q, o, none⟩) n cap) (x :: ps) := by
  obtain ⟨⟨vs, t, hB⟩, o', cap', e, h1, h2⟩ := h
  cases e
  refine ⟨⟨_, _, hB.set o _⟩, o, cap, rfl, h1, fun i hi => ?_⟩
  have h3 := h2 i hi
  rw [hB.cell, hB.frozen] at h3
  rw [(hB.set o _).cell, (hB.set o _).frozen]
  refine ⟨?_, rfl⟩
  have h0 := (h2 0 (by simp)).1
  rw [hB.cell] at h0
  cases i with
  | zero =>
    have : o < vs.size := (Array.getElem?_eq_some_iff.1 h0).1
    simp [this]
  | succ i =>
    rw [Array.getElem?_setIfInBounds_ne (by omega)]
    simpa using h3.1
set_option maxRecDepth 20000 in
set_option maxHeartbeats 1000000 in
theorem cutFront_any {B q : Nat} {w : World} {pv rv : Value} {ps : List (List UInt8)} {r : List Glob} (hP : Pt q w pv ps) (hq : q < w.heap.size) (h : Rd B (E1 B) w rv r) (hM : MX B w) (hB : B ≤ w.heap.size) (hs : Sml ps) (hr : SmR r) (hne : r ≠ []) :
    Calls Tryd.prog 48 #[pv, rv] w fun e w' => CfOut q w (cutF ps r) e w' := by
  obtain ⟨b, o, cap, rfl, h1, h2, h3⟩ := h
  obtain ⟨r, g, rfl⟩ : ∃ r' g, r = r' ++ [g] := ⟨r.dropLast, r.getLast hne, (List.dropLast_concat_getLast hne).symm⟩
  obtain ⟨_, o2, cap2, rfl, k1, k2⟩ := id hP
  have HF := hide (cutF_form r g ps)
  have hg : ∃ u, w.cell? ⟨b, o + r.length, none⟩ = some u ∧ E1 B w u g := by
    have := h3 r.length (by simp)
    rwa [show (r ++ [g])[r.length]'(by simp) = g from by simp] at this
  obtain ⟨u, hu, he⟩ := hg
  have hgs := hr.2 g (by simp)
  have hr1 := hr.1
  have hs1 := hs.1
  rw [List.length_append, show [g].length = 1 from rfl] at h1 hr1 ⊢
  by_cases hlt : r.length < ps.length
  · have hR : Rd B (E1 B) w (.slice (some ⟨b, o, none⟩) r.length cap) r := ⟨b, o, cap, rfl, by omega, h2, fun i hi => by
      have := h3 i (by simp; omega)
      rwa [List.getElem_append_left hi] at this⟩
    have hrs : SmR r := ⟨by omega, fun x hx => hr.2 x (by simp [hx])⟩
    have HC := hide (fitsEach_any hP hq hR hM hB hs hrs (by omega))
    have HK : Hid (∀ W, Below w.heap.size w W → Calls Tryd.prog 65 #[.string ⟨ps[r.length].toArray⟩, u] W fun e w' => e = .returned (.tuple #[.string ⟨(cutG g ps[r.length]).1.toArray⟩, .bool (cutG g ps[r.length]).2]) ∧ Below W.heap.size W w') := fun W hW =>
      cutPart_any hgs.1 (Rd.keep0 he (hW.mono hB)) (hM.keep (hW.mono hB)) (Nat.le_trans hB hW.size) _ (hs.2 _ (List.getElem_mem hlt)) hgs.2
    have hcq := (k2 r.length hlt).1
    have hfq := (k2 r.length hlt).2
    have HV := hide (cutG_cutP (g := g) ps[r.length])
    have HP := hide (hP.drop (k := r.length) (by omega))
    have HD := hide (List.drop_eq_getElem_cons hlt)
    replace HF : Hid (cutF ps (r ++ [g]) = if fitR ps r then (cutP g ps[r.length]).map (· :: ps.drop (r.length + 1)) else none) := by
      have := HF.out; rwa [dif_pos hlt] at this
    clear hR hrs hP hM hs hr h3 k2 he hgs
    generalize ps[r.length] = p at *
    generalize (cutG g p).1 = R at *
    generalize (cutG g p).2 = f at *
    have hu2 := h2
    generalize fitR ps r = f1 at *
    generalize ps.length = m at *
    obtain ⟨rest, hrest⟩ : ∃ rest, Hid (rest = ps.drop (r.length + 1)) := ⟨_, hide rfl⟩
    rw [← hrest.out] at HF HD
    generalize ps.drop r.length = ps2 at *
    generalize r.length = k at *
    have hle : ¬ ((m : Int) ≤ k) := by omega
    have hck : ¬ cap2 = k := by omega
    cases f1 with
    | false =>
      go_enter Tryd.func48, Tryd.ntmps48
      go_wp2_with (go_at_call 64; refine HC.out.mono ?_; rintro e w' ⟨rfl, hb'⟩)
      go_ret2
      exact .no (by rw [HF.out]; rfl) rfl hb'
    | true =>
      cases f with
      | false =>
        have HN : Hid (cutP g p = none) := by
          have := HV.out.1
          show _ = _
          cases hc : cutP g p with
          | none => rfl
          | some x => rw [hc] at this; simp at this
        go_enter Tryd.func48, Tryd.ntmps48
        go_wp2_with (go_at_call 64; refine HC.out.mono ?_; rintro e w1 ⟨rfl, hb1⟩)
        have hn := ext_some w1
        have hcq1 : ∀ x : Ext w1, x.w.cell? ⟨q, o2 + k, none⟩ = some (.string ⟨p.toArray⟩) := fun x => (x.ok.cell (p := ⟨q, o2 + k, none⟩) (Nat.lt_of_lt_of_le hq hb1.size)).trans ((hb1.cell (p := ⟨q, o2 + k, none⟩) hq).trans hcq)
        have hu1 : ∀ x : Ext w1, x.w.cell? ⟨b, o + k, none⟩ = some u := fun x => (x.ok.cell (p := ⟨b, o + k, none⟩) (by have := hb1.size; show b < _; omega)).trans ((hb1.cell (p := ⟨b, o + k, none⟩) (by show b < _; omega)).trans hu)
        refine wp_region_ext (by kernel_rfl) (by kernel_rfl) ?_
        repeat (go_big_quiet_step ((go_at_call 65; exact ext_call (HK.out _ (hb1.trans (Ext.ok _ |>.mono hb1.size))))))
        refine wpQuiet_nil ?_
        rintro w2 ⟨⟨_, hb2⟩, rfl⟩
        go_wp2
        go_ret2
        exact .no (by rw [HF.out, HN.out]; rfl) rfl (hb1.trans (hb2.mono hb1.size))
      | true =>
        have HN : Hid (cutP g p = some R) := HV.out.2 rfl
        go_enter Tryd.func48, Tryd.ntmps48
        go_wp2_with (go_at_call 64; refine HC.out.mono ?_; rintro e w1 ⟨rfl, hb1⟩)
        have hn := ext_some w1
        have hcq1 : ∀ x : Ext w1, x.w.cell? ⟨q, o2 + k, none⟩ = some (.string ⟨p.toArray⟩) := fun x => (x.ok.cell (p := ⟨q, o2 + k, none⟩) (Nat.lt_of_lt_of_le hq hb1.size)).trans ((hb1.cell (p := ⟨q, o2 + k, none⟩) hq).trans hcq)
        have hu1 : ∀ x : Ext w1, x.w.cell? ⟨b, o + k, none⟩ = some u := fun x => (x.ok.cell (p := ⟨b, o + k, none⟩) (by have := hb1.size; show b < _; omega)).trans ((hb1.cell (p := ⟨b, o + k, none⟩) (by show b < _; omega)).trans hu)
        refine wp_region_ext (by kernel_rfl) (by kernel_rfl) ?_
        repeat (go_big_quiet_step ((go_at_call 65; exact ext_call (HK.out _ (hb1.trans (Ext.ok _ |>.mono hb1.size))))))
        refine wpQuiet_nil ?_
        rintro w2 ⟨⟨_, hb2⟩, rfl⟩
        have hb3 := hb1.trans (hb2.mono hb1.size)
        have hcq2 := (hb3.cell (p := ⟨q, o2 + k, none⟩) hq).trans hcq
        have hfq2 := (hb3.frozen (p := ⟨q, o2 + k, none⟩) hq).trans hfq
        have HB3 := hide hb3
        clear hb3 hb1 hb2 hcq1 hu1
        go_wp2
        go_ret2
        have HP2 := HP.out.keep hq HB3.out
        rw [HD.out] at HP2
        exact .yes (R :: rest) _ (by rw [HF.out, HN.out]; rfl) rfl (HP2.put R) ((Mvs.of_below HB3.out).setCell ⟨q, o2 + k, none⟩ _ (fun _ => rfl))
  · have HN : Hid (cutF ps (r ++ [g]) = none) := by
      have := HF.out; rwa [dif_neg hlt] at this
    clear h3 k2 hP hs hr hM HF
    generalize ps.length = m at *
    generalize r.length = k at *
    have hle : (m : Int) ≤ k := by omega
    go_enter Tryd.func48, Tryd.ntmps48
    go_wp2
    go_ret2
    exact .no HN.out rfl (Below.refl _ _)
end Go.Proofs.YtelpjiiladbigaaDoor

end
