/- Parts in memory, with their kids. -/
import Derived.Test.YtegplihhbdmnbaaGreatDoorU23
namespace Go.Proofs.YtegplihhbdmnbaaGreatDoor
open Go.RowKit Go.Shelf
/-- A slice that reads as these, in a block of some kind. -/
def ReadS {α : Type} (S : Nat → Prop) (f : α → List Value) (sz : Nat) (w : World) (v : Value) (xs : List α) : Prop := ∃ A cap, v = .slice A xs.length cap ∧ ∀ i (hi : i < xs.length), ∃ g o, A = some ⟨g, o, none⟩ ∧ S g ∧ g < w.heap.size ∧ ∀ j, j < sz → w.cell? ⟨g, o + i * sz + j, none⟩ = (f xs[i])[j]?
section
variable {α : Type} {f : α → List Value} {sz : Nat} {w w' : World} {v : Value} {xs : List α} {S S' : Nat → Prop}
theorem ReadS.mono (h : ReadS S f sz w v xs) (hs : ∀ g, g < w.heap.size → S g → S' g) : ReadS S' f sz w v xs := by
  obtain ⟨A, c, rfl, h⟩ := h
  refine ⟨A, c, rfl, fun i hi => ?_⟩
  obtain ⟨g, o, e, hS, hg, hc⟩ := h i hi
  exact ⟨g, o, e, hs g hg hS, hg, hc⟩
theorem ReadS.keep {T : Nat → Prop} (h : ReadS S f sz w v xs) (hm : Mvs T w w') (hs : ∀ g, S g → ¬ T g) : ReadS S f sz w' v xs := by
  obtain ⟨A, c, rfl, h⟩ := h
  refine ⟨A, c, rfl, fun i hi => ?_⟩
  obtain ⟨g, o, e, hS, hg, hc⟩ := h i hi
  exact ⟨g, o, e, hS, Nat.lt_of_lt_of_le hg hm.size, fun j hj => (hm.cell (a := ⟨g, _, none⟩) hg (hs g hS)).trans (hc j hj)⟩
theorem ReadS.reads (h : ReadS S f sz w v xs) : ReadOf f sz w v xs := by
  obtain ⟨A, c, rfl, h⟩ := h
  refine ⟨A, c, rfl, fun i hi => ?_⟩
  obtain ⟨g, o, e, _, hg, hc⟩ := h i hi
  exact ⟨g, o, e, hg, hc⟩
theorem RowOf.readS {B : Nat} (hf : ∀ x, (f x).length = sz) (h : RowOf f sz B w v xs) : ReadS (fun g => B ≤ g) f sz w v xs := by
  obtain ⟨A, c, rfl⟩ := h.form
  refine ⟨A, c, rfl, fun i hi => ?_⟩
  obtain ⟨g, o, cap, e, _, _, h1, h3, h4⟩ := h.read hf i hi
  exact ⟨g, o, by cases e; rfl, h1, h3, h4⟩
theorem ReadS.nil (S : Nat → Prop) (f : α → List Value) (sz : Nat) (w : World) : ReadS S f sz w (.slice none 0 0) [] := ⟨none, 0, rfl, fun i hi => by simp at hi⟩
theorem ReadS.form (h : ReadS S f sz w v xs) : ∃ A c, v = .slice A xs.length c := by
  obtain ⟨A, c, e, _⟩ := h
  exact ⟨A, c, e⟩
end
/-- A value that reads as a part, fewer than so many in one another; all rows in blocks of some kind. -/
def PA : Nat → (Nat → Prop) → World → Value → Part → Prop
  | 0, _, _, _, _ => False
  | n + 1, S, w, v, .mk h ks => ∃ vp A c, v = .agg (phA h vp (.slice A ks.length c)) ∧ ReadS S Pm.cs 2 w vp h.params ∧ ∀ i (hi : i < ks.length), ∃ g o vs, A = some ⟨g, o, none⟩ ∧ S g ∧ g < w.heap.size ∧ vs.size = 11 ∧ (∀ j, j < 11 → w.cell? ⟨g, o + i * 11 + j, none⟩ = vs[j]?) ∧ PA n S w (.agg vs) ks[i]
theorem PA.mono {S S' : Nat → Prop} {w : World} (hs : ∀ g, g < w.heap.size → S g → S' g) : ∀ {n : Nat} {v : Value} {p : Part}, PA n S w v p → PA n S' w v p
  | 0, _, _, h => h.elim
  | n + 1, v, .mk h ks, hp => by
    obtain ⟨vp, A, c, e, h1, h2⟩ := hp
    refine ⟨vp, A, c, e, h1.mono hs, fun i hi => ?_⟩
    obtain ⟨g, o, vs, e1, hS, hg, hz, hc, hk⟩ := h2 i hi
    exact ⟨g, o, vs, e1, hs g hg hS, hg, hz, hc, hk.mono hs⟩
theorem PA.keep {S T : Nat → Prop} {w w' : World} (hm : Mvs T w w') (hs : ∀ g, S g → ¬ T g) : ∀ {n : Nat} {v : Value} {p : Part}, PA n S w v p → PA n S w' v p
  | 0, _, _, h => h.elim
  | n + 1, v, .mk h ks, hp => by
    obtain ⟨vp, A, c, e, h1, h2⟩ := hp
    refine ⟨vp, A, c, e, h1.keep hm hs, fun i hi => ?_⟩
    obtain ⟨g, o, vs, e1, hS, hg, hz, hc, hk⟩ := h2 i hi
    exact ⟨g, o, vs, e1, hS, Nat.lt_of_lt_of_le hg hm.size, hz, fun j hj => (hm.cell (a := ⟨g, _, none⟩) hg (hs g hS)).trans (hc j hj), hk.keep hm hs⟩
theorem PA.below {S : Nat → Prop} {w w' : World} {n : Nat} {v : Value} {p : Part} (h : PA n S w v p) (hb : Below w.heap.size w w') : PA n S w' v p := h.keep (T := fun _ => False) (Mvs.of_below hb) (fun _ _ c => c)
theorem PA.succ {S : Nat → Prop} {w : World} : ∀ {n : Nat} {v : Value} {p : Part}, PA n S w v p → PA (n + 1) S w v p
  | 0, _, _, h => h.elim
  | n + 1, v, .mk h ks, hp => by
    obtain ⟨vp, A, c, e, h1, h2⟩ := hp
    refine ⟨vp, A, c, e, h1, fun i hi => ?_⟩
    obtain ⟨g, o, vs, e1, hS, hg, hz, hc, hk⟩ := h2 i hi
    exact ⟨g, o, vs, e1, hS, hg, hz, hc, hk.succ⟩
theorem PA.le {S : Nat → Prop} {w : World} {n k : Nat} {v : Value} {p : Part} (h : PA n S w v p) (hk : n ≤ k) : PA k S w v p := by
  induction hk with
  | refl => exact h
  | step _ ih => exact ih.succ
/-- A part's shape. -/
theorem PA.form {S : Nat → Prop} {w : World} {n : Nat} {v : Value} {p : Part} (h : PA n S w v p) : ∃ A c A' c', v = .agg (phA p.h (.slice A p.h.params.length c) (.slice A' p.kids.length c')) := by
  cases n with
  | zero => exact h.elim
  | succ n =>
    cases p with
    | mk ph ks =>
      obtain ⟨vp, A', c', e, h1, _⟩ := h
      obtain ⟨A, c, rfl⟩ := h1.form
      exact ⟨A, c, A', c', e⟩
/-- A part without kids. -/
theorem PA.leaf {S : Nat → Prop} {w : World} {h : PH} {vp : Value} (hr : ReadS S Pm.cs 2 w vp h.params) (n : Nat) : PA (n + 1) S w (.agg (phA h vp (.slice none 0 0))) (.mk h []) :=
  ⟨vp, none, 0, rfl, hr, fun i hi => by simp at hi⟩
theorem PA.leaf0 {S : Nat → Prop} {w : World} {h : PH} {vp : Value} (hr : ReadS S Pm.cs 2 w vp h.params) (n : Nat) (A : Option Addr) (c : Nat) : PA (n + 1) S w (.agg (phA h vp (.slice A 0 c))) (.mk h []) :=
  ⟨vp, A, c, rfl, hr, fun i hi => by simp at hi⟩
/-- A row of kids under way: it lies in a block G, its kids' rows elsewhere. -/
def KRow (n B : Nat) (w : World) (v : Value) (ks : List Part) : Prop :=
  ∃ vss : List (Array Value), vss.length = ks.length ∧ (∀ vs ∈ vss, vs.size = 11) ∧ ∃ G, Rw w 11 v ks.length (vss.flatMap Array.toList) G ∧ (∀ g, G = some g → B ≤ g) ∧ ∀ i (hi : i < ks.length) (hj : i < vss.length), PA n (fun g => B ≤ g ∧ some g ≠ G) w (.agg vss[i]) ks[i]
theorem KRow.nil (n B : Nat) (w : World) : KRow n B w (.slice none 0 0) [] := ⟨[], rfl, by simp, none, Rw.nil w 11, by simp, fun i hi => by simp at hi⟩
theorem KRow.form {n B : Nat} {w : World} {v : Value} {ks : List Part} (h : KRow n B w v ks) : ∃ A c, v = .slice A ks.length c := by
  obtain ⟨_, _, _, _, hr, _⟩ := h
  exact hr.form
theorem KRow.keep {n B : Nat} {w w' : World} {v : Value} {ks : List Part} {T : Nat → Prop} (h : KRow n B w v ks) (hm : Mvs T w w') (hs : ∀ g, B ≤ g → ¬ T g) : KRow n B w' v ks := by
  obtain ⟨vss, h1, h2, G, h3, h4, h5⟩ := h
  exact ⟨vss, h1, h2, G, h3.keep hm (fun g e => hs g (h4 g e)), h4, fun i hi hj => (h5 i hi hj).keep hm (fun g hg => hs g hg.1)⟩
theorem KRow.lower {n B B' : Nat} {w : World} {v : Value} {ks : List Part} (h : KRow n B w v ks) (hb : B' ≤ B) : KRow n B' w v ks := by
  obtain ⟨vss, h1, h2, G, h3, h4, h5⟩ := h
  exact ⟨vss, h1, h2, G, h3, fun g e => Nat.le_trans hb (h4 g e), fun i hi hj => (h5 i hi hj).mono (fun g _ hg => ⟨Nat.le_trans hb hg.1, hg.2⟩)⟩
theorem flat11 (f : List (Array Value)) (h : ∀ vs ∈ f, vs.size = 11) (i : Nat) (hi : i < f.length) (j : Nat) (hj : j < 11) : (f.flatMap Array.toList)[i * 11 + j]? = f[i][j]? := by
  induction f generalizing i with
  | nil => simp at hi
  | cons x r ih =>
    have hx : x.toList.length = 11 := by rw [Array.length_toList]; exact h x (by simp)
    cases i with
    | zero =>
      rw [List.flatMap_cons, List.getElem?_append_left (by omega)]
      simp
    | succ i =>
      have h1 : (i + 1) * 11 + j = 11 + (i * 11 + j) := by omega
      rw [List.flatMap_cons, List.getElem?_append_right (by omega), hx, h1, show 11 + (i * 11 + j) - 11 = i * 11 + j by omega, ih (fun vs hv => h vs (by simp [hv])) i (by simpa using hi)]
      rfl
/-- A whole part out of its cells and its row of kids. -/
theorem KRow.part {n B : Nat} {w : World} {vk vp : Value} {h : PH} {ks : List Part} (hk : KRow n B w vk ks) (hr : ReadS (fun g => B ≤ g) Pm.cs 2 w vp h.params) : PA (n + 1) (fun g => B ≤ g) w (.agg (phA h vp vk)) (.mk h ks) := by
  obtain ⟨A, c, rfl⟩ := hk.form
  obtain ⟨vss, h1, h2, G, h3, h4, h5⟩ := hk
  refine ⟨vp, A, c, rfl, hr, fun i hi => ?_⟩
  rcases h3.2 with ⟨_, h0, _⟩ | ⟨g, o, cap, e, hv, _, _, hg, hc, _⟩
  · omega
  · have hj : i < vss.length := by omega
    refine ⟨g, o, vss[i], by cases hv; rfl, h4 g e, hg, h2 _ (List.getElem_mem hj), fun j hj' => ?_, (h5 i hi hj).mono (fun g _ h => h.1)⟩
    have ha := flat11 vss h2 i hj j hj'
    have hs : vss[i].size = 11 := h2 _ (List.getElem_mem hj)
    have hjs : j < vss[i].size := by omega
    rw [Array.getElem?_eq_getElem hjs] at ha
    rw [Nat.add_assoc, hc _ _ ha, Array.getElem?_eq_getElem hjs]
/-- One more kid. -/
theorem KRow.grow {n B N : Nat} {w w1 w2 : World} {v2 : Value} {ks : List Part} {p : Part} {vs : Array Value} {vss : List (Array Value)} {G G2 : Option Nat} (h1 : vss.length = ks.length) (h2 : ∀ x ∈ vss, x.size = 11) (hvs : vs.size = 11) (hg : ∀ g, G = some g → B ≤ g ∧ g < w.heap.size)
    (h5 : ∀ i (hi : i < ks.length) (hj : i < vss.length), PA n (fun g => B ≤ g ∧ some g ≠ G) w1 (.agg vss[i]) ks[i]) (hp : PA n (fun g => w.heap.size ≤ g) w1 (.agg vs) p) (hB : B ≤ w.heap.size) (hm : Mvs (fun k => some k = G) w1 w2) (hr : Rw w2 11 v2 (ks.length + 1) (vss.flatMap Array.toList ++ vs.toList) G2) (hG : G2 = G ∨ G2 = some N) (hN : w1.heap.size ≤ N) (hw : w.heap.size ≤ w1.heap.size) : KRow n B w2 v2 (ks ++ [p]) := by
  have key : ∀ {g : Nat}, g < w1.heap.size → some g ≠ G → some g ≠ G2 := fun {g} hg1 hne e => by
    rcases hG with h | h
    · exact hne (e.trans h)
    · rw [h] at e
      cases e
      omega
  refine ⟨vss ++ [vs], by simp [h1], ?_, G2, ?_, ?_, ?_⟩
  · intro x hx
    rcases List.mem_append.1 hx with h | h
    · exact h2 x h
    · rw [List.mem_singleton.1 h]
      exact hvs
  · rw [List.length_append, List.flatMap_append]
    simpa using hr
  · rintro g rfl
    rcases hG with h | h
    · exact (hg g h.symm).1
    · cases h
      omega
  · intro i hi hj
    have hone : ∀ {q : Part} {us : Array Value}, PA n (fun g => B ≤ g ∧ some g ≠ G) w1 (.agg us) q → PA n (fun g => B ≤ g ∧ some g ≠ G2) w2 (.agg us) q := fun {q us} hq => by
      have h9 := (hq.mono (S' := fun g => (B ≤ g ∧ some g ≠ G) ∧ some g ≠ G2) (fun g hg1 hS => ⟨hS, key hg1 hS.2⟩)).keep hm (fun g hS e => hS.1.2 e)
      exact h9.mono (fun g _ hS => ⟨hS.1.1, hS.2⟩)
    by_cases hlt : i < ks.length
    · have hlt2 : i < vss.length := by omega
      rw [List.getElem_append_left hlt2, List.getElem_append_left hlt]
      exact hone (h5 i hlt hlt2)
    · have e1 : i = ks.length := by simp at hi; omega
      subst e1
      have e2 : (vss ++ [vs])[ks.length]'hj = vs := by
        rw [List.getElem_append_right (by omega)]
        simp [h1]
      have e3 : (ks ++ [p])[ks.length]'hi = p := by
        rw [List.getElem_append_right (by omega)]
        simp
      rw [e2, e3]
      refine hone (hp.mono (fun g _ hS => ⟨by omega, fun e => ?_⟩))
      have := (hg g e.symm).2
      omega
end Go.Proofs.YtegplihhbdmnbaaGreatDoor
