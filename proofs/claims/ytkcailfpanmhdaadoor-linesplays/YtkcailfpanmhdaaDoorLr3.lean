/- The reader of package lines: drop. -/
import Derived.Test.YtkcailfpanmhdaaDoorLr2
namespace Go.Proofs.YtkcailfpanmhdaaDoor
open Go.RowKit

/-- What a slice is behind 's[k:]'. -/
def fromV (g o n cap k : Nat) : Value := .slice (some (if cap = k then ⟨g, o, none⟩ else ⟨g, o + k, none⟩)) (n - k) (cap - k)
theorem Rw.from {w : World} {n k g o cap : Nat} {cs : List Value} (h : Rw w 1 (.slice (some ⟨g, o, none⟩) n cap) n cs (some g)) (hk : k ≤ n) : Rw w 1 (fromV g o n cap k) (n - k) (cs.drop k) (some g) := by
  have hl := h.1
  rcases h.2 with ⟨h, _⟩ | ⟨g', o', cap', hg, hv, h1, h2, h3, h4, h5⟩
  · cases h
  · cases hg
    cases hv
    refine ⟨by rw [List.length_drop]; omega, .inr ⟨g, if cap = k then o else o + k, cap - k, rfl, ?_, by omega, by omega, h3, fun j u hu => ?_, fun j hj => ?_⟩⟩
    · unfold fromV
      split <;> rfl
    · rw [List.getElem?_drop] at hu
      have := (List.getElem?_eq_some_iff.1 hu).1
      rw [if_neg (by omega), Nat.add_assoc]
      exact h4 _ u hu
    · rw [if_neg (by omega), Nat.add_assoc]
      exact h5 _ (by omega)
theorem Rw.to {w : World} {n k g o cap : Nat} {cs : List Value} (h : Rw w 1 (.slice (some ⟨g, o, none⟩) n cap) n cs (some g)) (hk : k ≤ n) : Rw w 1 (.slice (some ⟨g, o, none⟩) k cap) k (cs.take k) (some g) := by
  have hl := h.1
  rcases h.2 with ⟨h, _⟩ | ⟨g', o', cap', hg, hv, h1, h2, h3, h4, h5⟩
  · cases h
  · cases hg
    cases hv
    refine ⟨by rw [List.length_take]; omega, .inr ⟨g, o, cap, rfl, rfl, by omega, by omega, h3, fun j u hu => ?_, h5⟩⟩
    have h6 := (List.getElem?_eq_some_iff.1 hu).1
    rw [List.length_take] at h6
    rw [List.getElem?_take_of_lt (by omega)] at hu
    exact h4 _ u hu

section
variable (w : World) (b : Nat) (G : Option Nat) (l : List UInt8) (a : Nat) (v : Value) (s : Nat)
theorem Rw.set_b {G : Option Nat} {b n : Nat} {v : Value} {cs : List Value} {w : World} (h : Rw w 1 v n cs G) (ha : G ≠ some b) (o : Nat) (x : Value) : Rw (w.setCell ⟨b, o, none⟩ x) 1 v n cs G :=
  h.keep ((Mvs.refl (fun k => k = b) w).setCell ⟨b, o, none⟩ x (fun _ => rfl)) (fun _ hg e => ha (e ▸ hg))
theorem RDs.two {w : World} {b : Nat} {G : Option Nat} {l : List UInt8} {a : Nat} {v : Value} {s : Nat} (h : RDs w b G l a v s) {v' : Value} {l' : List UInt8} {s' : Nat} {x : Int} (hx : x = s') (hr : Rw w 1 v' l'.length (l'.map bv) G) (hs : s' ≤ l'.length) (h10 : ∀ j, j < s' → l'[j]? ≠ some 10) :
    RDs ((w.setCell ⟨b, 0, none⟩ v').setCell ⟨b, 1, none⟩ (.int .i64 x)) b G l' a v' s' := by
  subst hx
  exact ⟨(h.blk.set 0 _).set 1 _, (hr.set_b h.apart _ _).set_b h.apart _ _, h.apart, hs, h10⟩
theorem RDs.three {w : World} {b : Nat} {G : Option Nat} {l : List UInt8} {a : Nat} {v : Value} {s : Nat} (h : RDs w b G l a v s) (v' : Value) {s' : Nat} {x : Int} (hx : x = s') (hs : s' ≤ 0) :
    RDs (((w.setCell ⟨b, 0, none⟩ v').setCell ⟨b, 1, none⟩ (.int .i64 x)).setCell ⟨b, 0, none⟩ (.slice none 0 0)) b none [] a (.slice none 0 0) s' := by
  subst hx
  exact ⟨((h.blk.set 0 _).set 1 _).set 0 _, Rw.nil _ _, by simp, hs, fun j hj => by omega⟩
theorem Mvs.set_b {w w' : World} {b : Nat} (h : Mvs (fun k => k = b) w w') (o : Nat) (x : Value) : Mvs (fun k => k = b) w (w'.setCell ⟨b, o, none⟩ x) := h.setCell _ _ (fun _ => rfl)
/-- Behind drop. -/
def Dropped (w w' : World) (b : Nat) (G : Option Nat) (l : List UInt8) (a s n : Nat) : Prop := ∃ G' v', RDs w' b G' (l.drop n) a v' (s - n) ∧ Mvs (fun k => k = b) w w' ∧ (G' = G ∨ G' = none)
set_option maxHeartbeats 1000000 in
theorem drop_any (h : RDs w b G l a v s) (n : Nat) (hn : n ≤ l.length) :
    Calls Tryd.prog 26 #[.pointer (some ⟨b, 0, none⟩), .int .i64 n] w fun e w' => e = .returned (.tuple #[]) ∧ Dropped w w' b G l a s n := by
  have hc := h.blk.cell
  have hf := h.blk.frozen
  have hs := h.searched
  have hmx := h.row.max
  simp only [maxLen] at hmx
  have H10 : Hid (∀ j, j < s - n → (l.drop n)[j]? ≠ some 10) := by
    intro j hj
    rw [List.getElem?_drop]
    exact h.none10 _ (by omega)
  have H : Hid (RDs w b G l a v s) := h
  have HS : Hid (s - n ≤ (l.drop n).length) := by
    show s - n ≤ (l.drop n).length
    rw [List.length_drop]
    omega
  rcases h.row.2 with ⟨rfl, hl0, rfl⟩ | ⟨g, o, cap, rfl, rfl, h1, h2, h3, h4, h5⟩
  · have hn0 : n = 0 := by omega
    subst hn0
    have hl : l = [] := List.length_eq_zero_iff.1 hl0
    subst hl
    have hs0 : s = 0 := by simpa using hs
    subst hs0
    clear h hs hn hmx hl0
    go_enter Tryd.func26, Tryd.ntmps26
    go_wp2
    go_end0
    exact ⟨rfl, none, _, H.out.three _ rfl (Nat.le_refl _), (((Mvs.refl _ _).set_b _ _).set_b _ _).set_b _ _, .inl rfl⟩
  · have hR := (h.row).from hn
    have HR : Hid (Rw w 1 (fromV g o l.length cap n) (l.length - n) ((l.map bv).drop n) (some g)) := hR
    have hge : ¬ ((l.length : Int) < n) := by omega
    have hb2 : ¬ ((cap : Int) < l.length) := by omega
    clear h h4 h5 hR
    by_cases hz : n = l.length
    · subst hz
      have hdr : l.drop l.length = [] := List.drop_length
      have e0 : l.length - l.length = 0 := by omega
      go_enter Tryd.func26, Tryd.ntmps26
      go_wp2
      all_goals go_end0
      all_goals refine ⟨rfl, ?_⟩
      all_goals unfold Dropped
      all_goals rw [hdr]
      all_goals refine ⟨none, _, H.out.three _ (by omega) (by omega), (((Mvs.refl _ _).set_b _ _).set_b _ _).set_b _ _, .inr rfl⟩
    · have hz' : ¬ (l.length - n = 0) := by omega
      have hfv : fromV g o l.length cap n = .slice (some ⟨g, o + n, none⟩) (l.length - n) (cap - n) := by
        unfold fromV
        rw [if_neg (by omega)]
      have HV : Hid (Rw w 1 (.slice (some ⟨g, o + n, none⟩) (l.length - n) (cap - n)) (l.drop n).length ((l.drop n).map bv) (some g)) := by
        have := HR.out
        rw [hfv] at this
        show Rw _ _ _ _ _ _
        rw [List.length_drop, List.map_drop]
        exact this
      clear hfv
      go_enter Tryd.func26, Tryd.ntmps26
      go_wp2
      all_goals go_end0
      all_goals refine ⟨rfl, some g, _, H.out.two (by omega) HV.out HS.out H10.out, ((Mvs.refl _ _).set_b _ _).set_b _ _, .inl rfl⟩
end
end Go.Proofs.YtkcailfpanmhdaaDoor
