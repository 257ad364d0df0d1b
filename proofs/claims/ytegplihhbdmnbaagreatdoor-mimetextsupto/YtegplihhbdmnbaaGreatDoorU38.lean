/- mime.Same, of any two parts. -/
import Derived.Test.YtegplihhbdmnbaaGreatDoorU36
import Derived.Test.YtegplihhbdmnbaaGreatDoorU37
set_option linter.unusedSimpArgs false
set_option linter.unusedVariables false
namespace Go.Proofs.YtegplihhbdmnbaaGreatDoor
open Go.RowKit Go.Shelf
theorem KidAt.below {n : Nat} {w W : World} {A : Option Addr} {ks : List Part} (h : KidAt n w A ks) (hb : Below w.heap.size w W) : KidAt n W A ks := fun i hi => by
  obtain ⟨g, o, vs, e, h0, hg, hz, hc, hp⟩ := h i hi
  exact ⟨g, o, vs, e, h0, Nat.lt_of_lt_of_le hg hb.size, hz, fun j hj => (hb.cell (p := ⟨g, o + i * 11 + j, none⟩) hg).trans (hc j hj), hp.below hb⟩
theorem psame_step (n : Nat) (IH : SmCall n) (h h' : PH) (ks ks' : List Part) (Ap Ap' A A' : Option Addr) (cp cp' c c' : Nat) (w : World)
    (hr : ReadS (fun g => 0 ≤ g) Pm.cs 2 w (.slice Ap h.params.length cp) h.params) (hr' : ReadS (fun g => 0 ≤ g) Pm.cs 2 w (.slice Ap' h'.params.length cp') h'.params) (hk : KidAt n w A ks) (hk' : KidAt n w A' ks') (hc : Cnt (.mk h ks)) (hc' : Cnt (.mk h' ks')) :
    Calls Tryz.prog 16 #[.agg (phA h (.slice Ap h.params.length cp) (.slice A ks.length c)), .agg (phA h' (.slice Ap' h'.params.length cp') (.slice A' ks'.length c'))] w fun e w' => e = .returned (.bool (samP (.mk h ks) (.mk h' ks'))) ∧ Below w.heap.size w w' := by
  have HEq := fun W (hb : Below w.heap.size w W) => eqP_any h.params h'.params Ap Ap' cp cp' W ((hr.keep (T := fun _ => False) (Mvs.of_below hb) (fun _ _ c => c)).reads) ((hr'.keep (T := fun _ => False) (Mvs.of_below hb) (fun _ _ c => c)).reads) hc.par.1 hc'.par.1
  have HFn := fun W (hb : Below w.heap.size w W) => eqF_any n IH ks ks' A A' c c' W (hk.below hb) (hk'.below hb) hc.kids hc'.kids hc.par.2 hc'.par.2
  rw [samP]
  clear hr hr' hk hk' hc hc' IH
  generalize ks.length = nk at *
  generalize ks'.length = nk' at *
  generalize samL ks ks' = sb at *
  unfold phA
  cases h with
  | mk t s P i d e a b n l =>
  cases h' with
  | mk t' s' P' i' d' e' a' b' n' l' =>
  dsimp only at HEq ⊢
  generalize P.length = np at *
  generalize P'.length = np' at *
  by_cases hx : t ≠ t'
  · rw [decide_eq_false (by simp; intros; first | exact hx | exact absurd (by assumption) hx | (exfalso; exact hx (by assumption)) | contradiction), Bool.false_and]
    exact psame_0 d d' e e' i i' s s' t t' a a' b b' l l' n n' np np' nk nk' Ap Ap' A A' cp cp' c c' w (beq_no hx)
  replace hx : t = t' := Decidable.not_not.1 hx
  subst hx
  by_cases hx : s ≠ s'
  · rw [decide_eq_false (by simp; intros; first | exact hx | exact absurd (by assumption) hx | (exfalso; exact hx (by assumption)) | contradiction), Bool.false_and]
    exact psame_1 d d' e e' i i' s s' t a a' b b' l l' n n' np np' nk nk' Ap Ap' A A' cp cp' c c' w (beq_no hx)
  replace hx : s = s' := Decidable.not_not.1 hx
  subst hx
  by_cases hx : P ≠ P'
  · rw [decide_eq_false hx] at HEq
    rw [decide_eq_false (by simp; intros; first | exact hx | exact absurd (by assumption) hx | contradiction), Bool.false_and]
    exact psame_2 d d' e e' i i' s t a a' b b' l l' n n' np np' nk nk' Ap Ap' A A' cp cp' c c' w HEq
  replace hx : P = P' := Decidable.not_not.1 hx
  subst hx
  rw [decide_eq_true rfl] at HEq
  by_cases hx : i ≠ i'
  · rw [decide_eq_false (by simp; intros; first | exact hx | exact absurd (by assumption) hx | contradiction), Bool.false_and]
    exact psame_3 d d' e e' i i' s t a a' b b' l l' n n' np np' nk nk' Ap Ap' A A' cp cp' c c' w HEq (beq_no hx)
  replace hx : i = i' := Decidable.not_not.1 hx
  subst hx
  by_cases hx : d ≠ d'
  · rw [decide_eq_false (by simp; intros; first | exact hx | exact absurd (by assumption) hx | contradiction), Bool.false_and]
    exact psame_4 d d' e e' i s t a a' b b' l l' n n' np np' nk nk' Ap Ap' A A' cp cp' c c' w HEq (beq_no hx)
  replace hx : d = d' := Decidable.not_not.1 hx
  subst hx
  by_cases hx : e ≠ e'
  · rw [decide_eq_false (by simp; intros; first | exact hx | exact absurd (by assumption) hx | contradiction), Bool.false_and]
    exact psame_5 d e e' i s t a a' b b' l l' n n' np np' nk nk' Ap Ap' A A' cp cp' c c' w HEq (beq_no hx)
  replace hx : e = e' := Decidable.not_not.1 hx
  subst hx
  by_cases hx : a ≠ a'
  · rw [decide_eq_false (by simp; intros; first | exact hx | exact absurd (by assumption) hx | contradiction), Bool.false_and]
    exact psame_6 d e i s t a a' b b' l l' n n' np np' nk nk' Ap Ap' A A' cp cp' c c' w HEq (beq_no hx) hx
  replace hx : a = a' := Decidable.not_not.1 hx
  subst hx
  by_cases hx : b ≠ b'
  · rw [decide_eq_false (by simp; intros; first | exact hx | exact absurd (by assumption) hx | contradiction), Bool.false_and]
    exact psame_7 d e i s t a b b' l l' n n' np np' nk nk' Ap Ap' A A' cp cp' c c' w HEq (beq_no hx) hx
  replace hx : b = b' := Decidable.not_not.1 hx
  subst hx
  by_cases hx : n ≠ n'
  · rw [decide_eq_false (by simp; intros; first | exact hx | exact absurd (by assumption) hx | contradiction), Bool.false_and]
    exact psame_8 d e i s t a b l l' n n' np np' nk nk' Ap Ap' A A' cp cp' c c' w HEq (beq_no hx) hx
  replace hx : n = n' := Decidable.not_not.1 hx
  subst hx
  by_cases hx : l ≠ l'
  · rw [decide_eq_false (by simp; intros; first | exact hx | exact absurd (by assumption) hx | contradiction), Bool.false_and]
    exact psame_9 d e i s t a b l l' n np np' nk nk' Ap Ap' A A' cp cp' c c' w HEq (beq_no hx) hx
  replace hx : l = l' := Decidable.not_not.1 hx
  subst hx
  rw [decide_eq_true rfl, Bool.true_and]
  exact psame_10 d e i s t a b l n np np' nk nk' Ap Ap' A A' cp cp' c c' w HEq sb HFn
theorem psame_any : ∀ n, SmCall n
  | 0 => fun p p' v v' w hp _ _ _ => hp.elim
  | n + 1 => fun p p' v v' w hp hp' hc hc' => by
    cases p with
    | mk h ks =>
      cases p' with
      | mk h' ks' =>
        obtain ⟨vp, A, c, rfl, hr, hk⟩ := hp
        obtain ⟨vp', A', c', rfl, hr', hk'⟩ := hp'
        obtain ⟨Ap, cp, rfl⟩ := hr.form
        obtain ⟨Ap', cp', rfl⟩ := hr'.form
        exact psame_step n (psame_any n) h h' ks ks' Ap Ap' A A' cp cp' c c' w hr hr' hk hk' hc hc'
end Go.Proofs.YtegplihhbdmnbaaGreatDoor
