/- Fits of package boxes, of any texts. -/
/- alive: the chapter's example; HeaderSame. -/
import Derived.Test.YtelpjiiladbigaaDoorU21
import Derived.Test.YtelpjiiladbigaaDoorU14
section
set_option linter.unusedSimpArgs false
set_option linter.unusedVariables false
namespace Go.Proofs.YtelpjiiladbigaaDoor
open Go.RowKit Go.Shelf
theorem inbox_caps : ∀ d ∈ inboxU, 65 ≤ d.toNat ∧ d.toNat ≤ 90 := by decide
def wdT (t : List UInt8) : Prop := t.length ≤ 100001
theorem runL_sm {t : List UInt8} (ht : t.length ≤ 20000) : SmR (runL t) ∧ runL t ≠ [] := by
  unfold runL
  refine ⟨⟨?_, ?_⟩, ?_⟩
  · rw [List.length_map]
    have := spc_len 47 t
    omega
  · intro g hg
    obtain ⟨p, hp, rfl⟩ := List.mem_map.1 hg
    refine ⟨spc_ne 37 p, ?_⟩
    have h1 := spc_len 37 p
    have h2 := spc_size t p hp
    omega
  · rw [ne_eq, List.map_eq_nil_iff]
    exact spc_ne 47 t
theorem runsL_sm {P : List UInt8} (hP : P.length ≤ 10000) : SmA (runsL P) ∧ runsL P ≠ [] := by
  have hsl : (simL P).length ≤ 10000 := by
    have h1 := simF_len P []
    have h2 : simL P = P.foldl simS [] := rfl
    rw [h2]
    simp at h1
    omega
  unfold runsL
  generalize simL P = t at *
  have h1 := spc_len 42 t
  have h2 := spc_size (c := 42) t
  have h3 := spc_ne 42 t
  generalize spc 42 t = ts at *
  cases ts with
  | nil => exact absurd rfl h3
  | cons a b =>
    refine ⟨⟨by simp [runsT] at h1 ⊢; omega, fun r hr => ?_⟩, by simp [runsT]⟩
    simp only [runsT, List.mem_cons, List.mem_map] at hr
    rcases hr with rfl | ⟨y, hy, rfl⟩
    · exact runL_sm (by have := h2 a (by simp); omega)
    · exact runL_sm (by have := h2 y (by simp [hy]); simp; omega)
set_option maxRecDepth 20000 in
set_option maxHeartbeats 2000000 in
theorem Fits_inbox {B : Nat} {w : World} (hM : MX B w) (hB : B ≤ w.heap.size) (P : List UInt8) (hP : P.length ≤ 10000) :
    Calls Tryd.prog 15 #[.string ⟨P.toArray⟩, .string ⟨#[73, 78, 66, 79, 88]⟩] w fun e w' => e = .returned (.bool (fit true P inboxU)) ∧ Below w.heap.size w w' := by
  have HR : Hid (∀ (Q : List UInt8) (W : World), Q.length ≤ 10000 → Below w.heap.size w W → Calls Tryd.prog 33 #[.string ⟨Q.toArray⟩] W fun e w' => ∃ v, e = .returned v ∧ Below w.heap.size w w' ∧ Rd w'.heap.size (E2 w'.heap.size) w' v (runsL Q)) := fun Q W hQ hW => (runsOf_any (hM.keep (hW.mono hB)) (Nat.le_trans hB hW.size) Q hQ).mono fun e w' h => by
    obtain ⟨v, he, hb, hr⟩ := h
    exact ⟨v, he, hW.trans (hb.mono hW.size), hr⟩
  have HFt : Hid (∀ (Q : List UInt8) (v : Value) (W : World), Q.length ≤ 10000 → Below w.heap.size w W → Rd W.heap.size (E2 W.heap.size) W v (runsL Q) → Calls Tryd.prog 32 #[v, .string ⟨#[73, 78, 66, 79, 88]⟩] W fun e w' => e = .returned (.bool (fit false Q inboxU)) ∧ Below w.heap.size w w') := fun Q v W hQ hW hr => by
    have h1 := fits_any hr (runsL_sm hQ).2 ((hM.keep (hW.mono hB)).mono (Nat.le_trans hB hW.size)) (Nat.le_refl _) (runsL_sm hQ).1 inboxU (by decide)
    rw [runs_fi] at h1
    exact h1.mono fun e w' h => ⟨h.1, hW.trans (h.2.mono hW.size)⟩
  have HC : Hid (Calls Tryd.prog 31 #[.string ⟨P.toArray⟩] w fun e w' => e = .returned (.string ⟨(P.map capB).toArray⟩) ∧ Below w.heap.size w w') := capitals_any P w (by omega)
  clear hM
  have HE : Hid (fit false (P.map capB) inboxU = fit true P inboxU) := cap_fit P inboxU inbox_caps
  have hlc : (P.map capB).length ≤ 10000 := by rw [List.length_map]; exact hP
  generalize fit true P inboxU = T at *
  generalize P.map capB = P2 at *
  go_enter Tryd.func15, Tryd.ntmps15
  go_wp2_with (go_at_call 31; refine HC.out.mono ?_; rintro e w1 ⟨rfl, hb1⟩; replace hb1 := hide hb1)
  refine (HR.out P2 _ hlc hb1.out).mono ?_
  rintro e w2 ⟨v, rfl, hb2, hr⟩
  have HF := hide (HFt.out P2 v w2 hlc hb2 hr)
  clear hr HFt
  go_wp2_with (go_at_call 32; refine HF.out.mono ?_; rintro e w3 ⟨rfl, hb3⟩)
  go_ret
  exact ⟨by rw [← HE.out]; rfl, hb3⟩
set_option maxRecDepth 20000 in
set_option maxHeartbeats 2000000 in
theorem Fits_other {B : Nat} {w : World} (hM : MX B w) (hB : B ≤ w.heap.size) (P N : List UInt8) (hI : N ≠ inboxU) (hP : P.length ≤ 10000) (hN : N.length ≤ 100000) :
    Calls Tryd.prog 15 #[.string ⟨P.toArray⟩, .string ⟨N.toArray⟩] w fun e w' => e = .returned (.bool (fit false P N)) ∧ Below w.heap.size w w' := by
  have HR : Hid (∀ (Q : List UInt8) (W : World), Q.length ≤ 10000 → Below w.heap.size w W → Calls Tryd.prog 33 #[.string ⟨Q.toArray⟩] W fun e w' => ∃ v, e = .returned v ∧ Below w.heap.size w w' ∧ Rd w'.heap.size (E2 w'.heap.size) w' v (runsL Q)) := fun Q W hQ hW => (runsOf_any (hM.keep (hW.mono hB)) (Nat.le_trans hB hW.size) Q hQ).mono fun e w' h => by
    obtain ⟨v, he, hb, hr⟩ := h
    exact ⟨v, he, hW.trans (hb.mono hW.size), hr⟩
  have HFt : Hid (∀ (Q : List UInt8) (v : Value) (W : World), Q.length ≤ 10000 → Below w.heap.size w W → Rd W.heap.size (E2 W.heap.size) W v (runsL Q) → Calls Tryd.prog 32 #[v, .string ⟨N.toArray⟩] W fun e w' => e = .returned (.bool (fit false Q N)) ∧ Below w.heap.size w w') := fun Q v W hQ hW hr => by
    have h1 := fits_any hr (runsL_sm hQ).2 ((hM.keep (hW.mono hB)).mono (Nat.le_trans hB hW.size)) (Nat.le_refl _) (runsL_sm hQ).1 N hN
    rw [runs_fi] at h1
    exact h1.mono fun e w' h => ⟨h.1, hW.trans (h.2.mono hW.size)⟩
  clear hM
  have hN' : (N == [73, 78, 66, 79, 88]) = false := beq_eq_false_iff_ne.2 hI
  clear hI
  go_enter Tryd.func15, Tryd.ntmps15
  go_wp2_with fail
  refine (HR.out P _ hP (Below.refl _ _)).mono ?_
  rintro e w2 ⟨v, rfl, hb2, hr⟩
  have HF := hide (HFt.out P v w2 hP hb2 hr)
  clear hr HFt
  go_wp2_with (go_at_call 32; refine HF.out.mono ?_; rintro e w3 ⟨rfl, hb3⟩)
  go_ret
  exact ⟨rfl, hb3⟩
theorem Fits_any {B : Nat} {w : World} (hM : MX B w) (hB : B ≤ w.heap.size) (P N : List UInt8) (hP : P.length ≤ 10000) (hN : N.length ≤ 100000) :
    Calls Tryd.prog 15 #[.string ⟨P.toArray⟩, .string ⟨N.toArray⟩] w fun e w' => e = .returned (.bool (fit (decide (N = inboxU)) P N)) ∧ Below w.heap.size w w' := by
  by_cases hI : N = inboxU
  · subst hI
    exact Fits_inbox hM hB P hP
  · rw [decide_eq_false hI]
    exact Fits_other hM hB P N hI hP hN
end Go.Proofs.YtelpjiiladbigaaDoor

end
section
namespace Go.Proofs.YtelpjiiladbigaaDoor
open Go.RowKit Go.Shelf
/-- The example's message. -/
def exL : List UInt8 := [65, 58, 32, 120, 13, 10, 32, 121, 13, 10, 66, 58, 122, 13, 10, 13, 10, 98, 111, 100, 121]
theorem ex_hd : (hd (splitS exL) 0).1 = [⟨[65], [120, 32, 121], 0, 10⟩, ⟨[66], [122], 10, 15⟩] := by kernel_rfl
theorem ex_body : bodyL (splitS exL) 0 = 17 := by kernel_rfl
end Go.Proofs.YtelpjiiladbigaaDoor

end
