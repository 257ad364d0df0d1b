/- How long a text is when it is quoted, and a list of parameters. -/
/- How great a part is, as the document's size counts it; what follows of a part that is not too great. -/
import Derived.Test.YtegplihhbdmnbaaGreatDoorU29
section
set_option linter.unusedSimpArgs false
set_option linter.unusedVariables false
namespace Go.Proofs.YtegplihhbdmnbaaGreatDoor
open Go.RowKit Go.Shelf
theorem quoI_len (s : List UInt8) (h : s.length ≤ 1000000) : (quoI s).length ≤ 2 * s.length + 110 := by
  unfold quoI
  have h1 := esc_len s
  have h2 := dec_len s.length h
  split
  · simp only [List.length_cons, List.length_append, List.length_nil]
    omega
  · simp only [List.length_cons, List.length_append]
    omega
theorem nilI_len (s : List UInt8) (h : s.length ≤ 1000000) : (nilI s).length ≤ 2 * s.length + 110 := by
  unfold nilI
  split
  · simp [tNil]
  · exact quoI_len s h
theorem lens_le (xs : List (List UInt8)) (K : Nat) (h : ∀ x ∈ xs, x.length ≤ K) : Lib.lens xs ≤ xs.length * K := by
  induction xs with
  | nil => simp [Lib.lens]
  | cons x r ih =>
    have h1 := h x (by simp)
    have h2 := ih (fun y hy => h y (by simp [hy]))
    have h3 : Lib.lens (x :: r) = x.length + Lib.lens r := by simp [Lib.lens]
    rw [h3, List.length_cons, Nat.add_mul]
    omega
theorem join_le (xs : List (List UInt8)) (K : Nat) (h : ∀ x ∈ xs, x.length ≤ K) : (Lib.join xs [32]).length ≤ xs.length * (K + 1) := by
  cases xs with
  | nil => simp [Lib.join_nil]
  | cons x r =>
    rw [Lib.join_length]
    have := lens_le (x :: r) K h
    rw [Nat.mul_add, Nat.mul_one, List.length_singleton, List.length_cons] at *
    omega
theorem par_len (ps : List Pm) (M : Nat) (hM : M ≤ 1000000) (h : ∀ p ∈ ps, p.name.length ≤ M ∧ p.value.length ≤ M) : (parI ps).length ≤ ps.length * (4 * M + 300) + 10 := by
  unfold parI
  split
  · simp [tNil]
  · have h1 := join_le (ps.flatMap fun p => [quoI p.name, quoI p.value]) (2 * M + 110) (fun x hx => by
      obtain ⟨p, hp, hx⟩ := List.mem_flatMap.1 hx
      obtain ⟨h2, h3⟩ := h p hp
      rcases List.mem_cons.1 hx with rfl | hx
      · exact Nat.le_trans (quoI_len _ (by omega)) (by omega)
      · rw [List.mem_singleton.1 hx]
        exact Nat.le_trans (quoI_len _ (by omega)) (by omega))
    rw [two_len] at h1
    simp only [List.length_cons, List.length_append, List.length_nil]
    have h2 : 2 * ps.length * (2 * M + 110 + 1) = ps.length * (4 * M + 222) := by
      rw [show 2 * ps.length = ps.length * 2 from Nat.mul_comm _ _, Nat.mul_assoc]
      congr 1
      omega
    have h3 : ps.length * (4 * M + 222) ≤ ps.length * (4 * M + 300) := Nat.mul_le_mul_left _ (by omega)
    omega
end Go.Proofs.YtegplihhbdmnbaaGreatDoor

end
section
set_option linter.unusedSimpArgs false
set_option linter.unusedVariables false
namespace Go.Proofs.YtegplihhbdmnbaaGreatDoor
open Go.RowKit Go.Shelf
/-- What the parameters' texts count. -/
def szA : List Pm → Nat
  | [] => 0
  | p :: r => (p.name.length + p.value.length) / 20 + szA r
/-- What a part's texts and the number of its parameters count. -/
def szT (h : PH) : Nat := 1 + h.params.length + (h.type.length + h.sub.length + h.id.length + h.desc.length + h.enc.length) / 20
/-- A part too deep, or with numbers that no message has. -/
def badB (d : Nat) (h : PH) : Bool := decide (100 < d ∨ h.end' < h.body ∨ h.body < 0 ∨ h.lines < 0)
/-- The count behind a part's own words. -/
def szH (n d : Nat) (h : PH) : Nat := n + szT h + szA h.params + (if badB d h then 5000 else 0)
mutual
def szP : Nat → Nat → Part → Nat
  | n, d, .mk h ks => szK (szH n d h) (d + 1) ks
def szK : Nat → Nat → List Part → Nat
  | n, _, [] => n
  | n, d, k :: r => szK (if n ≤ 2000 then szP n d k else n) d r
end
theorem szK_app : ∀ (a b : List Part) (n d : Nat), szK n d (a ++ b) = szK (szK n d a) d b
  | [], b, n, d => by rw [List.nil_append, szK]
  | k :: r, b, n, d => by rw [List.cons_append, szK, szK, szK_app r b]
theorem szK_snoc (ks : List Part) (n d i : Nat) (hi : i < ks.length) : szK n d (ks.take (i + 1)) = if szK n d (ks.take i) ≤ 2000 then szP (szK n d (ks.take i)) d ks[i] else szK n d (ks.take i) := by
  rw [List.take_succ_eq_append_getElem hi, szK_app, szK, szK]
theorem szA_app : ∀ (a b : List Pm), szA (a ++ b) = szA a + szA b
  | [], b => by simp [szA]
  | k :: r, b => by rw [List.cons_append, szA, szA, szA_app r b]; omega
theorem szA_snoc (ps : List Pm) (i : Nat) (hi : i < ps.length) : szA (ps.take (i + 1)) = szA (ps.take i) + (ps[i].name.length + ps[i].value.length) / 20 := by
  rw [List.take_succ_eq_append_getElem hi, szA_app, szA, szA]
  omega
theorem szA_mem : ∀ (ps : List Pm) (p : Pm), p ∈ ps → (p.name.length + p.value.length) / 20 ≤ szA ps
  | [], p, h => by cases h
  | q :: r, p, h => by
    rw [szA]
    rcases List.mem_cons.1 h with rfl | h
    · omega
    · have := szA_mem r p h
      omega
theorem szA_le : ∀ (ps : List Pm) (K : Nat), (∀ p ∈ ps, p.name.length ≤ K ∧ p.value.length ≤ K) → szA ps ≤ ps.length * K
  | [], K, _ => by simp [szA]
  | q :: r, K, h => by
    have h1 := szA_le r K (fun p hp => h p (by simp [hp]))
    have h2 := h q (by simp)
    rw [szA, List.length_cons, Nat.add_mul]
    omega
theorem szH_ge (n d : Nat) (h : PH) : n + 1 ≤ szH n d h := by
  unfold szH szT
  omega
mutual
theorem szP_ge : ∀ (p : Part) (n d : Nat), n + 1 ≤ szP n d p
  | .mk h ks, n, d => by
    rw [szP]
    have h1 := szK_ge ks (szH n d h) (d + 1)
    have h2 := szH_ge n d h
    omega
theorem szK_ge : ∀ (ks : List Part) (n d : Nat), n ≤ szK n d ks
  | [], n, d => by rw [szK]; exact Nat.le_refl _
  | k :: r, n, d => by
    rw [szK]
    have h1 := szP_ge k n d
    have h2 := szK_ge r (if n ≤ 2000 then szP n d k else n) d
    split at h2 <;> rename_i hn
    · rw [if_pos hn]; omega
    · rw [if_neg hn]; exact h2
end
theorem szA_take (ps : List Pm) (i : Nat) : szA (ps.take i) ≤ szA ps := by
  have := szA_app (ps.take i) (ps.drop i)
  rw [List.take_append_drop] at this
  omega
theorem szH_d {n d : Nat} {h : PH} (hs : szH n d h ≤ 2000) : d ≤ 100 := by
  cases hb : badB d h with
  | false =>
    have := of_decide_eq_false hb
    omega
  | true =>
    unfold szH at hs
    rw [hb] at hs
    simp only [if_true] at hs
    omega
theorem bad_all (d : Nat) (h : PH) : (decide ((100 : Int) < (d : Int)) || decide (h.end' < h.body) || decide (h.body < 0) || decide (h.lines < 0)) = badB d h := by
  unfold badB
  rw [Bool.eq_iff_iff]
  simp only [Bool.or_eq_true, decide_eq_true_eq]
  omega
theorem bad_yes {d : Nat} {h : PH} (k : 100 < d ∨ h.end' < h.body ∨ h.body < 0 ∨ h.lines < 0) : true = badB d h := (decide_eq_true k).symm
/-- The numbers are such as an int holds. -/
inductive IntP : Part → Prop
  | mk (h : PH) (ks : List Part) : h.end' ≤ 9223372036854775807 → h.lines ≤ 9223372036854775807 → (∀ k ∈ ks, IntP k) → IntP (.mk h ks)
theorem dec_len20 (n : Nat) (h : n ≤ 9223372036854775807) : (Lib.decDigits n).length ≤ 100 := by
  rw [Lib.decDigits_length]
  have := Lib.nDigits_le20 n (by omega)
  omega
theorem szH_ok {n d : Nat} {h : PH} (hs : szH n d h ≤ 2000) (h1 : h.end' ≤ 9223372036854775807) (h2 : h.lines ≤ 9223372036854775807) :
    OkH h ∧ (textP (.mk h [])).length ≤ 1000000 * (szH n d h - n) ∧ (quoI h.sub).length + 10 ≤ 1000000 * (szH n d h - n) ∧ d ≤ 100 := by
  have hb : badB d h = false := by
    cases hb : badB d h with
    | false => rfl
    | true =>
      unfold szH at hs
      rw [hb] at hs
      simp only [if_true] at hs
      omega
  have hb2 : ¬ (100 < d ∨ h.end' < h.body ∨ h.body < 0 ∨ h.lines < 0) := by
    unfold badB at hb
    exact of_decide_eq_false hb
  have hz : szH n d h = n + szT h + szA h.params := by
    unfold szH
    rw [hb]
    simp
  rw [hz] at hs ⊢
  have hT : szT h = 1 + h.params.length + (h.type.length + h.sub.length + h.id.length + h.desc.length + h.enc.length) / 20 := rfl
  have hE : ∀ p ∈ h.params, p.name.length ≤ 40020 ∧ p.value.length ≤ 40020 := fun p hp => by
    have := szA_mem h.params p hp
    omega
  have hp := par_len h.params 40020 (by omega) hE
  have l1 : h.type.length ≤ 40020 := by omega
  have l2 : h.sub.length ≤ 40020 := by omega
  have l3 : h.id.length ≤ 40020 := by omega
  have l4 : h.desc.length ≤ 40020 := by omega
  have l5 : h.enc.length ≤ 40020 := by omega
  have q1 := quoI_len h.type (by omega)
  have q2 := quoI_len h.sub (by omega)
  have q3 := nilI_len h.id (by omega)
  have q4 := nilI_len h.desc (by omega)
  have q5 := quoI_len h.enc (by omega)
  have d1 := dec_len20 (h.end' - h.body).toNat (by omega)
  have d2 := dec_len20 h.lines.toNat (by omega)
  refine ⟨⟨by omega, by omega, by omega, by omega, by omega, by omega, fun p hp => by have := hE p hp; omega, by omega, by omega, ⟨by omega, h1⟩, ⟨by omega, h2⟩⟩, ?_, by omega, by omega⟩
  rw [textP]
  simp only [List.isEmpty_nil, if_true, List.length_cons, List.length_append, List.length_nil]
  have hj : (Lib.join (leafW h) [32]).length ≤ (quoI h.type).length + (quoI h.sub).length + (parI h.params).length + (nilI h.id).length + (nilI h.desc).length + (quoI h.enc).length + (Lib.decDigits (h.end' - h.body).toNat).length + (Lib.decDigits h.lines.toNat).length + 10 := by
    unfold leafW
    split
    · rw [List.cons_append, Lib.join_length]
      simp [Lib.lens]
      omega
    · rw [List.cons_append, Lib.join_length]
      simp [Lib.lens]
      omega
  omega
mutual
theorem szP_ok : ∀ (p : Part) (n d : Nat), szP n d p ≤ 2000 → IntP p → OkP p ∧ countP p ≤ szP n d p - n ∧ (textP p).length ≤ 1000000 * (szP n d p - n)
  | .mk h ks, n, d, hs, hi => by
    cases hi with
    | mk _ _ i1 i2 i3 =>
      have hge := szK_ge ks (szH n d h) (d + 1)
      have hhe := szH_ge n d h
      rw [szP] at hs ⊢
      obtain ⟨a1, a2, a3, a4⟩ := szH_ok (n := n) (d := d) (h := h) (by omega) i1 i2
      obtain ⟨b1, b2, b3⟩ := szK_ok ks (szH n d h) (d + 1) hs i3
      refine ⟨.mk h ks a1 b1, by rw [countP]; omega, ?_⟩
      cases ks with
      | nil => rw [szK]; exact a2
      | cons k r =>
        rw [textP]
        simp only [List.isEmpty_cons, Bool.false_eq_true, if_false, List.length_cons, List.length_append, List.length_nil]
        omega
theorem szK_ok : ∀ (ks : List Part) (n d : Nat), szK n d ks ≤ 2000 → (∀ k ∈ ks, IntP k) → (∀ k ∈ ks, OkP k) ∧ countL ks ≤ szK n d ks - n ∧ (textL ks).length ≤ 1000000 * (szK n d ks - n)
  | [], n, d, _, _ => ⟨fun k hk => (by cases hk), by simp [countL], by simp [textL]⟩
  | k :: r, n, d, hs, hi => by
    rw [szK] at hs ⊢
    have h2 := szK_ge r (if n ≤ 2000 then szP n d k else n) d
    by_cases hn : n ≤ 2000
    · rw [if_pos hn] at hs h2 ⊢
      have h1 := szP_ge k n d
      obtain ⟨a1, a2, a3⟩ := szP_ok k n d (by omega) (hi k (by simp))
      obtain ⟨b1, b2, b3⟩ := szK_ok r (szP n d k) d hs (fun x hx => hi x (by simp [hx]))
      refine ⟨fun x hx => ?_, by rw [countL]; omega, by rw [textL, List.length_append]; omega⟩
      rcases List.mem_cons.1 hx with rfl | hx
      · exact a1
      · exact b1 x hx
    · rw [if_neg hn] at hs h2
      omega
end
end Go.Proofs.YtegplihhbdmnbaaGreatDoor

end
