/- Rows of plain addresses: plain mathematics. -/
import Derived.Test.YtkppeejbmalefaaDoorEnMath
namespace Go.Proofs.YtkppeejbmalefaaDoor
theorem pcs_app : ∀ (p : List UInt8) (s : Sq) (cur r : List UInt8), (44 : UInt8) ∉ p → pcs s cur (p ++ r) = pcs (rn s p) (cur ++ p) r
  | [], s, cur, r, _ => by simp [rn]
  | c :: p, s, cur, r, h => by
    have hc : c ≠ 44 := fun e => h (by simp [e])
    have e1 : pcs s cur (c :: (p ++ r)) = if s = .o ∧ c = 44 then cur :: pcs .o [] (p ++ r) else pcs (nx s c) (cur ++ [c]) (p ++ r) := rfl
    rw [List.cons_append, e1, if_neg (fun e => hc e.2), pcs_app p _ _ _ (fun e => h (by simp [e])), rn_cons]
    simp
theorem plE_app (m : UInt8) : ∀ (p : List UInt8) (s : Sq) (r : List UInt8), m ∉ p → plE m s (p ++ r) = p.length + plE m (rn s p) r
  | [], s, r, _ => by simp [rn]
  | c :: p, s, r, h => by
    have hc : c ≠ m := fun e => h (by simp [e])
    have e1 : plE m s (c :: (p ++ r)) = if s = .o ∧ c = m then 0 else plE m (nx s c) (p ++ r) + 1 := rfl
    rw [List.cons_append, e1, if_neg (fun e => hc e.2), plE_app m p _ _ (fun e => h (by simp [e])), rn_cons]
    simp
    omega
/-- A small letter or a digit. -/
def alB (c : UInt8) : Bool := (decide (97 ≤ c.toNat) && decide (c.toNat ≤ 122)) || (decide (48 ≤ c.toNat) && decide (c.toNat ≤ 57))
theorem al_ne {c d : UInt8} (h : alB c = true) (hd : alB d = false) : c ≠ d := fun e => by rw [e, hd] at h; cases h
theorem al_mem {t : List UInt8} {d : UInt8} (h : t.all alB = true) (hd : alB d = false) : d ∉ t := fun e => al_ne (List.all_eq_true.1 h _ e) hd rfl
theorem nx_al {c : UInt8} (h : alB c = true) : nx .o c = .o ∧ nx .q c = .q ∧ nx .a c = .a := by
  have h1 := al_ne h (d := 34) (by decide)
  have h2 := al_ne h (d := 60) (by decide)
  have h3 := al_ne h (d := 92) (by decide)
  have h4 := al_ne h (d := 62) (by decide)
  simp [nx, h1, h2, h3, h4]
theorem rn_al : ∀ {t : List UInt8}, t.all alB = true → rn .o t = .o ∧ rn .q t = .q ∧ rn .a t = .a
  | [], _ => ⟨rfl, rfl, rfl⟩
  | c :: r, h => by
    rw [List.all_cons, Bool.and_eq_true] at h
    obtain ⟨h1, h2, h3⟩ := nx_al h.1
    rw [rn_cons, rn_cons, rn_cons, h1, h2, h3]
    exact rn_al h.2
theorem bk_al {c : UInt8} (h : alB c = true) : bk c = false := by
  have h1 := al_ne h (d := 32) (by decide)
  have h2 := al_ne h (d := 9) (by decide)
  simp [bk, h1, h2]
/-- A text that begins and ends without a blank. -/
def tig (t : List UInt8) : Prop := (∃ a r, t = a :: r ∧ bk a = false) ∧ ∃ q z, t = q ++ [z] ∧ bk z = false
theorem right_end {q : List UInt8} {z : UInt8} (h : bk z = false) : Lib.trimRightS (q ++ [z]) [32, 9] = q ++ [z] := by
  unfold bk at h
  unfold Lib.trimRightS
  simp only [List.reverse_append, List.reverse_cons, List.reverse_nil, List.nil_append, List.cons_append]
  rw [List.dropWhile_cons, if_neg (by rw [h]; simp)]
  simp
theorem right_blank (q : List UInt8) : Lib.trimRightS (q ++ [32]) [32, 9] = Lib.trimRightS q [32, 9] := by
  unfold Lib.trimRightS
  simp
theorem left_blank (q : List UInt8) : Lib.trimLeftS (32 :: q) [32, 9] = Lib.trimLeftS q [32, 9] := by
  unfold Lib.trimLeftS
  simp
theorem left_head {a : UInt8} {r : List UInt8} (h : bk a = false) : Lib.trimLeftS (a :: r) [32, 9] = a :: r := by
  unfold bk at h
  unfold Lib.trimLeftS
  rw [List.dropWhile_cons, if_neg (by rw [h]; simp)]
theorem trim_tig {t : List UInt8} (h : tig t) : Lib.trimS t [32, 9] = t := by
  obtain ⟨⟨a, r, h1, h2⟩, q, z, h3, h4⟩ := h
  unfold Lib.trimS
  have : Lib.trimRightS t [32, 9] = t := by rw [h3]; exact right_end h4
  rw [this, h1]
  exact left_head h2
theorem trim_r (t : List UInt8) : Lib.trimS (t ++ [32]) [32, 9] = Lib.trimS t [32, 9] := by
  unfold Lib.trimS
  rw [right_blank]
theorem trim_l {t : List UInt8} (h : tig t) : Lib.trimS (32 :: t) [32, 9] = t := by
  obtain ⟨⟨a, r, h1, h2⟩, q, z, h3, h4⟩ := h
  unfold Lib.trimS
  have : Lib.trimRightS (32 :: t) [32, 9] = 32 :: t := by
    rw [h3, ← List.cons_append]
    exact right_end h4
  rw [this, left_blank, h1]
  exact left_head h2
theorem tig_al {t : List UInt8} (h0 : t ≠ []) (h : t.all alB = true) : tig t := by
  constructor
  · cases t with
    | nil => exact absurd rfl h0
    | cons a r => exact ⟨a, r, rfl, bk_al (List.all_eq_true.1 h a (by simp))⟩
  · rcases List.eq_nil_or_concat t with rfl | ⟨q, z, rfl⟩
    · exact absurd rfl h0
    · exact ⟨q, z, by simp, bk_al (List.all_eq_true.1 h z (by simp))⟩
/-- An address without marks. -/
def okA (a : Ad) : Prop := ∀ t, t = a.name ∨ t = a.loc ∨ t = a.dom → t ≠ [] ∧ t.all alB = true ∧ t.length ≤ 100
/-- Its name as the i-th one. -/
def nmT (i : Nat) (a : Ad) : List UInt8 := if i % 2 = 0 then a.name else 34 :: (a.name ++ [34])
def pcT (i : Nat) (a : Ad) : List UInt8 := nmT i a ++ (32 :: 60 :: (a.loc ++ (64 :: (a.dom ++ [62]))))
def rowT : Nat → List Ad → List UInt8
  | _, [] => []
  | i, a :: r => (if 0 < i then [32, 44, 32] else []) ++ (pcT i a ++ rowT (i + 1) r)
theorem row_snoc : ∀ (xs : List Ad) (i : Nat) (x : Ad), rowT i (xs ++ [x]) = rowT i xs ++ ((if 0 < i + xs.length then [32, 44, 32] else []) ++ pcT (i + xs.length) x)
  | [], i, x => by simp [rowT]
  | a :: r, i, x => by
    rw [List.cons_append, rowT, rowT, row_snoc r (i + 1) x, List.length_cons]
    have : i + 1 + r.length = i + (r.length + 1) := by omega
    rw [this]
    simp only [List.append_assoc]
theorem nmT_facts (i : Nat) {a : Ad} (h : okA a) : (44 : UInt8) ∉ nmT i a ∧ (60 : UInt8) ∉ nmT i a ∧ rn .o (nmT i a) = .o ∧ tig (nmT i a) ∧ nmV (nmT i a) = a.name := by
  obtain ⟨h0, h1, _⟩ := h a.name (.inl rfl)
  have m44 := al_mem h1 (d := 44) (by decide)
  have m60 := al_mem h1 (d := 60) (by decide)
  have m34 := al_mem h1 (d := 34) (by decide)
  have m92 := al_mem h1 (d := 92) (by decide)
  unfold nmT
  split
  · refine ⟨m44, m60, (rn_al h1).1, tig_al h0 h1, ?_⟩
    cases hn : a.name with
    | nil => rfl
    | cons c r =>
      rw [hn] at m34
      show (if c = 34 ∧ qL r = r.length then mnQ r else c :: r) = _
      rw [if_neg (fun e => m34 (by simp [e.1]))]
  · refine ⟨by simp [m44], by simp [m60], ?_, ⟨⟨34, a.name ++ [34], rfl, by decide⟩, 34 :: a.name, 34, rfl, by decide⟩, ?_⟩
    · rw [rn_cons, rn_append]
      show rn (rn .q a.name) [34] = .o
      rw [(rn_al h1).2.1]
      rfl
    · have key : ∀ t : List UInt8, (34 : UInt8) ∉ t → (92 : UInt8) ∉ t → qL (t ++ [34]) = t.length + 1 ∧ mnQ (t ++ [34]) = t := by
        intro t
        induction t with
        | nil => intro _ _; exact ⟨rfl, rfl⟩
        | cons c r ih =>
          intro a1 a2
          have hc : c ≠ 34 := fun e => a1 (by simp [e])
          have hd : c ≠ 92 := fun e => a2 (by simp [e])
          obtain ⟨i1, i2⟩ := ih (fun e => a1 (by simp [e])) (fun e => a2 (by simp [e]))
          cases hr : r ++ [34] with
          | nil => simp at hr
          | cons d r' =>
            rw [List.cons_append, hr]
            rw [hr] at i1 i2
            constructor
            · rw [qL, if_neg hc, if_neg hd, i1]
              simp
            · rw [mnQ, if_neg hc, if_neg hd, i2]
      obtain ⟨k1, k2⟩ := key a.name m34 m92
      show (if (34 : UInt8) = 34 ∧ qL (a.name ++ [34]) = (a.name ++ [34]).length then mnQ (a.name ++ [34]) else _) = _
      rw [if_pos ⟨rfl, by rw [k1]; simp⟩, k2]
theorem tow_app : ∀ (t : List UInt8), (62 : UInt8) ∉ t → tow (t ++ [62]) = t
  | [], _ => rfl
  | c :: r, h => by
    have hc : c ≠ 62 := fun e => h (by simp [e])
    have ih := tow_app r (fun e => h (by simp [e]))
    unfold tow at *
    rw [List.cons_append, List.takeWhile_cons, if_pos (by simp [hc]), ih]
theorem locK_at (p q : List UInt8) (h : (64 : UInt8) ∉ q) : locK (p ++ 64 :: q) (p ++ 64 :: q).length = (p, q) := by
  have e : Go.Lib.Pa.lastIdx (p ++ 64 :: q) 64 (p ++ 64 :: q).length = (p.length : Nat) := by
    refine Go.Lib.Pa.lastIdx_eq_of _ _ p.length _ (by simp) (by simp) (fun j h1 h2 hj => ?_)
    rw [List.getElem?_append_right (by omega)] at hj
    obtain ⟨k, hk⟩ : ∃ k, j - p.length = k + 1 := ⟨j - p.length - 1, by omega⟩
    rw [hk, List.getElem?_cons_succ] at hj
    exact h (List.mem_of_getElem? hj)
  unfold locK
  rw [e, if_neg (by omega)]
  simp
theorem adO_pc (i : Nat) {a : Ad} (h : okA a) : adO (pcT i a) = a := by
  obtain ⟨h1, h2, h3, h4, h5⟩ := nmT_facts i h
  obtain ⟨_, l1, _⟩ := h a.loc (.inr (.inl rfl))
  obtain ⟨_, d1, _⟩ := h a.dom (.inr (.inr rfl))
  have e1 : plE 60 .o (pcT i a) = (nmT i a).length + 1 := by
    unfold pcT
    rw [plE_app 60 _ _ _ h2, h3]
    rfl
  have el : (pcT i a).length = (nmT i a).length + (2 + (a.loc ++ (64 :: (a.dom ++ [62]))).length) := by
    unfold pcT
    simp
    omega
  have e2 : (pcT i a).take ((nmT i a).length + 1) = nmT i a ++ [32] := by
    unfold pcT
    rw [List.take_append, List.take_of_length_le (by omega)]
    simp
  have e3 : (pcT i a).drop ((nmT i a).length + 1 + 1) = a.loc ++ (64 :: (a.dom ++ [62])) := by
    unfold pcT
    rw [show (nmT i a).length + 1 + 1 = (nmT i a).length + 2 by omega, ← List.drop_drop]
    simp
  have e4 : nmA (pcT i a) = (a.name, a.loc ++ 64 :: a.dom) := by
    unfold nmA
    rw [e1, if_pos (by omega), e2, e3, trim_r, trim_tig h4, h5]
    have : tow (a.loc ++ 64 :: (a.dom ++ [62])) = a.loc ++ 64 :: a.dom := by
      have := tow_app (a.loc ++ 64 :: a.dom) (by
        have x1 := al_mem l1 (d := 62) (by decide)
        have x2 := al_mem d1 (d := 62) (by decide)
        simp [x1, x2])
      rw [← this]
      congr 1
      simp
    rw [this]
  unfold adO
  rw [e4, locK_at _ _ (al_mem d1 (by decide))]
theorem pcT_facts (i : Nat) {a : Ad} (h : okA a) : (44 : UInt8) ∉ pcT i a ∧ rn .o (pcT i a) = .o ∧ tig (pcT i a) := by
  obtain ⟨h1, h2, h3, h4, h5⟩ := nmT_facts i h
  obtain ⟨_, l1, _⟩ := h a.loc (.inr (.inl rfl))
  obtain ⟨_, d1, _⟩ := h a.dom (.inr (.inr rfl))
  have l44 := al_mem l1 (d := 44) (by decide)
  have d44 := al_mem d1 (d := 44) (by decide)
  refine ⟨?_, ?_, ?_⟩
  · unfold pcT
    simp [h1, l44, d44]
  · unfold pcT
    rw [rn_append, h3, rn_cons, rn_cons, rn_append]
    show rn (rn .a a.loc) _ = .o
    rw [(rn_al l1).2.2, rn_cons, rn_append]
    show rn (rn .a a.dom) _ = .o
    rw [(rn_al d1).2.2]
    rfl
  · obtain ⟨⟨x, r, hx, hb⟩, _⟩ := h4
    refine ⟨⟨x, r ++ (32 :: 60 :: (a.loc ++ (64 :: (a.dom ++ [62])))), by unfold pcT; rw [hx]; rfl, hb⟩, nmT i a ++ (32 :: 60 :: (a.loc ++ (64 :: a.dom))), 62, by unfold pcT; simp, by decide⟩
theorem tig_ne {t : List UInt8} (h : tig t) : t.isEmpty = false := by
  obtain ⟨⟨a, r, rfl, _⟩, _⟩ := h
  rfl
theorem row_from : ∀ (xs : List Ad) (i : Nat) (cur p : List UInt8), (∀ x ∈ xs, okA x) → 0 < i → Lib.trimS cur [32, 9] = p → p.isEmpty = false → adsP (pcs .o cur (rowT i xs)) = adO p :: xs
  | [], i, cur, p, _, _, hp, hn => by
    show adsP [cur] = _
    rw [adsP_cons, hp, hn]
    rfl
  | a :: r, i, cur, p, hx, hi, hp, hn => by
    obtain ⟨f1, f2, f3⟩ := pcT_facts i (hx a (by simp))
    rw [rowT, if_pos hi]
    have e1 : pcs .o cur (([32, 44, 32] : List UInt8) ++ (pcT i a ++ rowT (i + 1) r)) = (cur ++ [32]) :: pcs .o [] (32 :: (pcT i a ++ rowT (i + 1) r)) := rfl
    have e2 : pcs .o [] (32 :: (pcT i a ++ rowT (i + 1) r)) = pcs .o [32] (pcT i a ++ rowT (i + 1) r) := rfl
    rw [e1, e2, pcs_app _ _ _ _ f1, f2, adsP_cons, trim_r, hp, hn, row_from r (i + 1) ([32] ++ pcT i a) (pcT i a) (fun x h => hx x (by simp [h])) (by omega) (trim_l f3) (tig_ne f3), adO_pc i (hx a (by simp))]
    rfl
theorem row_ads (xs : List Ad) (hx : ∀ x ∈ xs, okA x) (hl : xs.length ≤ 50) : adsV (rowT 0 xs) = xs := by
  unfold adsV adsL
  cases xs with
  | nil => rw [show rowT 0 [] = [] from rfl]; exact congrArg (List.take 50) adsL_nil
  | cons a r =>
    obtain ⟨f1, f2, f3⟩ := pcT_facts 0 (hx a (by simp))
    rw [rowT, if_neg (by omega), List.nil_append, pcs_app _ _ _ _ f1, f2, List.nil_append, row_from r 1 _ (pcT 0 a) (fun x h => hx x (by simp [h])) (by omega) (trim_tig f3) (tig_ne f3), adO_pc 0 (hx a (by simp)), List.take_of_length_le hl]
theorem pcT_len (i : Nat) {a : Ad} (h : okA a) : (pcT i a).length ≤ 306 := by
  obtain ⟨_, _, h1⟩ := h a.name (.inl rfl)
  obtain ⟨_, _, h2⟩ := h a.loc (.inr (.inl rfl))
  obtain ⟨_, _, h3⟩ := h a.dom (.inr (.inr rfl))
  unfold pcT nmT
  split <;> simp <;> omega
theorem rowT_len : ∀ (xs : List Ad) (i : Nat), (∀ x ∈ xs, okA x) → (rowT i xs).length ≤ 309 * xs.length
  | [], _, _ => by simp [rowT]
  | a :: r, i, h => by
    have h1 := pcT_len i (h a (by simp))
    have h2 := rowT_len r (i + 1) (fun x hx => h x (by simp [hx]))
    rw [rowT, List.length_append, List.length_append, List.length_cons]
    have : (if 0 < i then ([32, 44, 32] : List UInt8) else []).length ≤ 3 := by split <;> simp
    omega
end Go.Proofs.YtkppeejbmalefaaDoor
