/- The document's own reading: what like, value and place answer. -/
/- The texts that the reader of package dates takes, step by step, both ways. -/
import Derived.Test.YtcmhaihoeecjoaaGreatDoorU20
import Derived.Test.YtcmhaihoeecjoaaGreatDoorU23
section
namespace Go.Proofs.YtcmhaihoeecjoaaGreatDoor.Da
open Go.RowKit
/-- Does s look like the pattern? -/
def likeB : List UInt8 → List UInt8 → Bool
  | [], [] => true
  | c :: s, q :: p => (if q.toNat = 48 then isDig c else decide (c.toNat = q.toNat)) && likeB s p
  | _, _ => false
theorem likeB_len : ∀ {s p : List UInt8}, likeB s p = true → s.length = p.length
  | [], [], _ => rfl
  | c :: s, q :: p, h => by
    unfold likeB at h
    simp only [Bool.and_eq_true] at h
    have := likeB_len h.2
    simp [this]
  | [], _ :: _, h => by cases h
  | _ :: _, [], h => by cases h
/-- Digits' number. -/
def valL : List UInt8 → Nat → Nat
  | [], n => n
  | c :: r, n => valL r (10 * n + (c.toNat - 48))
theorem valL_snoc (p : List UInt8) (c : UInt8) (n : Nat) : valL (p ++ [c]) n = 10 * valL p n + (c.toNat - 48) := by
  induction p generalizing n with
  | nil => rfl
  | cons d p ih => exact ih _
theorem valL_lt : ∀ (s : List UInt8) (n : Nat), (∀ c ∈ s, isDig c = true) → valL s n < (n + 1) * 10 ^ s.length
  | [], n, _ => by simp [valL]
  | c :: r, n, h => by
    have h1 := h c (by simp)
    unfold isDig at h1
    simp at h1
    have ih := valL_lt r (10 * n + (c.toNat - 48)) (fun d hd => h d (by simp [hd]))
    have h3 : (10 * n + (c.toNat - 48) + 1) * 10 ^ r.length ≤ ((n + 1) * 10) * 10 ^ r.length := Nat.mul_le_mul_right _ (by omega)
    show valL r (10 * n + (c.toNat - 48)) < (n + 1) * 10 ^ (r.length + 1)
    rw [Nat.pow_succ, Nat.mul_comm (10 ^ r.length) 10, ← Nat.mul_assoc]
    omega
/-- The first of k names, from the j-th on, that s is. -/
def findEq (names s : List UInt8) : Nat → Nat → Int
  | 0, _ => -1
  | k + 1, j => if s = nameT names j then j else findEq names s k (j + 1)
end Go.Proofs.YtcmhaihoeecjoaaGreatDoor.Da

end
section
namespace Go.Proofs.YtcmhaihoeecjoaaGreatDoor.Da
open Go.RowKit
def Digs (ds : List UInt8) : Prop := ∀ c ∈ ds, isDig c = true
theorem digitF_inv {σ τ : RS} {n : Nat} (h : digitF σ = some (n, τ)) : ∃ c r, isDig c = true ∧ σ.l = c :: r ∧ n = c.toNat - 48 ∧ τ = { σ with l := r } := by
  unfold digitF at h
  split at h
  · cases h
  · next c r hl =>
    split at h
    · next hd =>
      cases h
      exact ⟨c, r, hd, hl, rfl, rfl⟩
    · cases h
theorem digitF_fwd {σ : RS} {c : UInt8} {r : List UInt8} (hl : σ.l = c :: r) (hd : isDig c = true) : digitF σ = some (c.toNat - 48, { σ with l := r }) := by
  unfold digitF
  rw [hl]
  simp [hd]
theorem digitsF_inv : ∀ (k n : Nat) {σ τ : RS} {v : Nat}, digitsF k n σ = some (v, τ) → ∃ ds r, ds.length = k ∧ Digs ds ∧ σ.l = ds ++ r ∧ v = valL ds n ∧ τ = { σ with l := r }
  | 0, n, σ, τ, v, h => by
    cases h
    exact ⟨[], σ.l, rfl, (by intro _ h; cases h), rfl, rfl, rfl⟩
  | k + 1, n, σ, τ, v, h => by
    unfold digitsF at h
    cases hd : digitF σ with
    | none => rw [hd] at h; cases h
    | some x =>
      obtain ⟨d, σ'⟩ := x
      rw [hd] at h
      obtain ⟨c, r, hc, hl, rfl, rfl⟩ := digitF_inv hd
      obtain ⟨ds, r', h1, h2, h3, h4, h5⟩ := digitsF_inv k _ h
      refine ⟨c :: ds, r', by simp [h1], ?_, ?_, ?_, h5⟩
      · intro x hx
        rcases List.mem_cons.1 hx with rfl | hx
        · exact hc
        · exact h2 x hx
      · rw [hl]
        simp only at h3
        rw [h3]
        rfl
      · rw [h4, valL, Nat.mul_comm]
theorem digitsF_fwd : ∀ (ds : List UInt8) (n : Nat) {σ : RS} {r : List UInt8}, σ.l = ds ++ r → Digs ds → digitsF ds.length n σ = some (valL ds n, { σ with l := r })
  | [], n, σ, r, hl, _ => by
    simp only [List.nil_append] at hl
    show some (n, σ) = _
    rw [valL, ← hl]
  | c :: ds, n, σ, r, hl, hd => by
    have h1 := digitF_fwd (σ := σ) (c := c) (r := ds ++ r) hl (hd c (by simp))
    have h2 := digitsF_fwd ds (n * 10 + (c.toNat - 48)) (σ := { σ with l := ds ++ r }) (r := r) rfl (fun x hx => hd x (by simp [hx]))
    show digitsF (ds.length + 1) n σ = _
    unfold digitsF
    rw [h1]
    simp only
    rw [h2, valL, Nat.mul_comm]
theorem markF_inv {x : Nat} {σ τ : RS} (h : markF x σ = some τ) : ∃ c r, c.toNat = x ∧ σ.l = c :: r ∧ τ = { σ with l := r } := by
  unfold markF at h
  split at h
  · cases h
  · next c r hl =>
    split at h
    · next hc =>
      cases h
      exact ⟨c, r, hc, hl, rfl⟩
    · cases h
theorem markF_fwd {x : Nat} {σ : RS} {c : UInt8} {r : List UInt8} (hl : σ.l = c :: r) (hc : c.toNat = x) : markF x σ = some { σ with l := r } := by
  unfold markF
  rw [hl]
  simp [hc]
theorem findPre_inv {tab : Nat → List UInt8} {l : List UInt8} : ∀ (k i : Nat) {j : Nat}, findPre tab l k i = some j → isPre l (tab j) = true ∧ i ≤ j ∧ j < i + k
  | 0, _, _, h => by cases h
  | k + 1, i, j, h => by
    unfold findPre at h
    split at h
    · next hp =>
      cases h
      exact ⟨hp, Nat.le_refl _, by omega⟩
    · obtain ⟨h1, h2, h3⟩ := findPre_inv k (i + 1) h
      exact ⟨h1, by omega, by omega⟩
theorem nameT_len (j : Nat) (hj : j < 12) : (nameT monB j).length = 3 := by
  have : ∀ j, j < 12 → (nameT monB j).length = 3 := by decide
  exact this j hj
theorem nameF_inv {σ τ : RS} {j : Nat} (h : nameF monB σ = some (j, τ)) : j < 12 ∧ ∃ r, σ.l = nameT monB j ++ r ∧ τ = { σ with l := r } := by
  unfold nameF at h
  obtain ⟨i, h1, h2⟩ := Option.map_eq_some_iff.1 h
  cases h2
  obtain ⟨hp, _, hlt⟩ := findPre_inv _ _ h1
  have hj : j < 12 := by simpa [monB] using hlt
  refine ⟨hj, σ.l.drop 3, ?_, rfl⟩
  have := isPre_split hp
  rwa [nameT_len j hj] at this
theorem pre_app (p r : List UInt8) : isPre (p ++ r) p = true := by
  unfold isPre Lib.hasPrefix
  rw [List.isPrefixOf_iff_prefix]
  exact ⟨r, rfl⟩
theorem pre_three {p q r : List UInt8} (hp : p.length = 3) (hq : q.length = 3) (h : isPre (p ++ r) q = true) : p = q := by
  have := isPre_split h
  rw [hq] at this
  have h2 := congrArg (List.take 3) this
  rwa [List.take_append_of_le_length (by omega), List.take_of_length_le (by omega), List.take_append_of_le_length (by omega), List.take_of_length_le (by omega)] at h2
theorem findPre_fwd {tab : Nat → List UInt8} {l : List UInt8} {j : Nat} (hj : isPre l (tab j) = true) (hn : ∀ i, i < j → isPre l (tab i) = false) : ∀ (k i : Nat), i ≤ j → j < i + k → findPre tab l k i = some j
  | 0, i, h1, h2 => by omega
  | k + 1, i, h1, h2 => by
    unfold findPre
    by_cases e : i = j
    · subst e
      rw [if_pos hj]
    · rw [hn i (by omega), if_neg (by simp)]
      exact findPre_fwd hj hn k (i + 1) (by omega) (by omega)
theorem mon_ne : ∀ i, i < 12 → ∀ j, j < 12 → nameT monB i = nameT monB j → i = j := by decide
theorem nameF_fwd {σ : RS} {j : Nat} {r : List UInt8} (hj : j < 12) (hl : σ.l = nameT monB j ++ r) : nameF monB σ = some (j, { σ with l := r }) := by
  unfold nameF
  have h3 := nameT_len j hj
  rw [hl, findPre_fwd (j := j) (pre_app _ _) (fun i hi => ?_) _ _ (Nat.zero_le _) (by simpa [monB] using hj)]
  · simp only [Option.map_some]
    congr 2
    rw [List.drop_append, List.drop_of_length_le (by omega), h3]
    rfl
  · cases h : isPre (nameT monB j ++ r) (nameT monB i) with
    | false => rfl
    | true =>
      have := mon_ne j hj i (by omega) (pre_three h3 (nameT_len i (by omega)) h)
      omega
theorem findEq_inv (t : List UInt8) : ∀ (k i : Nat), findEq monB t k i = -1 ∨ ∃ j, i ≤ j ∧ j < i + k ∧ t = nameT monB j ∧ findEq monB t k i = j
  | 0, _ => .inl rfl
  | k + 1, i => by
    unfold findEq
    split
    · next h => exact .inr ⟨i, Nat.le_refl _, by omega, h, rfl⟩
    · rcases findEq_inv t k (i + 1) with h | ⟨j, h1, h2, h3, h4⟩
      · exact .inl h
      · exact .inr ⟨j, by omega, by omega, h3, h4⟩
theorem findEq_fwd (j : Nat) (hj : j < 12) : findEq monB (nameT monB j) 12 0 = j := by
  have : ∀ j, j < 12 → findEq monB (nameT monB j) 12 0 = j := by decide
  exact this j hj
theorem two_of {l : List UInt8} (h : l.length = 2) : ∃ a b, l = [a, b] := by
  match l, h with
  | [a, b], _ => exact ⟨a, b, rfl⟩
theorem isDig_45 : isDig 45 = false := by decide
/-- A reader of the text l, at its beginning. -/
def σz (l : List UInt8) : RS := ⟨l, 0, 0, 0, 0, 0, 0, 0, 0⟩
/-- A day's text. -/
def ShD (l ds : List UInt8) (j : Nat) (ys : List UInt8) : Prop := l = ds ++ 45 :: (nameT monB j ++ 45 :: ys) ∧ j < 12 ∧ (ds.length = 1 ∨ ds.length = 2) ∧ Digs ds ∧ ys.length = 4 ∧ Digs ys
theorem dayF_inv {σ τ : RS} (h : dayF σ = some τ) : ∃ ds r, (ds.length = 1 ∨ ds.length = 2) ∧ Digs ds ∧ σ.l = ds ++ r ∧ τ = { σ with l := r, d := valL ds 0 } := by
  unfold dayF at h
  obtain ⟨x, h1, h2⟩ := Option.bind_eq_some_iff.1 h
  obtain ⟨n, σ1⟩ := x
  obtain ⟨c, r, hc, hl, rfl, rfl⟩ := digitF_inv h1
  split at h2
  · obtain ⟨z, h3, h4⟩ := Option.map_eq_some_iff.1 h2
    obtain ⟨n2, σ2⟩ := z
    obtain ⟨c2, r2, hc2, hl2, rfl, rfl⟩ := digitF_inv h3
    refine ⟨[c, c2], r2, .inr rfl, ?_, ?_, ?_⟩
    · intro x hx
      simp at hx
      rcases hx with rfl | rfl
      · exact hc
      · exact hc2
    · rw [hl]
      simp only at hl2
      rw [hl2]
      rfl
    · rw [← h4]
      simp [valL]
      omega
  · refine ⟨[c], r, .inl rfl, ?_, hl, ?_⟩
    · intro x hx
      simp at hx
      rw [hx]
      exact hc
    · rw [← Option.some.inj h2]
      simp [valL]
theorem dayF_fwd {σ : RS} {ds r : List UInt8} (hn : ds.length = 1 ∨ ds.length = 2) (hd : Digs ds) (hl : σ.l = ds ++ r) (hr : ∀ c r', r = c :: r' → isDig c = false) : dayF σ = some { σ with l := r, d := valL ds 0 } := by
  unfold dayF
  rcases hn with h | h
  · obtain ⟨c, rfl⟩ := List.length_eq_one_iff.1 h
    have h1 := digitF_fwd (σ := σ) (c := c) (r := r) hl (hd c (by simp))
    rw [h1]
    simp only [Option.bind_some]
    have : atDigF { σ with l := r } = false := by
      unfold atDigF
      cases r with
      | nil => rfl
      | cons e r' => exact hr e r' rfl
    rw [this, if_neg (by simp)]
    simp [valL]
  · obtain ⟨c, c2, rfl⟩ := two_of h
    have h1 := digitF_fwd (σ := σ) (c := c) (r := c2 :: r) hl (hd c (by simp))
    have h2 := digitF_fwd (σ := { σ with l := c2 :: r }) (c := c2) (r := r) rfl (hd c2 (by simp))
    rw [h1]
    simp only [Option.bind_some]
    have : atDigF { σ with l := c2 :: r } = true := hd c2 (by simp)
    rw [this, if_pos rfl, h2]
    simp [valL]
    omega
theorem monthF_inv {σ τ : RS} (h : monthF σ = some τ) : ∃ j r, j < 12 ∧ σ.l = nameT monB j ++ r ∧ τ = { σ with l := r, m := (j : Int) + 1 } := by
  unfold monthF at h
  obtain ⟨x, h1, h2⟩ := Option.map_eq_some_iff.1 h
  obtain ⟨j, σ1⟩ := x
  obtain ⟨hj, r, hl, rfl⟩ := nameF_inv h1
  exact ⟨j, r, hj, hl, h2.symm⟩
theorem monthF_fwd {σ : RS} {j : Nat} {r : List UInt8} (hj : j < 12) (hl : σ.l = nameT monB j ++ r) : monthF σ = some { σ with l := r, m := (j : Int) + 1 } := by
  unfold monthF
  rw [nameF_fwd hj hl]
  rfl
theorem yearF_inv {σ τ : RS} (h : yearF σ = some τ) : ∃ ds r, ds.length = 4 ∧ Digs ds ∧ σ.l = ds ++ r ∧ τ = { σ with l := r, y := valL ds 0 } := by
  unfold yearF at h
  obtain ⟨x, h1, h2⟩ := Option.map_eq_some_iff.1 h
  obtain ⟨v, σ1⟩ := x
  obtain ⟨ds, r, a, b, c, rfl, rfl⟩ := digitsF_inv 4 0 h1
  exact ⟨ds, r, a, b, c, h2.symm⟩
theorem yearF_fwd {σ : RS} {ds r : List UInt8} (hn : ds.length = 4) (hd : Digs ds) (hl : σ.l = ds ++ r) : yearF σ = some { σ with l := r, y := valL ds 0 } := by
  unfold yearF
  rw [← hn, digitsF_fwd ds 0 hl hd]
  rfl
theorem chain_inv {f : RS → Option RS} {fs : List (RS → Option RS)} {σ τ : RS} (h : chainF (f :: fs) σ = some τ) : ∃ ρ, f σ = some ρ ∧ chainF fs ρ = some τ := by
  unfold chainF at h
  exact Option.bind_eq_some_iff.1 h
theorem pday_fwd {l ds ys : List UInt8} {j : Nat} (h : ShD l ds j ys) : (pdayF (σz l)).bind endF = some ⟨[], valL ys 0, (j : Int) + 1, valL ds 0, 0, 0, 0, 0, 0⟩ := by
  obtain ⟨rfl, hj, hn, hd, hy, hyd⟩ := h
  unfold pdayF
  rw [chain_yes (dayF_fwd hn hd rfl (fun c r' e => by cases e; exact isDig_45))]
  rw [chain_yes (markF_fwd (x := 45) (c := 45) rfl rfl)]
  rw [chain_yes (monthF_fwd hj rfl)]
  rw [chain_yes (markF_fwd (x := 45) (c := 45) rfl rfl)]
  rw [chain_yes (yearF_fwd hy hyd (r := []) (by simp))]
  simp [chainF, endF, σz]
theorem pday_inv {l : List UInt8} {τ : RS} (h : (pdayF (σz l)).bind endF = some τ) : ∃ ds j ys, ShD l ds j ys := by
  obtain ⟨ρ, h1, h2⟩ := Option.bind_eq_some_iff.1 h
  unfold pdayF at h1
  obtain ⟨_, a1, h1⟩ := chain_inv h1
  obtain ⟨ds, r1, hn, hd, l1, rfl⟩ := dayF_inv a1
  obtain ⟨_, a2, h1⟩ := chain_inv h1
  obtain ⟨c2, r2, hc2, l2, rfl⟩ := markF_inv a2
  obtain ⟨_, a3, h1⟩ := chain_inv h1
  obtain ⟨j, r3, hj, l3, rfl⟩ := monthF_inv a3
  obtain ⟨_, a4, h1⟩ := chain_inv h1
  obtain ⟨c4, r4, hc4, l4, rfl⟩ := markF_inv a4
  obtain ⟨_, a5, h1⟩ := chain_inv h1
  obtain ⟨ys, r5, hy, hyd, l5, rfl⟩ := yearF_inv a5
  cases h1
  unfold endF at h2
  split at h2
  · next he =>
    simp only at l1 l2 l3 l4 l5 he
    have e2 : c2 = 45 := UInt8.toNat_inj.1 hc2
    have e4 : c4 = 45 := UInt8.toNat_inj.1 hc4
    refine ⟨ds, j, ys, ?_, hj, hn, hd, hy, hyd⟩
    show (σz l).l = _
    rw [l1, l2, l3, l4, l5, he, e2, e4]
    simp
  · cases h2
end Go.Proofs.YtcmhaihoeecjoaaGreatDoor.Da

end
