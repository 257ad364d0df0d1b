/- Sums: what they are, of a row of bytes. -/
import Derived.Laws.BitsLemmas
namespace Go.Proofs.YthhnlkbjpahjeaaGreatDoor

def sumStep (p : Nat × Nat) (c : UInt8) : Nat × Nat := ((p.1 + c.toNat) % 65521, (p.2 + (p.1 + c.toNat) % 65521) % 65521)
def sumP (s : Nat) (bs : List UInt8) : Nat × Nat := bs.foldl sumStep (s % 65536 % 65521, s / 65536 % 65521)
def sumN (s : Nat) (bs : List UInt8) : Nat := (sumP s bs).2 * 65536 + (sumP s bs).1
theorem fold_lt : ∀ (bs : List UInt8) (p : Nat × Nat), p.1 < 65521 → p.2 < 65521 → (bs.foldl sumStep p).1 < 65521 ∧ (bs.foldl sumStep p).2 < 65521
  | [], _, h1, h2 => ⟨h1, h2⟩
  | c :: bs, p, _, _ => fold_lt bs (sumStep p c) (Nat.mod_lt _ (by decide)) (Nat.mod_lt _ (by decide))
theorem sumP_lt (s : Nat) (bs : List UInt8) : (sumP s bs).1 < 65521 ∧ (sumP s bs).2 < 65521 := fold_lt bs _ (Nat.mod_lt _ (by decide)) (Nat.mod_lt _ (by decide))
theorem sumN_lt (s : Nat) (bs : List UInt8) : sumN s bs < 4294967296 := by
  have := sumP_lt s bs
  unfold sumN
  omega
theorem sumP_nil (s : Nat) : sumP s [] = (s % 65536 % 65521, s / 65536 % 65521) := rfl
theorem sumP_snoc (s : Nat) (bs : List UInt8) (c : UInt8) : sumP s (bs ++ [c]) = sumStep (sumP s bs) c := by simp [sumP]
theorem sumP_take (s : Nat) (bs : List UInt8) (k : Nat) (h : k < bs.length) : sumP s (bs.take (k + 1)) = sumStep (sumP s (bs.take k)) bs[k] := by
  rw [← sumP_snoc, List.take_succ_eq_append_getElem h]
/-- A sum that is told begins where it ended. -/
theorem sumP_more (s : Nat) (as bs : List UInt8) : sumP (sumN s as) bs = sumP s (as ++ bs) := by
  have h := sumP_lt s as
  have h1 : sumN s as % 65536 % 65521 = (sumP s as).1 := by unfold sumN; omega
  have h2 : sumN s as / 65536 % 65521 = (sumP s as).2 := by unfold sumN; omega
  show bs.foldl sumStep _ = (as ++ bs).foldl sumStep _
  rw [h1, h2, List.foldl_append]
  rfl
theorem sumN_more (s : Nat) (as bs : List UInt8) : sumN (sumN s as) bs = sumN s (as ++ bs) := by
  unfold sumN
  have := sumP_more s as bs
  unfold sumN at this
  rw [this]
theorem sumN_nil : sumN 1 [] = 1 := rfl
theorem sumN_abc : sumN 1 [97, 98, 99] = 38600999 := by decide

/-- The document's high number ahead of the byte in place i: the rest counts low as often. -/
def docH (p : Nat × Nat) (d : Nat) : Nat := (p.2 + p.1 * d) % 65521
theorem docH_lt (p : Nat × Nat) (d : Nat) : docH p d < 65521 := Nat.mod_lt _ (by decide)
theorem docH_start (p : Nat × Nat) (n : Nat) : (p.2 + p.1 * (n % 65521)) % 65521 = docH p n := by
  unfold docH
  rw [Nat.add_mod, Nat.mul_mod, Nat.mod_mod, ← Nat.mul_mod, ← Nat.add_mod]
theorem docH_end (p : Nat × Nat) (h : p.2 < 65521) : docH p 0 = p.2 := by
  unfold docH
  rw [Nat.mul_zero, Nat.add_zero, Nat.mod_eq_of_lt h]
theorem mod_mul_right (a d : Nat) : (a * (d % 65521)) % 65521 = (a * d) % 65521 := by rw [Nat.mul_mod, Nat.mod_mod, ← Nat.mul_mod]
theorem mod_mul_left (a d : Nat) : ((a % 65521) * d) % 65521 = (a * d) % 65521 := by rw [Nat.mul_mod, Nat.mod_mod, ← Nat.mul_mod]
theorem docH_step (p : Nat × Nat) (c : UInt8) (d : Nat) : (docH p (d + 1) + c.toNat * ((d + 1) % 65521)) % 65521 = docH (sumStep p c) d := by
  unfold docH sumStep
  simp only
  have e1 := mod_mul_right c.toNat (d + 1)
  have e2 := mod_mul_left (p.1 + c.toNat) d
  have e3 : p.1 * (d + 1) + c.toNat * (d + 1) = (p.1 + c.toNat) * d + (p.1 + c.toNat) := by rw [← Nat.add_mul, Nat.mul_succ]
  generalize (p.1 + c.toNat) % 65521 * d = A at *
  generalize (p.1 + c.toNat) * d = B at *
  generalize c.toNat * ((d + 1) % 65521) = C at *
  generalize c.toNat * (d + 1) = D at *
  generalize p.1 * (d + 1) = E at *
  omega

section
variable (x y : Int)
theorem wraps_u32 (n : Int) (h₀ : 0 ≤ n) (h₁ : n < 2 ^ 32) : IntKind.u32.wrap n = n := by rw [IntKind.wrap_u32]; omega
theorem and_ffff (h0 : 0 ≤ x) (h1 : x < 4294967296) : bits .and .u32 x 65535 = x % 65536 := bits_mask .u32 32 (by decide) wraps_u32 16 (by decide) x h0 h1
theorem or_16 (hx₀ : 0 ≤ x) (hx : x % 65536 = 0) (hx₁ : x < 4294967296) (h₀ : 0 ≤ y) (h₁ : y < 65536) : bits .or .u32 x y = x + y := bits_join .u32 32 (by decide) wraps_u32 16 x y hx₀ hx hx₁ h₀ h₁ (by omega)
theorem or_24 (hx₀ : 0 ≤ x) (hx : x % 16777216 = 0) (hx₁ : x < 4294967296) (h₀ : 0 ≤ y) (h₁ : y < 16777216) : bits .or .u32 x y = x + y := bits_join .u32 32 (by decide) wraps_u32 24 x y hx₀ hx hx₁ h₀ h₁ (by omega)
theorem or_8 (hx₀ : 0 ≤ x) (hx : x % 256 = 0) (hx₁ : x < 4294967296) (h₀ : 0 ≤ y) (h₁ : y < 256) : bits .or .u32 x y = x + y := bits_join .u32 32 (by decide) wraps_u32 8 x y hx₀ hx hx₁ h₀ h₁ (by omega)
end
end Go.Proofs.YthhnlkbjpahjeaaGreatDoor
