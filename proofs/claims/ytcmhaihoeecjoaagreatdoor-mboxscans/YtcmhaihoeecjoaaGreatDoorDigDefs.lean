/- Digits of numbers, as lists of bytes. -/
namespace Go.Proofs.YtcmhaihoeecjoaaGreatDoor.Da

/-- The digits of n ahead of those in l: at least one in all. -/
def digsTo : Nat → Nat → List UInt8 → List UInt8
  | 0, _, l => l
  | f + 1, n, l => if n = 0 ∧ l ≠ [] then l else digsTo f (n / 10) (UInt8.ofNat (48 + n % 10) :: l)
def padTo : Nat → Nat → UInt8 → List UInt8 → List UInt8
  | 0, _, _, l => l
  | f + 1, p, c, l => if l.length < p then padTo f p c (c :: l) else l
end Go.Proofs.YtcmhaihoeecjoaaGreatDoor.Da
