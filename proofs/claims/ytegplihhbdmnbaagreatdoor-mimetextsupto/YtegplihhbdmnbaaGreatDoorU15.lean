/- Runes of texts: where the first one stands that is no token's. -/
import Derived.Test.YtegplihhbdmnbaaGreatDoorU02
import Derived.Shelf.GgClosure.StringsIndexFunc
import Derived.Laws.RangeString
import Derived.Lib.DecodeN
import Derived.Lib.SlTrimSet
namespace Go.Proofs.YtegplihhbdmnbaaGreatDoor
open Go.RowKit
theorem decode_high (s : ByteArray) (pos : Nat) (h : pos < s.size) (ha : 128 ≤ (s[pos]'h).toNat) : 128 ≤ (Utf8.decode s pos).1 := by
  have e : (s.get! pos).toNat = (s[pos]'h).toNat := by
    simp [ByteArray.get!, getElem!_pos, h]
    rfl
  rw [Lib.decode_at, e]
  generalize (s[pos]'h).toNat = b0 at *
  generalize (s.get! (pos + 1)).toNat = b1
  generalize (s.get! (pos + 2)).toNat = b2
  generalize (s.get! (pos + 3)).toNat = b3
  unfold Lib.decodeN
  repeat' split
  all_goals (dsimp only; omega)
/-- A rune of a token. -/
def tokR (x : Nat) : Bool := decide (33 ≤ x) && decide (x ≤ 126) && !(specL.any fun c => c.toNat == x)
theorem tokR_byte (c : UInt8) : tokR c.toNat = tokB c := by
  unfold tokR tokB
  congr 2
  rw [Bool.eq_iff_iff, List.any_eq_true, List.contains_iff_mem]
  constructor
  · rintro ⟨d, hd, h⟩
    have : d = c := UInt8.toNat_inj.1 (by simpa using h)
    exact this ▸ hd
  · exact fun h => ⟨c, h, by simp⟩
theorem tokR_high {x : Nat} (h : 128 ≤ x) : tokR x = false := by
  unfold tokR
  have : decide (x ≤ 126) = false := decide_eq_false (by omega)
  rw [this]
  simp
theorem tokB_lt {c : UInt8} (h : tokB c = true) : c.toNat < 128 := by
  unfold tokB at h
  simp at h
  omega
def notTok (x : Nat) : Bool := !tokR x
theorem idx_from (l : List UInt8) : ∀ (r pre : List UInt8) (f : Nat), pre ++ r = l → r.length ≤ f →
    Lib.idxFuncFrom notTok true ⟨l.toArray⟩ f pre.length = if r.dropWhile tokB = [] then -1 else ((pre.length + (r.takeWhile tokB).length : Nat) : Int)
  | [], pre, f, h, _ => by
    rw [Lib.idxFuncFrom_end _ _ _ _ _ (by subst h; simp [ByteArray.size])]
    rfl
  | c :: r, pre, 0, _, hf => by simp at hf
  | c :: r, pre, f + 1, h, hf => by
    have hlt : pre.length < (⟨l.toArray⟩ : ByteArray).size := by subst h; simp [ByteArray.size]
    have hat : (⟨l.toArray⟩ : ByteArray)[pre.length]'hlt = c := by
      show l[pre.length]'(by simpa [ByteArray.size] using hlt) = c
      subst h
      simp
    rw [Lib.idxFuncFrom, if_pos hlt]
    cases hc : tokB c with
    | true =>
      have h128 := tokB_lt hc
      have hd := decode_ascii ⟨l.toArray⟩ pre.length hlt (by rw [hat]; exact h128)
      rw [hat] at hd
      have ih := idx_from l r (pre ++ [c]) f (by rw [← h]; simp) (by simp at hf; omega)
      rw [hd, if_neg (by unfold notTok; rw [tokR_byte, hc]; simp)]
      rw [List.length_append] at ih
      show Lib.idxFuncFrom notTok true _ f (pre.length + 1) = _
      rw [show pre.length + [c].length = pre.length + 1 from rfl] at ih
      rw [ih, List.dropWhile_cons_of_pos hc, List.takeWhile_cons_of_pos hc]
      split
      · rfl
      · simp
        omega
    | false =>
      have hp : notTok (Utf8.decode ⟨l.toArray⟩ pre.length).1 = true := by
        unfold notTok
        by_cases h128 : c.toNat < 128
        · have hd := decode_ascii ⟨l.toArray⟩ pre.length hlt (by rw [hat]; exact h128)
          rw [hat] at hd
          rw [hd, tokR_byte, hc]
          rfl
        · rw [tokR_high (decode_high _ _ hlt (by rw [hat]; omega))]
          rfl
      rw [if_pos hp, List.dropWhile_cons_of_neg (by simp [hc]), List.takeWhile_cons_of_neg (by simp [hc]), if_neg (by simp)]
      simp
theorem idx_tok (l : List UInt8) : Lib.idxFunc notTok true ⟨l.toArray⟩ = if l.dropWhile tokB = [] then -1 else (((l.takeWhile tokB).length : Nat) : Int) := by
  have := idx_from l l [] (⟨l.toArray⟩ : ByteArray).size rfl (by simp [ByteArray.size])
  simpa [Lib.idxFunc] using this
theorem skb_trim (r : List UInt8) : Lib.trimLeftS r [32, 9] = skb r := by
  unfold Lib.trimLeftS skb
  congr 1
  funext c
  unfold isBl
  simp [List.contains, List.elem]
  cases h1 : c == 32 <;> cases h2 : c == 9 <;> rfl
end Go.Proofs.YtegplihhbdmnbaaGreatDoor
