/- Texts of numbers and names, by the program. -/
import Derived.Test.YtcmhaihoeecjoaaGreatDoorU01
import Derived.Lib.Itoa
import Derived.Test.YtcmhaihoeecjoaaGreatDoorShelf
import Derived.WalkSmall
section
/- Digits of numbers, as lists of bytes. -/
namespace Go.Proofs.YtcmhaihoeecjoaaGreatDoor.Da

/-- The digits of n ahead of those in l: at least one in all. -/
def digsTo : Nat → Nat → List UInt8 → List UInt8
  | 0, _, l => l
  | f + 1, n, l => if n = 0 ∧ l ≠ [] then l else digsTo f (n / 10) (UInt8.ofNat (48 + n % 10) :: l)
def padTo : Nat → Nat → UInt8 → List UInt8 → List UInt8
  | 0, _, _, l => l
  | f + 1, p, c, l => if l.length < p then padTo f p c (c :: l) else l
end Go.Proofs.YtcmhaihoeecjoaaGreatDoor.Da

end
section
namespace Go.Proofs.YtcmhaihoeecjoaaGreatDoor.Da
open Go.RowKit

/-- The table by which the library writes numbers lies in this world. -/
def Tab (w : World) : Prop := Lib.TabIs Tryz.prog w "internal/strconv.uint64pow10" .u64 Lib.pow10Tab ∧ 16 < w.heap.size
theorem tabGlobal : Tryz.prog.globalNamed "internal/strconv.uint64pow10" = some 16 := by kernel_rfl
theorem Tab.below {w w' : World} (h : Tab w) (hb : Below w.heap.size w w') : Tab w' :=
  ⟨var?_below hb tabGlobal h.2 h.1, Nat.lt_of_lt_of_le h.2 hb.size⟩

def mon (m : Int) : List UInt8 := if m = 1 then [74, 97, 110] else if m = 2 then [70, 101, 98] else if m = 3 then [77, 97, 114] else if m = 4 then [65, 112, 114] else if m = 5 then [77, 97, 121] else if m = 6 then [74, 117, 110] else if m = 7 then [74, 117, 108] else if m = 8 then [65, 117, 103] else if m = 9 then [83, 101, 112] else if m = 10 then [79, 99, 116] else if m = 11 then [78, 111, 118] else [68, 101, 99]
def wkd (m : Int) : List UInt8 := if m = 0 then [83, 117, 110] else if m = 1 then [77, 111, 110] else if m = 2 then [84, 117, 101] else if m = 3 then [87, 101, 100] else if m = 4 then [84, 104, 117] else if m = 5 then [70, 114, 105] else [83, 97, 116]
/-- A number of at most two digits in two places, with c ahead. -/
def two (n : Nat) (c : UInt8) : List UInt8 := padTo 5 2 c (digsTo 6 n [])
def year (n : Nat) : List UInt8 := padTo 5 4 48 (digsTo 6 n [])
def day1 (n : Nat) : List UInt8 := padTo 5 1 48 (digsTo 6 n [])

theorem small_digs : ∀ i, i < 100 → Lib.decDigits i = digsTo 6 i [] := by decide +kernel
theorem two_zero : ∀ i, i < 10 → 48 :: digsTo 6 i [] = two i 48 := by decide +kernel
theorem two_blank : ∀ i, i < 10 → 32 :: digsTo 6 i [] = two i 32 := by decide +kernel
theorem two_full : ∀ i, i < 100 → 10 ≤ i → digsTo 6 i [] = two i 48 ∧ digsTo 6 i [] = two i 32 := by decide +kernel
theorem day_one : ∀ i, i < 100 → digsTo 6 i [] = day1 i := by decide +kernel
theorem year_digs : ∀ i, i < 130 → Lib.itoa ((1970 + i : Nat) : Int) = year (1970 + i) := by decide +kernel

theorem itoa_small (i : Nat) (hi : i < 100) (w : World) :
    Calls Tryz.prog 97 #[.int .i64 i] w fun e w' => e = .returned (.string ⟨(digsTo 6 i []).toArray⟩) ∧ w' = w := by
  rw [← small_digs i hi]
  exact Tryz.strconv_Itoa_small i hi w
theorem grow_below (w : World) (k : Nat) (os : Array Obj) : Below w.heap.size w (Sort.grow (w.drewN k) os) :=
  ⟨rfl, rfl, rfl, by simp [Sort.grow], fun j hj => by simp [Sort.grow, Array.getElem?_append_left hj]⟩
theorem itoa_year (n : Nat) (h0 : 1970 ≤ n) (h1 : n ≤ 2099) (w : World) (ht : Tab w) :
    Calls Tryz.prog 97 #[.int .i64 n] w fun e w' => e = .returned (.string ⟨(year n).toArray⟩) ∧ Below w.heap.size w w' := by
  obtain ⟨i, rfl⟩ : ∃ i, n = 1970 + i := ⟨n - 1970, by omega⟩
  rw [← year_digs i (by omega)]
  refine (Tryz.strconv_Itoa _ (by omega) (by omega) w ht.1).mono ?_
  rintro e w' ⟨rfl, k, os, rfl⟩
  exact ⟨rfl, grow_below w k os⟩
end Go.Proofs.YtcmhaihoeecjoaaGreatDoor.Da

end
