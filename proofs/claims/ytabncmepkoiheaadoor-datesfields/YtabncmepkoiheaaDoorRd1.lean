/- The reader of package dates: its block, and the steps that take one sign. -/
import Derived.Test.YtabncmepkoiheaaDoorMem
import Derived.Test.YtabncmepkoiheaaDoorProg
namespace Go.Proofs.YtabncmepkoiheaaDoor
open Go.RowKit

/-- w' is w but for block b, and for new blocks. -/
structure Mv (b : Nat) (w w' : World) : Prop where
  os : w'.os = w.os
  tape : w'.tape = w.tape
  output : w'.output = w.output
  size : w.heap.size ≤ w'.heap.size
  block : ∀ k, k < w.heap.size → k ≠ b → w'.heap[k]? = w.heap[k]?
theorem Mv.refl (b : Nat) (w : World) : Mv b w w := ⟨rfl, rfl, rfl, Nat.le_refl _, fun _ _ _ => rfl⟩
theorem Mv.trans {b : Nat} {x y z : World} (h : Mv b x y) (k : Mv b y z) : Mv b x z :=
  ⟨k.os.trans h.os, k.tape.trans h.tape, k.output.trans h.output, Nat.le_trans h.size k.size, fun i hi hb => (k.block i (Nat.lt_of_lt_of_le hi h.size) hb).trans (h.block i hi hb)⟩
theorem Mv.setCell {b : Nat} {x y : World} (h : Mv b x y) (o : Nat) (v : Value) : Mv b x (y.setCell ⟨b, o, none⟩ v) :=
  ⟨h.os, h.tape, h.output, by simpa [World.setCell] using h.size, fun i hi hb => (Below.heap_setCell _ _ _ _ hb).trans (h.block i hi hb)⟩
theorem Mv.of_below {b : Nat} {x y : World} (h : Below x.heap.size x y) : Mv b x y := ⟨h.os, h.tape, h.output, h.size, fun i hi _ => h.block i hi⟩
theorem Mv.drewN {b : Nat} {x y : World} (h : Mv b x y) (n : Nat) : Mv b x (y.drewN n) := ⟨h.os, h.tape, h.output, h.size, h.block⟩
theorem Mv.of_drew {b : Nat} {x y : World} (h : Mv b x.drew y) : Mv b x y := ⟨h.os, h.tape, h.output, h.size, h.block⟩
theorem Mv.drew {b : Nat} {x y : World} (h : Mv b x y) : Mv b x y.drew := ⟨h.os, h.tape, h.output, h.size, h.block⟩
theorem Mv.alloc {b : Nat} {x y : World} (h : Mv b x y) (o : Obj) : Mv b x (y.alloc o) :=
  h.trans (Mv.of_below ((Below.refl _ _).alloc (Nat.le_refl _) _))
/-- Behind a block that the call itself made the old ones are as they were. -/
theorem Mv.below {b : Nat} {w x y : World} (h : Mv b x y) (hb : Below w.heap.size w x) (hl : w.heap.size ≤ b) : Below w.heap.size w y :=
  ⟨h.os.trans hb.os, h.tape.trans hb.tape, h.output.trans hb.output, Nat.le_trans hb.size h.size, fun i hi => (h.block i (Nat.lt_of_lt_of_le hi hb.size) (by omega)).trans (hb.block i hi)⟩

/-- A reader's cells: what is left of the text, the date, the zone. -/
def rdr (l : List UInt8) (y m d h mi s wk a : Int) : Array Value := #[.string ⟨l.toArray⟩, .int .i64 y, .int .i64 m, .int .i64 d, .int .i64 h, .int .i64 mi, .int .i64 s, .int .i64 wk, .int .i64 a]
/-- Block b is that reader. -/
def Rd (w : World) (b : Nat) (l : List UInt8) (y m d h mi s wk a : Int) : Prop := Blk w b (rdr l y m d h mi s wk a) 53
theorem Rd.rest {w : World} {b : Nat} {l : List UInt8} {y m d h mi s wk a : Int} (k : Rd w b l y m d h mi s wk a) (l' : List UInt8) : Rd (w.setCell ⟨b, 0, none⟩ (.string ⟨l'.toArray⟩)) b l' y m d h mi s wk a := Blk.set k 0 _

theorem drop_str (c : UInt8) (r : List UInt8) : (⟨(c :: r).toArray⟩ : ByteArray).extract 1 (r.length + 1) = ⟨r.toArray⟩ := by
  apply ByteArray.ext
  simp [ByteArray.data_extract]
theorem drop3_str (c0 c1 c2 : UInt8) (r : List UInt8) : (⟨(c0 :: c1 :: c2 :: r).toArray⟩ : ByteArray).extract 3 (r.length + 1 + 1 + 1) = ⟨r.toArray⟩ := by
  apply ByteArray.ext
  simp [ByteArray.data_extract]

theorem str_at0 (c : UInt8) (r : List UInt8) : ∀ h : 0 < (⟨(c :: r).toArray⟩ : ByteArray).size, (⟨(c :: r).toArray⟩ : ByteArray)[0]'h = c := fun _ => rfl

section
variable (b : Nat) (c : UInt8) (r : List UInt8) (y m d h mi s wk a : Int) (w : World)

set_option maxHeartbeats 1000000 in
theorem skip1 (k : Rd w b (c :: r) y m d h mi s wk a) (hl : r.length ≤ 1000) :
    Calls Tryd.prog 47 #[.pointer (some ⟨b, 0, none⟩), .int .i64 1] w fun e w' => e = .returned (.tuple #[]) ∧ Mv b w w' ∧ Rd w' b r y m d h mi s wk a := by
  have hc := Blk.cell k
  have hf := Blk.frozen k
  unfold rdr at hc
  have hd := drop_str c r
  have hl' : (r.length : Int) ≤ 1000 := by omega
  have K : Hid (Rd w b (c :: r) y m d h mi s wk a) := k
  clear k
  go_enter Tryd.func47, Tryd.ntmps47
  go_wp2
  go_end0
  exact ⟨rfl, (Mv.refl _ _).setCell 0 _, K.out.rest r⟩

set_option maxHeartbeats 1000000 in
theorem skip3 (c1 c2 : UInt8) (k : Rd w b (c :: c1 :: c2 :: r) y m d h mi s wk a) (hl : r.length ≤ 1000) :
    Calls Tryd.prog 47 #[.pointer (some ⟨b, 0, none⟩), .int .i64 3] w fun e w' => e = .returned (.tuple #[]) ∧ Mv b w w' ∧ Rd w' b r y m d h mi s wk a := by
  have hc := Blk.cell k
  have hf := Blk.frozen k
  unfold rdr at hc
  have hd := drop3_str c c1 c2 r
  have hl' : (r.length : Int) ≤ 1000 := by omega
  have K : Hid (Rd w b (c :: c1 :: c2 :: r) y m d h mi s wk a) := k
  clear k
  go_enter Tryd.func47, Tryd.ntmps47
  go_wp2
  go_end0
  exact ⟨rfl, (Mv.refl _ _).setCell 0 _, K.out.rest r⟩

set_option maxHeartbeats 1000000 in
theorem at_any (x : Int) (k : Rd w b (c :: r) y m d h mi s wk a) :
    Calls Tryd.prog 37 #[.pointer (some ⟨b, 0, none⟩), .int .u8 x] w fun e w' => e = .returned (.bool ((c.toNat : Int) == x)) ∧ w' = w := by
  have hc := Blk.cell k
  unfold rdr at hc
  have hx := str_at0 c r
  clear k
  go_enter Tryd.func37, Tryd.ntmps37
  go_wp2
  go_ret
  exact ⟨rfl, rfl⟩

set_option maxHeartbeats 1000000 in
theorem at_nil (x : Int) (k : Rd w b [] y m d h mi s wk a) :
    Calls Tryd.prog 37 #[.pointer (some ⟨b, 0, none⟩), .int .u8 x] w fun e w' => e = .returned (.bool false) ∧ w' = w := by
  have hc := Blk.cell k
  unfold rdr at hc
  clear k
  go_enter Tryd.func37, Tryd.ntmps37
  go_wp2
  go_ret
  exact ⟨rfl, rfl⟩

set_option maxHeartbeats 1000000 in
theorem atDigit_yes (k : Rd w b (c :: r) y m d h mi s wk a) (h0 : 48 ≤ (c.toNat : Int)) (h1 : (c.toNat : Int) ≤ 57) :
    Calls Tryd.prog 34 #[.pointer (some ⟨b, 0, none⟩)] w fun e w' => e = .returned (.bool true) ∧ w' = w := by
  have hc := Blk.cell k
  unfold rdr at hc
  have hx := str_at0 c r
  clear k
  go_enter Tryd.func34, Tryd.ntmps34
  go_wp2
  go_ret
  exact ⟨rfl, rfl⟩

set_option maxHeartbeats 1000000 in
theorem atDigit_no (k : Rd w b (c :: r) y m d h mi s wk a) (h0 : (c.toNat : Int) < 48 ∨ 57 < (c.toNat : Int)) :
    Calls Tryd.prog 34 #[.pointer (some ⟨b, 0, none⟩)] w fun e w' => e = .returned (.bool false) ∧ w' = w := by
  have hc := Blk.cell k
  unfold rdr at hc
  have hx := str_at0 c r
  clear k
  rcases h0 with h0 | h0
  · go_enter Tryd.func34, Tryd.ntmps34
    go_wp2
    go_ret
    exact ⟨rfl, rfl⟩
  · have h1 : 48 ≤ (c.toNat : Int) := by omega
    go_enter Tryd.func34, Tryd.ntmps34
    go_wp2
    go_ret
    exact ⟨congrArg (fun x => Ending.returned (.bool x)) (decide_eq_false (by omega)), rfl⟩

theorem ret_i64 {x y : Int} (h : x = y) : Ending.returned (.int .i64 x) = .returned (.int .i64 y) := by rw [h]
/-- The byte of a digit. -/
def dg (n : Nat) : UInt8 := UInt8.ofNat (48 + n)
theorem dg_toNat (n : Nat) (hn : n < 10) : (dg n).toNat = 48 + n := by
  unfold dg
  rw [UInt8.toNat_ofNat']
  omega

set_option maxHeartbeats 1000000 in
theorem digit_ok (n : Nat) (hn : n < 10) (k : Rd w b (dg n :: r) y m d h mi s wk a) (hl : r.length ≤ 1000) :
    Calls Tryd.prog 44 #[.pointer (some ⟨b, 0, none⟩)] w fun e w' => e = .returned (.int .i64 n) ∧ Mv b w w' ∧ Rd w' b r y m d h mi s wk a := by
  have e := dg_toNat n hn
  have K : Hid (∀ w', w' = w → Rd w' b (dg n :: r) y m d h mi s wk a) := fun w' h => by subst h; exact k
  have hc := Blk.cell k
  unfold rdr at hc
  generalize dg n = c at *
  have hx := str_at0 c r
  have h0 : 48 ≤ (c.toNat : Int) := by omega
  have h1 : (c.toNat : Int) ≤ 57 := by omega
  have HN : Hid ((c.toNat : Int) - 48 = n) := by show (c.toNat : Int) - 48 = n; omega
  clear k e
  go_enter Tryd.func44, Tryd.ntmps44
  go_wp2_with (first | (go_at_call 34; refine (atDigit_yes b c r y m d h mi s wk a _ (K.out _ rfl) h0 h1).mono ?_; rintro e w' ⟨rfl, rfl⟩) | (go_at_call 47; refine (skip1 b c r y m d h mi s wk a _ (K.out _ rfl) hl).mono ?_; rintro e w1 ⟨rfl, hm1, hr1⟩))
  go_ret
  exact ⟨ret_i64 HN.out, hm1, hr1⟩

set_option maxHeartbeats 1000000 in
theorem mark_ok (k : Rd w b (c :: r) y m d h mi s wk a) (hl : r.length ≤ 1000) :
    Calls Tryd.prog 18 #[.pointer (some ⟨b, 0, none⟩), .int .u8 (c.toNat : Int)] w fun e w' => e = .returned (.tuple #[]) ∧ Mv b w w' ∧ Rd w' b r y m d h mi s wk a := by
  have K : Hid (∀ w', w' = w → Rd w' b (c :: r) y m d h mi s wk a) := fun w' h => by subst h; exact k
  clear k
  go_enter Tryd.func18, Tryd.ntmps18
  go_wp2_with (first | (go_at_call 37; refine (at_any b c r y m d h mi s wk a _ _ (K.out _ rfl)).mono ?_; rintro e w' ⟨rfl, rfl⟩) | (go_at_call 47; refine (skip1 b c r y m d h mi s wk a _ (K.out _ rfl) hl).mono ?_; rintro e w1 ⟨rfl, hm1, hr1⟩))
  go_end0
  exact ⟨rfl, hm1, hr1⟩
end
end Go.Proofs.YtabncmepkoiheaaDoor
