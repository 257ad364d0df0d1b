/- Separator lines are lines; rows of entries of one sender. -/
/- The reader of package dates: its block, and the steps that take one sign. -/
import Derived.Test.YtcmhaihoeecjoaaGreatDoorU18
import Derived.Test.YtcmhaihoeecjoaaGreatDoorU01
import Derived.Test.YtcmhaihoeecjoaaGreatDoorProg
section
namespace Go.Proofs.YtcmhaihoeecjoaaGreatDoor
open Go.RowKit Go.Shelf
theorem two32_10 : ∀ n, n < 100 → ∀ c ∈ Da.two n 32, c ≠ 10 := by decide +kernel
theorem two48_10 : ∀ n, n < 100 → ∀ c ∈ Da.two n 48, c ≠ 10 := by decide +kernel
theorem year_10 : ∀ n, n < 130 → ∀ c ∈ Da.year (1970 + n), c ≠ 10 := by decide +kernel
theorem mon_10 : ∀ n, n < 13 → ∀ c ∈ Da.mon (n : Nat), c ≠ 10 := by decide +kernel
theorem wkd_10 : ∀ n, n < 7 → ∀ c ∈ Da.wkd (n : Nat), c ≠ 10 := by decide +kernel
theorem boxT_10 (t : Int) (h0 : 0 ≤ t) (h1 : t ≤ 4102444799) : (10 : UInt8) ∉ boxT t := by
  obtain ⟨y1, y2, m1, m2, d1, d2, a2, b2, c2, k2⟩ := dt_of t h0 h1
  unfold boxT
  revert y1 y2 m1 m2 d1 d2 a2 b2 c2 k2
  generalize (Da.Cal.cy (t / 86400)).toNat = y
  generalize (Da.Cal.cm (t / 86400)).toNat = m
  generalize (Da.Cal.cd (t / 86400)).toNat = d
  generalize (t % 86400 / 3600).toNat = h
  generalize (t % 3600 / 60).toNat = mi
  generalize (t % 60).toNat = s
  generalize ((4 + t / 86400) % 7).toNat = wk
  intro y1 y2 m1 m2 d1 d2 a2 b2 c2 k2 hc
  have key : ∀ c ∈ Da.boxL y m d h mi s wk, c ≠ 10 := by
    intro c hc
    unfold Da.boxL Da.clk at hc
    simp only [List.mem_append, List.mem_singleton] at hc
    have hy := year_10 (y - 1970) (by omega)
    rw [show 1970 + (y - 1970) = y by omega] at hy
    rcases hc with ((((((((hc | hc) | hc) | hc) | hc) | hc) | ((((hc | hc) | hc) | hc) | hc)) | hc) | hc)
    · exact wkd_10 wk (by omega) c hc
    · rw [hc]; decide
    · exact mon_10 m (by omega) c hc
    · rw [hc]; decide
    · exact two32_10 d (by omega) c hc
    · rw [hc]; decide
    · exact two48_10 h (by omega) c hc
    · rw [hc]; decide
    · exact two48_10 mi (by omega) c hc
    · rw [hc]; decide
    · exact two48_10 s (by omega) c hc
    · rw [hc]; decide
    · exact hy c hc
  exact key 10 hc rfl
theorem sepT_term {s : List UInt8} {t : Int} (hs : rightS s = true) (h0 : 0 ≤ t) (h1 : t ≤ 4102444799) : Term (sepT s t) ∧ sepB (sepT s t) = true := by
  refine ⟨⟨[70, 114, 111, 109, 32] ++ s ++ [32] ++ boxT t, rfl, ?_⟩, ?_⟩
  · intro h
    simp only [List.mem_append] at h
    rcases h with ((h | h) | h) | h
    · revert h; decide
    · have := right_all hs 10 h
      revert this; decide
    · revert h; decide
    · exact boxT_10 t h0 h1 h
  · unfold sepT sepB fromS
    simp [List.isPrefixOf]
theorem enc_bound (m : List UInt8) : (encL m).length ≤ 2 * m.length + 1 := by
  rw [enc_len]
  have h1 := List.length_filter_le nm (splitS m)
  have h2 := splitS_len m
  omega
theorem rowsT_bound : ∀ (es : List (List UInt8 × List UInt8)), (∀ e ∈ es, e.1.length ≤ 307 ∧ e.2.length ≤ 2000) → (rowsT es).length ≤ es.length * 4308
  | [], _ => by simp [rowsT]
  | e :: es, h => by
    have ih := rowsT_bound es fun x hx => h x (by simp [hx])
    have h1 := h e (by simp)
    have h2 := enc_bound e.2
    have e1 : rowsT (e :: es) = (e.1 ++ encL e.2) ++ rowsT es := by simp [rowsT]
    rw [e1, List.length_append, List.length_append, List.length_cons]
    omega
/-- A slice that came in: its elements. -/
theorem AR.at {α : Type} {f : α → Value} {w : World} {v : Value} {xs : List α} (h : AR w v (xs.map f)) (hne : xs ≠ []) : ∃ g o cap, v = .slice (some ⟨g, o, none⟩) xs.length cap ∧ xs.length ≤ cap ∧ cap ≤ maxLen ∧ g < w.heap.size ∧ ∀ j (hj : j < xs.length), w.cell? ⟨g, o + j, none⟩ = some (f xs[j]) := by
  obtain ⟨A, cap, rfl, h1, h2, h3, h4⟩ := h
  obtain ⟨g, o, rfl, hg, h5⟩ := h4 (by simpa using hne)
  rw [List.length_map] at h1 ⊢
  exact ⟨g, o, cap, rfl, h1, h2, hg, fun j hj => h5 j _ (by rw [List.getElem?_map, List.getElem?_eq_getElem hj]; rfl)⟩
theorem AR.len {α : Type} {f : α → Value} {w : World} {v : Value} {xs : List α} (h : AR w v (xs.map f)) : ∃ A cap, v = .slice A xs.length cap ∧ xs.length ≤ maxLen := by
  obtain ⟨A, cap, rfl, h1, h2, h3, h4⟩ := h
  rw [List.length_map] at h1 ⊢
  exact ⟨A, cap, rfl, by omega⟩
end Go.Proofs.YtcmhaihoeecjoaaGreatDoor

end
section
namespace Go.Proofs.YtcmhaihoeecjoaaGreatDoor.Da
open Go.RowKit

/-- w' is w but for block b, and for new blocks. -/
structure Mv (b : Nat) (w w' : World) : Prop where
  os : w'.os = w.os
  tape : w'.tape = w.tape
  output : w'.output = w.output
  size : w.heap.size ≤ w'.heap.size
  block : ∀ k, k < w.heap.size → k ≠ b → w'.heap[k]? = w.heap[k]?
theorem Mv.refl (b : Nat) (w : World) : Mv b w w := ⟨rfl, rfl, rfl, Nat.le_refl _, fun _ _ _ => rfl⟩
theorem Mv.trans {b : Nat} {x y z : World} (h : Mv b x y) (k : Mv b y z) : Mv b x z :=
  ⟨k.os.trans h.os, k.tape.trans h.tape, k.output.trans h.output, Nat.le_trans h.size k.size, fun i hi hb => (k.block i (Nat.lt_of_lt_of_le hi h.size) hb).trans (h.block i hi hb)⟩
theorem Mv.setCell {b : Nat} {x y : World} (h : Mv b x y) (o : Nat) (v : Value) : Mv b x (y.setCell ⟨b, o, none⟩ v) :=
  ⟨h.os, h.tape, h.output, by simpa [World.setCell] using h.size, fun i hi hb => (Below.heap_setCell _ _ _ _ hb).trans (h.block i hi hb)⟩
theorem Mv.of_below {b : Nat} {x y : World} (h : Below x.heap.size x y) : Mv b x y := ⟨h.os, h.tape, h.output, h.size, fun i hi _ => h.block i hi⟩
theorem Mv.drewN {b : Nat} {x y : World} (h : Mv b x y) (n : Nat) : Mv b x (y.drewN n) := ⟨h.os, h.tape, h.output, h.size, h.block⟩
theorem Mv.of_drew {b : Nat} {x y : World} (h : Mv b x.drew y) : Mv b x y := ⟨h.os, h.tape, h.output, h.size, h.block⟩
theorem Mv.drew {b : Nat} {x y : World} (h : Mv b x y) : Mv b x y.drew := ⟨h.os, h.tape, h.output, h.size, h.block⟩
theorem Mv.alloc {b : Nat} {x y : World} (h : Mv b x y) (o : Obj) : Mv b x (y.alloc o) :=
  h.trans (Mv.of_below ((Below.refl _ _).alloc (Nat.le_refl _) _))
/-- Behind a block that the call itself made the old ones are as they were. -/
theorem Mv.below {b : Nat} {w x y : World} (h : Mv b x y) (hb : Below w.heap.size w x) (hl : w.heap.size ≤ b) : Below w.heap.size w y :=
  ⟨h.os.trans hb.os, h.tape.trans hb.tape, h.output.trans hb.output, Nat.le_trans hb.size h.size, fun i hi => (h.block i (Nat.lt_of_lt_of_le hi hb.size) (by omega)).trans (hb.block i hi)⟩

/-- A reader's cells: what is left of the text, the date, the zone. -/
def rdr (l : List UInt8) (y m d h mi s wk a : Int) : Array Value := #[.string ⟨l.toArray⟩, .int .i64 y, .int .i64 m, .int .i64 d, .int .i64 h, .int .i64 mi, .int .i64 s, .int .i64 wk, .int .i64 a]
/-- Block b is that reader. -/
def Rd (w : World) (b : Nat) (l : List UInt8) (y m d h mi s wk a : Int) : Prop := Blk w b (rdr l y m d h mi s wk a) 126
theorem Rd.rest {w : World} {b : Nat} {l : List UInt8} {y m d h mi s wk a : Int} (k : Rd w b l y m d h mi s wk a) (l' : List UInt8) : Rd (w.setCell ⟨b, 0, none⟩ (.string ⟨l'.toArray⟩)) b l' y m d h mi s wk a := Blk.set k 0 _

theorem drop_str (c : UInt8) (r : List UInt8) : (⟨(c :: r).toArray⟩ : ByteArray).extract 1 (r.length + 1) = ⟨r.toArray⟩ := by
  apply ByteArray.ext
  simp [ByteArray.data_extract]
theorem drop3_str (c0 c1 c2 : UInt8) (r : List UInt8) : (⟨(c0 :: c1 :: c2 :: r).toArray⟩ : ByteArray).extract 3 (r.length + 1 + 1 + 1) = ⟨r.toArray⟩ := by
  apply ByteArray.ext
  simp [ByteArray.data_extract]

theorem str_at0 (c : UInt8) (r : List UInt8) : ∀ h : 0 < (⟨(c :: r).toArray⟩ : ByteArray).size, (⟨(c :: r).toArray⟩ : ByteArray)[0]'h = c := fun _ => rfl

section
variable (b : Nat) (c : UInt8) (r : List UInt8) (y m d h mi s wk a : Int) (w : World)

set_option maxHeartbeats 1000000 in
theorem skip1 (k : Rd w b (c :: r) y m d h mi s wk a) (hl : r.length ≤ 1000) :
    Calls Tryz.prog 111 #[.pointer (some ⟨b, 0, none⟩), .int .i64 1] w fun e w' => e = .returned (.tuple #[]) ∧ Mv b w w' ∧ Rd w' b r y m d h mi s wk a := by
  have hc := Blk.cell k
  have hf := Blk.frozen k
  unfold rdr at hc
  have hd := drop_str c r
  have hl' : (r.length : Int) ≤ 1000 := by omega
  have K : Hid (Rd w b (c :: r) y m d h mi s wk a) := k
  clear k
  go_enter Tryz.func111, Tryz.ntmps111
  go_wp2
  go_end0
  exact ⟨rfl, (Mv.refl _ _).setCell 0 _, K.out.rest r⟩

set_option maxHeartbeats 1000000 in
theorem skip3 (c1 c2 : UInt8) (k : Rd w b (c :: c1 :: c2 :: r) y m d h mi s wk a) (hl : r.length ≤ 1000) :
    Calls Tryz.prog 111 #[.pointer (some ⟨b, 0, none⟩), .int .i64 3] w fun e w' => e = .returned (.tuple #[]) ∧ Mv b w w' ∧ Rd w' b r y m d h mi s wk a := by
  have hc := Blk.cell k
  have hf := Blk.frozen k
  unfold rdr at hc
  have hd := drop3_str c c1 c2 r
  have hl' : (r.length : Int) ≤ 1000 := by omega
  have K : Hid (Rd w b (c :: c1 :: c2 :: r) y m d h mi s wk a) := k
  clear k
  go_enter Tryz.func111, Tryz.ntmps111
  go_wp2
  go_end0
  exact ⟨rfl, (Mv.refl _ _).setCell 0 _, K.out.rest r⟩

set_option maxHeartbeats 1000000 in
theorem at_any (x : Int) (k : Rd w b (c :: r) y m d h mi s wk a) :
    Calls Tryz.prog 107 #[.pointer (some ⟨b, 0, none⟩), .int .u8 x] w fun e w' => e = .returned (.bool ((c.toNat : Int) == x)) ∧ w' = w := by
  have hc := Blk.cell k
  unfold rdr at hc
  have hx := str_at0 c r
  clear k
  go_enter Tryz.func107, Tryz.ntmps107
  go_wp2
  go_ret
  exact ⟨rfl, rfl⟩

set_option maxHeartbeats 1000000 in
theorem at_nil (x : Int) (k : Rd w b [] y m d h mi s wk a) :
    Calls Tryz.prog 107 #[.pointer (some ⟨b, 0, none⟩), .int .u8 x] w fun e w' => e = .returned (.bool false) ∧ w' = w := by
  have hc := Blk.cell k
  unfold rdr at hc
  clear k
  go_enter Tryz.func107, Tryz.ntmps107
  go_wp2
  go_ret
  exact ⟨rfl, rfl⟩

set_option maxHeartbeats 1000000 in
theorem atDigit_yes (k : Rd w b (c :: r) y m d h mi s wk a) (h0 : 48 ≤ (c.toNat : Int)) (h1 : (c.toNat : Int) ≤ 57) :
    Calls Tryz.prog 125 #[.pointer (some ⟨b, 0, none⟩)] w fun e w' => e = .returned (.bool true) ∧ w' = w := by
  have hc := Blk.cell k
  unfold rdr at hc
  have hx := str_at0 c r
  clear k
  go_enter Tryz.func125, Tryz.ntmps125
  go_wp2
  go_ret
  exact ⟨rfl, rfl⟩

set_option maxHeartbeats 1000000 in
theorem atDigit_no (k : Rd w b (c :: r) y m d h mi s wk a) (h0 : (c.toNat : Int) < 48 ∨ 57 < (c.toNat : Int)) :
    Calls Tryz.prog 125 #[.pointer (some ⟨b, 0, none⟩)] w fun e w' => e = .returned (.bool false) ∧ w' = w := by
  have hc := Blk.cell k
  unfold rdr at hc
  have hx := str_at0 c r
  clear k
  rcases h0 with h0 | h0
  · go_enter Tryz.func125, Tryz.ntmps125
    go_wp2
    go_ret
    exact ⟨rfl, rfl⟩
  · have h1 : 48 ≤ (c.toNat : Int) := by omega
    go_enter Tryz.func125, Tryz.ntmps125
    go_wp2
    go_ret
    exact ⟨congrArg (fun x => Ending.returned (.bool x)) (decide_eq_false (by omega)), rfl⟩

theorem ret_i64 {x y : Int} (h : x = y) : Ending.returned (.int .i64 x) = .returned (.int .i64 y) := by rw [h]
/-- The byte of a digit. -/
def dg (n : Nat) : UInt8 := UInt8.ofNat (48 + n)
theorem dg_toNat (n : Nat) (hn : n < 10) : (dg n).toNat = 48 + n := by
  unfold dg
  rw [UInt8.toNat_ofNat']
  omega

set_option maxHeartbeats 1000000 in
theorem digit_ok (n : Nat) (hn : n < 10) (k : Rd w b (dg n :: r) y m d h mi s wk a) (hl : r.length ≤ 1000) :
    Calls Tryz.prog 108 #[.pointer (some ⟨b, 0, none⟩)] w fun e w' => e = .returned (.int .i64 n) ∧ Mv b w w' ∧ Rd w' b r y m d h mi s wk a := by
  have e := dg_toNat n hn
  have K : Hid (∀ w', w' = w → Rd w' b (dg n :: r) y m d h mi s wk a) := fun w' h => by subst h; exact k
  have hc := Blk.cell k
  unfold rdr at hc
  generalize dg n = c at *
  have hx := str_at0 c r
  have h0 : 48 ≤ (c.toNat : Int) := by omega
  have h1 : (c.toNat : Int) ≤ 57 := by omega
  have HN : Hid ((c.toNat : Int) - 48 = n) := by show (c.toNat : Int) - 48 = n; omega
  clear k e
  go_enter Tryz.func108, Tryz.ntmps108
  go_wp2_with (first | (go_at_call 125; refine (atDigit_yes b c r y m d h mi s wk a _ (K.out _ rfl) h0 h1).mono ?_; rintro e w' ⟨rfl, rfl⟩) | (go_at_call 111; refine (skip1 b c r y m d h mi s wk a _ (K.out _ rfl) hl).mono ?_; rintro e w1 ⟨rfl, hm1, hr1⟩))
  go_ret
  exact ⟨ret_i64 HN.out, hm1, hr1⟩

set_option maxHeartbeats 1000000 in
theorem mark_ok (k : Rd w b (c :: r) y m d h mi s wk a) (hl : r.length ≤ 1000) :
    Calls Tryz.prog 83 #[.pointer (some ⟨b, 0, none⟩), .int .u8 (c.toNat : Int)] w fun e w' => e = .returned (.tuple #[]) ∧ Mv b w w' ∧ Rd w' b r y m d h mi s wk a := by
  have K : Hid (∀ w', w' = w → Rd w' b (c :: r) y m d h mi s wk a) := fun w' h => by subst h; exact k
  clear k
  go_enter Tryz.func83, Tryz.ntmps83
  go_wp2_with (first | (go_at_call 107; refine (at_any b c r y m d h mi s wk a _ _ (K.out _ rfl)).mono ?_; rintro e w' ⟨rfl, rfl⟩) | (go_at_call 111; refine (skip1 b c r y m d h mi s wk a _ (K.out _ rfl) hl).mono ?_; rintro e w1 ⟨rfl, hm1, hr1⟩))
  go_end0
  exact ⟨rfl, hm1, hr1⟩
end
end Go.Proofs.YtcmhaihoeecjoaaGreatDoor.Da

end
