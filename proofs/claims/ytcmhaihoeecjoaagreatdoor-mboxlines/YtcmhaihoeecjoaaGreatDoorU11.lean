/- Pieces of a date's text, by the program. -/
/- A region that draws its order, which reads memory that was there and whose calls may make memory: one walk in the order of the text, in whatever world that keeps the old blocks. -/
import Derived.Test.YtcmhaihoeecjoaaGreatDoorU10
import Derived.Test.YtcmhaihoeecjoaaGreatDoorU01
import Derived.Deep.QuietTactic
import Derived.BigQuiet
section
namespace Go.Proofs.YtcmhaihoeecjoaaGreatDoor.Da
open Go.RowKit

theorem ret_str {a b : List UInt8} (h : a = b) : Ending.returned (.string ⟨a.toArray⟩) = .returned (.string ⟨b.toArray⟩) := by rw [h]
theorem digsTo_len : ∀ (f n : Nat) (l : List UInt8), (digsTo f n l).length ≤ f + l.length
  | 0, _, l => by simp [digsTo]
  | f + 1, n, l => by
    rw [digsTo]
    split
    · omega
    · have := digsTo_len f (n / 10) (UInt8.ofNat (48 + n % 10) :: l)
      rw [List.length_cons] at this
      omega
theorem padTo_len : ∀ (f p : Nat) (c : UInt8) (l : List UInt8), (padTo f p c l).length ≤ f + l.length
  | 0, _, _, l => by simp [padTo]
  | f + 1, p, c, l => by
    rw [padTo]
    split
    · have := padTo_len f p c (c :: l)
      simp at this
      omega
    · omega
theorem digs_len (n : Nat) : ((digsTo 6 n []).length : Int) ≤ 6 := by have := digsTo_len 6 n []; simp at this; omega
theorem two_len (n : Nat) (c : UInt8) : ((two n c).length : Int) ≤ 11 := by have := padTo_len 5 2 c (digsTo 6 n []); have := digsTo_len 6 n []; unfold two; simp at this; omega
theorem year_len (n : Nat) : ((year n).length : Int) ≤ 11 := by have := padTo_len 5 4 48 (digsTo 6 n []); have := digsTo_len 6 n []; unfold year; simp at this; omega
theorem day1_len (n : Nat) : ((day1 n).length : Int) ≤ 11 := by have := padTo_len 5 1 48 (digsTo 6 n []); have := digsTo_len 6 n []; unfold day1; simp at this; omega
theorem mon_len (m : Int) : ((mon m).length : Int) ≤ 3 := by
  unfold mon
  repeat' split
  all_goals simp
theorem wkd_len (m : Int) : ((wkd m).length : Int) ≤ 3 := by
  unfold wkd
  repeat' split
  all_goals simp

set_option maxHeartbeats 1000000 in
theorem twoPlaces_zero (n : Nat) (hn : n < 100) (w : World) :
    Calls Tryz.prog 67 #[.int .i64 n, .string ⟨#[48]⟩] w fun e w' => e = .returned (.string ⟨(two n 48).toArray⟩) ∧ w' = w := by
  have hl := digs_len n
  have hcat := ByteArray.mk_append_mk
  by_cases h : n < 10
  · have h' : (n : Int) < 10 := by omega
    have HT : Hid (48 :: digsTo 6 n [] = two n 48) := two_zero n h
    go_enter Tryz.func67, Tryz.ntmps67
    go_wp2_with (go_at_call 97; refine (itoa_small n hn _).mono ?_; rintro e w' ⟨rfl, rfl⟩)
    go_ret
    exact ⟨ret_str HT.out, rfl⟩
  · have h' : ¬ (n : Int) < 10 := by omega
    go_enter Tryz.func67, Tryz.ntmps67
    go_wp2_with (go_at_call 97; refine (itoa_small n hn _).mono ?_; rintro e w' ⟨rfl, rfl⟩)
    go_ret
    exact ⟨ret_str (two_full n hn (by omega)).1, rfl⟩

set_option maxHeartbeats 1000000 in
theorem twoPlaces_blank (n : Nat) (hn : n < 100) (w : World) :
    Calls Tryz.prog 67 #[.int .i64 n, .string ⟨#[32]⟩] w fun e w' => e = .returned (.string ⟨(two n 32).toArray⟩) ∧ w' = w := by
  have hl := digs_len n
  have hcat := ByteArray.mk_append_mk
  by_cases h : n < 10
  · have h' : (n : Int) < 10 := by omega
    have HT : Hid (32 :: digsTo 6 n [] = two n 32) := two_blank n h
    go_enter Tryz.func67, Tryz.ntmps67
    go_wp2_with (go_at_call 97; refine (itoa_small n hn _).mono ?_; rintro e w' ⟨rfl, rfl⟩)
    go_ret
    exact ⟨ret_str HT.out, rfl⟩
  · have h' : ¬ (n : Int) < 10 := by omega
    go_enter Tryz.func67, Tryz.ntmps67
    go_wp2_with (go_at_call 97; refine (itoa_small n hn _).mono ?_; rintro e w' ⟨rfl, rfl⟩)
    go_ret
    exact ⟨ret_str (two_full n hn (by omega)).2, rfl⟩

set_option maxHeartbeats 2000000 in
theorem monthName_any (y m d h mi s wk : Int) (w : World) (h1 : 1 ≤ m) (h2 : m ≤ 12) :
    Calls Tryz.prog 66 #[.agg #[.int .i64 y, .int .i64 m, .int .i64 d, .int .i64 h, .int .i64 mi, .int .i64 s, .int .i64 wk]] w fun e w' => e = .returned (.string ⟨(mon m).toArray⟩) ∧ Below w.heap.size w w' := by
  have hm : m = 1 ∨ m = 2 ∨ m = 3 ∨ m = 4 ∨ m = 5 ∨ m = 6 ∨ m = 7 ∨ m = 8 ∨ m = 9 ∨ m = 10 ∨ m = 11 ∨ m = 12 := by omega
  clear h1 h2
  rcases hm with rfl | rfl | rfl | rfl | rfl | rfl | rfl | rfl | rfl | rfl | rfl | rfl
  all_goals
    go_enter Tryz.func66, Tryz.ntmps66
    go_wp2
    go_ret
    exact ⟨by kernel_rfl, (Below.refl _ _).alloc (Nat.le_refl _) _⟩

set_option maxHeartbeats 2000000 in
theorem dayName_any (y m d h mi s wk : Int) (w : World) (h1 : 0 ≤ wk) (h2 : wk ≤ 6) :
    Calls Tryz.prog 65 #[.agg #[.int .i64 y, .int .i64 m, .int .i64 d, .int .i64 h, .int .i64 mi, .int .i64 s, .int .i64 wk]] w fun e w' => e = .returned (.string ⟨(wkd wk).toArray⟩) ∧ Below w.heap.size w w' := by
  have hm : wk = 0 ∨ wk = 1 ∨ wk = 2 ∨ wk = 3 ∨ wk = 4 ∨ wk = 5 ∨ wk = 6 := by omega
  clear h1 h2
  rcases hm with rfl | rfl | rfl | rfl | rfl | rfl | rfl
  all_goals
    go_enter Tryz.func65, Tryz.ntmps65
    go_wp2
    go_ret
    exact ⟨by kernel_rfl, (Below.refl _ _).alloc (Nat.le_refl _) _⟩

set_option maxHeartbeats 1000000 in
theorem yearText_any (y : Nat) (m d h mi s wk : Int) (w : World) (y1 : 1970 ≤ y) (y2 : y ≤ 2099) (ht : Tab w) :
    Calls Tryz.prog 69 #[.agg #[.int .i64 y, .int .i64 m, .int .i64 d, .int .i64 h, .int .i64 mi, .int .i64 s, .int .i64 wk]] w fun e w' => e = .returned (.string ⟨(year y).toArray⟩) ∧ Below w.heap.size w w' := by
  have HT : Hid (Tab w) := ht
  clear ht
  go_enter Tryz.func69, Tryz.ntmps69
  go_wp2_with fail
  refine (itoa_year y y1 y2 _ (HT.out.below ((Below.refl _ _).alloc (Nat.le_refl _) _))).mono ?_
  rintro e w1 ⟨rfl, hb1⟩
  go_wp2
  go_ret
  exact ⟨rfl, ((Below.refl _ _).alloc (Nat.le_refl _) _).trans (hb1.mono (by simp))⟩
end Go.Proofs.YtcmhaihoeecjoaaGreatDoor.Da

end
section
namespace Go.Proofs.YtcmhaihoeecjoaaGreatDoor
open Go.RowKit

/-- A world that holds all blocks of W as they were. -/
structure Ext (W : World) where
  w : World
  ok : Below W.heap.size W w

section
variable {P : Program} {W : World}
theorem ext_some (W : World) : Nonempty (Ext W) := ⟨⟨W, Below.refl _ _⟩⟩
theorem ext_cell (W : World) (u : Ext W) (b o : Nat) (h : b < W.heap.size) : u.w.cell? ⟨b, o, none⟩ = W.cell? ⟨b, o, none⟩ := u.ok.cell (p := ⟨b, o, none⟩) h
theorem wp_region_ext {id : Nat} {Q : Exit → Act → World → Prop} {a : Act} {l : List Oper} (hm : P.follows .mixedOrders = true) (hB : Region.lexB .any l.toArray = true)
    (h : wpQuiet P l.toArray (fun w' => ∃ u : Ext W, w' = u.w) (fun a' => ∀ w', (∃ u : Ext W, w' = u.w) → Q .normal a' w') l a) : (Code.region id l.toArray true).wp P Q a W :=
  wp_region_quiet (C := fun w' => ∃ u : Ext W, w' = u.w) hm hB ⟨⟨W.drew, (Below.refl _ _).drew⟩, rfl⟩ (by simpa using h)
/-- A call that makes memory and turns none. -/
theorem ext_call {f : FuncId} {args : Array Value} {u : Ext W} {v : Value} (h : Calls P f args u.w fun e w' => e = .returned v ∧ Below u.w.heap.size u.w w') :
    Calls P f args u.w fun e w'' => e = .returned v ∧ ∃ u' : Ext W, w'' = u'.w :=
  h.mono fun _ w' ⟨he, hb⟩ => ⟨he, ⟨w', u.ok.trans (hb.mono u.ok.size)⟩, rfl⟩
/-- A call that leaves the world as it was. -/
theorem ext_same {f : FuncId} {args : Array Value} {u : Ext W} {v : Value} (h : Calls P f args u.w fun e w' => e = .returned v ∧ w' = u.w) :
    Calls P f args u.w fun e w'' => e = .returned v ∧ ∃ u' : Ext W, w'' = u'.w :=
  h.mono fun _ _ ⟨he, hw⟩ => ⟨he, u, hw⟩
end
end Go.Proofs.YtcmhaihoeecjoaaGreatDoor

end
