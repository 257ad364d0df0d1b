/- The numbers of errors: postbagnum.Num at nil and at each of package api's thirteen values. -/
/- Scan and Message of package mbox; the chapter's example. -/
import Derived.Test.YtcmhaihoeecjoaaGreatDoorU16
import Derived.Test.YtcmhaihoeecjoaaGreatDoorU09
import Derived.Test.YtcmhaihoeecjoaaGreatDoorU15
section
namespace Go.Proofs.YtcmhaihoeecjoaaGreatDoor
open Go.RowKit

/-- The package-level variables that hold the thirteen errors, in the document's order. -/
def gno (i : Nat) : Nat := ([0, 1, 2, 3, 4, 5, 6, 7, 8, 9, 10, 11, 12] : List Nat).getD i 0

/-- A world in which the thirteen variables hold thirteen errors, at different places. -/
structure Errs (w : World) (a : Nat → Addr) : Prop where
  cell : ∀ i, i < 13 → w.cell? ⟨gno i, 0, none⟩ = some (.iface 167 (.pointer (some (a i))))
  low : ∀ i, i < 13 → gno i < w.heap.size
  ne : ∀ i j, i < 13 → j < 13 → i ≠ j → a i ≠ a j
  blk : ∀ i, i < 13 → ∃ c t, w.heap[(a i).block]? = some (.cells c t (0, 0))

theorem blk_lt {w : World} {k : Nat} {o : Obj} (h : w.heap[k]? = some o) : k < w.heap.size := (Array.getElem?_eq_some_iff.1 h).1

theorem Errs.below {w w' : World} {a : Nat → Addr} (h : Errs w a) (hb : Below w.heap.size w w') : Errs w' a where
  cell := fun i hi => by rw [hb.cell (p := ⟨gno i, 0, none⟩) (h.low i hi)]; exact h.cell i hi
  low := fun i hi => Nat.lt_of_lt_of_le (h.low i hi) hb.size
  ne := h.ne
  blk := fun i hi => by
    obtain ⟨c, t, k⟩ := h.blk i hi
    exact ⟨c, t, by rw [hb.block _ (blk_lt k)]; exact k⟩

theorem num_nil (w : World) :
    Calls Tryz.prog 9 #[.nilIface] w fun e w' => e = .returned (.int .i64 0) ∧ w' = w := by
  go_enter Tryz.func9, Tryz.ntmps9
  go_wp2
  go_ret
  exact ⟨rfl, rfl⟩

def errV (a : Nat → Addr) (i : Nat) : Value := .iface 167 (.pointer (some (a i)))

set_option maxHeartbeats 2000000 in
theorem num_err (k : Nat) (hk : k < 13) (w : World) (a : Nat → Addr) (hE : Errs w a) :
    Calls Tryz.prog 9 #[.iface 167 (.pointer (some (a k)))] w fun e w' => e = .returned (.int .i64 (k + 1)) ∧ Below w.heap.size w w' := by
  have c0 : w.cell? ⟨0, 0, none⟩ = some (.iface 167 (.pointer (some (a 0)))) := hE.cell 0 (by decide)
  have c1 : w.cell? ⟨1, 0, none⟩ = some (.iface 167 (.pointer (some (a 1)))) := hE.cell 1 (by decide)
  have c2 : w.cell? ⟨2, 0, none⟩ = some (.iface 167 (.pointer (some (a 2)))) := hE.cell 2 (by decide)
  have c3 : w.cell? ⟨3, 0, none⟩ = some (.iface 167 (.pointer (some (a 3)))) := hE.cell 3 (by decide)
  have c4 : w.cell? ⟨4, 0, none⟩ = some (.iface 167 (.pointer (some (a 4)))) := hE.cell 4 (by decide)
  have c5 : w.cell? ⟨5, 0, none⟩ = some (.iface 167 (.pointer (some (a 5)))) := hE.cell 5 (by decide)
  have c6 : w.cell? ⟨6, 0, none⟩ = some (.iface 167 (.pointer (some (a 6)))) := hE.cell 6 (by decide)
  have c7 : w.cell? ⟨7, 0, none⟩ = some (.iface 167 (.pointer (some (a 7)))) := hE.cell 7 (by decide)
  have c8 : w.cell? ⟨8, 0, none⟩ = some (.iface 167 (.pointer (some (a 8)))) := hE.cell 8 (by decide)
  have c9 : w.cell? ⟨9, 0, none⟩ = some (.iface 167 (.pointer (some (a 9)))) := hE.cell 9 (by decide)
  have c10 : w.cell? ⟨10, 0, none⟩ = some (.iface 167 (.pointer (some (a 10)))) := hE.cell 10 (by decide)
  have c11 : w.cell? ⟨11, 0, none⟩ = some (.iface 167 (.pointer (some (a 11)))) := hE.cell 11 (by decide)
  have c12 : w.cell? ⟨12, 0, none⟩ = some (.iface 167 (.pointer (some (a 12)))) := hE.cell 12 (by decide)
  have hb : Below w.heap.size w (w.alloc (.cells #[.iface 167 (.pointer (some (a 0))), .iface 167 (.pointer (some (a 1))), .iface 167 (.pointer (some (a 2))), .iface 167 (.pointer (some (a 3))), .iface 167 (.pointer (some (a 4))), .iface 167 (.pointer (some (a 5))), .iface 167 (.pointer (some (a 6))), .iface 167 (.pointer (some (a 7))), .iface 167 (.pointer (some (a 8))), .iface 167 (.pointer (some (a 9))), .iface 167 (.pointer (some (a 10))), .iface 167 (.pointer (some (a 11))), .iface 167 (.pointer (some (a 12)))] 24)) := (Below.refl _ _).alloc (Nat.le_refl _) _
  have HE : Hid (Errs (w.alloc (.cells #[.iface 167 (.pointer (some (a 0))), .iface 167 (.pointer (some (a 1))), .iface 167 (.pointer (some (a 2))), .iface 167 (.pointer (some (a 3))), .iface 167 (.pointer (some (a 4))), .iface 167 (.pointer (some (a 5))), .iface 167 (.pointer (some (a 6))), .iface 167 (.pointer (some (a 7))), .iface 167 (.pointer (some (a 8))), .iface 167 (.pointer (some (a 9))), .iface 167 (.pointer (some (a 10))), .iface 167 (.pointer (some (a 11))), .iface 167 (.pointer (some (a 12)))] 24)) a) := hE.below hb
  have HB : Hid (Below w.heap.size w (w.alloc (.cells #[.iface 167 (.pointer (some (a 0))), .iface 167 (.pointer (some (a 1))), .iface 167 (.pointer (some (a 2))), .iface 167 (.pointer (some (a 3))), .iface 167 (.pointer (some (a 4))), .iface 167 (.pointer (some (a 5))), .iface 167 (.pointer (some (a 6))), .iface 167 (.pointer (some (a 7))), .iface 167 (.pointer (some (a 8))), .iface 167 (.pointer (some (a 9))), .iface 167 (.pointer (some (a 10))), .iface 167 (.pointer (some (a 11))), .iface 167 (.pointer (some (a 12)))] 24))) := hb
  have HC : Hid (∀ n, n < 13 → (w.alloc (.cells #[.iface 167 (.pointer (some (a 0))), .iface 167 (.pointer (some (a 1))), .iface 167 (.pointer (some (a 2))), .iface 167 (.pointer (some (a 3))), .iface 167 (.pointer (some (a 4))), .iface 167 (.pointer (some (a 5))), .iface 167 (.pointer (some (a 6))), .iface 167 (.pointer (some (a 7))), .iface 167 (.pointer (some (a 8))), .iface 167 (.pointer (some (a 9))), .iface 167 (.pointer (some (a 10))), .iface 167 (.pointer (some (a 11))), .iface 167 (.pointer (some (a 12)))] 24)).cell? ⟨w.heap.size, n, none⟩ = some (.iface 167 (.pointer (some (a n))))) := by
    intro n hn
    have h : n = 0 ∨ n = 1 ∨ n = 2 ∨ n = 3 ∨ n = 4 ∨ n = 5 ∨ n = 6 ∨ n = 7 ∨ n = 8 ∨ n = 9 ∨ n = 10 ∨ n = 11 ∨ n = 12 := by omega
    rcases h with rfl | rfl | rfl | rfl | rfl | rfl | rfl | rfl | rfl | rfl | rfl | rfl | rfl <;> simp
  clear hE hb
  go_enter Tryz.func9, Tryz.ntmps9
  go_wp2_with fail
  generalize w.alloc (.cells #[.iface 167 (.pointer (some (a 0))), .iface 167 (.pointer (some (a 1))), .iface 167 (.pointer (some (a 2))), .iface 167 (.pointer (some (a 3))), .iface 167 (.pointer (some (a 4))), .iface 167 (.pointer (some (a 5))), .iface 167 (.pointer (some (a 6))), .iface 167 (.pointer (some (a 7))), .iface 167 (.pointer (some (a 8))), .iface 167 (.pointer (some (a 9))), .iface 167 (.pointer (some (a 10))), .iface 167 (.pointer (some (a 11))), .iface 167 (.pointer (some (a 12)))] 24) = W at *
  clear c0 c1 c2 c3 c4 c5 c6 c7 c8 c9 c10 c11 c12
  go_loop [24] (fun i => ∃ n : Nat, n ≤ k ∧ i = .int .i64 n) (fun i => 13 - (intOf i).toNat)
  case atStart => exact ⟨0, Nat.zero_le _, rfl⟩
  case round =>
    obtain ⟨n, hn, rfl⟩ := hrel
    have hn13 : n < 13 := by omega
    have hc := HC.out n hn13
    by_cases he : n = k
    · subst he
      go_wp2_with (go_at_call 22; refine (is_same _ _).mono ?_; rintro e w' ⟨rfl, rfl⟩)
      go_ret
      exact ⟨rfl, HB.out⟩
    · have hne := HE.out.ne k n hk hn13 (by omega)
      obtain ⟨ck, tk, bk⟩ := HE.out.blk k hk
      obtain ⟨cn, tn, bn⟩ := HE.out.blk n hn13
      have HX : Hid (∀ w' : World, w' = W → Calls Tryz.prog 22 #[.iface 167 (.pointer (some (a k))), .iface 167 (.pointer (some (a n)))] w' fun e w'' => e = .returned (.bool false) ∧ w'' = w') :=
        fun w' h => by subst h; exact is_other _ _ ck cn tk tn _ hne bk bn
      clear hne bk bn
      go_wp2_with (go_at_call 22; refine (HX.out _ rfl).mono ?_; rintro e w' ⟨rfl, rfl⟩)
      go_round
      case rel => exact ⟨n + 1, by omega, by go_num⟩
      case measure => simp [intOf]; omega
end Go.Proofs.YtcmhaihoeecjoaaGreatDoor

end
section
namespace Go.Proofs.YtcmhaihoeecjoaaGreatDoor
open Go.RowKit Go.Shelf
def ScOut (s : List UInt8) (a : Nat → Addr) (w : World) (e : Ending) (w' : World) : Prop := Below w.heap.size w w' ∧ match scanV s with
      | some xs => ∃ v, e = .returned (.tuple #[v, .nilIface]) ∧ Sps w.heap.size w' v xs
      | none => e = .returned (.tuple #[.slice none 0 0, errV a 1])
set_option maxHeartbeats 1000000 in
theorem scan_any (s : List UInt8) (w : World) (a : Nat → Addr) (hs : s.length ≤ 1000000) (hE : scanV s = none → Errs w a) :
    Calls Tryz.prog 13 #[.string ⟨s.toArray⟩] w (ScOut s a w) := by
  have HS := hide (spansOf_any s w hs)
  cases hv : scanV s with
  | some xs =>
    have HV := hide hv
    clear hE hv
    go_enter Tryz.func13, Tryz.ntmps13
    go_wp2_with (first
      | (go_at_call 29; refine HS.out.mono ?_; rintro e w1 ⟨hb1, hm⟩; rw [HV.out] at hm; obtain ⟨v, rfl, hsp⟩ := hm; replace hb1 := hide hb1; replace hsp := hide hsp))
    go_ret2
    refine ⟨hb1.out, ?_⟩
    rw [HV.out]
    exact ⟨_, rfl, hsp.out⟩
  | none =>
    have HV := hide hv
    have HE := hide (hE hv)
    clear hE hv
    go_enter Tryz.func13, Tryz.ntmps13
    go_wp2_with (first
      | (go_at_call 29; refine HS.out.mono ?_; rintro e w1 ⟨hb1, hm⟩; rw [HV.out] at hm; obtain rfl := hm
         have hc1 : w1.cell? ⟨1, 0, none⟩ = some (errV a 1) := (HE.out.below hb1).cell 1 (by decide)
         unfold errV at hc1
         replace hb1 := hide hb1))
    go_region
    go_wp2
    go_ret2
    refine ⟨hb1.out.drew, ?_⟩
    rw [HV.out]
    rfl
/-- A span that stands in the file. -/
def inB (s : List UInt8) (b e : Int) : Bool := decide (0 ≤ b ∧ b ≤ e ∧ e ≤ (s.length : Int))
set_option maxHeartbeats 1000000 in
theorem message_no (s : List UInt8) (h b e : Int) (w : World) (a : Nat → Addr) (hE : Errs w a) (hn : inB s b e = false) :
    Calls Tryz.prog 17 #[.string ⟨s.toArray⟩, .agg #[.int .i64 h, .int .i64 b, .int .i64 e]] w fun x w' => x = .returned (.tuple #[.string ⟨#[]⟩, errV a 0]) ∧ Below w.heap.size w w' := by
  have hsz := size_lit s
  have hc : (w.alloc (.cells #[.int .i64 h, .int .i64 b, .int .i64 e] 42)).cell? ⟨0, 0, none⟩ = some (errV a 0) := (hE.below ((Below.refl _ _).alloc (Nat.le_refl _) _)).cell 0 (by decide)
  unfold errV at hc
  have hn' := of_decide_eq_false hn
  clear hn hE
  by_cases h1 : b < 0
  · clear hn'
    go_enter Tryz.func17, Tryz.ntmps17
    go_wp2
    go_region
    go_wp2
    go_ret2
    exact ⟨rfl, ((Below.refl _ _).alloc (Nat.le_refl _) _).drew⟩
  · by_cases h2 : e < b
    · clear hn'
      go_enter Tryz.func17, Tryz.ntmps17
      go_wp2
      go_region
      go_wp2
      go_ret2
      exact ⟨rfl, ((Below.refl _ _).alloc (Nat.le_refl _) _).drew⟩
    · have h3 : (s.length : Int) < e := by omega
      clear hn'
      go_enter Tryz.func17, Tryz.ntmps17
      go_wp2
      go_region
      go_wp2
      go_ret2
      exact ⟨rfl, ((Below.refl _ _).alloc (Nat.le_refl _) _).drew⟩
set_option maxHeartbeats 1000000 in
theorem message_in (s : List UInt8) (h : Int) (b e : Nat) (t : List UInt8) (v1 v2 : Value) (w : World) (h1 : b ≤ e) (h2 : e ≤ s.length) (ht : (s.drop b).take (e - b) = t)
    (HD : Hid (∀ w', Below w.heap.size w w' → Calls Tryz.prog 31 #[.string ⟨t.toArray⟩] w' fun x w'' => x = .returned (.tuple #[v1, v2]) ∧ Below w'.heap.size w' w'')) :
    Calls Tryz.prog 17 #[.string ⟨s.toArray⟩, .agg #[.int .i64 h, .int .i64 b, .int .i64 e]] w fun x w' => x = .returned (.tuple #[v1, v2]) ∧ Below w.heap.size w w' := by
  have hsl := fun w => slice_str s b e h1 h2 w
  rw [ht] at hsl
  have h0' : ¬ (b : Int) < 0 := by omega
  have h1' : ¬ (e : Int) < (b : Int) := by omega
  have h2' : ¬ (s.length : Int) < (e : Int) := by omega
  clear ht
  go_enter Tryz.func17, Tryz.ntmps17
  go_wp2_with (first
    | (go_at_call 31; refine (HD.out _ ((Below.refl _ _).alloc (Nat.le_refl _) _)).mono ?_; rintro x w1 ⟨rfl, hb1⟩))
  go_ret2
  exact ⟨rfl, ((Below.refl _ _).alloc (Nat.le_refl _) _).trans (hb1.mono (by simp))⟩
theorem decV_or (s : List UInt8) (v : Value) : ∃ m u, decT s v = .tuple #[.string ⟨m⟩, u] := by
  unfold decT
  cases decV s with
  | none => exact ⟨_, _, rfl⟩
  | some m => exact ⟨_, _, rfl⟩
/-- The chapter's example. -/
def exT : List UInt8 := [70, 114, 111, 109, 32, 97, 64, 98, 32, 84, 104, 117, 32, 74, 97, 110, 32, 32, 49, 32, 48, 48, 58, 48, 48, 58, 48, 48, 32, 49, 57, 55, 48, 10, 120, 10]
theorem ex_sep : sepT [97, 64, 98] 0 = [70, 114, 111, 109, 32, 97, 64, 98, 32, 84, 104, 117, 32, 74, 97, 110, 32, 32, 49, 32, 48, 48, 58, 48, 48, 58, 48, 48, 32, 49, 57, 55, 48, 10] := by decide +kernel
theorem ex_enc : encL [120] = [120, 10] := by decide +kernel
theorem ex_scan : scanV exT = some [⟨0, 34, 36⟩] := by rfl
end Go.Proofs.YtcmhaihoeecjoaaGreatDoor

end
