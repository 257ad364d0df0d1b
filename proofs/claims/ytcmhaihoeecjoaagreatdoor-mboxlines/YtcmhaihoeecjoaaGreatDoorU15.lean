/- The four texts of a moment in range, by the program. -/
/- Senders and separator lines of package mbox; Entry. -/
import Derived.Test.YtcmhaihoeecjoaaGreatDoorU12
import Derived.Test.YtcmhaihoeecjoaaGreatDoorU14
import Derived.Test.YtcmhaihoeecjoaaGreatDoorU05
section
namespace Go.Proofs.YtcmhaihoeecjoaaGreatDoor.Da
open Go.RowKit



set_option maxHeartbeats 1000000 in
theorem box_yes (t : Int) (y m d h mi s wk : Nat) (w : World) (ht : Tab w) (hd : Dt y m d h mi s wk)
    (HC : Hid (∀ w, Calls Tryz.prog 95 #[.int .i64 t] w fun e w' => e = .returned (.tuple #[.agg #[.int .i64 (y : Nat), .int .i64 (m : Nat), .int .i64 (d : Nat), .int .i64 (h : Nat), .int .i64 (mi : Nat), .int .i64 (s : Nat), .int .i64 (wk : Nat)], .nilIface]) ∧ Below w.heap.size w w')) :
    Calls Tryz.prog 33 #[.int .i64 t] w fun e w' => e = .returned (.tuple #[.string ⟨(boxL y m d h mi s wk).toArray⟩, .nilIface]) ∧ Below w.heap.size w w' := by
  have HT : Hid (Tab w) := ht
  have HD : Hid (Dt y m d h mi s wk) := hd
  clear ht hd
  go_enter Tryz.func33, Tryz.ntmps33
  go_wp2_with (first | (go_at_call 95; refine (HC.out _).mono ?_; rintro e w1 ⟨rfl, hb1⟩) | (go_at_call 63; go_in))
  refine (box1 y m d h mi s wk _ (HT.out.below (hb1.alloc hb1.size _)) HD.out).mono ?_
  rintro e w2 ⟨rfl, hb2⟩
  go_wp2
  go_ret2
  exact ⟨rfl, (hb1.alloc hb1.size _).trans (hb2.mono (by have := hb1.size; simp; omega))⟩





end Go.Proofs.YtcmhaihoeecjoaaGreatDoor.Da

end
section
namespace Go.Proofs.YtcmhaihoeecjoaaGreatDoor
open Go.RowKit Go.Shelf
def okC (c : UInt8) : Bool := decide (33 ≤ c.toNat ∧ c.toNat ≤ 126)
/-- A sender is right. -/
def rightS (l : List UInt8) : Bool := decide (1 ≤ l.length ∧ l.length ≤ 200) && l.all okC
theorem right_len {l : List UInt8} (h : rightS l = true) : 1 ≤ l.length ∧ l.length ≤ 200 := by
  unfold rightS at h
  rw [Bool.and_eq_true] at h
  exact of_decide_eq_true h.1
theorem right_all {l : List UInt8} (h : rightS l = true) : ∀ c ∈ l, 33 ≤ c.toNat ∧ c.toNat ≤ 126 := by
  unfold rightS at h
  rw [Bool.and_eq_true, List.all_eq_true] at h
  exact fun c hc => of_decide_eq_true (h.2 c hc)
theorem ret_bool {a b : Bool} (h : a = b) : Ending.returned (.bool a) = .returned (.bool b) := by rw [h]
theorem at_lit (l : List UInt8) (i : Nat) (hi : i < l.length) : ∃ c, l[i] = c ∧ ∀ h : i < (⟨l.toArray⟩ : ByteArray).size, (⟨l.toArray⟩ : ByteArray)[i]'h = c := ⟨_, rfl, fun _ => rfl⟩
theorem all_next {l : List UInt8} {k : Nat} {c : UInt8} (hk : k < l.length) (hc : l[k] = c) (h : (l.take k).all okC = true) (ho : okC c = true) : (l.take (k + 1)).all okC = true := by
  rw [List.take_succ_eq_append_getElem hk, List.all_append, h, hc]
  simp [ho]
theorem not_right {l : List UInt8} {k : Nat} {c : UInt8} (hk : k < l.length) (hc : l[k] = c) (ho : okC c = false) : rightS l = false := by
  unfold rightS
  rw [Bool.and_eq_false_iff]
  refine .inr (List.all_eq_false.2 ⟨c, ?_, by rw [ho]; simp⟩)
  rw [← hc]
  exact List.getElem_mem hk
set_option maxHeartbeats 1000000 in
theorem isRight_any (l : List UInt8) (w : World) (hl : l.length ≤ maxLen) :
    Calls Tryz.prog 25 #[.string ⟨l.toArray⟩] w fun e w' => e = .returned (.bool (rightS l)) ∧ w' = w := by
  have hsz := size_lit l
  unfold maxLen at hl
  by_cases h1 : 1 ≤ l.length ∧ l.length ≤ 200
  · obtain ⟨h1, h2⟩ := h1
    have h1' : ¬ (l.length : Int) < 1 := by omega
    have h2' : ¬ (200 : Int) < (l.length : Int) := by omega
    go_enter Tryz.func25, Tryz.ntmps25
    go_wp2
    go_loop [14] (fun i => ∃ k : Nat, k ≤ l.length ∧ i = .int .i64 k ∧ Hid ((l.take k).all okC = true)) (fun i => l.length - (intOf i).toNat)
    case atStart => exact ⟨0, Nat.zero_le _, rfl, by simp [Hid]⟩
    case round =>
      obtain ⟨k, hk, rfl, HA⟩ := hrel
      by_cases hlt : k < l.length
      · obtain ⟨c, hc, hat⟩ := at_lit l k hlt
        have hlt' : (k : Int) < l.length := by omega
        have HC := hide hc
        clear hc
        by_cases h33 : (c.toNat : Int) < 33
        · go_wp2
          go_ret
          exact ⟨ret_bool (not_right hlt HC.out (decide_eq_false (by omega))).symm, rfl⟩
        · by_cases h126 : (126 : Int) < (c.toNat : Int)
          · go_wp2
            go_ret
            exact ⟨ret_bool (not_right hlt HC.out (decide_eq_false (by omega))).symm, rfl⟩
          · go_wp2
            go_round
            case rel => exact ⟨k + 1, by omega, by go_num, all_next hlt HC.out HA.out (decide_eq_true (by omega))⟩
            case measure => simp [intOf]; omega
      · obtain rfl : k = l.length := by omega
        have HR : Hid (rightS l = true) := by
          show _ = _
          have := HA.out
          rw [List.take_length] at this
          unfold rightS
          rw [this, decide_eq_true ⟨h1, h2⟩]
          rfl
        clear HA
        go_wp2
        go_ret
        exact ⟨ret_bool HR.out.symm, rfl⟩
  · have HR : Hid (rightS l = false) := by
      show _ = _
      unfold rightS
      rw [decide_eq_false h1]
      rfl
    by_cases h2 : (l.length : Int) < 1
    · clear h1
      go_enter Tryz.func25, Tryz.ntmps25
      go_wp2
      go_ret
      exact ⟨ret_bool HR.out.symm, rfl⟩
    · have h3 : (200 : Int) < l.length := by omega
      clear h1
      go_enter Tryz.func25, Tryz.ntmps25
      go_wp2
      go_ret
      exact ⟨ret_bool HR.out.symm, rfl⟩
/-- A moment as a separator line has it. -/
def boxT (t : Int) : List UInt8 := Da.boxL (Da.Cal.cy (t / 86400)).toNat (Da.Cal.cm (t / 86400)).toNat (Da.Cal.cd (t / 86400)).toNat (t % 86400 / 3600).toNat (t % 3600 / 60).toNat (t % 60).toNat ((4 + t / 86400) % 7).toNat
theorem dt_of (t : Int) (h0 : 0 ≤ t) (h1 : t ≤ 4102444799) : Da.Dt (Da.Cal.cy (t / 86400)).toNat (Da.Cal.cm (t / 86400)).toNat (Da.Cal.cd (t / 86400)).toNat (t % 86400 / 3600).toNat (t % 3600 / 60).toNat (t % 60).toNat ((4 + t / 86400) % 7).toNat := by
  obtain ⟨y1, y2, m1, m2, d1, d2, _⟩ := Da.Cal.date_spec (t / 86400) (by omega) (by omega)
  have dr := Da.Cal.dim_range (Da.Cal.cy (t / 86400)) (Da.Cal.cm (t / 86400))
  exact ⟨by omega, by omega, by omega, by omega, by omega, by omega, by omega, by omega, by omega, by omega⟩
theorem civ_of (t : Int) (w : World) (h0 : 0 ≤ t) (h1 : t ≤ 4102444799) : Calls Tryz.prog 95 #[.int .i64 t] w fun e w' => e = .returned (.tuple #[.agg #[.int .i64 ((Da.Cal.cy (t / 86400)).toNat : Nat), .int .i64 ((Da.Cal.cm (t / 86400)).toNat : Nat), .int .i64 ((Da.Cal.cd (t / 86400)).toNat : Nat), .int .i64 ((t % 86400 / 3600).toNat : Nat), .int .i64 ((t % 3600 / 60).toNat : Nat), .int .i64 ((t % 60).toNat : Nat), .int .i64 (((4 + t / 86400) % 7).toNat : Nat)], .nilIface]) ∧ Below w.heap.size w w' := by
  obtain ⟨y1, y2, m1, m2, d1, d2, _⟩ := Da.Cal.date_spec (t / 86400) (by omega) (by omega)
  have hc := Da.civil_yes t w h0 h1
  rw [Int.toNat_of_nonneg (show 0 ≤ Da.Cal.cy (t / 86400) by omega), Int.toNat_of_nonneg (show 0 ≤ Da.Cal.cm (t / 86400) by omega), Int.toNat_of_nonneg (show 0 ≤ Da.Cal.cd (t / 86400) by omega), Int.toNat_of_nonneg (show 0 ≤ t % 86400 / 3600 by omega), Int.toNat_of_nonneg (show 0 ≤ t % 3600 / 60 by omega), Int.toNat_of_nonneg (show 0 ≤ t % 60 by omega), Int.toNat_of_nonneg (show 0 ≤ (4 + t / 86400) % 7 by omega)]
  exact hc
theorem box_in (t : Int) (w : World) (h0 : 0 ≤ t) (h1 : t ≤ 4102444799) (ht : Da.Tab w) : Calls Tryz.prog 33 #[.int .i64 t] w fun e w' => e = .returned (.tuple #[.string ⟨(boxT t).toArray⟩, .nilIface]) ∧ Below w.heap.size w w' :=
  Da.box_yes t _ _ _ _ _ _ _ w ht (dt_of t h0 h1) (fun w => civ_of t w h0 h1)
theorem boxT_len (t : Int) : (boxT t).length ≤ 100 := by
  unfold boxT Da.boxL
  have l1 := Da.two_len (Da.Cal.cd (t / 86400)).toNat 32
  have l3 := Da.year_len (Da.Cal.cy (t / 86400)).toNat
  have l4 := Da.mon_len ((Da.Cal.cm (t / 86400)).toNat : Nat)
  have l5 := Da.wkd_len (((4 + t / 86400) % 7).toNat : Nat)
  have l6 := Da.clk_len (t % 86400 / 3600).toNat (t % 3600 / 60).toNat (t % 60).toNat
  simp only [List.length_append, List.length_cons, List.length_nil]
  omega
/-- A separator line. -/
def sepT (s : List UInt8) (t : Int) : List UInt8 := [70, 114, 111, 109, 32] ++ s ++ [32] ++ boxT t ++ [10]
theorem sepT_len {s : List UInt8} (t : Int) (h : rightS s = true) : (sepT s t).length ≤ 307 := by
  have := right_len h
  have := boxT_len t
  unfold sepT
  simp only [List.length_append, List.length_cons, List.length_nil]
  omega
set_option maxHeartbeats 1000000 in
theorem sepOf_yes (s : List UInt8) (t : Int) (w : World) (hs : rightS s = true) (h0 : 0 ≤ t) (h1 : t ≤ 4102444799) (ht : Da.Tab w) :
    Calls Tryz.prog 20 #[.string ⟨s.toArray⟩, .int .i64 t] w fun e w' => e = .returned (.tuple #[.string ⟨(sepT s t).toArray⟩, .nilIface]) ∧ Below w.heap.size w w' := by
  have hl := right_len hs
  have hb := boxT_len t
  have hcat := cat_lit
  have HR := hide (isRight_any s w (by unfold maxLen; omega))
  rw [hs] at HR
  have HB := hide (box_in t w h0 h1 ht)
  obtain ⟨b, eb⟩ : ∃ b, boxT t = b := ⟨_, rfl⟩
  have HS : Hid (sepT s t = [70, 114, 111, 109, 32] ++ s ++ [32] ++ b ++ [10]) := by show _ = _; unfold sepT; rw [eb]
  rw [eb] at HB hb
  clear eb hs ht h0 h1
  go_enter Tryz.func20, Tryz.ntmps20
  go_wp2_with (first
    | (go_at_call 25; refine HR.out.mono ?_; rintro e w1 ⟨rfl, rfl⟩)
    | (go_at_call 33; refine HB.out.mono ?_; rintro e w2 ⟨rfl, hb2⟩))
  go_ret2
  exact ⟨by rw [HS.out]; simp, hb2⟩
set_option maxHeartbeats 1000000 in
theorem entry_yes (s : List UInt8) (t : Int) (m : List UInt8) (w : World) (hs : rightS s = true) (h0 : 0 ≤ t) (h1 : t ≤ 4102444799) (hm : m.length ≤ 400000) (ht : Da.Tab w) :
    Calls Tryz.prog 7 #[.string ⟨s.toArray⟩, .int .i64 t, .string ⟨m.toArray⟩] w fun e w' => e = .returned (.tuple #[.string ⟨(sepT s t ++ encL m).toArray⟩, .nilIface]) ∧ Below w.heap.size w w' := by
  have hl := sepT_len t hs
  have hcat := cat_lit
  have he : (encL m).length ≤ 2 * m.length + 1 := by
    rw [enc_len]
    have h1 := List.length_filter_le nm (splitS m)
    have h2 := splitS_len m
    omega
  have HS := hide (sepOf_yes s t w hs h0 h1 ht)
  have HE := hide (fun w => encode_any m w (by omega))
  generalize sepT s t = x at *
  generalize encL m = y at *
  clear hs ht h0 h1
  go_enter Tryz.func7, Tryz.ntmps7
  go_wp2_with (first
    | (go_at_call 20; refine HS.out.mono ?_; rintro e w1 ⟨rfl, hb1⟩)
    | (go_at_call 21; refine (HE.out _).mono ?_; rintro e w2 ⟨rfl, hb2⟩))
  go_ret2
  exact ⟨rfl, hb1.trans (hb2.mono hb1.size)⟩
end Go.Proofs.YtcmhaihoeecjoaaGreatDoor

end
