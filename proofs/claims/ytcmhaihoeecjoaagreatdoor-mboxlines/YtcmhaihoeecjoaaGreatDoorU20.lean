/- The reader of package dates, whatever the text: a step takes what is in form, or leaves by a panic with ErrForm. -/
/- The reader of package dates, whatever the text: names. -/
import Derived.Test.YtcmhaihoeecjoaaGreatDoorU19
import Derived.Test.YtcmhaihoeecjoaaGreatDoorU11
import Derived.Test.YtcmhaihoeecjoaaGreatDoorShelf
import Derived.Deep.QuietTactic
import Derived.BigQuiet
section
namespace Go.Proofs.YtcmhaihoeecjoaaGreatDoor.Da
open Go.RowKit
theorem hide {p : Prop} (h : p) : Hid p := h
/-- What a reader holds: the rest of the text, the date, the zone. -/
structure RS where
  l : List UInt8
  y : Int
  m : Int
  d : Int
  h : Int
  mi : Int
  s : Int
  wk : Int
  a : Int
def RdS (w : World) (b : Nat) (σ : RS) : Prop := Rd w b σ.l σ.y σ.m σ.d σ.h σ.mi σ.s σ.wk σ.a
def errF (p : Addr) : Value := .iface 167 (.pointer (some p))
/-- The variable of ErrForm, apart from the reader. -/
structure EF (w : World) (b : Nat) (p : Addr) : Prop where
  cell : w.cell? ⟨1, 0, none⟩ = some (.iface 167 (.pointer (some p)))
  ne : 1 ≠ b
  lt : 1 < w.heap.size
theorem EF.mv {w w' : World} {b : Nat} {p : Addr} (h : EF w b p) (hm : Mv b w w') : EF w' b p :=
  ⟨(World.cell?_of_block (hm.block _ h.lt h.ne)).trans h.cell, h.ne, Nat.lt_of_lt_of_le h.lt hm.size⟩
/-- How a step ends: it answers x and the reader holds σ, or it leaves by a panic. -/
def Out (p : Addr) (b : Nat) (w : World) (r : Option (Value × RS)) (e : Ending) (w' : World) : Prop :=
  Mv b w w' ∧ match r with
    | some (x, σ) => e = .returned x ∧ RdS w' b σ
    | none => e = .panicked [{ v := .iface 167 (.pointer (some p)), recovered := false }]
theorem go_panic {fn : Func} {R : Ending → World → Prop} {a : Act} {w : World} {c : List PanicEntry} (hd : a.defers = []) (h : R (.panicked c) w) : bodyPost Tryz.prog fn R (.panic c) a w := by
  simp [bodyPost, hd, h]
theorem refuse_out (w : World) (b : Nat) (p : Addr) (h : EF w b p) : Calls Tryz.prog 109 #[] w fun e w' => e = .panicked [{ v := .iface 167 (.pointer (some p)), recovered := false }] ∧ w' = w := by
  have hc := h.cell
  clear h
  go_enter Tryz.func109, Tryz.ntmps109
  go_wp2
  exact go_panic rfl ⟨rfl, rfl⟩
section
variable (p : Addr) (b : Nat) (w : World) (σ : RS)
/-- The step that takes a digit. -/
def isDig (c : UInt8) : Bool := decide (48 ≤ c.toNat ∧ c.toNat ≤ 57)
def digitF (σ : RS) : Option (Nat × RS) := match σ.l with
  | [] => none
  | c :: r => if isDig c then some (c.toNat - 48, { σ with l := r }) else none
def markF (x : Nat) (σ : RS) : Option RS := match σ.l with
  | [] => none
  | c :: r => if c.toNat = x then some { σ with l := r } else none
/-- The first sign is x. -/
def atF (x : Nat) (σ : RS) : Bool := match σ.l with
  | [] => false
  | c :: _ => decide (c.toNat = x)
def atDigF (σ : RS) : Bool := match σ.l with
  | [] => false
  | c :: _ => isDig c
theorem at_out (x : Nat) (k : RdS w b σ) : Calls Tryz.prog 107 #[.pointer (some ⟨b, 0, none⟩), .int .u8 x] w fun e w' => e = .returned (.bool (atF x σ)) ∧ w' = w := by
  obtain ⟨l, y, m, d, h, mi, s, wk, a⟩ := σ
  cases l with
  | nil => exact at_nil b y m d h mi s wk a w x k
  | cons c r =>
    have := at_any b c r y m d h mi s wk a w x k
    have e : ((c.toNat : Int) == (x : Int)) = atF x ⟨c :: r, y, m, d, h, mi, s, wk, a⟩ := by
      unfold atF
      by_cases hx : c.toNat = x
      · simp [hx]
      · have : ¬ (c.toNat : Int) = x := by omega
        simp [hx, this]
    rw [e] at this
    exact this
set_option maxHeartbeats 1000000 in
theorem atDigit_nil (y m d h mi s wk a : Int) (w : World) (k : Rd w b [] y m d h mi s wk a) :
    Calls Tryz.prog 125 #[.pointer (some ⟨b, 0, none⟩)] w fun e w' => e = .returned (.bool false) ∧ w' = w := by
  have hc := Blk.cell k
  unfold rdr at hc
  clear k
  go_enter Tryz.func125, Tryz.ntmps125
  go_wp2
  go_ret
  exact ⟨rfl, rfl⟩
theorem atDigit_out (k : RdS w b σ) : Calls Tryz.prog 125 #[.pointer (some ⟨b, 0, none⟩)] w fun e w' => e = .returned (.bool (atDigF σ)) ∧ w' = w := by
  obtain ⟨l, y, m, d, h, mi, s, wk, a⟩ := σ
  cases l with
  | nil => exact atDigit_nil b y m d h mi s wk a w k
  | cons c r =>
    by_cases hd : isDig c = true
    · have h2 := hd
      unfold isDig at h2
      simp at h2
      have := atDigit_yes b c r y m d h mi s wk a w k (by omega) (by omega)
      show Calls _ _ _ _ fun e w' => e = .returned (.bool (isDig c)) ∧ w' = w
      rw [hd]
      exact this
    · have h2 : isDig c = false := by simpa using hd
      have h3 := h2
      unfold isDig at h3
      simp at h3
      have := atDigit_no b c r y m d h mi s wk a w k (by omega)
      show Calls _ _ _ _ fun e w' => e = .returned (.bool (isDig c)) ∧ w' = w
      rw [h2]
      exact this
set_option maxHeartbeats 1000000 in
theorem digit_out (hF : EF w b p) (k : RdS w b σ) (hl : σ.l.length ≤ 900) : Calls Tryz.prog 108 #[.pointer (some ⟨b, 0, none⟩)] w fun e w' => Out p b w ((digitF σ).map fun x => (.int .i64 x.1, x.2)) e w' := by
  by_cases hd : atDigF σ = true
  · obtain ⟨l, y, m, d, h, mi, s, wk, a⟩ := σ
    cases l with
    | nil => cases hd
    | cons c r =>
      have h1 : isDig c = true := hd
      have h2 := h1
      unfold isDig at h2
      simp at h2
      have e : c = dg (c.toNat - 48) := by
        apply UInt8.toNat_inj.1
        rw [dg_toNat _ (by omega)]
        omega
      have k' : Rd w b (dg (c.toNat - 48) :: r) y m d h mi s wk a := by
        rw [← e]
        exact k
      refine (digit_ok b r y m d h mi s wk a w (c.toNat - 48) (by omega) k' (by simp at hl; omega)).mono ?_
      rintro e' w' ⟨rfl, hm, hr⟩
      refine ⟨hm, ?_⟩
      unfold digitF
      simp only [h1, if_true, Option.map_some]
      exact ⟨trivial, hr⟩
  · have hd' : atDigF σ = false := by simpa using hd
    have hn : digitF σ = none := by
      unfold digitF atDigF at *
      split
      · rfl
      · next c r hl =>
        rw [hl] at hd'
        simp only at hd'
        rw [hd']
        rfl
    rw [hn]
    have K := hide k
    have HF := hide hF
    have HA : Hid (Calls Tryz.prog 125 #[.pointer (some ⟨b, 0, none⟩)] w fun e w' => e = .returned (.bool false) ∧ w' = w) := by
      have := atDigit_out b w σ k
      rw [hd'] at this
      exact this
    clear k hF
    go_enter Tryz.func108, Tryz.ntmps108
    go_wp2_with fail
    refine HA.out.mono ?_
    rintro e w1 ⟨rfl, rfl⟩
    go_wp2_with fail
    refine (refuse_out _ b p HF.out).mono ?_
    rintro e w1 ⟨rfl, rfl⟩
    exact go_panic rfl ⟨Mv.refl _ _, rfl⟩
set_option maxHeartbeats 1000000 in
theorem mark_out (x : UInt8) (hF : EF w b p) (k : RdS w b σ) (hl : σ.l.length ≤ 900) : Calls Tryz.prog 83 #[.pointer (some ⟨b, 0, none⟩), .int .u8 (x.toNat : Int)] w fun e w' => Out p b w ((markF x.toNat σ).map fun σ' => (.tuple #[], σ')) e w' := by
  by_cases hd : atF x.toNat σ = true
  · obtain ⟨l, y, m, d, h, mi, s, wk, a⟩ := σ
    cases l with
    | nil => cases hd
    | cons c r =>
      have h1 : c.toNat = x.toNat := by
        unfold atF at hd
        simpa using hd
      obtain rfl : c = x := UInt8.toNat_inj.1 h1
      refine (mark_ok b c r y m d h mi s wk a w k (by simp at hl; omega)).mono ?_
      rintro e' w' ⟨rfl, hm, hr⟩
      refine ⟨hm, ?_⟩
      unfold markF
      simp only [if_true, Option.map_some]
      exact ⟨trivial, hr⟩
  · have hd' : atF x.toNat σ = false := by simpa using hd
    have hn : markF x.toNat σ = none := by
      unfold markF atF at *
      split
      · rfl
      · next c r hl =>
        rw [hl] at hd'
        simp only at hd'
        rw [if_neg (of_decide_eq_false hd')]
    rw [hn]
    have HF := hide hF
    have HA : Hid (Calls Tryz.prog 107 #[.pointer (some ⟨b, 0, none⟩), .int .u8 (x.toNat : Int)] w fun e w' => e = .returned (.bool false) ∧ w' = w) := by
      have := at_out b w σ x.toNat k
      rw [hd'] at this
      exact this
    clear k hF
    go_enter Tryz.func83, Tryz.ntmps83
    go_wp2_with fail
    refine HA.out.mono ?_
    rintro e w1 ⟨rfl, rfl⟩
    go_wp2_with fail
    refine (refuse_out _ b p HF.out).mono ?_
    rintro e w1 ⟨rfl, rfl⟩
    exact go_panic rfl ⟨Mv.refl _ _, rfl⟩
/-- n places more. -/
def digitsF : Nat → Nat → RS → Option (Nat × RS)
  | 0, n, σ => some (n, σ)
  | k + 1, n, σ => match digitF σ with
    | none => none
    | some (d, σ') => digitsF k (n * 10 + d) σ'
theorem digitF_lt {σ σ' : RS} {n : Nat} (h : digitF σ = some (n, σ')) : n < 10 ∧ σ'.l.length < σ.l.length := by
  unfold digitF at h
  split at h
  · cases h
  · next c r hl =>
    split at h
    · next hd =>
      cases h
      unfold isDig at hd
      simp at hd
      refine ⟨by omega, ?_⟩
      rw [hl]
      simp
    · cases h
set_option maxRecDepth 20000 in
set_option maxHeartbeats 1000000 in
theorem digits_out (n : Nat) (hn : n ≤ 4) (hF : EF w b p) (k : RdS w b σ) (hl : σ.l.length ≤ 900) : Calls Tryz.prog 110 #[.pointer (some ⟨b, 0, none⟩), .int .i64 n] w fun e w' => Out p b w ((digitsF n 0 σ).map fun x => (.int .i64 x.1, x.2)) e w' := by
  have K := hide k
  have HF := hide hF
  clear k hF
  go_enter Tryz.func110, Tryz.ntmps110
  go_wp2
  go_loopw [5, 7] (fun v i wr => ∃ (j x : Nat) (τ : RS), j ≤ n ∧ i = .int .i64 j ∧ v = .int .i64 x ∧ x < 10 ^ j ∧ Hid (Mv b w wr) ∧ Hid (RdS wr b τ) ∧ Hid (τ.l.length ≤ 900) ∧ Hid (digitsF (n - j) x τ = digitsF n 0 σ)) (fun _ i _ => n - (intOf i).toNat)
  case atStart => exact ⟨0, 0, σ, Nat.zero_le _, rfl, rfl, by omega, Mv.refl _ _, K, hl, rfl⟩
  case round =>
    obtain ⟨j, x, τ, hj, rfl, rfl, hx, HM, HR, HL, HD⟩ := hrel
    have hx4 : x < 10000 := Nat.lt_of_lt_of_le hx (Nat.le_trans (Nat.pow_le_pow_right (by omega) (Nat.le_trans hj hn)) (by omega))
    have HX := hide hx
    clear hx
    by_cases hlt : j < n
    · have hlt' : (j : Int) < n := by omega
      have hs : digitsF (n - j) x τ = match digitF τ with
          | none => none
          | some (d, σ') => digitsF (n - (j + 1)) (x * 10 + d) σ' := by
        rw [show n - j = (n - (j + 1)) + 1 by omega]
        rfl
      cases hd : digitF τ with
      | none =>
        have HN : Hid (digitsF n 0 σ = none) := by
          show _ = _
          rw [← HD.out, hs, hd]
        go_wp2_with fail
        refine (digit_out p b _ τ (HF.out.mv HM.out) HR.out HL.out).mono ?_
        rw [hd]
        rintro e w1 ⟨hm1, rfl⟩
        exact go_panic (fn := Tryz.f110) rfl ⟨HM.out.trans hm1, by rw [HN.out]; rfl⟩
      | some q =>
        obtain ⟨c, τ'⟩ := q
        have hq := digitF_lt hd
        have HS : Hid (digitsF (n - (j + 1)) (x * 10 + c) τ' = digitsF n 0 σ) := by
          show _ = _
          rw [← HD.out, hs, hd]
        have hc10 : c < 10 := hq.1
        have HQ := hide hq.2
        go_wp2_with fail
        refine (digit_out p b _ τ (HF.out.mv HM.out) HR.out HL.out).mono ?_
        rw [hd]
        rintro e w1 ⟨hm1, rfl, hr1⟩
        replace hm1 := hide hm1
        replace hr1 := hide hr1
        clear hd hs hq
        go_wp2
        go_roundw
        case rel => exact ⟨j + 1, x * 10 + c, τ', by omega, by go_num, by go_num, by have := HX.out; rw [Nat.pow_succ]; omega, HM.out.trans hm1.out, hr1, Nat.le_trans (Nat.le_of_lt HQ.out) HL.out, HS⟩
        case measure => simp [intOf]; omega
    · obtain rfl : j = n := by omega
      have hge : ¬ (j : Int) < j := by omega
      have HN : Hid (digitsF j 0 σ = some (x, τ)) := by
        show _ = _
        rw [← HD.out, Nat.sub_self]
        rfl
      go_wp2
      go_ret
      exact ⟨HM.out, by rw [HN.out]; exact ⟨rfl, HR.out⟩⟩
end
end Go.Proofs.YtcmhaihoeecjoaaGreatDoor.Da

end
section
namespace Go.Proofs.YtcmhaihoeecjoaaGreatDoor.Da
open Go.RowKit
/-- Does x begin with p? -/
def isPre (x p : List UInt8) : Bool := Lib.hasPrefix x p
theorem hasPrefix_list (x p : List UInt8) (w : World) : Calls Tryz.prog 90 #[.string ⟨x.toArray⟩, .string ⟨p.toArray⟩] w fun e w' => e = .returned (.bool (isPre x p)) ∧ w' = w := by
  unfold isPre
  simpa using Tryz.strings_HasPrefix ⟨x.toArray⟩ ⟨p.toArray⟩ w
theorem isPre_split {x p : List UInt8} (h : isPre x p = true) : x = p ++ x.drop p.length := by
  unfold isPre Lib.hasPrefix at h
  obtain ⟨t, rfl⟩ := List.isPrefixOf_iff_prefix.1 h
  simp
/-- The first name from the i-th on that l begins with, of k names. -/
def findPre (tab : Nat → List UInt8) (l : List UInt8) : Nat → Nat → Option Nat
  | 0, _ => none
  | k + 1, i => if isPre l (tab i) then some i else findPre tab l k (i + 1)
def monB : List UInt8 := [74, 97, 110, 70, 101, 98, 77, 97, 114, 65, 112, 114, 77, 97, 121, 74, 117, 110, 74, 117, 108, 65, 117, 103, 83, 101, 112, 79, 99, 116, 78, 111, 118, 68, 101, 99]
def wkdB : List UInt8 := [83, 117, 110, 77, 111, 110, 84, 117, 101, 87, 101, 100, 84, 104, 117, 70, 114, 105, 83, 97, 116]
def nameT (names : List UInt8) (j : Nat) : List UInt8 := (names.drop (3 * j)).take 3
/-- The step that takes a name: its place. -/
def nameF (names : List UInt8) (σ : RS) : Option (Nat × RS) := (findPre (nameT names) σ.l (names.length / 3) 0).map fun j => (j, { σ with l := σ.l.drop 3 })
set_option maxHeartbeats 2000000 in
theorem nameAt_mon (k : Nat) (hk : k < 12) (w : World) :
    Calls Tryz.prog 96 #[.string ⟨#[74, 97, 110, 70, 101, 98, 77, 97, 114, 65, 112, 114, 77, 97, 121, 74, 117, 110, 74, 117, 108, 65, 117, 103, 83, 101, 112, 79, 99, 116, 78, 111, 118, 68, 101, 99]⟩, .int .i64 k] w fun e w' => e = .returned (.string ⟨(nameT monB k).toArray⟩) ∧ w' = w := by
  have hm : k = 0 ∨ k = 1 ∨ k = 2 ∨ k = 3 ∨ k = 4 ∨ k = 5 ∨ k = 6 ∨ k = 7 ∨ k = 8 ∨ k = 9 ∨ k = 10 ∨ k = 11 := by omega
  clear hk
  rcases hm with rfl | rfl | rfl | rfl | rfl | rfl | rfl | rfl | rfl | rfl | rfl | rfl
  all_goals
    go_enter Tryz.func96, Tryz.ntmps96
    go_wp2
    go_ret
    exact ⟨by kernel_rfl, rfl⟩
theorem three_mon (j : Nat) (hj : j < 12) : ∃ c0 c1 c2, nameT monB j = [c0, c1, c2] := by
  have hm : j = 0 ∨ j = 1 ∨ j = 2 ∨ j = 3 ∨ j = 4 ∨ j = 5 ∨ j = 6 ∨ j = 7 ∨ j = 8 ∨ j = 9 ∨ j = 10 ∨ j = 11 := by omega
  clear hj
  rcases hm with rfl | rfl | rfl | rfl | rfl | rfl | rfl | rfl | rfl | rfl | rfl | rfl <;> exact ⟨_, _, _, rfl⟩
set_option maxRecDepth 20000 in
set_option maxHeartbeats 1000000 in
theorem name_mon_out (p : Addr) (b : Nat) (w : World) (σ : RS) (hF : EF w b p) (k : RdS w b σ) (hl : σ.l.length ≤ 900) :
    Calls Tryz.prog 112 #[.pointer (some ⟨b, 0, none⟩), .string ⟨#[74, 97, 110, 70, 101, 98, 77, 97, 114, 65, 112, 114, 77, 97, 121, 74, 117, 110, 74, 117, 108, 65, 117, 103, 83, 101, 112, 79, 99, 116, 78, 111, 118, 68, 101, 99]⟩] w fun e w' => Out p b w ((nameF monB σ).map fun x => (.int .i64 x.1, x.2)) e w' := by
  have K := hide k
  have HF := hide hF
  clear k hF
  have HNF : Hid (nameF monB σ = (findPre (nameT monB) σ.l 12 0).map fun j => (j, { σ with l := σ.l.drop 3 })) := rfl
  go_enter Tryz.func112, Tryz.ntmps112
  go_wp2
  go_loopw [9] (fun v wr => ∃ i : Nat, i ≤ 12 ∧ v = .int .i64 i ∧ Hid (Mv b w wr) ∧ Hid (RdS wr b σ) ∧ Hid (findPre (nameT monB) σ.l (12 - i) i = findPre (nameT monB) σ.l 12 0)) (fun v _ => 12 - (intOf v).toNat)
  case atStart => exact ⟨0, Nat.zero_le _, rfl, Mv.refl _ _, K, rfl⟩
  case round =>
    obtain ⟨i, hi, rfl, HM, HK, HP⟩ := hrel
    by_cases hlt : i < 12
    · have hlt' : (i : Int) < 12 := by omega
      have hs : findPre (nameT monB) σ.l (12 - i) i = if isPre σ.l (nameT monB i) then some i else findPre (nameT monB) σ.l (12 - (i + 1)) (i + 1) := by
        rw [show 12 - i = (12 - (i + 1)) + 1 by omega]
        rfl
      have hc0 := Blk.cell HK.out
      unfold rdr at hc0
      have hz := Blk.lt HK.out
      have hn := ext_some wr
      have hc := ext_cell wr
      cases hp : isPre σ.l (nameT monB i) with
      | true =>
        have HN : Hid (nameF monB σ = some (i, { σ with l := σ.l.drop 3 })) := by
          show _ = _
          rw [HNF.out, ← HP.out, hs, hp]
          rfl
        obtain ⟨c0, c1, c2, e3⟩ := three_mon i hlt
        have hsp := isPre_split hp
        rw [e3] at hsp
        have HSP : Hid (σ.l = c0 :: c1 :: c2 :: σ.l.drop 3) := hsp
        clear hs hsp e3
        go_wp2
        refine wp_region_ext (by kernel_rfl) (by kernel_rfl) ?_
        repeat (go_big_quiet_step (first | (go_at_call 96; exact ext_same (nameAt_mon i hlt _)) | (go_at_call 90; exact ext_same (hasPrefix_list _ _ _))))
        refine wpQuiet_nil ?_
        rintro w1 ⟨⟨_, hb1⟩, rfl⟩
        have HM1 : Hid (Mv b w w1) := HM.out.trans (Mv.of_below hb1)
        have HK1 : Hid (Rd w1 b (c0 :: c1 :: c2 :: σ.l.drop 3) σ.y σ.m σ.d σ.h σ.mi σ.s σ.wk σ.a) := by
          have := Blk.below HK.out hb1 hz
          rw [HSP.out] at this
          exact this
        clear hn hc hc0 hb1
        simp only [hp]
        clear hp
        go_wp2_with (go_at_call 111; refine (skip3 b c0 (σ.l.drop 3) σ.y σ.m σ.d σ.h σ.mi σ.s σ.wk σ.a _ c1 c2 HK1.out (by rw [List.length_drop]; omega)).mono ?_; rintro e w2 ⟨rfl, hm2, hr2⟩)
        go_ret
        exact ⟨HM1.out.trans hm2, by rw [HN.out]; exact ⟨rfl, hr2⟩⟩
      | false =>
        have HP2 : Hid (findPre (nameT monB) σ.l (12 - (i + 1)) (i + 1) = findPre (nameT monB) σ.l 12 0) := by
          show _ = _
          rw [← HP.out, hs, hp]
          rfl
        clear hs
        go_wp2
        refine wp_region_ext (by kernel_rfl) (by kernel_rfl) ?_
        repeat (go_big_quiet_step (first | (go_at_call 96; exact ext_same (nameAt_mon i hlt _)) | (go_at_call 90; exact ext_same (hasPrefix_list _ _ _))))
        refine wpQuiet_nil ?_
        rintro w1 ⟨⟨_, hb1⟩, rfl⟩
        have HM1 : Hid (Mv b w w1) := HM.out.trans (Mv.of_below hb1)
        have HK1 : Hid (RdS w1 b σ) := Blk.below HK.out hb1 hz
        clear hn hc hc0 hb1
        simp only [hp]
        clear hp
        go_wp2
        go_roundw
        case rel => exact ⟨i + 1, by omega, by go_num, HM1, HK1, HP2⟩
        case measure => simp [intOf]; omega
    · obtain rfl : i = 12 := by omega
      have HN : Hid (nameF monB σ = none) := by
        show _ = _
        rw [HNF.out, ← HP.out]
        rfl
      go_wp2_with fail
      refine (refuse_out _ b p (HF.out.mv HM.out)).mono ?_
      rintro e w1 ⟨rfl, rfl⟩
      exact go_panic (fn := Tryz.f112) rfl ⟨HM.out, by rw [HN.out]; rfl⟩
set_option maxHeartbeats 2000000 in
theorem nameAt_wkd (k : Nat) (hk : k < 7) (w : World) :
    Calls Tryz.prog 96 #[.string ⟨#[83, 117, 110, 77, 111, 110, 84, 117, 101, 87, 101, 100, 84, 104, 117, 70, 114, 105, 83, 97, 116]⟩, .int .i64 k] w fun e w' => e = .returned (.string ⟨(nameT wkdB k).toArray⟩) ∧ w' = w := by
  have hm : k = 0 ∨ k = 1 ∨ k = 2 ∨ k = 3 ∨ k = 4 ∨ k = 5 ∨ k = 6 := by omega
  clear hk
  rcases hm with rfl | rfl | rfl | rfl | rfl | rfl | rfl
  all_goals
    go_enter Tryz.func96, Tryz.ntmps96
    go_wp2
    go_ret
    exact ⟨by kernel_rfl, rfl⟩
theorem three_wkd (j : Nat) (hj : j < 7) : ∃ c0 c1 c2, nameT wkdB j = [c0, c1, c2] := by
  have hm : j = 0 ∨ j = 1 ∨ j = 2 ∨ j = 3 ∨ j = 4 ∨ j = 5 ∨ j = 6 := by omega
  clear hj
  rcases hm with rfl | rfl | rfl | rfl | rfl | rfl | rfl <;> exact ⟨_, _, _, rfl⟩
set_option maxRecDepth 20000 in
set_option maxHeartbeats 1000000 in
theorem name_wkd_out (p : Addr) (b : Nat) (w : World) (σ : RS) (hF : EF w b p) (k : RdS w b σ) (hl : σ.l.length ≤ 900) :
    Calls Tryz.prog 112 #[.pointer (some ⟨b, 0, none⟩), .string ⟨#[83, 117, 110, 77, 111, 110, 84, 117, 101, 87, 101, 100, 84, 104, 117, 70, 114, 105, 83, 97, 116]⟩] w fun e w' => Out p b w ((nameF wkdB σ).map fun x => (.int .i64 x.1, x.2)) e w' := by
  have K := hide k
  have HF := hide hF
  clear k hF
  have HNF : Hid (nameF wkdB σ = (findPre (nameT wkdB) σ.l 7 0).map fun j => (j, { σ with l := σ.l.drop 3 })) := rfl
  go_enter Tryz.func112, Tryz.ntmps112
  go_wp2
  go_loopw [9] (fun v wr => ∃ i : Nat, i ≤ 7 ∧ v = .int .i64 i ∧ Hid (Mv b w wr) ∧ Hid (RdS wr b σ) ∧ Hid (findPre (nameT wkdB) σ.l (7 - i) i = findPre (nameT wkdB) σ.l 7 0)) (fun v _ => 7 - (intOf v).toNat)
  case atStart => exact ⟨0, Nat.zero_le _, rfl, Mv.refl _ _, K, rfl⟩
  case round =>
    obtain ⟨i, hi, rfl, HM, HK, HP⟩ := hrel
    by_cases hlt : i < 7
    · have hlt' : (i : Int) < 7 := by omega
      have hs : findPre (nameT wkdB) σ.l (7 - i) i = if isPre σ.l (nameT wkdB i) then some i else findPre (nameT wkdB) σ.l (7 - (i + 1)) (i + 1) := by
        rw [show 7 - i = (7 - (i + 1)) + 1 by omega]
        rfl
      have hc0 := Blk.cell HK.out
      unfold rdr at hc0
      have hz := Blk.lt HK.out
      have hn := ext_some wr
      have hc := ext_cell wr
      cases hp : isPre σ.l (nameT wkdB i) with
      | true =>
        have HN : Hid (nameF wkdB σ = some (i, { σ with l := σ.l.drop 3 })) := by
          show _ = _
          rw [HNF.out, ← HP.out, hs, hp]
          rfl
        obtain ⟨c0, c1, c2, e3⟩ := three_wkd i hlt
        have hsp := isPre_split hp
        rw [e3] at hsp
        have HSP : Hid (σ.l = c0 :: c1 :: c2 :: σ.l.drop 3) := hsp
        clear hs hsp e3
        go_wp2
        refine wp_region_ext (by kernel_rfl) (by kernel_rfl) ?_
        repeat (go_big_quiet_step (first | (go_at_call 96; exact ext_same (nameAt_wkd i hlt _)) | (go_at_call 90; exact ext_same (hasPrefix_list _ _ _))))
        refine wpQuiet_nil ?_
        rintro w1 ⟨⟨_, hb1⟩, rfl⟩
        have HM1 : Hid (Mv b w w1) := HM.out.trans (Mv.of_below hb1)
        have HK1 : Hid (Rd w1 b (c0 :: c1 :: c2 :: σ.l.drop 3) σ.y σ.m σ.d σ.h σ.mi σ.s σ.wk σ.a) := by
          have := Blk.below HK.out hb1 hz
          rw [HSP.out] at this
          exact this
        clear hn hc hc0 hb1
        simp only [hp]
        clear hp
        go_wp2_with (go_at_call 111; refine (skip3 b c0 (σ.l.drop 3) σ.y σ.m σ.d σ.h σ.mi σ.s σ.wk σ.a _ c1 c2 HK1.out (by rw [List.length_drop]; omega)).mono ?_; rintro e w2 ⟨rfl, hm2, hr2⟩)
        go_ret
        exact ⟨HM1.out.trans hm2, by rw [HN.out]; exact ⟨rfl, hr2⟩⟩
      | false =>
        have HP2 : Hid (findPre (nameT wkdB) σ.l (7 - (i + 1)) (i + 1) = findPre (nameT wkdB) σ.l 7 0) := by
          show _ = _
          rw [← HP.out, hs, hp]
          rfl
        clear hs
        go_wp2
        refine wp_region_ext (by kernel_rfl) (by kernel_rfl) ?_
        repeat (go_big_quiet_step (first | (go_at_call 96; exact ext_same (nameAt_wkd i hlt _)) | (go_at_call 90; exact ext_same (hasPrefix_list _ _ _))))
        refine wpQuiet_nil ?_
        rintro w1 ⟨⟨_, hb1⟩, rfl⟩
        have HM1 : Hid (Mv b w w1) := HM.out.trans (Mv.of_below hb1)
        have HK1 : Hid (RdS w1 b σ) := Blk.below HK.out hb1 hz
        clear hn hc hc0 hb1
        simp only [hp]
        clear hp
        go_wp2
        go_roundw
        case rel => exact ⟨i + 1, by omega, by go_num, HM1, HK1, HP2⟩
        case measure => simp [intOf]; omega
    · obtain rfl : i = 7 := by omega
      have HN : Hid (nameF wkdB σ = none) := by
        show _ = _
        rw [HNF.out, ← HP.out]
        rfl
      go_wp2_with fail
      refine (refuse_out _ b p (HF.out.mv HM.out)).mono ?_
      rintro e w1 ⟨rfl, rfl⟩
      exact go_panic (fn := Tryz.f112) rfl ⟨HM.out, by rw [HN.out]; rfl⟩
end Go.Proofs.YtcmhaihoeecjoaaGreatDoor.Da

end
