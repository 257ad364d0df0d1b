/- The reader of package dates, whatever the text: a step takes what is in form, or leaves by a panic with ErrForm. -/
import Derived.Test.YtabncmepkoiheaaDoorRd1
namespace Go.Proofs.YtabncmepkoiheaaDoor
open Go.RowKit
theorem hide {p : Prop} (h : p) : Hid p := h
/-- What a reader holds: the rest of the text, the date, the zone. -/
structure RS where
  l : List UInt8
  y : Int
  m : Int
  d : Int
  h : Int
  mi : Int
  s : Int
  wk : Int
  a : Int
def RdS (w : World) (b : Nat) (σ : RS) : Prop := Rd w b σ.l σ.y σ.m σ.d σ.h σ.mi σ.s σ.wk σ.a
def errF (p : Addr) : Value := .iface 79 (.pointer (some p))
/-- The variable of ErrForm, apart from the reader. -/
structure EF (w : World) (b : Nat) (p : Addr) : Prop where
  cell : w.cell? ⟨1, 0, none⟩ = some (.iface 79 (.pointer (some p)))
  ne : 1 ≠ b
  lt : 1 < w.heap.size
theorem EF.mv {w w' : World} {b : Nat} {p : Addr} (h : EF w b p) (hm : Mv b w w') : EF w' b p :=
  ⟨(World.cell?_of_block (hm.block _ h.lt h.ne)).trans h.cell, h.ne, Nat.lt_of_lt_of_le h.lt hm.size⟩
/-- How a step ends: it answers x and the reader holds σ, or it leaves by a panic. -/
def Out (p : Addr) (b : Nat) (w : World) (r : Option (Value × RS)) (e : Ending) (w' : World) : Prop :=
  Mv b w w' ∧ match r with
    | some (x, σ) => e = .returned x ∧ RdS w' b σ
    | none => e = .panicked [{ v := .iface 79 (.pointer (some p)), recovered := false }]
theorem go_panic {fn : Func} {R : Ending → World → Prop} {a : Act} {w : World} {c : List PanicEntry} (hd : a.defers = []) (h : R (.panicked c) w) : bodyPost Tryd.prog fn R (.panic c) a w := by
  simp [bodyPost, hd, h]
theorem refuse_out (w : World) (b : Nat) (p : Addr) (h : EF w b p) : Calls Tryd.prog 45 #[] w fun e w' => e = .panicked [{ v := .iface 79 (.pointer (some p)), recovered := false }] ∧ w' = w := by
  have hc := h.cell
  clear h
  go_enter Tryd.func45, Tryd.ntmps45
  go_wp2
  exact go_panic rfl ⟨rfl, rfl⟩
section
variable (p : Addr) (b : Nat) (w : World) (σ : RS)
/-- The step that takes a digit. -/
def isDig (c : UInt8) : Bool := decide (48 ≤ c.toNat ∧ c.toNat ≤ 57)
def digitF (σ : RS) : Option (Nat × RS) := match σ.l with
  | [] => none
  | c :: r => if isDig c then some (c.toNat - 48, { σ with l := r }) else none
def markF (x : Nat) (σ : RS) : Option RS := match σ.l with
  | [] => none
  | c :: r => if c.toNat = x then some { σ with l := r } else none
/-- The first sign is x. -/
def atF (x : Nat) (σ : RS) : Bool := match σ.l with
  | [] => false
  | c :: _ => decide (c.toNat = x)
def atDigF (σ : RS) : Bool := match σ.l with
  | [] => false
  | c :: _ => isDig c
theorem at_out (x : Nat) (k : RdS w b σ) : Calls Tryd.prog 37 #[.pointer (some ⟨b, 0, none⟩), .int .u8 x] w fun e w' => e = .returned (.bool (atF x σ)) ∧ w' = w := by
  obtain ⟨l, y, m, d, h, mi, s, wk, a⟩ := σ
  cases l with
  | nil => exact at_nil b y m d h mi s wk a w x k
  | cons c r =>
    have := at_any b c r y m d h mi s wk a w x k
    have e : ((c.toNat : Int) == (x : Int)) = atF x ⟨c :: r, y, m, d, h, mi, s, wk, a⟩ := by
      unfold atF
      by_cases hx : c.toNat = x
      · simp [hx]
      · have : ¬ (c.toNat : Int) = x := by omega
        simp [hx, this]
    rw [e] at this
    exact this
set_option maxHeartbeats 1000000 in
theorem atDigit_nil (y m d h mi s wk a : Int) (w : World) (k : Rd w b [] y m d h mi s wk a) :
    Calls Tryd.prog 34 #[.pointer (some ⟨b, 0, none⟩)] w fun e w' => e = .returned (.bool false) ∧ w' = w := by
  have hc := Blk.cell k
  unfold rdr at hc
  clear k
  go_enter Tryd.func34, Tryd.ntmps34
  go_wp2
  go_ret
  exact ⟨rfl, rfl⟩
theorem atDigit_out (k : RdS w b σ) : Calls Tryd.prog 34 #[.pointer (some ⟨b, 0, none⟩)] w fun e w' => e = .returned (.bool (atDigF σ)) ∧ w' = w := by
  obtain ⟨l, y, m, d, h, mi, s, wk, a⟩ := σ
  cases l with
  | nil => exact atDigit_nil b y m d h mi s wk a w k
  | cons c r =>
    by_cases hd : isDig c = true
    · have h2 := hd
      unfold isDig at h2
      simp at h2
      have := atDigit_yes b c r y m d h mi s wk a w k (by omega) (by omega)
      show Calls _ _ _ _ fun e w' => e = .returned (.bool (isDig c)) ∧ w' = w
      rw [hd]
      exact this
    · have h2 : isDig c = false := by simpa using hd
      have h3 := h2
      unfold isDig at h3
      simp at h3
      have := atDigit_no b c r y m d h mi s wk a w k (by omega)
      show Calls _ _ _ _ fun e w' => e = .returned (.bool (isDig c)) ∧ w' = w
      rw [h2]
      exact this
set_option maxHeartbeats 1000000 in
theorem digit_out (hF : EF w b p) (k : RdS w b σ) (hl : σ.l.length ≤ 900) : Calls Tryd.prog 44 #[.pointer (some ⟨b, 0, none⟩)] w fun e w' => Out p b w ((digitF σ).map fun x => (.int .i64 x.1, x.2)) e w' := by
  by_cases hd : atDigF σ = true
  · obtain ⟨l, y, m, d, h, mi, s, wk, a⟩ := σ
    cases l with
    | nil => cases hd
    | cons c r =>
      have h1 : isDig c = true := hd
      have h2 := h1
      unfold isDig at h2
      simp at h2
      have e : c = dg (c.toNat - 48) := by
        apply UInt8.toNat_inj.1
        rw [dg_toNat _ (by omega)]
        omega
      have k' : Rd w b (dg (c.toNat - 48) :: r) y m d h mi s wk a := by
        rw [← e]
        exact k
      refine (digit_ok b r y m d h mi s wk a w (c.toNat - 48) (by omega) k' (by simp at hl; omega)).mono ?_
      rintro e' w' ⟨rfl, hm, hr⟩
      refine ⟨hm, ?_⟩
      unfold digitF
      simp only [h1, if_true, Option.map_some]
      exact ⟨trivial, hr⟩
  · have hd' : atDigF σ = false := by simpa using hd
    have hn : digitF σ = none := by
      unfold digitF atDigF at *
      split
      · rfl
      · next c r hl =>
        rw [hl] at hd'
        simp only at hd'
        rw [hd']
        rfl
    rw [hn]
    have K := hide k
    have HF := hide hF
    have HA : Hid (Calls Tryd.prog 34 #[.pointer (some ⟨b, 0, none⟩)] w fun e w' => e = .returned (.bool false) ∧ w' = w) := by
      have := atDigit_out b w σ k
      rw [hd'] at this
      exact this
    clear k hF
    go_enter Tryd.func44, Tryd.ntmps44
    go_wp2_with fail
    refine HA.out.mono ?_
    rintro e w1 ⟨rfl, rfl⟩
    go_wp2_with fail
    refine (refuse_out _ b p HF.out).mono ?_
    rintro e w1 ⟨rfl, rfl⟩
    exact go_panic rfl ⟨Mv.refl _ _, rfl⟩
set_option maxHeartbeats 1000000 in
theorem mark_out (x : UInt8) (hF : EF w b p) (k : RdS w b σ) (hl : σ.l.length ≤ 900) : Calls Tryd.prog 18 #[.pointer (some ⟨b, 0, none⟩), .int .u8 (x.toNat : Int)] w fun e w' => Out p b w ((markF x.toNat σ).map fun σ' => (.tuple #[], σ')) e w' := by
  by_cases hd : atF x.toNat σ = true
  · obtain ⟨l, y, m, d, h, mi, s, wk, a⟩ := σ
    cases l with
    | nil => cases hd
    | cons c r =>
      have h1 : c.toNat = x.toNat := by
        unfold atF at hd
        simpa using hd
      obtain rfl : c = x := UInt8.toNat_inj.1 h1
      refine (mark_ok b c r y m d h mi s wk a w k (by simp at hl; omega)).mono ?_
      rintro e' w' ⟨rfl, hm, hr⟩
      refine ⟨hm, ?_⟩
      unfold markF
      simp only [if_true, Option.map_some]
      exact ⟨trivial, hr⟩
  · have hd' : atF x.toNat σ = false := by simpa using hd
    have hn : markF x.toNat σ = none := by
      unfold markF atF at *
      split
      · rfl
      · next c r hl =>
        rw [hl] at hd'
        simp only at hd'
        rw [if_neg (of_decide_eq_false hd')]
    rw [hn]
    have HF := hide hF
    have HA : Hid (Calls Tryd.prog 37 #[.pointer (some ⟨b, 0, none⟩), .int .u8 (x.toNat : Int)] w fun e w' => e = .returned (.bool false) ∧ w' = w) := by
      have := at_out b w σ x.toNat k
      rw [hd'] at this
      exact this
    clear k hF
    go_enter Tryd.func18, Tryd.ntmps18
    go_wp2_with fail
    refine HA.out.mono ?_
    rintro e w1 ⟨rfl, rfl⟩
    go_wp2_with fail
    refine (refuse_out _ b p HF.out).mono ?_
    rintro e w1 ⟨rfl, rfl⟩
    exact go_panic rfl ⟨Mv.refl _ _, rfl⟩
/-- n places more. -/
def digitsF : Nat → Nat → RS → Option (Nat × RS)
  | 0, n, σ => some (n, σ)
  | k + 1, n, σ => match digitF σ with
    | none => none
    | some (d, σ') => digitsF k (n * 10 + d) σ'
theorem digitF_lt {σ σ' : RS} {n : Nat} (h : digitF σ = some (n, σ')) : n < 10 ∧ σ'.l.length < σ.l.length := by
  unfold digitF at h
  split at h
  · cases h
  · next c r hl =>
    split at h
    · next hd =>
      cases h
      unfold isDig at hd
      simp at hd
      refine ⟨by omega, ?_⟩
      rw [hl]
      simp
    · cases h
set_option maxRecDepth 20000 in
set_option maxHeartbeats 1000000 in
theorem digits_out (n : Nat) (hn : n ≤ 4) (hF : EF w b p) (k : RdS w b σ) (hl : σ.l.length ≤ 900) : Calls Tryd.prog 46 #[.pointer (some ⟨b, 0, none⟩), .int .i64 n] w fun e w' => Out p b w ((digitsF n 0 σ).map fun x => (.int .i64 x.1, x.2)) e w' := by
  have K := hide k
  have HF := hide hF
  clear k hF
  go_enter Tryd.func46, Tryd.ntmps46
  go_wp2
  go_loopw [5, 7] (fun v i wr => ∃ (j x : Nat) (τ : RS), j ≤ n ∧ i = .int .i64 j ∧ v = .int .i64 x ∧ x < 10 ^ j ∧ Hid (Mv b w wr) ∧ Hid (RdS wr b τ) ∧ Hid (τ.l.length ≤ 900) ∧ Hid (digitsF (n - j) x τ = digitsF n 0 σ)) (fun _ i _ => n - (intOf i).toNat)
  case atStart => exact ⟨0, 0, σ, Nat.zero_le _, rfl, rfl, by omega, Mv.refl _ _, K, hl, rfl⟩
  case round =>
    obtain ⟨j, x, τ, hj, rfl, rfl, hx, HM, HR, HL, HD⟩ := hrel
    have hx4 : x < 10000 := Nat.lt_of_lt_of_le hx (Nat.le_trans (Nat.pow_le_pow_right (by omega) (Nat.le_trans hj hn)) (by omega))
    have HX := hide hx
    clear hx
    by_cases hlt : j < n
    · have hlt' : (j : Int) < n := by omega
      have hs : digitsF (n - j) x τ = match digitF τ with
          | none => none
          | some (d, σ') => digitsF (n - (j + 1)) (x * 10 + d) σ' := by
        rw [show n - j = (n - (j + 1)) + 1 by omega]
        rfl
      cases hd : digitF τ with
      | none =>
        have HN : Hid (digitsF n 0 σ = none) := by
          show _ = _
          rw [← HD.out, hs, hd]
        go_wp2_with fail
        refine (digit_out p b _ τ (HF.out.mv HM.out) HR.out HL.out).mono ?_
        rw [hd]
        rintro e w1 ⟨hm1, rfl⟩
        exact go_panic (fn := Tryd.f46) rfl ⟨HM.out.trans hm1, by rw [HN.out]; rfl⟩
      | some q =>
        obtain ⟨c, τ'⟩ := q
        have hq := digitF_lt hd
        have HS : Hid (digitsF (n - (j + 1)) (x * 10 + c) τ' = digitsF n 0 σ) := by
          show _ = _
          rw [← HD.out, hs, hd]
        have hc10 : c < 10 := hq.1
        have HQ := hide hq.2
        go_wp2_with fail
        refine (digit_out p b _ τ (HF.out.mv HM.out) HR.out HL.out).mono ?_
        rw [hd]
        rintro e w1 ⟨hm1, rfl, hr1⟩
        replace hm1 := hide hm1
        replace hr1 := hide hr1
        clear hd hs hq
        go_wp2
        go_roundw
        case rel => exact ⟨j + 1, x * 10 + c, τ', by omega, by go_num, by go_num, by have := HX.out; rw [Nat.pow_succ]; omega, HM.out.trans hm1.out, hr1, Nat.le_trans (Nat.le_of_lt HQ.out) HL.out, HS⟩
        case measure => simp [intOf]; omega
    · obtain rfl : j = n := by omega
      have hge : ¬ (j : Int) < j := by omega
      have HN : Hid (digitsF j 0 σ = some (x, τ)) := by
        show _ = _
        rw [← HD.out, Nat.sub_self]
        rfl
      go_wp2
      go_ret
      exact ⟨HM.out, by rw [HN.out]; exact ⟨rfl, HR.out⟩⟩
end
end Go.Proofs.YtabncmepkoiheaaDoor
