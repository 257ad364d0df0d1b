/- The reader of package dates, whatever the text: month, year, hour and minute, second. -/
/- The reader of package dates, whatever the text: blanks, the end, the zone. -/
import Derived.Test.YtcmhaihoeecjoaaGreatDoorU20
section
namespace Go.Proofs.YtcmhaihoeecjoaaGreatDoor.Da
open Go.RowKit
theorem digitsF_len : ∀ {k n : Nat} {σ σ' : RS} {x : Nat}, digitsF k n σ = some (x, σ') → σ'.l.length ≤ σ.l.length ∧ x < (n + 1) * 10 ^ k
  | 0, n, σ, σ', x, h => by
    cases h
    simp
  | k + 1, n, σ, σ', x, h => by
    unfold digitsF at h
    split at h
    · cases h
    · next d τ hd =>
      have h1 := digitF_lt hd
      have h2 := digitsF_len h
      refine ⟨by omega, ?_⟩
      have h3 : (n * 10 + d + 1) * 10 ^ k ≤ ((n + 1) * 10) * 10 ^ k := Nat.mul_le_mul_right _ (by omega)
      rw [Nat.pow_succ, Nat.mul_comm (10 ^ k) 10, ← Nat.mul_assoc]
      omega
theorem findPre_lt {tab : Nat → List UInt8} {l : List UInt8} : ∀ {k i j : Nat}, findPre tab l k i = some j → j < i + k
  | 0, _, _, h => by cases h
  | k + 1, i, j, h => by
    unfold findPre at h
    split at h
    · cases h
      omega
    · have := findPre_lt h
      omega
theorem nameF_len {B : List UInt8} {σ σ' : RS} {x : Nat} (h : nameF B σ = some (x, σ')) : σ'.l.length ≤ σ.l.length ∧ x < B.length / 3 := by
  unfold nameF at h
  obtain ⟨j, hj, h2⟩ := Option.map_eq_some_iff.1 h
  cases h2
  have := findPre_lt hj
  refine ⟨by simp, by omega⟩
theorem markF_len {x : Nat} {σ σ' : RS} (h : markF x σ = some σ') : σ'.l.length ≤ σ.l.length := by
  unfold markF at h
  split at h
  · cases h
  · next c r hl =>
    split at h
    · cases h
      rw [hl]
      simp
    · cases h
def monthF (σ : RS) : Option RS := (nameF monB σ).map fun x => { x.2 with m := (x.1 : Int) + 1 }
def yearF (σ : RS) : Option RS := (digitsF 4 0 σ).map fun x => { x.2 with y := x.1 }
def hourF (σ : RS) : Option RS := (digitsF 2 0 σ).map fun x => { x.2 with h := x.1 }
def minF (σ : RS) : Option RS := (digitsF 2 0 σ).map fun x => { x.2 with mi := x.1 }
def secF (σ : RS) : Option RS := (digitsF 2 0 σ).map fun x => { x.2 with s := x.1 }
def hmF (σ : RS) : Option RS := (hourF σ).bind fun σ => (markF 58 σ).bind minF
def secondF (σ : RS) : Option RS := (markF 58 σ).bind secF
/-- How a step that answers nothing ends. -/
def OutN (p : Addr) (b : Nat) (w : World) (r : Option RS) (e : Ending) (w' : World) : Prop := Out p b w (r.map fun σ => (.tuple #[], σ)) e w'
theorem OutN.no {p : Addr} {b : Nat} {w w' : World} {r : Option RS} (hm : Mv b w w') (h : r = none) : OutN p b w r (.panicked [{ v := .iface 167 (.pointer (some p)), recovered := false }]) w' := by
  subst h
  exact ⟨hm, rfl⟩
theorem OutN.yes {p : Addr} {b : Nat} {w w' : World} {r : Option RS} {τ : RS} (hm : Mv b w w') (h : r = some τ) (hr : RdS w' b τ) : OutN p b w r (.returned (.tuple #[])) w' := by
  subst h
  exact ⟨hm, rfl, hr⟩
section
variable (p : Addr) (b : Nat) (w : World) (σ : RS)
set_option linter.unusedSimpArgs false in
set_option maxHeartbeats 1000000 in
theorem month_out (hF : EF w b p) (k : RdS w b σ) (hl : σ.l.length ≤ 900) : Calls Tryz.prog 84 #[.pointer (some ⟨b, 0, none⟩)] w fun e w' => OutN p b w (monthF σ) e w' := by
  have HR0 := hide k
  have HF0 := hide hF
  have HM0 := hide (Mv.refl b w)
  have HL0 := hide hl
  clear k hF hl
  go_enter Tryz.func84, Tryz.ntmps84
  go_wp2_with fail
  refine (name_mon_out p b _ σ HF0.out HR0.out HL0.out).mono ?_
  cases hd0 : nameF monB σ with
  | none =>
    rintro e w1 ⟨hm1, rfl⟩
    exact go_panic (fn := Tryz.f84) rfl (OutN.no (HM0.out.trans hm1) (by simp [monthF, hd0]))
  | some q0 =>
    obtain ⟨x0, τ0⟩ := q0
    have hx0 : x0 < 12 := (nameF_len hd0).2
    have HT0 := hide (Nat.le_trans ((nameF_len hd0).1) HL0.out)
    rintro e w1 ⟨hm1, rfl, hr1⟩
    have HE0 := hide hd0
    have hc1 := Blk.cell hr1
    have hf1 := Blk.frozen hr1
    unfold rdr at hc1
    have HM0' := hide (HM0.out.trans hm1)
    have HF0' := hide (HF0.out.mv hm1)
    have HR0' := hide hr1
    clear hd0 hm1 hr1
    have HM1 := hide (HM0'.out.setCell 2 (.int .i64 ((x0 : Int) + 1)))
    have HF1 := hide (HF0'.out.mv ((Mv.refl b w1).setCell 2 (.int .i64 ((x0 : Int) + 1))))
    have HR1 : Hid (RdS (w1.setCell ⟨b, 2, none⟩ (.int .i64 ((x0 : Int) + 1))) b { τ0 with m := (x0 : Int) + 1 }) := Blk.set HR0'.out 2 (.int .i64 ((x0 : Int) + 1))
    have HL1 : Hid (({ τ0 with m := (x0 : Int) + 1 } : RS).l.length ≤ 900) := HT0
    go_wp2
    go_end0
    exact OutN.yes HM1.out (by simp [monthF, HE0.out]) HR1.out
set_option linter.unusedSimpArgs false in
set_option maxHeartbeats 1000000 in
theorem year_out (hF : EF w b p) (k : RdS w b σ) (hl : σ.l.length ≤ 900) : Calls Tryz.prog 85 #[.pointer (some ⟨b, 0, none⟩)] w fun e w' => OutN p b w (yearF σ) e w' := by
  have HR0 := hide k
  have HF0 := hide hF
  have HM0 := hide (Mv.refl b w)
  have HL0 := hide hl
  clear k hF hl
  go_enter Tryz.func85, Tryz.ntmps85
  go_wp2_with fail
  refine (digits_out p b _ σ 4 (by decide) HF0.out HR0.out HL0.out).mono ?_
  cases hd0 : digitsF 4 0 σ with
  | none =>
    rintro e w1 ⟨hm1, rfl⟩
    exact go_panic (fn := Tryz.f85) rfl (OutN.no (HM0.out.trans hm1) (by simp [yearF, hd0]))
  | some q0 =>
    obtain ⟨x0, τ0⟩ := q0
    have hx0 : x0 < 10000 := (digitsF_len hd0).2
    have HT0 := hide (Nat.le_trans ((digitsF_len hd0).1) HL0.out)
    rintro e w1 ⟨hm1, rfl, hr1⟩
    have HE0 := hide hd0
    have hc1 := Blk.cell hr1
    have hf1 := Blk.frozen hr1
    unfold rdr at hc1
    have HM0' := hide (HM0.out.trans hm1)
    have HF0' := hide (HF0.out.mv hm1)
    have HR0' := hide hr1
    clear hd0 hm1 hr1
    have HM1 := hide (HM0'.out.setCell 1 (.int .i64 ((x0 : Int))))
    have HF1 := hide (HF0'.out.mv ((Mv.refl b w1).setCell 1 (.int .i64 ((x0 : Int)))))
    have HR1 : Hid (RdS (w1.setCell ⟨b, 1, none⟩ (.int .i64 ((x0 : Int)))) b { τ0 with y := (x0 : Int) }) := Blk.set HR0'.out 1 (.int .i64 ((x0 : Int)))
    have HL1 : Hid (({ τ0 with y := (x0 : Int) } : RS).l.length ≤ 900) := HT0
    go_wp2
    go_end0
    exact OutN.yes HM1.out (by simp [yearF, HE0.out]) HR1.out
set_option linter.unusedSimpArgs false in
set_option maxHeartbeats 1000000 in
theorem hourAndMinute_out (hF : EF w b p) (k : RdS w b σ) (hl : σ.l.length ≤ 900) : Calls Tryz.prog 86 #[.pointer (some ⟨b, 0, none⟩)] w fun e w' => OutN p b w (hmF σ) e w' := by
  have HR0 := hide k
  have HF0 := hide hF
  have HM0 := hide (Mv.refl b w)
  have HL0 := hide hl
  clear k hF hl
  go_enter Tryz.func86, Tryz.ntmps86
  go_wp2_with fail
  refine (digits_out p b _ σ 2 (by decide) HF0.out HR0.out HL0.out).mono ?_
  cases hd0 : digitsF 2 0 σ with
  | none =>
    rintro e w1 ⟨hm1, rfl⟩
    exact go_panic (fn := Tryz.f86) rfl (OutN.no (HM0.out.trans hm1) (by simp [hmF, hourF, minF, hd0]))
  | some q0 =>
    obtain ⟨x0, τ0⟩ := q0
    have hx0 : x0 < 100 := (digitsF_len hd0).2
    have HT0 := hide (Nat.le_trans ((digitsF_len hd0).1) HL0.out)
    rintro e w1 ⟨hm1, rfl, hr1⟩
    have HE0 := hide hd0
    have hc1 := Blk.cell hr1
    have hf1 := Blk.frozen hr1
    unfold rdr at hc1
    have HM0' := hide (HM0.out.trans hm1)
    have HF0' := hide (HF0.out.mv hm1)
    have HR0' := hide hr1
    clear hd0 hm1 hr1
    have HM1 := hide (HM0'.out.setCell 4 (.int .i64 ((x0 : Int))))
    have HF1 := hide (HF0'.out.mv ((Mv.refl b w1).setCell 4 (.int .i64 ((x0 : Int)))))
    have HR1 : Hid (RdS (w1.setCell ⟨b, 4, none⟩ (.int .i64 ((x0 : Int)))) b { τ0 with h := (x0 : Int) }) := Blk.set HR0'.out 4 (.int .i64 ((x0 : Int)))
    have HL1 : Hid (({ τ0 with h := (x0 : Int) } : RS).l.length ≤ 900) := HT0
    go_wp2_with fail
    refine (mark_out p b _ ({ τ0 with h := (x0 : Int) }) 58 HF1.out HR1.out HL1.out).mono ?_
    rw [show (58 : UInt8).toNat = 58 from rfl]
    cases hd1 : markF 58 ({ τ0 with h := (x0 : Int) }) with
    | none =>
      rintro e w2 ⟨hm2, rfl⟩
      exact go_panic (fn := Tryz.f86) rfl (OutN.no (HM1.out.trans hm2) (by simp [hmF, hourF, minF, HE0.out, hd1]))
    | some q1 =>
      obtain ⟨τ1, rfl⟩ : ∃ τ, τ = q1 := ⟨_, rfl⟩
      have HT1 := hide (Nat.le_trans (markF_len hd1) HL1.out)
      rintro e w2 ⟨hm2, rfl, hr2⟩
      have HE1 := hide hd1
      have hc2 := Blk.cell hr2
      have hf2 := Blk.frozen hr2
      unfold rdr at hc2
      have HM1' := hide (HM1.out.trans hm2)
      have HF1' := hide (HF1.out.mv hm2)
      have HR1' := hide hr2
      clear hd1 hm2 hr2
      have HM2 := HM1'
      have HF2 := HF1'
      have HR2 := HR1'
      have HL2 := HT1
      go_wp2_with fail
      refine (digits_out p b _ τ1 2 (by decide) HF2.out HR2.out HL2.out).mono ?_
      cases hd2 : digitsF 2 0 τ1 with
      | none =>
        rintro e w3 ⟨hm3, rfl⟩
        exact go_panic (fn := Tryz.f86) rfl (OutN.no (HM2.out.trans hm3) (by simp [hmF, hourF, minF, HE0.out, HE1.out, hd2]))
      | some q2 =>
        obtain ⟨x2, τ2⟩ := q2
        have hx2 : x2 < 100 := (digitsF_len hd2).2
        have HT2 := hide (Nat.le_trans ((digitsF_len hd2).1) HL2.out)
        rintro e w3 ⟨hm3, rfl, hr3⟩
        have HE2 := hide hd2
        have hc3 := Blk.cell hr3
        have hf3 := Blk.frozen hr3
        unfold rdr at hc3
        have HM2' := hide (HM2.out.trans hm3)
        have HF2' := hide (HF2.out.mv hm3)
        have HR2' := hide hr3
        clear hd2 hm3 hr3
        have HM3 := hide (HM2'.out.setCell 5 (.int .i64 ((x2 : Int))))
        have HF3 := hide (HF2'.out.mv ((Mv.refl b w3).setCell 5 (.int .i64 ((x2 : Int)))))
        have HR3 : Hid (RdS (w3.setCell ⟨b, 5, none⟩ (.int .i64 ((x2 : Int)))) b { τ2 with mi := (x2 : Int) }) := Blk.set HR2'.out 5 (.int .i64 ((x2 : Int)))
        have HL3 : Hid (({ τ2 with mi := (x2 : Int) } : RS).l.length ≤ 900) := HT2
        go_wp2
        go_end0
        exact OutN.yes HM3.out (by simp [hmF, hourF, minF, HE0.out, HE1.out, HE2.out]) HR3.out
set_option linter.unusedSimpArgs false in
set_option maxHeartbeats 1000000 in
theorem second_out (hF : EF w b p) (k : RdS w b σ) (hl : σ.l.length ≤ 900) : Calls Tryz.prog 87 #[.pointer (some ⟨b, 0, none⟩)] w fun e w' => OutN p b w (secondF σ) e w' := by
  have HR0 := hide k
  have HF0 := hide hF
  have HM0 := hide (Mv.refl b w)
  have HL0 := hide hl
  clear k hF hl
  go_enter Tryz.func87, Tryz.ntmps87
  go_wp2_with fail
  refine (mark_out p b _ σ 58 HF0.out HR0.out HL0.out).mono ?_
  rw [show (58 : UInt8).toNat = 58 from rfl]
  cases hd0 : markF 58 σ with
  | none =>
    rintro e w1 ⟨hm1, rfl⟩
    exact go_panic (fn := Tryz.f87) rfl (OutN.no (HM0.out.trans hm1) (by simp [secondF, secF, hd0]))
  | some q0 =>
    obtain ⟨τ0, rfl⟩ : ∃ τ, τ = q0 := ⟨_, rfl⟩
    have HT0 := hide (Nat.le_trans (markF_len hd0) HL0.out)
    rintro e w1 ⟨hm1, rfl, hr1⟩
    have HE0 := hide hd0
    have hc1 := Blk.cell hr1
    have hf1 := Blk.frozen hr1
    unfold rdr at hc1
    have HM0' := hide (HM0.out.trans hm1)
    have HF0' := hide (HF0.out.mv hm1)
    have HR0' := hide hr1
    clear hd0 hm1 hr1
    have HM1 := HM0'
    have HF1 := HF0'
    have HR1 := HR0'
    have HL1 := HT0
    go_wp2_with fail
    refine (digits_out p b _ τ0 2 (by decide) HF1.out HR1.out HL1.out).mono ?_
    cases hd1 : digitsF 2 0 τ0 with
    | none =>
      rintro e w2 ⟨hm2, rfl⟩
      exact go_panic (fn := Tryz.f87) rfl (OutN.no (HM1.out.trans hm2) (by simp [secondF, secF, HE0.out, hd1]))
    | some q1 =>
      obtain ⟨x1, τ1⟩ := q1
      have hx1 : x1 < 100 := (digitsF_len hd1).2
      have HT1 := hide (Nat.le_trans ((digitsF_len hd1).1) HL1.out)
      rintro e w2 ⟨hm2, rfl, hr2⟩
      have HE1 := hide hd1
      have hc2 := Blk.cell hr2
      have hf2 := Blk.frozen hr2
      unfold rdr at hc2
      have HM1' := hide (HM1.out.trans hm2)
      have HF1' := hide (HF1.out.mv hm2)
      have HR1' := hide hr2
      clear hd1 hm2 hr2
      have HM2 := hide (HM1'.out.setCell 6 (.int .i64 ((x1 : Int))))
      have HF2 := hide (HF1'.out.mv ((Mv.refl b w2).setCell 6 (.int .i64 ((x1 : Int)))))
      have HR2 : Hid (RdS (w2.setCell ⟨b, 6, none⟩ (.int .i64 ((x1 : Int)))) b { τ1 with s := (x1 : Int) }) := Blk.set HR1'.out 6 (.int .i64 ((x1 : Int)))
      have HL2 : Hid (({ τ1 with s := (x1 : Int) } : RS).l.length ≤ 900) := HT1
      go_wp2
      go_end0
      exact OutN.yes HM2.out (by simp [secondF, secF, HE0.out, HE1.out]) HR2.out
end
end Go.Proofs.YtcmhaihoeecjoaaGreatDoor.Da

end
section
namespace Go.Proofs.YtcmhaihoeecjoaaGreatDoor.Da
open Go.RowKit
def isBlk (c : UInt8) : Bool := decide (c.toNat = 32) || decide (c.toNat = 9)
def blankF (σ : RS) : Bool := atF 32 σ || atF 9 σ
def dropF (σ : RS) : RS := { σ with l := σ.l.drop 1 }
def skipF (σ : RS) : RS := { σ with l := σ.l.dropWhile isBlk }
def blanksF (σ : RS) : Option RS := if blankF σ then some (skipF σ) else none
def endF (σ : RS) : Option RS := if σ.l = [] then some σ else none
def lenAt (b : Nat) (w : World) : Nat := match w.cell? ⟨b, 0, none⟩ with
  | some (.string s) => s.size
  | _ => 0
theorem lenAt_rd {w : World} {b : Nat} {σ : RS} (h : RdS w b σ) : lenAt b w = σ.l.length := by
  unfold lenAt
  rw [Blk.cell h]
  simp [rdr, ByteArray.size]
section
variable (p : Addr) (b : Nat) (w : World) (σ : RS)
theorem skip1_out (k : RdS w b σ) (hne : σ.l ≠ []) (hl : σ.l.length ≤ 900) : Calls Tryz.prog 111 #[.pointer (some ⟨b, 0, none⟩), .int .i64 1] w fun e w' => e = .returned (.tuple #[]) ∧ Mv b w w' ∧ RdS w' b (dropF σ) := by
  obtain ⟨l, y, m, d, h, mi, s, wk, a⟩ := σ
  cases l with
  | nil => exact absurd rfl hne
  | cons c r => exact skip1 b c r y m d h mi s wk a w k (by simp at hl; omega)
theorem blankF_cons {c : UInt8} {r : List UInt8} (h : σ.l = c :: r) : blankF σ = isBlk c := by
  unfold blankF atF isBlk
  rw [h]
theorem skipF_step (h : blankF σ = true) : skipF (dropF σ) = skipF σ ∧ σ.l ≠ [] := by
  obtain ⟨l, y, m, d, h', mi, s, wk, a⟩ := σ
  cases l with
  | nil => cases h
  | cons c r =>
    rw [blankF_cons _ rfl] at h
    refine ⟨?_, by simp⟩
    unfold skipF dropF
    simp [h]
theorem skipF_end (h : blankF σ = false) : skipF σ = σ := by
  obtain ⟨l, y, m, d, h', mi, s, wk, a⟩ := σ
  cases l with
  | nil => rfl
  | cons c r =>
    rw [blankF_cons _ rfl] at h
    unfold skipF
    simp [h]
set_option maxHeartbeats 1000000 in
theorem end_out (hF : EF w b p) (k : RdS w b σ) : Calls Tryz.prog 105 #[.pointer (some ⟨b, 0, none⟩)] w fun e w' => OutN p b w (endF σ) e w' := by
  have K := hide k
  have HF := hide hF
  have hc := Blk.cell k
  unfold rdr at hc
  clear k hF
  by_cases h0 : σ.l = []
  · have HE : Hid (endF σ = some σ) := by
      show _ = _
      unfold endF
      rw [if_pos h0]
    rw [h0] at hc
    go_enter Tryz.func105, Tryz.ntmps105
    go_wp2
    go_end0
    exact OutN.yes (Mv.refl _ _) HE.out K.out
  · have HE : Hid (endF σ = none) := by
      show _ = _
      unfold endF
      rw [if_neg h0]
    have hE : σ.l.isEmpty = false := by
      cases hh : σ.l with
      | nil => exact absurd hh h0
      | cons _ _ => rfl
    go_enter Tryz.func105, Tryz.ntmps105
    go_wp2_with fail
    refine (refuse_out _ b p HF.out).mono ?_
    rintro e w1 ⟨rfl, rfl⟩
    exact go_panic (fn := Tryz.f105) rfl (OutN.no (Mv.refl _ _) HE.out)
end
end Go.Proofs.YtcmhaihoeecjoaaGreatDoor.Da

end
