/- Moments of dates, by the program and by the document. -/
/- The reading of a text, whatever it is: the moment that it is, or ErrForm, or ErrRange. -/
import Derived.Test.YtcmhaihoeecjoaaGreatDoorU25
import Derived.Test.YtcmhaihoeecjoaaGreatDoorU26
import Derived.Test.YtcmhaihoeecjoaaGreatDoorU17
import Derived.Test.YtcmhaihoeecjoaaGreatDoorU11
import Derived.Test.YtcmhaihoeecjoaaGreatDoorU23
import Derived.Defers
import Derived.Recover
section
namespace Go.Proofs.YtcmhaihoeecjoaaGreatDoor.Da
open Go.RowKit

set_option maxHeartbeats 1000000 in
theorem moment_no (y m d h mi s wk : Int) (w : World) (a : Nat → Addr) (hE : Errs w a) (hr : rightB y m d h mi s = false) :
    Calls Tryz.prog 124 #[.agg #[.int .i64 y, .int .i64 m, .int .i64 d, .int .i64 h, .int .i64 mi, .int .i64 s, .int .i64 wk]] w fun e w' => e = .returned (.tuple #[.int .i64 0, .iface 167 (.pointer (some (a 0)))]) ∧ Below w.heap.size w w' := by
  have HE : Hid (Errs w a) := hE
  clear hE
  go_enter Tryz.func124, Tryz.ntmps124
  go_wp2_with (go_at_call 134; refine (right_any _ _ _ _ _ _ _ _).mono ?_; rintro e w1 ⟨rfl, hb1⟩)
  have hB1 : Below w.heap.size w w1 := ((Below.refl _ _).alloc (Nat.le_refl _) _).trans (hb1.mono (by simp))
  have c0 : w1.cell? ⟨0, 0, none⟩ = some (.iface 167 (.pointer (some (a 0)))) := (HE.out.below hB1).cell 0 (by decide)
  have l0 : 0 < w1.heap.size := (HE.out.below hB1).low 0 (by decide)
  have hn := ext_some w1
  have hc := ext_cell w1
  refine wp_region_ext (by kernel_rfl) (by kernel_rfl) ?_
  repeat (go_big_quiet_step (fail))
  refine wpQuiet_nil ?_
  rintro _ ⟨⟨w2, hb2⟩, rfl⟩
  go_wp2
  go_ret2
  exact ⟨rfl, hB1.trans (hb2.mono hB1.size)⟩

set_option maxHeartbeats 1000000 in
theorem rmoment_any (y m d h mi s wk : Int) (w : World) (hr : rightB y m d h mi s = true) :
    Calls Tryz.prog 94 #[.agg #[.int .i64 y, .int .i64 m, .int .i64 d, .int .i64 h, .int .i64 mi, .int .i64 s, .int .i64 wk]] w fun e w' => e = .returned (.int .i64 (mom y m d h mi s)) ∧ Below w.heap.size w w' := by
  obtain ⟨y1, y2, m1, m2, d1, d2, a1, a2, b1, b2, c1, c2⟩ := right_spec hr
  have dr := Cal.dim_range y m
  have db := Cal.dby_bd y y1 (by omega)
  clear hr
  have hn := ext_some (w.alloc (.cells #[.int .i64 y, .int .i64 m, .int .i64 d, .int .i64 h, .int .i64 mi, .int .i64 s, .int .i64 wk] 81))
  have hc := ext_cell (w.alloc (.cells #[.int .i64 y, .int .i64 m, .int .i64 d, .int .i64 h, .int .i64 mi, .int .i64 s, .int .i64 wk] 81))
  go_enter Tryz.func94, Tryz.ntmps94
  go_wp2
  refine wp_region_ext (by kernel_rfl) (by kernel_rfl) ?_
  repeat (go_big_quiet_step ((go_at_call 75; exact ext_same (before_any _ _ (by omega) (by omega)))))
  refine wpQuiet_nil ?_
  rintro w1 ⟨⟨_, hb1⟩, rfl⟩
  have HK1 : Hid (Blk w1 w.heap.size #[.int .i64 y, .int .i64 m, .int .i64 d, .int .i64 h, .int .i64 mi, .int .i64 s, .int .i64 wk] 81) := (Blk.new w #[.int .i64 y, .int .i64 m, .int .i64 d, .int .i64 h, .int .i64 mi, .int .i64 s, .int .i64 wk] 81).below hb1 (by simp)
  have HB1 : Hid (Below w.heap.size w w1) := ((Below.refl _ _).alloc (Nat.le_refl _) _).trans (hb1.mono (by simp))
  clear hn hc hb1
  go_wp2
  go_loopw [3, 4] (fun n k wr => ∃ j : Int, 1 ≤ j ∧ j ≤ m ∧ k = .int .i64 j ∧ n = .int .i64 (Cal.dby y + d - 1 + Cal.cum y j) ∧ Hid (Below w.heap.size w wr) ∧ Hid (Blk wr w.heap.size #[.int .i64 y, .int .i64 m, .int .i64 d, .int .i64 h, .int .i64 mi, .int .i64 s, .int .i64 wk] 81)) (fun _ k _ => (m - intOf k).toNat)
  case atStart => exact ⟨1, by omega, m1, rfl, by simp [Cal.cum], HB1, HK1⟩
  case round =>
    obtain ⟨j, hj1, hj2, rfl, rfl, HB, HK⟩ := hrel
    have hk0 := HK.out.cell
    have cb := Cal.cum_range y j hj1 (by omega)
    have db2 := Cal.dim_range y j
    by_cases hlt : j < m
    · have CS : Hid (Cal.cum y (j + 1) = Cal.cum y j + Cal.dim y j) := Cal.cum_succ y j hj1 (by omega)
      go_wp2_with (go_at_call 76; refine (rdays_any _ _ _).mono ?_; rintro e w2 ⟨rfl, hb2⟩)
      go_roundw
      case rel => exact ⟨j + 1, by omega, by omega, rfl, by rw [CS.out]; go_num, HB.out.trans (hb2.mono HB.out.size), HK.out.below hb2 HK.out.lt⟩
      case measure => simp [intOf]; omega
    · obtain rfl : j = m := by omega
      go_wp2
      go_ret
      exact ⟨ret_int (by unfold mom; omega), HB.out⟩
end Go.Proofs.YtcmhaihoeecjoaaGreatDoor.Da

end
section
namespace Go.Proofs.YtcmhaihoeecjoaaGreatDoor.Da
open Go.RowKit
/-- What moment answers. -/
def momV (ea : Nat → Addr) (σ : RS) : Value := if rightB σ.y σ.m σ.d σ.h σ.mi σ.s = true ∧ 0 ≤ mom σ.y σ.m σ.d σ.h σ.mi σ.s - σ.a ∧ mom σ.y σ.m σ.d σ.h σ.mi σ.s - σ.a ≤ 4102444799 then .tuple #[.int .i64 (mom σ.y σ.m σ.d σ.h σ.mi σ.s - σ.a), .nilIface] else .tuple #[.int .i64 0, .iface 167 (.pointer (some (ea 0)))]
def AOK (σ : RS) : Prop := -90000 ≤ σ.a ∧ σ.a ≤ 90000
theorem mom_bound {y m d h mi s : Int} (hr : rightB y m d h mi s = true) : 0 ≤ mom y m d h mi s ∧ mom y m d h mi s ≤ 5000000000 := by
  obtain ⟨y1, y2, m1, m2, d1, d2, a1, a2, b1, b2, c1, c2⟩ := right_spec hr
  have dr := Cal.dim_range y m
  have db := Cal.dby_bd y y1 (by omega)
  have cb := Cal.cum_range y m m1 (by omega)
  unfold mom
  constructor <;> omega
section
variable (b : Nat) (w : World) (σ : RS) (ea : Nat → Addr)
set_option maxHeartbeats 1000000 in
theorem moment_out (hE : Errs w ea) (k : RdS w b σ) (ha : AOK σ) : Calls Tryz.prog 106 #[.pointer (some ⟨b, 0, none⟩)] w fun e w' => e = .returned (momV ea σ) ∧ Below w.heap.size w w' := by
  have K := hide k
  have HE := hide hE
  have hc := Blk.cell k
  unfold rdr at hc
  have ha1 := ha.1
  have ha2 := ha.2
  clear k hE ha
  unfold momV
  cases hr : rightB σ.y σ.m σ.d σ.h σ.mi σ.s with
  | false =>
    rw [if_neg (by simp)]
    go_enter Tryz.func106, Tryz.ntmps106
    go_wp2_with fail
    refine (moment_no _ _ _ _ _ _ _ _ ea HE.out hr).mono ?_
    rintro e w1 ⟨rfl, hb1⟩
    replace hb1 := hide hb1
    go_wp2
    go_ret2
    exact ⟨rfl, hb1.out⟩
  | true =>
    have hmb := mom_bound hr
    obtain ⟨T, hT⟩ : ∃ T, mom σ.y σ.m σ.d σ.h σ.mi σ.s = T := ⟨_, rfl⟩
    rw [hT] at hmb ⊢
    have HMY : Hid (Calls Tryz.prog 124 #[.agg #[.int .i64 σ.y, .int .i64 σ.m, .int .i64 σ.d, .int .i64 σ.h, .int .i64 σ.mi, .int .i64 σ.s, .int .i64 σ.wk]] w fun e w' => e = .returned (.tuple #[.int .i64 T, .nilIface]) ∧ Below w.heap.size w w') := by
      have := moment_yes σ.y σ.m σ.d σ.h σ.mi σ.s σ.wk w hr
      rw [hT] at this
      exact this
    clear hr hT
    by_cases hin : 0 ≤ T - σ.a ∧ T - σ.a ≤ 4102444799
    · have hb : btw (T - σ.a) 0 4102444799 = true := btw_mk hin.1 hin.2
      rw [if_pos ⟨rfl, hin⟩]
      go_enter Tryz.func106, Tryz.ntmps106
      go_wp2_with fail
      refine HMY.out.mono ?_
      rintro e w1 ⟨rfl, hb1⟩
      have hk1 := Blk.below K.out hb1 (Blk.lt K.out)
      have hc1 := Blk.cell hk1
      unfold rdr at hc1
      replace hb1 := hide hb1
      clear hk1 hc
      go_wp2_with fail
      refine (inRange_any _ _).mono ?_
      rw [hb]
      rintro e w' ⟨rfl, hw⟩
      obtain rfl := hw.symm
      go_wp2
      go_ret2
      exact ⟨rfl, hb1.out⟩
    · have hb : btw (T - σ.a) 0 4102444799 = false := btw_not (by omega)
      rw [if_neg (fun h => hin h.2)]
      go_enter Tryz.func106, Tryz.ntmps106
      go_wp2_with fail
      refine HMY.out.mono ?_
      rintro e w1 ⟨rfl, hb1⟩
      have hk1 := Blk.below K.out hb1 (Blk.lt K.out)
      have hc1 := Blk.cell hk1
      unfold rdr at hc1
      have c0 : w1.cell? ⟨0, 0, none⟩ = some (.iface 167 (.pointer (some (ea 0)))) := (HE.out.below hb1).cell 0 (by decide)
      replace hb1 := hide hb1
      clear hk1 hc
      go_wp2_with fail
      refine (inRange_any _ _).mono ?_
      rw [hb]
      rintro e w' ⟨rfl, hw⟩
      obtain rfl := hw.symm
      go_wp2_with fail
      go_region
      go_wp2
      go_ret2
      exact ⟨rfl, hb1.out.drew⟩
end
theorem catch_form (p q : Addr) (x : Int) (y : Value) (u : TypeId) (pv : Value) (older : List PanicEntry) (w : World) (ef : Addr) (hp : w.cell? p = some (.int .i64 x)) (hpz : w.frozen? p = false) (hq : w.cell? q = some y) (hqz : w.frozen? q = false) (hpq : p.block ≠ q.block)
    (hF : w.cell? ⟨1, 0, none⟩ = some (.iface 167 (.pointer (some ef)))) :
    CallsD Tryz.prog 104 #[.pointer (some p), .pointer (some q)] (.panicking ({ v := .iface u pv, recovered := false } :: older)) w fun e u' w' =>
      e = .returned (.tuple #[]) ∧ u' = .panicking ({ v := .iface u pv, recovered := true } :: older) ∧ w' = (w.setCell p (.int .i64 0)).setCell q (.iface 167 (.pointer (some ef))) := by
  have hq2 : (w.setCell p (.int .i64 0)).cell? q = some y := (World.cell?_of_block (Below.heap_setCell _ _ _ _ (Ne.symm hpq))).trans hq
  refine callsD_of_wpS Tryz.func104 rfl fun c₀ cs hu => ?_
  apply wpS_seq
  apply wpS_region
  simp [wpOpsS, go_sem, recoverD, hu, Tryz.ntmps104, Exit.thenS]
  refine wpS_cond (t := true) (by simp [Act.eval, Array.replicate]) ?_
  simp only [if_true]
  apply wpS_region
  simp [wpOpsS, go_sem, hp, hpz, hq2, hqz, hF, bodyPostS, results, Tryz.results104]
end Go.Proofs.YtcmhaihoeecjoaaGreatDoor.Da

end
