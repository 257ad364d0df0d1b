/- MimeParts. -/
/- errors.Is over two errors of the make of errors.New: true of one pointer, false of two. -/
import Derived.Test.YtfebohfmpikoeaaGreatDoorU27
import Derived.Test.YtfebohfmpikoeaaGreatDoorU31
import Derived.Test.YtfebohfmpikoeaaGreatDoorU33
import Derived.Test.YtfebohfmpikoeaaGreatDoorU34
import Derived.Test.YtfebohfmpikoeaaGreatDoorProg
import Derived.WalkKit
import Derived.WalkLawsBesides
import Derived.LaidEql
import Derived.Stop.Asserts
import Derived.RowKitTokens
section
set_option linter.unusedSimpArgs false
set_option linter.unusedVariables false
namespace Go.Proofs.YtfebohfmpikoeaaGreatDoor
open Go.RowKit Go.Shelf
set_option maxRecDepth 20000 in
set_option maxHeartbeats 2000000 in
/-- All of the law. -/
theorem mimeParts_walk (m : List UInt8) (w : World) (ht : TabM w) (ea ef : Addr) (hE : EF w ea) (hF : EFm w ef) : Calls Tryz.prog 4 #[.string ⟨m.toArray⟩] w fun e w' => e = .returned (.bool true) ∧ Below w.heap.size w w' := by
  have HA := hide (alive10 w ea ef hE hF ht)
  have hsm := size_lit m
  by_cases h1 : m.length ≤ 10000
  · have g1 : ¬ ((m.length : Int) > 10000) := by omega
    have HP : Hid (∀ W, Below w.heap.size w W → Calls Tryz.prog 13 #[.string ⟨m.toArray⟩] W fun e w' => Below W.heap.size W w' ∧ ∃ v, e = .returned v ∧ PA 33 (fun g => W.heap.size ≤ g) w' v (parseP 32 m 0 m.length)) := fun W hW => pparse_any m W ea ef (hE.below hW) (hF.below hW) (by omega)
    have HRp : Hid (∀ W, Calls Tryz.prog 14 #[.string ⟨m.toArray⟩, .int .i64 0, .int .i64 (m.length : Nat), .int .i64 0] W fun e w' => Below W.heap.size W w' ∧ ∃ v, e = .returned v ∧ PA 33 (fun g => W.heap.size ≤ g) w' v (parseP 32 m 0 m.length)) := fun W => rparse_any m (by omega) 32 0 0 m.length W rfl (Nat.zero_le _) (Nat.le_refl _)
    have hok := parse_ok m (by omega)
    have HOk := hide hok.1
    have HCn := hide hok.2.1
    have HTl := hide hok.2.2
    have HTab := hide ht
    clear hE hF ht hok
    generalize parseP 32 m 0 m.length = P at *
    go_enter Tryz.func4, Tryz.ntmps4
    go_wp2_with fail
    refine HA.out.mono ?_
    rintro e w1 ⟨rfl, hb1⟩
    have HB1 := hide hb1
    clear hb1
    go_wp2_with fail
    refine (HP.out _ HB1.out).mono ?_
    rintro e w2 ⟨hb2, v, rfl, hp⟩
    have HB2 := hide (HB1.out.trans (hb2.mono HB1.out.size))
    obtain ⟨Ap, cp, Ak, ck, rfl⟩ := hp.form
    obtain ⟨n1, hn1⟩ : ∃ n, P.h.params.length = n := ⟨_, rfl⟩
    obtain ⟨n2, hn2⟩ : ∃ n, P.kids.length = n := ⟨_, rfl⟩
    obtain ⟨H, hH⟩ : ∃ H, P.h = H := ⟨_, rfl⟩
    rw [hn1, hn2, hH] at hp
    rw [hn1, hn2, hH]
    have HFn : Hid (P.h.params.length = n1 ∧ P.kids.length = n2 ∧ P.h = H) := ⟨hn1, hn2, hH⟩
    have hAl := (Below.refl w2.heap.size w2).alloc (Nat.le_refl _) (.cells (phA H (.slice Ap n1 cp) (.slice Ak n2 ck)) 36)
    have HB3 := hide (HB2.out.trans (hAl.mono HB2.out.size))
    have HP3 := hide ((hp.mono (S' := fun g => 0 ≤ g) (fun g _ _ => Nat.zero_le _)).below hAl)
    have HK := hide (Blk.new w2 (phA H (.slice Ap n1 cp) (.slice Ak n2 ck)) 36)
    clear hp hAl hn1 hn2 hH hb2 HP
    unfold phA
    go_wp2_with fail
    refine (HRp.out _).mono ?_
    rintro e w4 ⟨hb4, v4, rfl, hp4⟩
    obtain ⟨W3, hW3⟩ : ∃ W3, w2.alloc (.cells (phA H (.slice Ap n1 cp) (.slice Ak n2 ck)) 36) = W3 := ⟨_, rfl⟩
    have hb4' : Below W3.heap.size W3 w4 := by rw [← hW3]; exact hb4
    have hp4' : PA 33 (fun g => 0 ≤ g) w4 v4 P := hp4.mono (fun g _ _ => Nat.zero_le _)
    rw [hW3] at HB3 HP3 HK
    obtain ⟨Bp, dp, Bk, dk, rfl⟩ := hp4'.form
    obtain ⟨hn1, hn2, hH⟩ := HFn.out
    rw [hn1, hn2, hH] at hp4'
    rw [hn1, hn2, hH]
    have hAl := (Below.refl w4.heap.size w4).alloc (Nat.le_refl _) (.cells (phA H (.slice Bp n1 dp) (.slice Bk n2 dk)) 36)
    have HB4 := hide (HB3.out.trans (hb4'.mono HB3.out.size))
    have hB5 := hb4'.trans (hAl.mono hb4'.size)
    have HP5 := hide (hp4'.below hAl)
    have HQ5 := hide (HP3.out.below hB5)
    have HK4 := hide (Blk.new w4 (phA H (.slice Bp n1 dp) (.slice Bk n2 dk)) 36)
    have HK3 := hide (HK.out.below hB5 HK.out.lt)
    have HB5 := hide (HB4.out.trans (hAl.mono HB4.out.size))
    clear hb4 hb4' hp4 hp4' hAl hB5 HK HP3 HB3 hW3 hn1 hn2 hH HFn HB4 HRp
    unfold phA
    go_wp2_with fail
    obtain ⟨W5, hW5⟩ : ∃ W5, w4.alloc (.cells (phA H (.slice Bp n1 dp) (.slice Bk n2 dk)) 36) = W5 := ⟨_, rfl⟩
    rw [hW5] at HP5 HQ5 HK4 HK3 HB5
    unfold phA at hW5
    rw [hW5]
    clear hW5
    have hn0 := ext_some W5
    have s0 : ∀ u : Ext W5, u.w.cell? ⟨w2.heap.size, 0, none⟩ = some (.string ⟨H.type.toArray⟩) := fun u => ((ext_cell W5 u _ _ HK3.out.lt).trans (HK3.out.cell 0))
    have s1 : ∀ u : Ext W5, u.w.cell? ⟨w2.heap.size, 1, none⟩ = some (.string ⟨H.sub.toArray⟩) := fun u => ((ext_cell W5 u _ _ HK3.out.lt).trans (HK3.out.cell 1))
    have s2 : ∀ u : Ext W5, u.w.cell? ⟨w2.heap.size, 2, none⟩ = some (.slice Ap n1 cp) := fun u => ((ext_cell W5 u _ _ HK3.out.lt).trans (HK3.out.cell 2))
    have s3 : ∀ u : Ext W5, u.w.cell? ⟨w2.heap.size, 3, none⟩ = some (.string ⟨H.id.toArray⟩) := fun u => ((ext_cell W5 u _ _ HK3.out.lt).trans (HK3.out.cell 3))
    have s4 : ∀ u : Ext W5, u.w.cell? ⟨w2.heap.size, 4, none⟩ = some (.string ⟨H.desc.toArray⟩) := fun u => ((ext_cell W5 u _ _ HK3.out.lt).trans (HK3.out.cell 4))
    have s5 : ∀ u : Ext W5, u.w.cell? ⟨w2.heap.size, 5, none⟩ = some (.string ⟨H.enc.toArray⟩) := fun u => ((ext_cell W5 u _ _ HK3.out.lt).trans (HK3.out.cell 5))
    have s6 : ∀ u : Ext W5, u.w.cell? ⟨w2.heap.size, 6, none⟩ = some (.int .i64 H.at') := fun u => ((ext_cell W5 u _ _ HK3.out.lt).trans (HK3.out.cell 6))
    have s7 : ∀ u : Ext W5, u.w.cell? ⟨w2.heap.size, 7, none⟩ = some (.int .i64 H.body) := fun u => ((ext_cell W5 u _ _ HK3.out.lt).trans (HK3.out.cell 7))
    have s8 : ∀ u : Ext W5, u.w.cell? ⟨w2.heap.size, 8, none⟩ = some (.int .i64 H.end') := fun u => ((ext_cell W5 u _ _ HK3.out.lt).trans (HK3.out.cell 8))
    have s9 : ∀ u : Ext W5, u.w.cell? ⟨w2.heap.size, 9, none⟩ = some (.int .i64 H.lines) := fun u => ((ext_cell W5 u _ _ HK3.out.lt).trans (HK3.out.cell 9))
    have s10 : ∀ u : Ext W5, u.w.cell? ⟨w2.heap.size, 10, none⟩ = some (.slice Ak n2 ck) := fun u => ((ext_cell W5 u _ _ HK3.out.lt).trans (HK3.out.cell 10))
    have t0 : ∀ u : Ext W5, u.w.cell? ⟨w4.heap.size, 0, none⟩ = some (.string ⟨H.type.toArray⟩) := fun u => ((ext_cell W5 u _ _ HK4.out.lt).trans (HK4.out.cell 0))
    have t1 : ∀ u : Ext W5, u.w.cell? ⟨w4.heap.size, 1, none⟩ = some (.string ⟨H.sub.toArray⟩) := fun u => ((ext_cell W5 u _ _ HK4.out.lt).trans (HK4.out.cell 1))
    have t2 : ∀ u : Ext W5, u.w.cell? ⟨w4.heap.size, 2, none⟩ = some (.slice Bp n1 dp) := fun u => ((ext_cell W5 u _ _ HK4.out.lt).trans (HK4.out.cell 2))
    have t3 : ∀ u : Ext W5, u.w.cell? ⟨w4.heap.size, 3, none⟩ = some (.string ⟨H.id.toArray⟩) := fun u => ((ext_cell W5 u _ _ HK4.out.lt).trans (HK4.out.cell 3))
    have t4 : ∀ u : Ext W5, u.w.cell? ⟨w4.heap.size, 4, none⟩ = some (.string ⟨H.desc.toArray⟩) := fun u => ((ext_cell W5 u _ _ HK4.out.lt).trans (HK4.out.cell 4))
    have t5 : ∀ u : Ext W5, u.w.cell? ⟨w4.heap.size, 5, none⟩ = some (.string ⟨H.enc.toArray⟩) := fun u => ((ext_cell W5 u _ _ HK4.out.lt).trans (HK4.out.cell 5))
    have t6 : ∀ u : Ext W5, u.w.cell? ⟨w4.heap.size, 6, none⟩ = some (.int .i64 H.at') := fun u => ((ext_cell W5 u _ _ HK4.out.lt).trans (HK4.out.cell 6))
    have t7 : ∀ u : Ext W5, u.w.cell? ⟨w4.heap.size, 7, none⟩ = some (.int .i64 H.body) := fun u => ((ext_cell W5 u _ _ HK4.out.lt).trans (HK4.out.cell 7))
    have t8 : ∀ u : Ext W5, u.w.cell? ⟨w4.heap.size, 8, none⟩ = some (.int .i64 H.end') := fun u => ((ext_cell W5 u _ _ HK4.out.lt).trans (HK4.out.cell 8))
    have t9 : ∀ u : Ext W5, u.w.cell? ⟨w4.heap.size, 9, none⟩ = some (.int .i64 H.lines) := fun u => ((ext_cell W5 u _ _ HK4.out.lt).trans (HK4.out.cell 9))
    have t10 : ∀ u : Ext W5, u.w.cell? ⟨w4.heap.size, 10, none⟩ = some (.slice Bk n2 dk) := fun u => ((ext_cell W5 u _ _ HK4.out.lt).trans (HK4.out.cell 10))
    have HSa : Hid (∀ u : Ext W5, Calls Tryz.prog 15 #[.agg (phA H (.slice Ap n1 cp) (.slice Ak n2 ck)), .agg (phA H (.slice Bp n1 dp) (.slice Bk n2 dk))] u.w fun e w' => e = .returned (.bool true) ∧ Below u.w.heap.size u.w w') := fun u => rsame_yes 33 P _ _ u.w (HQ5.out.below u.ok) (HP5.out.below u.ok) HCn.out
    have HTx : Hid (∀ u : Ext W5, Calls Tryz.prog 16 #[.agg (phA H (.slice Ap n1 cp) (.slice Ak n2 ck))] u.w fun e w' => e = .returned (.string ⟨(textP P).toArray⟩) ∧ Below u.w.heap.size u.w w') := fun u => text_any P _ u.w (HQ5.out.below u.ok) HOk.out (HTab.out.below (HB5.out.trans (u.ok.mono HB5.out.size))) HTl.out
    have HRx : Hid (∀ u : Ext W5, Calls Tryz.prog 17 #[.agg (phA H (.slice Bp n1 dp) (.slice Bk n2 dk))] u.w fun e w' => e = .returned (.string ⟨(textP P).toArray⟩) ∧ Below u.w.heap.size u.w w') := fun u => rtext10_any 33 P _ u.w (HP5.out.below u.ok) HOk.out HTl.out
    generalize textP P = TX at *
    unfold phA at HSa HTx HRx
    refine wp_region_ext (by kernel_rfl) (by kernel_rfl) ?_
    repeat (go_big_quiet_step ((first | (go_at_call 15; exact ext_call (HSa.out _)) | (go_at_call 16; exact ext_call (HTx.out _)) | (go_at_call 17; exact ext_call (HRx.out _)))))
    refine wpQuiet_nil ?_
    rintro w6 ⟨⟨_, hb6⟩, rfl⟩
    have HB6 := hide (HB5.out.trans (hb6.mono HB5.out.size))
    clear hb6 s0 s1 s2 s3 s4 s5 s6 s7 s8 s9 s10 t0 t1 t2 t3 t4 t5 t6 t7 t8 t9 t10 hn0
    go_wp2
    go_ret
    exact ⟨rfl, HB6.out⟩
  · have g1 : ((m.length : Int) > 10000) := by omega
    go_enter Tryz.func4, Tryz.ntmps4
    go_wp2_with fail
    refine HA.out.mono ?_
    rintro e w1 ⟨rfl, hb1⟩
    have HB1 := hide hb1
    clear hb1
    go_wp2
    go_ret
    exact ⟨rfl, HB1.out⟩
end Go.Proofs.YtfebohfmpikoeaaGreatDoor

end
section
namespace Go.Proofs.YtfebohfmpikoeaaGreatDoor
open Go.RowKit Go.Extern.Stop Go.Stop Go.Extern

theorem isTypeOf (v : Value) (w : World) : (Extern.ReflectliteType.typeOf #[.iface 186 v]).run Tryz.prog w = .ok (.iface 121 (.agg #[.pointer (some ⟨19, 186, none⟩)])) w := by kernel_rfl
theorem isComparable : ∃ ext, find Tryz.f171 = some ext ∧ ∀ w, (ext #[.agg #[.pointer (some ⟨19, 186, none⟩)]]).run Tryz.prog w = .ok (.bool true) w :=
  ⟨(find Tryz.f171).get (by kernel_rfl), (Option.some_get _).symm, fun _ => by kernel_rfl⟩
theorem isMethodComparable (v : Value) (w : World) : (Go.method 320 121 v "Comparable").run Tryz.prog w = .ok (171, v) w := by kernel_rfl
theorem isComp : (Tryz.prog.info? 186).map (·.comparable) = some true := by kernel_rfl
theorem isSize : (Tryz.prog.info? 209).map (·.size) = some 1 := by kernel_rfl
theorem noIsE (v : Value) (xT : TypeId) (w : World) : (Instr.typeAssert (.iface 186 v) xT 123 true).run Tryz.prog w = .ok (.tuple #[.nilIface, .bool false]) w := run_typeAssert_lacksB Tryz.underlying123 (by kernel_rfl) (by kernel_rfl) v xT w
theorem noUnwrapE (v : Value) (xT : TypeId) (w : World) : (Instr.typeAssert (.iface 186 v) xT 126 true).run Tryz.prog w = .ok (.tuple #[.nilIface, .bool false]) w := run_typeAssert_lacksB Tryz.underlying126 (by kernel_rfl) (by kernel_rfl) v xT w
theorem noUnwrapsE (v : Value) (xT : TypeId) (w : World) : (Instr.typeAssert (.iface 186 v) xT 128 true).run Tryz.prog w = .ok (.tuple #[.nilIface, .bool false]) w := run_typeAssert_lacksB Tryz.underlying128 (by kernel_rfl) (by kernel_rfl) v xT w

set_option maxRecDepth 10000 in
set_option maxHeartbeats 1000000 in
theorem is_same (a : Addr) (w : World) :
    Calls Tryz.prog 34 #[.iface 186 (.pointer (some a)), .iface 186 (.pointer (some a))] w fun e w' => e = .returned (.bool true) ∧ w' = w := by
  obtain ⟨i, hi, hcmp⟩ := Option.map_eq_some_iff.1 isComp
  obtain ⟨j, hj, hjs⟩ := Option.map_eq_some_iff.1 isSize
  have h8 := @run_callFunc_extern Tryz.prog 59 _ Extern.ReflectliteType.typeOf Tryz.func59 (by kernel_rfl) (by kernel_rfl) (by kernel_rfl) (by kernel_rfl)
  obtain ⟨ext, hext, cT⟩ := isComparable
  have h32 := @run_callFunc_extern Tryz.prog 171 _ ext Tryz.func171 (by kernel_rfl) (by kernel_rfl) (by kernel_rfl) hext
  clear hext
  have tT := isTypeOf
  have mR := isMethodComparable
  have heq := run_eql_iface_ptr_same (P := Tryz.prog) w a Tryz.underlying25 Tryz.underlying186 hi hcmp hj
  go_enter Tryz.func34, Tryz.ntmps34
  go_wp2
  refine wp_loop_rounds 1 ?_
  rw [rounds_succ]
  go_wp2
  go_ret
  exact ⟨rfl, rfl⟩

set_option maxRecDepth 10000 in
set_option maxHeartbeats 1000000 in
theorem is_other (a b : Addr) (ca cb : Array Value) (ta tb : TypeId) (w : World) (hne : a ≠ b) (ha : w.heap[a.block]? = some (.cells ca ta (0, 0))) (hb : w.heap[b.block]? = some (.cells cb tb (0, 0))) :
    Calls Tryz.prog 34 #[.iface 186 (.pointer (some a)), .iface 186 (.pointer (some b))] w fun e w' => e = .returned (.bool false) ∧ w' = w := by
  obtain ⟨i, hi, hcmp⟩ := Option.map_eq_some_iff.1 isComp
  obtain ⟨j, hj, hjs⟩ := Option.map_eq_some_iff.1 isSize
  have h8 := @run_callFunc_extern Tryz.prog 59 _ Extern.ReflectliteType.typeOf Tryz.func59 (by kernel_rfl) (by kernel_rfl) (by kernel_rfl) (by kernel_rfl)
  obtain ⟨ext, hext, cT⟩ := isComparable
  have h32 := @run_callFunc_extern Tryz.prog 171 _ ext Tryz.func171 (by kernel_rfl) (by kernel_rfl) (by kernel_rfl) hext
  clear hext
  have tT := isTypeOf
  have mR := isMethodComparable
  have nE := noIsE
  have uE := noUnwrapE
  have vE := noUnwrapsE
  have heq := run_eql_iface_ptr_other (P := Tryz.prog) w Tryz.underlying25 Tryz.underlying186 hi hcmp hj (by rw [hjs]; decide) hne ha hb
  go_enter Tryz.func34, Tryz.ntmps34
  go_wp2
  refine wp_loop_rounds 1 ?_
  rw [rounds_succ]
  go_wp2
  go_ret
  exact ⟨rfl, rfl⟩
end Go.Proofs.YtfebohfmpikoeaaGreatDoor

end
