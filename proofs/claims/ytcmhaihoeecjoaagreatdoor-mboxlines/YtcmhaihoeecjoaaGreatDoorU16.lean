/- A message comes back. -/
/- errors.Is over two errors of the make of errors.New: true of one pointer, false of two. -/
import Derived.Test.YtcmhaihoeecjoaaGreatDoorU05
import Derived.Test.YtcmhaihoeecjoaaGreatDoorProg
import Derived.WalkKit
import Derived.WalkLawsBesides
import Derived.LaidEql
import Derived.Stop.Asserts
import Derived.RowKitTokens
section
namespace Go.Proofs.YtcmhaihoeecjoaaGreatDoor
open Go.RowKit
theorem dec_enc (s : List UInt8) : decV (encL s) = some s := by
  obtain ⟨m, hm⟩ := enc_end s
  unfold decV
  rw [if_pos ⟨by rw [hm]; simp, enc_noSep s⟩, enc_back, List.dropLast_concat]
theorem decode_enc (s : List UInt8) (w : World) (hs : (encL s).length ≤ 1000000) : Calls Tryz.prog 31 #[.string ⟨(encL s).toArray⟩] w fun e w' => e = .returned (.tuple #[.string ⟨s.toArray⟩, .nilIface]) ∧ Below w.heap.size w w' := by
  have := decode_any (encL s) w ⟨0, 0, none⟩ hs (fun h => by rw [dec_enc] at h; cases h)
  unfold decT at this
  rw [dec_enc] at this
  exact this
end Go.Proofs.YtcmhaihoeecjoaaGreatDoor

end
section
namespace Go.Proofs.YtcmhaihoeecjoaaGreatDoor
open Go.RowKit Go.Extern.Stop Go.Stop Go.Extern

theorem isTypeOf (v : Value) (w : World) : (Extern.ReflectliteType.typeOf #[.iface 167 v]).run Tryz.prog w = .ok (.iface 100 (.agg #[.pointer (some ⟨19, 167, none⟩)])) w := by kernel_rfl
theorem isComparable : ∃ ext, find Tryz.f170 = some ext ∧ ∀ w, (ext #[.agg #[.pointer (some ⟨19, 167, none⟩)]]).run Tryz.prog w = .ok (.bool true) w :=
  ⟨(find Tryz.f170).get (by kernel_rfl), (Option.some_get _).symm, fun _ => by kernel_rfl⟩
theorem isMethodComparable (v : Value) (w : World) : (Go.method 300 100 v "Comparable").run Tryz.prog w = .ok (170, v) w := by kernel_rfl
theorem isComp : (Tryz.prog.info? 167).map (·.comparable) = some true := by kernel_rfl
theorem isSize : (Tryz.prog.info? 189).map (·.size) = some 1 := by kernel_rfl
theorem noIsE (v : Value) (xT : TypeId) (w : World) : (Instr.typeAssert (.iface 167 v) xT 102 true).run Tryz.prog w = .ok (.tuple #[.nilIface, .bool false]) w := run_typeAssert_lacksB Tryz.underlying102 (by kernel_rfl) (by kernel_rfl) v xT w
theorem noUnwrapE (v : Value) (xT : TypeId) (w : World) : (Instr.typeAssert (.iface 167 v) xT 105 true).run Tryz.prog w = .ok (.tuple #[.nilIface, .bool false]) w := run_typeAssert_lacksB Tryz.underlying105 (by kernel_rfl) (by kernel_rfl) v xT w
theorem noUnwrapsE (v : Value) (xT : TypeId) (w : World) : (Instr.typeAssert (.iface 167 v) xT 107 true).run Tryz.prog w = .ok (.tuple #[.nilIface, .bool false]) w := run_typeAssert_lacksB Tryz.underlying107 (by kernel_rfl) (by kernel_rfl) v xT w

set_option maxRecDepth 10000 in
set_option maxHeartbeats 1000000 in
theorem is_same (a : Addr) (w : World) :
    Calls Tryz.prog 22 #[.iface 167 (.pointer (some a)), .iface 167 (.pointer (some a))] w fun e w' => e = .returned (.bool true) ∧ w' = w := by
  obtain ⟨i, hi, hcmp⟩ := Option.map_eq_some_iff.1 isComp
  obtain ⟨j, hj, hjs⟩ := Option.map_eq_some_iff.1 isSize
  have h8 := @run_callFunc_extern Tryz.prog 41 _ Extern.ReflectliteType.typeOf Tryz.func41 (by kernel_rfl) (by kernel_rfl) (by kernel_rfl) (by kernel_rfl)
  obtain ⟨ext, hext, cT⟩ := isComparable
  have h32 := @run_callFunc_extern Tryz.prog 170 _ ext Tryz.func170 (by kernel_rfl) (by kernel_rfl) (by kernel_rfl) hext
  clear hext
  have tT := isTypeOf
  have mR := isMethodComparable
  have heq := run_eql_iface_ptr_same (P := Tryz.prog) w a Tryz.underlying24 Tryz.underlying167 hi hcmp hj
  go_enter Tryz.func22, Tryz.ntmps22
  go_wp2
  refine wp_loop_rounds 1 ?_
  rw [rounds_succ]
  go_wp2
  go_ret
  exact ⟨rfl, rfl⟩

set_option maxRecDepth 10000 in
set_option maxHeartbeats 1000000 in
theorem is_other (a b : Addr) (ca cb : Array Value) (ta tb : TypeId) (w : World) (hne : a ≠ b) (ha : w.heap[a.block]? = some (.cells ca ta (0, 0))) (hb : w.heap[b.block]? = some (.cells cb tb (0, 0))) :
    Calls Tryz.prog 22 #[.iface 167 (.pointer (some a)), .iface 167 (.pointer (some b))] w fun e w' => e = .returned (.bool false) ∧ w' = w := by
  obtain ⟨i, hi, hcmp⟩ := Option.map_eq_some_iff.1 isComp
  obtain ⟨j, hj, hjs⟩ := Option.map_eq_some_iff.1 isSize
  have h8 := @run_callFunc_extern Tryz.prog 41 _ Extern.ReflectliteType.typeOf Tryz.func41 (by kernel_rfl) (by kernel_rfl) (by kernel_rfl) (by kernel_rfl)
  obtain ⟨ext, hext, cT⟩ := isComparable
  have h32 := @run_callFunc_extern Tryz.prog 170 _ ext Tryz.func170 (by kernel_rfl) (by kernel_rfl) (by kernel_rfl) hext
  clear hext
  have tT := isTypeOf
  have mR := isMethodComparable
  have nE := noIsE
  have uE := noUnwrapE
  have vE := noUnwrapsE
  have heq := run_eql_iface_ptr_other (P := Tryz.prog) w Tryz.underlying24 Tryz.underlying167 hi hcmp hj (by rw [hjs]; decide) hne ha hb
  go_enter Tryz.func22, Tryz.ntmps22
  go_wp2
  refine wp_loop_rounds 1 ?_
  rw [rounds_succ]
  go_wp2
  go_ret
  exact ⟨rfl, rfl⟩
end Go.Proofs.YtcmhaihoeecjoaaGreatDoor

end
