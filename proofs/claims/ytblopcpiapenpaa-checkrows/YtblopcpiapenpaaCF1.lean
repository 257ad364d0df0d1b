/- The number of four bytes, by the program and by the document; a copy of bytes. -/
import Derived.Test.YtblopcpiapenpaaCN
import Derived.Lib.LazyBuf
namespace Go.Proofs.Ytblopcpiapenpaa
open Go.RowKit
/-- Four cells of a row, in any world that has drawn. -/
theorem four_at {w : World} {A : Option Addr} {c : Nat} {bs : List UInt8} (h : BR w (.slice A bs.length c) bs) (h4 : 4 ≤ bs.length) : ∃ g o, A = some ⟨g, o, none⟩ ∧ bs.length ≤ c ∧ w.cell? ⟨g, o, none⟩ = some (.int .u8 (bs[0].toNat : Int)) ∧ w.cell? ⟨g, o + 1, none⟩ = some (.int .u8 (bs[1].toNat : Int)) ∧ w.cell? ⟨g, o + 2, none⟩ = some (.int .u8 (bs[2].toNat : Int)) ∧ w.cell? ⟨g, o + 3, none⟩ = some (.int .u8 (bs[3].toNat : Int)) := by
  obtain ⟨g, o, hA, _, hc, hk⟩ := h.at (List.ne_nil_of_length_pos (by omega))
  exact ⟨g, o, hA, hc, hk 0 (by omega), hk 1 (by omega), hk 2 (by omega), hk 3 (by omega)⟩
theorem join4 (a b c d : Nat) (ha : a < 256) (hb : b < 256) (hc : c < 256) (hd : d < 256) : bits .or .u32 (bits .or .u32 (bits .or .u32 ((a : Int) * 16777216) ((b : Int) * 65536)) ((c : Int) * 256)) (d : Int) = ((a * 16777216 + b * 65536 + c * 256 + d : Nat) : Int) := by
  have e1 := or_24 ((a : Int) * 16777216) ((b : Int) * 65536) (by omega) (by omega) (by omega) (by omega) (by omega)
  have e2 := or_16 ((a : Int) * 16777216 + (b : Int) * 65536) ((c : Int) * 256) (by omega) (by omega) (by omega) (by omega) (by omega)
  have e3 := or_8 ((a : Int) * 16777216 + (b : Int) * 65536 + (c : Int) * 256) (d : Int) (by omega) (by omega) (by omega) (by omega) (by omega)
  rw [e1, e2, e3]
  omega
set_option maxRecDepth 20000 in
set_option maxHeartbeats 2000000 in
theorem number_any (bs : List UInt8) (v : Value) (w : World) (h : BR w v bs) (h4 : 4 ≤ bs.length) :
    Calls Try.prog 23 #[v] w fun e w' => e = .returned (.int .u32 (numN bs)) ∧ ∃ n, w' = w.drewN n := by
  obtain ⟨A, c, rfl, hl, hm, _⟩ := BR.form h
  obtain ⟨g, o, rfl, hc, k0, k1, k2, k3⟩ := four_at h h4
  rw [numN_at bs h4]
  have b0 := UInt8.toNat_lt bs[0]
  have b1 := UInt8.toNat_lt bs[1]
  have b2 := UInt8.toNat_lt bs[2]
  have b3 := UInt8.toNat_lt bs[3]
  have HJ := hide (join4 _ _ _ _ b0 b1 b2 b3)
  generalize bs[0].toNat = x0 at *
  generalize bs[1].toNat = x1 at *
  generalize bs[2].toNat = x2 at *
  generalize bs[3].toNat = x3 at *
  have l0 : (0 : Int) < bs.length := by omega
  have l1 : (1 : Int) < bs.length := by omega
  have l2 : (2 : Int) < bs.length := by omega
  have l3 : (3 : Int) < bs.length := by omega
  clear h
  go_enter Try.func23, Try.ntmps23
  go_wp2_with fail
  go_quiet (fail)
  go_wp2
  go_ret
  exact ⟨ret_int HJ.out, _, rfl⟩

set_option maxRecDepth 20000 in
set_option maxHeartbeats 2000000 in
theorem value_any (bs : List UInt8) (v : Value) (w : World) (h : BR w v bs) (h4 : 4 ≤ bs.length) :
    Calls Try.prog 21 #[v] w fun e w' => e = .returned (.int .i64 (numN bs)) ∧ ∃ n, w' = w.drewN n := by
  obtain ⟨A, c, rfl, hl, hm, _⟩ := BR.form h
  obtain ⟨g, o, rfl, hc, k0, k1, k2, k3⟩ := four_at h h4
  rw [numN_at bs h4]
  have b0 := UInt8.toNat_lt bs[0]
  have b1 := UInt8.toNat_lt bs[1]
  have b2 := UInt8.toNat_lt bs[2]
  have b3 := UInt8.toNat_lt bs[3]
  generalize bs[0].toNat = x0 at *
  generalize bs[1].toNat = x1 at *
  generalize bs[2].toNat = x2 at *
  generalize bs[3].toNat = x3 at *
  have l0 : (0 : Int) < bs.length := by omega
  have l1 : (1 : Int) < bs.length := by omega
  have l2 : (2 : Int) < bs.length := by omega
  have l3 : (3 : Int) < bs.length := by omega
  clear h
  go_enter Try.func21, Try.ntmps21
  go_wp2_with fail
  go_quiet (fail)
  go_wp2
  go_ret
  exact ⟨ret_int (by omega), _, rfl⟩

set_option maxRecDepth 20000 in
set_option maxHeartbeats 2000000 in
/-- A copy, of a slice that isn't nil. -/
theorem clone_any (bs : List UInt8) (a : Addr) (n c : Nat) (w : World) (h : BR w (.slice (some a) n c) bs) (hb : bs.length ≤ 1000000) :
    Calls Try.prog 20 #[.slice (some a) n c] w fun e w' => ∃ v, e = .returned v ∧ Bts w w' v bs := by
  obtain ⟨A, c', hv, hl, hm, _⟩ := BR.form h
  simp only [Value.slice.injEq] at hv
  obtain ⟨rfl, rfl, rfl⟩ := hv
  obtain ⟨i0, hi, hz0, hz1, hz2⟩ := info_parts byteInfo
  have HB := hide h
  have hq : ∀ (w0 : World) (m : Nat), (binOp .eql 23 (.slice (some a) m c) (.slice none 0 0)).run Try.prog w0 = .ok (.bool false) w0 := fun w0 m => Lib.run_eql_slice_nil (P := Try.prog) w0 23 5 (some a) m c 0 0 Try.underlying23
  clear h
  go_enter Try.func20, Try.ntmps20
  go_wp2_with (at_builtin; refine wpList_append_rw rfl _ _ 23 23 rfl 5 i0 (.int .u8 0) 1 1 Try.underlying23 hi hz0 hz1 hz2 rfl rfl (Rw.new (e := 5) [] [] (Blk.new _ _ _) rfl rfl (Nat.le_refl _) (Nat.zero_le _)) _ bs.length (bs.map bv) rfl (BR.src (HB.out.below ((Below.refl _ _).alloc (Nat.le_refl _) _))) (by simp only [maxLen]; omega) (by omega) ?_)
  intro v3 w3 G3 hr3 hm3 hg3
  have T3 := hide (Bts.first (Below.refl _ w) (by simpa using hr3) (by simpa using hm3) (by simpa using hg3))
  clear hr3 hm3 hg3 hi hz0 hz1 hz2
  go_wp2
  go_ret
  exact ⟨_, rfl, T3.out⟩
end Go.Proofs.Ytblopcpiapenpaa
