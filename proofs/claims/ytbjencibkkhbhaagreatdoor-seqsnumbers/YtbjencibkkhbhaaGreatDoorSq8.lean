/- The document's Digits, where package mime is not; texts of ranges. -/
import Derived.Test.YtbjencibkkhbhaaGreatDoorSq7
import Derived.Lib.ItoaMem
set_option linter.unusedSimpArgs false
set_option linter.unusedVariables false
namespace Go.Proofs.YtbjencibkkhbhaaGreatDoor
open Go.RowKit Go.Shelf
theorem conv14 (wr : World) (x : UInt8) (i : Int) (hx : (x.toNat : Int) = i) : (convert 83 9 (.slice (some ⟨wr.heap.size, 0, none⟩) 1 1)).run Tryz.prog (wr.alloc (.cells #[.int .u8 i] 5)) = .ok (.string ⟨#[x]⟩) (wr.alloc (.cells #[.int .u8 i] 5)) := by
  subst hx
  refine conv_out (bs := [x]) (fun j hj => ?_)
  have hB := Blk.new wr #[.int .u8 (x.toNat : Int)] 5
  match j, hj with
  | 0, _ => exact ⟨hB.cell 0, hB.frozen 0⟩
theorem dig14 {k : Nat} (h : k < 10) : ((UInt8.ofNat (48 + k)).toNat : Int) = 48 + (k : Int) := by
  rw [UInt8.toNat_ofNat']
  omega
theorem digs14 {k : Nat} (h : ¬ k < 10) (ds : List UInt8) : Lib.decDigits k ++ ds = Lib.decDigits (k / 10) ++ (UInt8.ofNat (48 + k % 10) :: ds) := by
  rw [Lib.decDigits, dif_neg h]
  simp
set_option maxRecDepth 20000 in
set_option maxHeartbeats 1000000 in
theorem rdigits14 (n : Nat) (w : World) (hn : n ≤ 9223372036854775807) :
    Calls Tryz.prog 33 #[.int .i64 (n : Int)] w fun e w' => e = .returned (.string ⟨(Lib.decDigits n).toArray⟩) ∧ Below w.heap.size w w' := by
  have hdl : (Lib.decDigits n).length ≤ 20 := by rw [Lib.decDigits_length]; exact nd_le 19 n (by omega)
  have HDL := hide hdl
  obtain ⟨D, hD⟩ : ∃ D, Lib.decDigits n = D := ⟨_, rfl⟩
  have HD := hide hD
  rw [hD] at HDL ⊢
  clear hD hdl
  go_enter Tryz.func33, Tryz.ntmps33
  go_wp2
  go_loopw [0, 3] (fun v0 v3 wr => ∃ (k : Nat) (ds : List UInt8), v0 = .int .i64 k ∧ k ≤ n ∧ v3 = .string ⟨ds.toArray⟩ ∧ Hid (Lib.decDigits k ++ ds = D) ∧ Hid (Below w.heap.size w wr)) (fun v0 _ _ => (intOf v0).toNat)
  case atStart => exact ⟨n, [], rfl, Nat.le_refl _, rfl, by show _ = _; rw [HD.out]; simp, Below.refl _ _⟩
  case round =>
    obtain ⟨k, ds, rfl, hkn, rfl, HK, HB⟩ := hrel
    have hds : ds.length ≤ 20 := by
      have h1 := congrArg List.length HK.out
      have h2 := HDL.out
      rw [List.length_append] at h1
      omega
    have hz := size_lit ds
    by_cases h9 : k < 10
    · have g9 : ¬ ((k : Int) > 9) := by omega
      have HX := HK.out
      rw [Lib.decDigits_one h9] at HX
      obtain ⟨x, hx⟩ : ∃ x, UInt8.ofNat (48 + k) = x := ⟨_, rfl⟩
      have hcv := conv14 wr x (48 + (k : Int)) (by rw [← hx]; exact dig14 h9)
      rw [hx] at HX
      have hcat : (⟨#[x]⟩ : ByteArray) ++ ⟨ds.toArray⟩ = ⟨D.toArray⟩ := by
        rw [← HX]
        exact cat_lit [x] ds
      have hz1 := size_lit [x]
      have hal := hide ((Below.refl wr.heap.size wr).alloc (Nat.le_refl _) (.cells #[.int .u8 (48 + (k : Int))] 5))
      clear hx HX HK
      go_wp2
      go_ret
      exact ⟨rfl, HB.out.trans (hal.out.mono HB.out.size)⟩
    · have g9 : ((k : Int) > 9) := by omega
      have HX := hide ((digs14 h9 ds).symm.trans HK.out)
      obtain ⟨x, hx⟩ : ∃ x, UInt8.ofNat (48 + k % 10) = x := ⟨_, rfl⟩
      have hcv := conv14 wr x (48 + (k : Int) % 10) (by rw [← hx, dig14 (Nat.mod_lt _ (by omega))]; omega)
      rw [hx] at HX
      have hcat : (⟨#[x]⟩ : ByteArray) ++ ⟨ds.toArray⟩ = ⟨(x :: ds).toArray⟩ := cat_lit [x] ds
      have hz1 := size_lit [x]
      have hal := hide ((Below.refl wr.heap.size wr).alloc (Nat.le_refl _) (.cells #[.int .u8 (48 + (k : Int) % 10)] 5))
      clear hx HK
      go_wp2
      go_roundw
      case rel => exact ⟨k / 10, x :: ds, by go_num, by omega, rfl, HX, HB.out.trans (hal.out.mono HB.out.size)⟩
      case measure => simp [intOf]; omega
end Go.Proofs.YtbjencibkkhbhaaGreatDoor
