/- The chapter's own case: alive; the laws CheckSums and CheckPieces. -/
import Derived.Test.YtblopcpiapenpaaDoorCM2
import Derived.Lib.SlBytesConst
namespace Go.Proofs.YtblopcpiapenpaaDoor
open Go.RowKit
theorem br_lit {w : World} (bs : List UInt8) {C : Array Value} {fr : Nat × Nat} (hC : C = (bs.map bv).toArray) (hm : bs.length ≤ 1000000) : BR (w.alloc (.cells C 5 fr)) (.slice (some ⟨w.heap.size, 0, none⟩) bs.length bs.length) bs := by
  subst hC
  refine ⟨some ⟨w.heap.size, 0, none⟩, bs.length, by rw [List.length_map], by rw [List.length_map]; exact Nat.le_refl _, by simp only [maxLen]; omega, (fun h => by cases h), fun _ => ⟨w.heap.size, 0, rfl, by rw [World.size_alloc]; omega, fun j u hu => ?_⟩⟩
  rw [Nat.zero_add, World.cell?_alloc_mark, List.getElem?_toArray, hu]
theorem br_nil (w : World) : BR w (.slice none 0 0) [] := (Rw.br (bs := []) (G := none) (Rw.nil w 1))
theorem sum_abc {w : World} {v : Value} (h : BR w v [97, 98, 99]) : Calls Tryd.prog 9 #[v] w fun e w' => e = .returned (.int .u32 38600999) ∧ w' = w := sum_any _ v w h
set_option maxHeartbeats 1000000 in
theorem alive_yes (w : World) : Calls Tryd.prog 5 #[] w fun e w' => e = .returned (.bool true) ∧ Below w.heap.size w w' := by
  have hcv := fun (w0 : World) (C : Array Value) (n c : Nat) => Lib.run_convert_bytes_const (P := Tryd.prog) w0 22 5 C n c Tryd.underlying22 Tryd.underlying5
  go_enter Tryd.func5, Tryd.ntmps5
  go_wp2_with fail
  refine (sum_abc (br_lit [97, 98, 99] rfl (by decide))).mono ?_
  rintro e w1 ⟨rfl, rfl⟩
  go_wp2_with (go_at_call 10; refine (start_any _).mono ?_; rintro e w1 ⟨rfl, rfl⟩)
  go_ret
  exact ⟨rfl, (Below.refl _ _).alloc (Nat.le_refl _) _⟩

end Go.Proofs.YtblopcpiapenpaaDoor
