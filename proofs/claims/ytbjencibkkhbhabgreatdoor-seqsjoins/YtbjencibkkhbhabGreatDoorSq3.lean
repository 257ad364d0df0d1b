/- The document's Of of layer 14; SameInts and SameRanges of one row in two places. -/
import Derived.Test.YtbjencibkkhbhabGreatDoorSq2
import Derived.Deep.QuietTactic
set_option linter.unusedSimpArgs false
set_option linter.unusedVariables false
namespace Go.Proofs.YtbjencibkkhbhabGreatDoor
open Go.RowKit Go.Shelf
def iv (z : Int) : Value := .int .i64 z
theorem iv_oneCell (xs : List Int) : ∀ u ∈ xs.map iv, u.oneCell' = true := by
  intro u hu
  obtain ⟨b, _, rfl⟩ := List.mem_map.1 hu
  rfl
theorem intInfo14 : (Tryz.prog.info? 3).map (fun i => (i.zero, i.size, i.bytes)) = some (some (.int .i64 0), 1, 8) := by kernel_rfl
theorem src_int {w : World} (z : Int) {c : Nat} : Src Tryz.prog 1 41 (.slice (some ⟨w.heap.size, 0, none⟩) 1 c) 1 [iv z] (w.alloc (.cells #[.int .i64 z] 3)) :=
  Src.ofSlice _ Tryz.underlying41 ⟨w.heap.size, 0, none⟩ 1 c [iv z] rfl (fun j u hu => by
    rw [Go.WideShapes.add_plain, Nat.zero_add]
    match j, hu with
    | 0, hu => cases hu; exact (Blk.new w #[.int .i64 z] 3).cell 0) (iv_oneCell [z])
/-- A row of numbers of one's own, under way. -/
def Is (w wr : World) (v : Value) (xs : List Int) : Prop := Below w.heap.size w wr ∧ ∃ G, Rw wr 1 v xs.length (xs.map iv) G ∧ ∀ g, G = some g → w.heap.size ≤ g
theorem Is.grow {w wr w1 : World} {v1 : Value} {xs : List Int} {x : Int} {G G1 : Option Nat} {o : Obj} (hb : Below w.heap.size w wr) (hg : ∀ g, G = some g → w.heap.size ≤ g)
    (hr : Rw w1 1 v1 (xs.length + 1) (xs.map iv ++ [iv x]) G1) (hm : Mvs (fun k => some k = G) (wr.alloc o) w1) (hG : G1 = G ∨ G1 = some (wr.alloc o).heap.size) : Is w w1 v1 (xs ++ [x]) := by
  refine ⟨below_mvs (hb.alloc hb.size _) hm (fun k hk e => by have := hg k e.symm; omega) (Nat.le_refl _), G1, ?_, ?_⟩
  · rw [List.length_append, List.map_append]
    exact hr
  · rintro g rfl
    rcases hG with h | h
    · exact hg g h.symm
    · cases h
      have := hb.size
      simp
      omega
theorem Is.ia {w wr : World} {v : Value} {xs : List Int} (h : Is w wr v xs) : IA wr v xs := by
  obtain ⟨_, G, hr, _⟩ := h
  obtain ⟨A, c, rfl⟩ := hr.form
  refine ⟨A, c, rfl, fun i hi => ?_⟩
  rcases hr.2 with ⟨_, h0, _⟩ | ⟨g, o, cap, _, e, _, _, h3, h4, _⟩
  · omega
  · exact ⟨g, o, by cases e; rfl, h3, h4 i _ (by rw [List.getElem?_map, List.getElem?_eq_getElem hi]; rfl)⟩
theorem Is.below {w wr wq : World} {v : Value} {xs : List Int} (h : Is w wr v xs) (hb : Below wr.heap.size wr wq) : Is w wq v xs := by
  obtain ⟨h1, G, hr, hg⟩ := h
  exact ⟨h1.trans (hb.mono h1.size), G, hr.keep (S := fun _ => False) (Mvs.of_below hb) (fun _ _ c => c), hg⟩
theorem filt_int {f : Int → Bool} {C : List Int} {i : Nat} (h : i < C.length) : (C.take (i + 1)).filter f = (C.take i).filter f ++ (if f C[i] then [C[i]] else []) := by
  rw [List.take_succ_eq_append_getElem h, List.filter_append]
  congr 1
  cases hf : f C[i] <;> simp [hf]
set_option maxHeartbeats 1000000 in
theorem isame_yes {v1 v2 : Value} {xs : List Int} (w : World) (h1 : IA w v1 xs) (h2 : IA w v2 xs) (hl : xs.length ≤ 1000000) :
    Calls Tryz.prog 12 #[v1, v2] w fun e w' => e = .returned (.bool true) ∧ ∃ n, w' = w.drewN n := by
  obtain ⟨A1, c1, rfl, k1⟩ := h1
  obtain ⟨A2, c2, rfl, k2⟩ := h2
  have H1 := hide k1
  have H2 := hide k2
  clear k1 k2
  go_enter Tryz.func12, Tryz.ntmps12
  go_wp2
  go_loopw [13] (fun i wr => ∃ k : Nat, k ≤ xs.length ∧ i = .int .i64 k ∧ ∃ n, wr = w.drewN n) (fun i _ => xs.length - (intOf i).toNat)
  case atStart => exact ⟨0, Nat.zero_le _, rfl, 0, rfl⟩
  case round =>
    obtain ⟨k, hk, rfl, n, rfl⟩ := hrel
    by_cases hlt : k < xs.length
    · obtain ⟨g, o, rfl, _, q1⟩ := H1.out k hlt
      obtain ⟨g2, o2, rfl, _, r1⟩ := H2.out k hlt
      have hlt' : (k : Int) < xs.length := by omega
      generalize xs[k] = p at *
      go_wp2
      go_quiet (fail)
      go_wp2
      go_roundw
      case rel => exact ⟨k + 1, by omega, by go_num, n + nq, by simp⟩
      case measure => simp [intOf]; omega
    · obtain rfl : k = xs.length := by omega
      go_wp2
      go_ret
      exact ⟨rfl, n, rfl⟩
end Go.Proofs.YtbjencibkkhbhabGreatDoor
