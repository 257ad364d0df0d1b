/- flagOf, FlagsText and Apply of package seqs. (genspf.py) -/
import Derived.Test.YtbjencibkkhbhaaGreatDoorSp7
import Derived.Test.YtbjencibkkhbhaaGreatDoorHs1
set_option linter.unusedVariables false
set_option linter.unusedSimpArgs false
namespace Go.Proofs.YtbjencibkkhbhaaGreatDoor
open Go.RowKit Go.Shelf
/-- The names of the flags lie in this world. -/
structure Nms (w : World) : Prop where
  cell : ∀ i, i < 5 → w.cell? ⟨13, i, none⟩ = some (.string ⟨(flN.getD i []).toArray⟩)
  low : 13 < w.heap.size
theorem Nms.below {w w' : World} (h : Nms w) (hb : Below w.heap.size w w') : Nms w' := ⟨fun i hi => (hb.cell (p := ⟨13, i, none⟩) h.low).trans (h.cell i hi), Nat.lt_of_lt_of_le h.low hb.size⟩
theorem idxQ0 (W : World) : (Instr.index 74 (.agg #[.string ⟨#[92, 83, 101, 101, 110]⟩, .string ⟨#[92, 65, 110, 115, 119, 101, 114, 101, 100]⟩, .string ⟨#[92, 70, 108, 97, 103, 103, 101, 100]⟩, .string ⟨#[92, 68, 101, 108, 101, 116, 101, 100]⟩, .string ⟨#[92, 68, 114, 97, 102, 116]⟩]) (.int .i64 0)).run Tryz.prog W = .ok (.string ⟨#[92, 83, 101, 101, 110]⟩) W := by kernel_rfl
theorem idxN0 (W : World) : (Instr.index 74 (.agg #[.string ⟨#[92, 83, 101, 101, 110]⟩, .string ⟨#[92, 65, 110, 115, 119, 101, 114, 101, 100]⟩, .string ⟨#[92, 70, 108, 97, 103, 103, 101, 100]⟩, .string ⟨#[92, 68, 101, 108, 101, 116, 101, 100]⟩, .string ⟨#[92, 68, 114, 97, 102, 116]⟩]) (.int .i64 ((0 : Nat) : Int))).run Tryz.prog W = .ok (.string ⟨#[92, 83, 101, 101, 110]⟩) W := by kernel_rfl
theorem idxQ1 (W : World) : (Instr.index 74 (.agg #[.string ⟨#[92, 83, 101, 101, 110]⟩, .string ⟨#[92, 65, 110, 115, 119, 101, 114, 101, 100]⟩, .string ⟨#[92, 70, 108, 97, 103, 103, 101, 100]⟩, .string ⟨#[92, 68, 101, 108, 101, 116, 101, 100]⟩, .string ⟨#[92, 68, 114, 97, 102, 116]⟩]) (.int .i64 1)).run Tryz.prog W = .ok (.string ⟨#[92, 65, 110, 115, 119, 101, 114, 101, 100]⟩) W := by kernel_rfl
theorem idxN1 (W : World) : (Instr.index 74 (.agg #[.string ⟨#[92, 83, 101, 101, 110]⟩, .string ⟨#[92, 65, 110, 115, 119, 101, 114, 101, 100]⟩, .string ⟨#[92, 70, 108, 97, 103, 103, 101, 100]⟩, .string ⟨#[92, 68, 101, 108, 101, 116, 101, 100]⟩, .string ⟨#[92, 68, 114, 97, 102, 116]⟩]) (.int .i64 ((1 : Nat) : Int))).run Tryz.prog W = .ok (.string ⟨#[92, 65, 110, 115, 119, 101, 114, 101, 100]⟩) W := by kernel_rfl
theorem idxQ2 (W : World) : (Instr.index 74 (.agg #[.string ⟨#[92, 83, 101, 101, 110]⟩, .string ⟨#[92, 65, 110, 115, 119, 101, 114, 101, 100]⟩, .string ⟨#[92, 70, 108, 97, 103, 103, 101, 100]⟩, .string ⟨#[92, 68, 101, 108, 101, 116, 101, 100]⟩, .string ⟨#[92, 68, 114, 97, 102, 116]⟩]) (.int .i64 2)).run Tryz.prog W = .ok (.string ⟨#[92, 70, 108, 97, 103, 103, 101, 100]⟩) W := by kernel_rfl
theorem idxN2 (W : World) : (Instr.index 74 (.agg #[.string ⟨#[92, 83, 101, 101, 110]⟩, .string ⟨#[92, 65, 110, 115, 119, 101, 114, 101, 100]⟩, .string ⟨#[92, 70, 108, 97, 103, 103, 101, 100]⟩, .string ⟨#[92, 68, 101, 108, 101, 116, 101, 100]⟩, .string ⟨#[92, 68, 114, 97, 102, 116]⟩]) (.int .i64 ((2 : Nat) : Int))).run Tryz.prog W = .ok (.string ⟨#[92, 70, 108, 97, 103, 103, 101, 100]⟩) W := by kernel_rfl
theorem idxQ3 (W : World) : (Instr.index 74 (.agg #[.string ⟨#[92, 83, 101, 101, 110]⟩, .string ⟨#[92, 65, 110, 115, 119, 101, 114, 101, 100]⟩, .string ⟨#[92, 70, 108, 97, 103, 103, 101, 100]⟩, .string ⟨#[92, 68, 101, 108, 101, 116, 101, 100]⟩, .string ⟨#[92, 68, 114, 97, 102, 116]⟩]) (.int .i64 3)).run Tryz.prog W = .ok (.string ⟨#[92, 68, 101, 108, 101, 116, 101, 100]⟩) W := by kernel_rfl
theorem idxN3 (W : World) : (Instr.index 74 (.agg #[.string ⟨#[92, 83, 101, 101, 110]⟩, .string ⟨#[92, 65, 110, 115, 119, 101, 114, 101, 100]⟩, .string ⟨#[92, 70, 108, 97, 103, 103, 101, 100]⟩, .string ⟨#[92, 68, 101, 108, 101, 116, 101, 100]⟩, .string ⟨#[92, 68, 114, 97, 102, 116]⟩]) (.int .i64 ((3 : Nat) : Int))).run Tryz.prog W = .ok (.string ⟨#[92, 68, 101, 108, 101, 116, 101, 100]⟩) W := by kernel_rfl
theorem idxQ4 (W : World) : (Instr.index 74 (.agg #[.string ⟨#[92, 83, 101, 101, 110]⟩, .string ⟨#[92, 65, 110, 115, 119, 101, 114, 101, 100]⟩, .string ⟨#[92, 70, 108, 97, 103, 103, 101, 100]⟩, .string ⟨#[92, 68, 101, 108, 101, 116, 101, 100]⟩, .string ⟨#[92, 68, 114, 97, 102, 116]⟩]) (.int .i64 4)).run Tryz.prog W = .ok (.string ⟨#[92, 68, 114, 97, 102, 116]⟩) W := by kernel_rfl
theorem idxN4 (W : World) : (Instr.index 74 (.agg #[.string ⟨#[92, 83, 101, 101, 110]⟩, .string ⟨#[92, 65, 110, 115, 119, 101, 114, 101, 100]⟩, .string ⟨#[92, 70, 108, 97, 103, 103, 101, 100]⟩, .string ⟨#[92, 68, 101, 108, 101, 116, 101, 100]⟩, .string ⟨#[92, 68, 114, 97, 102, 116]⟩]) (.int .i64 ((4 : Nat) : Int))).run Tryz.prog W = .ok (.string ⟨#[92, 68, 114, 97, 102, 116]⟩) W := by kernel_rfl
/-- What flagOf answers. -/
def fgV (o : Option Nat) : Ending := match o with
  | some x => .returned (.tuple #[.int .i64 ((x : Nat) : Int), .bool true])
  | none => .returned (.tuple #[.int .i64 0, .bool false])
theorem flI_mono (s : List UInt8) (x : Nat) : ∀ i d, flI s i = some x → flI s (i + d) = some x
  | i, 0, h => h
  | i, d + 1, h => by
    show flI s (i + d + 1) = _
    unfold flI
    rw [flI_mono s x i d h]
theorem flI_hit {s : List UInt8} {i : Nat} (hi : i < 5) (h0 : flI s i = none) (h : sameT s (flN.getD i []) = true) : flW s = some (2 ^ i) := by
  rw [← flI_eq]
  have h1 : flI s (i + 1) = some (2 ^ i) := by
    unfold flI
    rw [h0]
    unfold sameT at h
    dsimp only
    rw [if_pos (by simpa using h)]
  have := flI_mono s _ (i + 1) (4 - i) h1
  rwa [show i + 1 + (4 - i) = 5 by omega] at this
theorem flI_miss {s : List UInt8} {i : Nat} (h0 : flI s i = none) (h : sameT s (flN.getD i []) = false) : flI s (i + 1) = none := by
  unfold flI
  rw [h0]
  unfold sameT at h
  dsimp only
  rw [if_neg (by simpa using h)]
set_option maxRecDepth 20000 in
set_option maxHeartbeats 4000000 in
theorem pflagOf_any (s : List UInt8) (w : World) (hN : Nms w) (hs : s.length ≤ 1000000) :
    Calls Tryz.prog 42 #[.string ⟨s.toArray⟩] w fun e w' => e = fgV (flW s) ∧ Below w.heap.size w w' := by
  obtain ⟨O, HO⟩ : ∃ O, Hid (O = flW s) := ⟨_, hide rfl⟩
  rw [← HO.out]
  have q0 : w.cell? ⟨13, 0, none⟩ = some (.string ⟨#[92, 83, 101, 101, 110]⟩) := hN.cell 0 (by decide)
  have q1 : w.cell? ⟨13, 1, none⟩ = some (.string ⟨#[92, 65, 110, 115, 119, 101, 114, 101, 100]⟩) := hN.cell 1 (by decide)
  have q2 : w.cell? ⟨13, 2, none⟩ = some (.string ⟨#[92, 70, 108, 97, 103, 103, 101, 100]⟩) := hN.cell 2 (by decide)
  have q3 : w.cell? ⟨13, 3, none⟩ = some (.string ⟨#[92, 68, 101, 108, 101, 116, 101, 100]⟩) := hN.cell 3 (by decide)
  have q4 : w.cell? ⟨13, 4, none⟩ = some (.string ⟨#[92, 68, 114, 97, 102, 116]⟩) := hN.cell 4 (by decide)
  clear hN
  go_enter Tryz.func42, Tryz.ntmps42
  go_wp2
  go_loopw [4, 5, 7] (fun _ _ v7 wr => ∃ i : Nat, v7 = .int .i64 i ∧ i ≤ 5 ∧ Hid (flI s i = none) ∧ Hid (Below w.heap.size w wr)) (fun _ _ v7 _ => 5 - (intOf v7).toNat)
  case atStart => exact ⟨0, rfl, by omega, rfl, Below.refl _ _⟩
  case round =>
    obtain ⟨i, rfl, hi, HF, HB⟩ := hrel
    clear q0 q1 q2 q3 q4
    rcases (show i = 0 ∨ i = 1 ∨ i = 2 ∨ i = 3 ∨ i = 4 ∨ i = 5 by omega) with rfl | rfl | rfl | rfl | rfl | rfl
    · have hx := idxQ0
      have hx2 := idxN0
      have HS : Hid (∀ W, Calls Tryz.prog 64 #[.string ⟨s.toArray⟩, .string ⟨#[92, 83, 101, 101, 110]⟩] W fun e w' => e = .returned (.bool (sameT s (flN.getD 0 []))) ∧ Below W.heap.size W w') := fun W => hsame_any s [92, 83, 101, 101, 110] W hs (by decide)
      cases hT : sameT s (flN.getD 0 []) with
      | true =>
        have HV : Hid (O = some 1) := by show _ = _; rw [HO.out]; exact flI_hit (by decide) HF.out hT
        rw [hT] at HS
        clear hT
        go_wp2_with (go_at_call 64; refine (HS.out _).mono ?_; rintro e wq ⟨rfl, hbq⟩; replace hbq := hide hbq)
        exact bodyPost_ret (v := .tuple #[.int .i64 1, .bool true]) (by simp [results, Tryz.results42, go_sem]) rfl ⟨by rw [HV.out]; rfl, HB.out.trans (hbq.out.mono HB.out.size)⟩
      | false =>
        have HM := hide (flI_miss HF.out hT)
        rw [hT] at HS
        clear hT
        go_wp2_with (go_at_call 64; refine (HS.out _).mono ?_; rintro e wq ⟨rfl, hbq⟩; replace hbq := hide hbq)
        go_roundw
        case rel => exact ⟨1, by go_num, by omega, HM.out, HB.out.trans (hbq.out.mono HB.out.size)⟩
        case measure => simp [intOf] <;> omega
    · have hx := idxQ1
      have hx2 := idxN1
      have HS : Hid (∀ W, Calls Tryz.prog 64 #[.string ⟨s.toArray⟩, .string ⟨#[92, 65, 110, 115, 119, 101, 114, 101, 100]⟩] W fun e w' => e = .returned (.bool (sameT s (flN.getD 1 []))) ∧ Below W.heap.size W w') := fun W => hsame_any s [92, 65, 110, 115, 119, 101, 114, 101, 100] W hs (by decide)
      cases hT : sameT s (flN.getD 1 []) with
      | true =>
        have HV : Hid (O = some 2) := by show _ = _; rw [HO.out]; exact flI_hit (by decide) HF.out hT
        rw [hT] at HS
        clear hT
        go_wp2_with (go_at_call 64; refine (HS.out _).mono ?_; rintro e wq ⟨rfl, hbq⟩; replace hbq := hide hbq)
        exact bodyPost_ret (v := .tuple #[.int .i64 2, .bool true]) (by simp [results, Tryz.results42, go_sem]) rfl ⟨by rw [HV.out]; rfl, HB.out.trans (hbq.out.mono HB.out.size)⟩
      | false =>
        have HM := hide (flI_miss HF.out hT)
        rw [hT] at HS
        clear hT
        go_wp2_with (go_at_call 64; refine (HS.out _).mono ?_; rintro e wq ⟨rfl, hbq⟩; replace hbq := hide hbq)
        go_roundw
        case rel => exact ⟨2, by go_num, by omega, HM.out, HB.out.trans (hbq.out.mono HB.out.size)⟩
        case measure => simp [intOf] <;> omega
    · have hx := idxQ2
      have hx2 := idxN2
      have HS : Hid (∀ W, Calls Tryz.prog 64 #[.string ⟨s.toArray⟩, .string ⟨#[92, 70, 108, 97, 103, 103, 101, 100]⟩] W fun e w' => e = .returned (.bool (sameT s (flN.getD 2 []))) ∧ Below W.heap.size W w') := fun W => hsame_any s [92, 70, 108, 97, 103, 103, 101, 100] W hs (by decide)
      cases hT : sameT s (flN.getD 2 []) with
      | true =>
        have HV : Hid (O = some 4) := by show _ = _; rw [HO.out]; exact flI_hit (by decide) HF.out hT
        rw [hT] at HS
        clear hT
        go_wp2_with (go_at_call 64; refine (HS.out _).mono ?_; rintro e wq ⟨rfl, hbq⟩; replace hbq := hide hbq)
        exact bodyPost_ret (v := .tuple #[.int .i64 4, .bool true]) (by simp [results, Tryz.results42, go_sem]) rfl ⟨by rw [HV.out]; rfl, HB.out.trans (hbq.out.mono HB.out.size)⟩
      | false =>
        have HM := hide (flI_miss HF.out hT)
        rw [hT] at HS
        clear hT
        go_wp2_with (go_at_call 64; refine (HS.out _).mono ?_; rintro e wq ⟨rfl, hbq⟩; replace hbq := hide hbq)
        go_roundw
        case rel => exact ⟨3, by go_num, by omega, HM.out, HB.out.trans (hbq.out.mono HB.out.size)⟩
        case measure => simp [intOf] <;> omega
    · have hx := idxQ3
      have hx2 := idxN3
      have HS : Hid (∀ W, Calls Tryz.prog 64 #[.string ⟨s.toArray⟩, .string ⟨#[92, 68, 101, 108, 101, 116, 101, 100]⟩] W fun e w' => e = .returned (.bool (sameT s (flN.getD 3 []))) ∧ Below W.heap.size W w') := fun W => hsame_any s [92, 68, 101, 108, 101, 116, 101, 100] W hs (by decide)
      cases hT : sameT s (flN.getD 3 []) with
      | true =>
        have HV : Hid (O = some 8) := by show _ = _; rw [HO.out]; exact flI_hit (by decide) HF.out hT
        rw [hT] at HS
        clear hT
        go_wp2_with (go_at_call 64; refine (HS.out _).mono ?_; rintro e wq ⟨rfl, hbq⟩; replace hbq := hide hbq)
        exact bodyPost_ret (v := .tuple #[.int .i64 8, .bool true]) (by simp [results, Tryz.results42, go_sem]) rfl ⟨by rw [HV.out]; rfl, HB.out.trans (hbq.out.mono HB.out.size)⟩
      | false =>
        have HM := hide (flI_miss HF.out hT)
        rw [hT] at HS
        clear hT
        go_wp2_with (go_at_call 64; refine (HS.out _).mono ?_; rintro e wq ⟨rfl, hbq⟩; replace hbq := hide hbq)
        go_roundw
        case rel => exact ⟨4, by go_num, by omega, HM.out, HB.out.trans (hbq.out.mono HB.out.size)⟩
        case measure => simp [intOf] <;> omega
    · have hx := idxQ4
      have hx2 := idxN4
      have HS : Hid (∀ W, Calls Tryz.prog 64 #[.string ⟨s.toArray⟩, .string ⟨#[92, 68, 114, 97, 102, 116]⟩] W fun e w' => e = .returned (.bool (sameT s (flN.getD 4 []))) ∧ Below W.heap.size W w') := fun W => hsame_any s [92, 68, 114, 97, 102, 116] W hs (by decide)
      cases hT : sameT s (flN.getD 4 []) with
      | true =>
        have HV : Hid (O = some 16) := by show _ = _; rw [HO.out]; exact flI_hit (by decide) HF.out hT
        rw [hT] at HS
        clear hT
        go_wp2_with (go_at_call 64; refine (HS.out _).mono ?_; rintro e wq ⟨rfl, hbq⟩; replace hbq := hide hbq)
        exact bodyPost_ret (v := .tuple #[.int .i64 16, .bool true]) (by simp [results, Tryz.results42, go_sem]) rfl ⟨by rw [HV.out]; rfl, HB.out.trans (hbq.out.mono HB.out.size)⟩
      | false =>
        have HM := hide (flI_miss HF.out hT)
        rw [hT] at HS
        clear hT
        go_wp2_with (go_at_call 64; refine (HS.out _).mono ?_; rintro e wq ⟨rfl, hbq⟩; replace hbq := hide hbq)
        go_roundw
        case rel => exact ⟨5, by go_num, by omega, HM.out, HB.out.trans (hbq.out.mono HB.out.size)⟩
        case measure => simp [intOf] <;> omega
    · have HV : Hid (O = none) := by show _ = _; rw [HO.out, ← flI_eq]; exact HF.out
      go_wp2
      exact bodyPost_ret (v := .tuple #[.int .i64 0, .bool false]) (by simp [results, Tryz.results42, go_sem]) rfl ⟨by rw [HV.out]; rfl, HB.out⟩
theorem bit_and : ∀ f, f < 32 → ∀ i, i < 5 → bits .and .i64 ((f : Nat) : Int) ((2 ^ i : Nat) : Int) = if f.testBit i then ((2 ^ i : Nat) : Int) else 0 := by decide +kernel
set_option maxRecDepth 20000 in
set_option maxHeartbeats 4000000 in
theorem pflagsText_any (f : Nat) (hf : f < 32) (w : World) (hN : Nms w) :
    Calls Tryz.prog 25 #[.int .i64 ((f : Nat) : Int)] w fun e w' => e = .returned (.string ⟨(flT f).toArray⟩) ∧ Below w.heap.size w w' := by
  obtain ⟨O, HO⟩ : ∃ O, Hid (O = flT f) := ⟨_, hide rfl⟩
  rw [← HO.out]
  obtain ⟨i0, hi0, hz0, hz1, hz2⟩ := sp_info strInfoQ
  have q0 : w.cell? ⟨13, 0, none⟩ = some (.string ⟨#[92, 83, 101, 101, 110]⟩) := hN.cell 0 (by decide)
  have q1 : w.cell? ⟨13, 1, none⟩ = some (.string ⟨#[92, 65, 110, 115, 119, 101, 114, 101, 100]⟩) := hN.cell 1 (by decide)
  have q2 : w.cell? ⟨13, 2, none⟩ = some (.string ⟨#[92, 70, 108, 97, 103, 103, 101, 100]⟩) := hN.cell 2 (by decide)
  have q3 : w.cell? ⟨13, 3, none⟩ = some (.string ⟨#[92, 68, 101, 108, 101, 116, 101, 100]⟩) := hN.cell 3 (by decide)
  have q4 : w.cell? ⟨13, 4, none⟩ = some (.string ⟨#[92, 68, 114, 97, 102, 116]⟩) := hN.cell 4 (by decide)
  clear hN
  go_enter Tryz.func25, Tryz.ntmps25
  go_wp2
  go_loopw [3, 4, 5, 7] (fun v3 _ _ v7 wr => ∃ i : Nat, v7 = .int .i64 i ∧ i ≤ 5 ∧ Hid (Ts w wr v3 (flH f i))) (fun _ _ _ v7 _ => 5 - (intOf v7).toNat)
  case atStart => exact ⟨0, rfl, by omega, Below.refl _ _, none, Rw.nil _ _, fun g h => by cases h⟩
  case round =>
    obtain ⟨i, rfl, hi, HT⟩ := hrel
    clear q0 q1 q2 q3 q4
    rcases (show i = 0 ∨ i = 1 ∨ i = 2 ∨ i = 3 ∨ i = 4 ∨ i = 5 by omega) with rfl | rfl | rfl | rfl | rfl | rfl
    · have hx := idxQ0
      have hx2 := idxN0
      have HN := hide (flH_step f 0 (by decide))
      have hl := flH_len f 0
      have hb := bit_and f hf 0 (by decide)
      generalize flH f 0 = ts at *
      obtain ⟨A3, c3, rfl⟩ := HT.out.2.choose_spec.1.form
      cases hT : f.testBit 0 with
      | true =>
        rw [hT, if_pos rfl] at HN hb
        have hb' : bits .and .i64 ((f : Nat) : Int) 1 = 1 := hb
        have HNx : Hid (flH f 1 = ts ++ [[92, 83, 101, 101, 110]]) := HN.out
        clear hT hb HN
        obtain ⟨hb, G, hr, hg⟩ := HT.out
        have HR := hide hr
        have HBw := hide hb
        have HGg := hide hg
        clear hr hb hg HT
        go_wp2_with (at_builtin; refine wpList_append_rw rfl _ _ 56 56 rfl 9 i0 (.string ⟨#[]⟩) 1 16 Tryz.underlying56 hi0 hz0 hz1 hz2 rfl rfl (HR.out.keep (S := fun _ => False) ((Mvs.refl _ _).alloc _) (fun _ _ c => c)) _ 1 _ rfl (src_strQ [92, 83, 101, 101, 110]) (by simp only [maxLen]; omega) (by omega) ?_)
        intro v4 w5 G4 hr4 hm5 hg4
        have T4 := hide (Ts.grow (x := [92, 83, 101, 101, 110]) HBw.out HGg.out hr4 hm5 (by simpa using hg4))
        clear hr4 hm5 hg4
        go_wp2
        go_roundw
        case rel => exact ⟨1, by go_num, by omega, by rw [HNx.out]; exact T4.out⟩
        case measure => simp [intOf] <;> omega
      | false =>
        rw [hT, if_neg (by simp)] at HN hb
        rw [List.append_nil] at HN
        have hb' : bits .and .i64 ((f : Nat) : Int) 1 = 0 := hb
        clear hT hb
        go_wp2
        go_roundw
        case rel => exact ⟨1, by go_num, by omega, by rw [HN.out]; exact HT.out⟩
        case measure => simp [intOf] <;> omega
    · have hx := idxQ1
      have hx2 := idxN1
      have HN := hide (flH_step f 1 (by decide))
      have hl := flH_len f 1
      have hb := bit_and f hf 1 (by decide)
      generalize flH f 1 = ts at *
      obtain ⟨A3, c3, rfl⟩ := HT.out.2.choose_spec.1.form
      cases hT : f.testBit 1 with
      | true =>
        rw [hT, if_pos rfl] at HN hb
        have hb' : bits .and .i64 ((f : Nat) : Int) 2 = 2 := hb
        have HNx : Hid (flH f 2 = ts ++ [[92, 65, 110, 115, 119, 101, 114, 101, 100]]) := HN.out
        clear hT hb HN
        obtain ⟨hb, G, hr, hg⟩ := HT.out
        have HR := hide hr
        have HBw := hide hb
        have HGg := hide hg
        clear hr hb hg HT
        go_wp2_with (at_builtin; refine wpList_append_rw rfl _ _ 56 56 rfl 9 i0 (.string ⟨#[]⟩) 1 16 Tryz.underlying56 hi0 hz0 hz1 hz2 rfl rfl (HR.out.keep (S := fun _ => False) ((Mvs.refl _ _).alloc _) (fun _ _ c => c)) _ 1 _ rfl (src_strQ [92, 65, 110, 115, 119, 101, 114, 101, 100]) (by simp only [maxLen]; omega) (by omega) ?_)
        intro v4 w5 G4 hr4 hm5 hg4
        have T4 := hide (Ts.grow (x := [92, 65, 110, 115, 119, 101, 114, 101, 100]) HBw.out HGg.out hr4 hm5 (by simpa using hg4))
        clear hr4 hm5 hg4
        go_wp2
        go_roundw
        case rel => exact ⟨2, by go_num, by omega, by rw [HNx.out]; exact T4.out⟩
        case measure => simp [intOf] <;> omega
      | false =>
        rw [hT, if_neg (by simp)] at HN hb
        rw [List.append_nil] at HN
        have hb' : bits .and .i64 ((f : Nat) : Int) 2 = 0 := hb
        clear hT hb
        go_wp2
        go_roundw
        case rel => exact ⟨2, by go_num, by omega, by rw [HN.out]; exact HT.out⟩
        case measure => simp [intOf] <;> omega
    · have hx := idxQ2
      have hx2 := idxN2
      have HN := hide (flH_step f 2 (by decide))
      have hl := flH_len f 2
      have hb := bit_and f hf 2 (by decide)
      generalize flH f 2 = ts at *
      obtain ⟨A3, c3, rfl⟩ := HT.out.2.choose_spec.1.form
      cases hT : f.testBit 2 with
      | true =>
        rw [hT, if_pos rfl] at HN hb
        have hb' : bits .and .i64 ((f : Nat) : Int) 4 = 4 := hb
        have HNx : Hid (flH f 3 = ts ++ [[92, 70, 108, 97, 103, 103, 101, 100]]) := HN.out
        clear hT hb HN
        obtain ⟨hb, G, hr, hg⟩ := HT.out
        have HR := hide hr
        have HBw := hide hb
        have HGg := hide hg
        clear hr hb hg HT
        go_wp2_with (at_builtin; refine wpList_append_rw rfl _ _ 56 56 rfl 9 i0 (.string ⟨#[]⟩) 1 16 Tryz.underlying56 hi0 hz0 hz1 hz2 rfl rfl (HR.out.keep (S := fun _ => False) ((Mvs.refl _ _).alloc _) (fun _ _ c => c)) _ 1 _ rfl (src_strQ [92, 70, 108, 97, 103, 103, 101, 100]) (by simp only [maxLen]; omega) (by omega) ?_)
        intro v4 w5 G4 hr4 hm5 hg4
        have T4 := hide (Ts.grow (x := [92, 70, 108, 97, 103, 103, 101, 100]) HBw.out HGg.out hr4 hm5 (by simpa using hg4))
        clear hr4 hm5 hg4
        go_wp2
        go_roundw
        case rel => exact ⟨3, by go_num, by omega, by rw [HNx.out]; exact T4.out⟩
        case measure => simp [intOf] <;> omega
      | false =>
        rw [hT, if_neg (by simp)] at HN hb
        rw [List.append_nil] at HN
        have hb' : bits .and .i64 ((f : Nat) : Int) 4 = 0 := hb
        clear hT hb
        go_wp2
        go_roundw
        case rel => exact ⟨3, by go_num, by omega, by rw [HN.out]; exact HT.out⟩
        case measure => simp [intOf] <;> omega
    · have hx := idxQ3
      have hx2 := idxN3
      have HN := hide (flH_step f 3 (by decide))
      have hl := flH_len f 3
      have hb := bit_and f hf 3 (by decide)
      generalize flH f 3 = ts at *
      obtain ⟨A3, c3, rfl⟩ := HT.out.2.choose_spec.1.form
      cases hT : f.testBit 3 with
      | true =>
        rw [hT, if_pos rfl] at HN hb
        have hb' : bits .and .i64 ((f : Nat) : Int) 8 = 8 := hb
        have HNx : Hid (flH f 4 = ts ++ [[92, 68, 101, 108, 101, 116, 101, 100]]) := HN.out
        clear hT hb HN
        obtain ⟨hb, G, hr, hg⟩ := HT.out
        have HR := hide hr
        have HBw := hide hb
        have HGg := hide hg
        clear hr hb hg HT
        go_wp2_with (at_builtin; refine wpList_append_rw rfl _ _ 56 56 rfl 9 i0 (.string ⟨#[]⟩) 1 16 Tryz.underlying56 hi0 hz0 hz1 hz2 rfl rfl (HR.out.keep (S := fun _ => False) ((Mvs.refl _ _).alloc _) (fun _ _ c => c)) _ 1 _ rfl (src_strQ [92, 68, 101, 108, 101, 116, 101, 100]) (by simp only [maxLen]; omega) (by omega) ?_)
        intro v4 w5 G4 hr4 hm5 hg4
        have T4 := hide (Ts.grow (x := [92, 68, 101, 108, 101, 116, 101, 100]) HBw.out HGg.out hr4 hm5 (by simpa using hg4))
        clear hr4 hm5 hg4
        go_wp2
        go_roundw
        case rel => exact ⟨4, by go_num, by omega, by rw [HNx.out]; exact T4.out⟩
        case measure => simp [intOf] <;> omega
      | false =>
        rw [hT, if_neg (by simp)] at HN hb
        rw [List.append_nil] at HN
        have hb' : bits .and .i64 ((f : Nat) : Int) 8 = 0 := hb
        clear hT hb
        go_wp2
        go_roundw
        case rel => exact ⟨4, by go_num, by omega, by rw [HN.out]; exact HT.out⟩
        case measure => simp [intOf] <;> omega
    · have hx := idxQ4
      have hx2 := idxN4
      have HN := hide (flH_step f 4 (by decide))
      have hl := flH_len f 4
      have hb := bit_and f hf 4 (by decide)
      generalize flH f 4 = ts at *
      obtain ⟨A3, c3, rfl⟩ := HT.out.2.choose_spec.1.form
      cases hT : f.testBit 4 with
      | true =>
        rw [hT, if_pos rfl] at HN hb
        have hb' : bits .and .i64 ((f : Nat) : Int) 16 = 16 := hb
        have HNx : Hid (flH f 5 = ts ++ [[92, 68, 114, 97, 102, 116]]) := HN.out
        clear hT hb HN
        obtain ⟨hb, G, hr, hg⟩ := HT.out
        have HR := hide hr
        have HBw := hide hb
        have HGg := hide hg
        clear hr hb hg HT
        go_wp2_with (at_builtin; refine wpList_append_rw rfl _ _ 56 56 rfl 9 i0 (.string ⟨#[]⟩) 1 16 Tryz.underlying56 hi0 hz0 hz1 hz2 rfl rfl (HR.out.keep (S := fun _ => False) ((Mvs.refl _ _).alloc _) (fun _ _ c => c)) _ 1 _ rfl (src_strQ [92, 68, 114, 97, 102, 116]) (by simp only [maxLen]; omega) (by omega) ?_)
        intro v4 w5 G4 hr4 hm5 hg4
        have T4 := hide (Ts.grow (x := [92, 68, 114, 97, 102, 116]) HBw.out HGg.out hr4 hm5 (by simpa using hg4))
        clear hr4 hm5 hg4
        go_wp2
        go_roundw
        case rel => exact ⟨5, by go_num, by omega, by rw [HNx.out]; exact T4.out⟩
        case measure => simp [intOf] <;> omega
      | false =>
        rw [hT, if_neg (by simp)] at HN hb
        rw [List.append_nil] at HN
        have hb' : bits .and .i64 ((f : Nat) : Int) 16 = 0 := hb
        clear hT hb
        go_wp2
        go_roundw
        case rel => exact ⟨5, by go_num, by omega, by rw [HN.out]; exact HT.out⟩
        case measure => simp [intOf] <;> omega
    · have HV : Hid (O = 40 :: (jn 32 (flH f 5) ++ [41])) := by show _ = _; rw [HO.out]; exact flT_H f
      have hl := flH_len f 5
      obtain ⟨hb, G, hr, hg⟩ := HT.out
      have hjl : (jn 32 (flH f 5)).length ≤ 100 := by
        have : ∀ f, f < 32 → (jn 32 (flH f 5)).length ≤ 100 := by decide +kernel
        exact this f hf
      have HJ := hide (pjoin_any 32 _ _ G _ hr (by omega) (by omega))
      have HB := hide hb
      obtain ⟨A3, c3, rfl⟩ := hr.form
      clear hr hg hb HT
      generalize flH f 5 = ts at *
      generalize jn 32 ts = t at *
      have hsz := size_lit t
      go_wp2_with (go_at_call 32; refine HJ.out.mono ?_; rintro e wq ⟨rfl, hbq⟩; replace hbq := hide hbq)
      go_ret
      refine ⟨?_, HB.out.trans (hbq.out.mono HB.out.size)⟩
      rw [HV.out, show (⟨(40 :: (t ++ [41])).toArray⟩ : ByteArray) = ⟨#[40]⟩ ++ ⟨t.toArray⟩ ++ ⟨#[41]⟩ from ByteArray.ext (by simp)]
      rfl
theorem ap_set : ∀ g, g < 32 → bits .and .i64 ((g : Nat) : Int) 31 = ((g : Nat) : Int) := by decide +kernel
theorem ap_add : ∀ f, f < 32 → ∀ g, g < 32 → bits .and .i64 (bits .or .i64 ((f : Nat) : Int) ((g : Nat) : Int)) 31 = ((f ||| g : Nat) : Int) := by decide +kernel
theorem ap_sub : ∀ f, f < 32 → ∀ g, g < 32 → bits .and .i64 (bits .andNot .i64 ((f : Nat) : Int) ((g : Nat) : Int)) 31 = ((f &&& (31 - g) : Nat) : Int) := by decide +kernel
end Go.Proofs.YtbjencibkkhbhaaGreatDoor
