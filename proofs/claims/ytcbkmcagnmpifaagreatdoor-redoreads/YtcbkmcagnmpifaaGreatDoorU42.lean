/- A copy of bytes with marks behind it, and whether it stands; two rows of bytes that are the same. -/
/- Whether a change is more than is asked; RedoBytes. -/
import Derived.Test.YtcbkmcagnmpifaaGreatDoorU23
import Derived.Test.YtcbkmcagnmpifaaGreatDoorU16
import Derived.BigQuiet
import Derived.Deep.QuietTactic
import Derived.Test.YtcbkmcagnmpifaaGreatDoorU41
section
namespace Go.Proofs.YtcbkmcagnmpifaaGreatDoor
open Go.RowKit
theorem convert_rw {w : World} {v : Value} {bs : List UInt8} {G : Option Nat} (h : Rw w 1 v bs.length (bs.map bv) G) : (convert 25 9 v).run Tryz.prog w = .ok (.string ⟨bs.toArray⟩) w := BR.convert h.br
def marks : List UInt8 := [201, 202, 203, 204, 205, 206]
/-- A copy of bs with the marks behind it. -/
def Copied (w : World) (g o cap : Nat) (bs : List UInt8) : Prop := Rw w 1 (.slice (some ⟨g, o, none⟩) (bs.length + 6) cap) (bs.length + 6) ((bs ++ marks).map bv) (some g)
def CopyOut (w w' : World) (e : Ending) (bs : List UInt8) : Prop := ∃ g o cap, e = .returned (.slice (some ⟨g, o, none⟩) bs.length cap) ∧ Copied w' g o cap bs ∧ w.heap.size ≤ g ∧ Below w.heap.size w w'

set_option maxRecDepth 20000 in
set_option maxHeartbeats 1000000 in
theorem bytes_any (v : Value) (bs : List UInt8) (w : World) (h : BR w v bs) (hm : bs.length ≤ 20000) : Calls Tryz.prog 14 #[v] w fun e w' => CopyOut w w' e bs := by
  have hA := hide h
  obtain ⟨A, c, rfl, hl, hmx, hn, _⟩ := h
  simp only [List.length_map] at hA hl ⊢
  obtain ⟨i0, hi, hz0, hz1, hz2⟩ := info_parts byteInfo
  go_enter Tryz.func14, Tryz.ntmps14
  go_wp2_with (at_make; refine wpList_make_own w rfl _ _ 25 rfl w.heap.size 5 i0 (.int .u8 0) 1 Tryz.underlying25 hi hz0 hz1 .i64 .i64 _ (bs.length + 6) rfl rfl (by omega) (by rw [hz2]; omega) (by simp only [maxLen]; omega) (Nat.le_refl _) ?_)
  intro w1 how1 hgr1
  have hb1 : Hid (Below w.heap.size w w1) := ⟨hgr1.os, hgr1.tape, hgr1.output, hgr1.size, fun k hk => hgr1.block k hk (by simp)⟩
  have hr1 : Hid (Rw w1 1 (.slice (some ⟨w.heap.size, 0, none⟩) 0 (bs.length + 6)) 0 [] (some w.heap.size)) := Rw.of_owns how1
  have hs1 : Hid (Src Tryz.prog 1 25 (.slice A bs.length c) bs.length (bs.map bv) w1) := by
    exact BR.src (hA.out.below hb1.out)
  clear how1 hgr1
  go_wp2_with (at_builtin; refine wpList_append_rw rfl _ _ 25 25 rfl 5 i0 (.int .u8 0) 1 1 Tryz.underlying25 hi hz0 hz1 hz2 rfl rfl hr1.out _ bs.length (bs.map bv) rfl hs1.out (by simp only [maxLen]; omega) (by omega) ?_)
  intro v2 w2 G2 hr2 hm2 hg2
  obtain ⟨A2, c2, rfl⟩ := hr2.form
  have hb2 : Hid (Below w.heap.size w w2) := below_mvs hb1.out hm2 (fun k hk e => by cases e; omega) (Nat.le_refl _)
  have hg2' : Hid (∀ g, G2 = some g → w.heap.size ≤ g) := by
    rintro g rfl
    have := hb1.out.size
    rcases hg2 with h | h
    · cases h
      exact Nat.le_refl _
    · cases h
      exact this
  replace hr2 := hide hr2
  clear hm2 hg2 hs1 hr1
  go_wp2_with (at_builtin; refine wpList_append_rw rfl _ _ 25 25 rfl 5 i0 (.int .u8 0) 1 1 Tryz.underlying25 hi hz0 hz1 hz2 rfl rfl (hr2.out.keep (S := fun _ => False) ((Mvs.refl _ _).alloc _) (fun _ _ c => c)) _ 6 (marks.map bv) rfl (src_lit marks rfl rfl) (by simp only [maxLen]; omega) (by omega) ?_)
  intro v3 w3 G3 hr3 hm3 hg3
  have hb3 : Hid (Below w.heap.size w w3) := below_mvs (hb2.out.alloc hb2.out.size _) hm3 (fun k hk e => by have := hg2'.out k e.symm; omega) (Nat.le_refl _)
  have hg3' : Hid (∀ g, G3 = some g → w.heap.size ≤ g) := by
    have := hb2.out.size
    rintro g rfl
    rcases hg3 with h | h
    · exact hg2'.out g h.symm
    · cases h
      omega
  obtain ⟨g, o, cap, rfl, rfl, hcap⟩ : ∃ g o cap, G3 = some g ∧ v3 = .slice (some ⟨g, o, none⟩) (bs.length + 6) cap ∧ bs.length + 6 ≤ cap := by
    rcases hr3.2 with ⟨_, h, _⟩ | ⟨g, o, cap, k1, k2, k3, _⟩
    · omega
    · exact ⟨g, o, cap, k1, k2, k3⟩
  have hC : Hid (Copied w3 g o cap bs) := by
    show Rw _ _ _ _ _ _
    rw [List.map_append]
    exact hr3
  have hcap2 : (bs.length : Int) ≤ cap := by omega
  clear hr3 hm3 hg3 hr2 hi hz0 hz1 hz2
  go_wp2
  go_ret
  exact ⟨g, o, cap, rfl, hC.out, hg3'.out g rfl, hb3.out⟩

theorem Copied.cell {w : World} {g o cap : Nat} {bs : List UInt8} (h : Copied w g o cap bs) (j : Nat) (hj : j < bs.length + 6) : w.cell? ⟨g, o + j, none⟩ = some (bv ((bs ++ marks)[j]'(by simp [marks]; omega))) := by
  rcases h.2 with ⟨h, _⟩ | ⟨g', o', cap', k1, k2, _, _, _, k6, _⟩
  · cases h
  · cases k1
    simp only [Value.slice.injEq, Option.some.injEq, Addr.mk.injEq] at k2
    obtain ⟨⟨_, rfl, _⟩, _, _⟩ := k2
    exact k6 j _ (by rw [List.getElem?_map, List.getElem?_eq_getElem (by simp [marks]; omega)]; rfl)
theorem Copied.mark {w : World} {g o cap : Nat} {bs : List UInt8} (h : Copied w g o cap bs) (i : Nat) (hi : i < 6) : w.cell? ⟨g, o + (bs.length + i), none⟩ = some (.int .u8 ((201 + i : Nat) : Int)) := by
  rw [h.cell (bs.length + i) (by omega)]
  unfold bv
  congr 3
  rw [List.getElem_append_right (by omega)]
  have h6 : i = 0 ∨ i = 1 ∨ i = 2 ∨ i = 3 ∨ i = 4 ∨ i = 5 := by omega
  rcases h6 with rfl | rfl | rfl | rfl | rfl | rfl <;> simp [marks]
theorem Copied.cap {w : World} {g o cap : Nat} {bs : List UInt8} (h : Copied w g o cap bs) : bs.length + 6 ≤ cap := by
  rcases h.2 with ⟨h, _⟩ | ⟨g', o', cap', k1, k2, k3, _⟩
  · cases h
  · cases k2
    exact k3
theorem Copied.row {w : World} {g o cap : Nat} {bs : List UInt8} (h : Copied w g o cap bs) : Rw w 1 (.slice (some ⟨g, o, none⟩) bs.length cap) bs.length (bs.map bv) (some g) := by
  have := Rw.to (k := bs.length) h (by omega)
  rw [← List.map_take, List.take_left'] at this
  · exact this
  · rfl

set_option maxRecDepth 20000 in
set_option maxHeartbeats 1000000 in
theorem kept_any (g o cap : Nat) (bs : List UInt8) (v : Value) (w : World) (h : Copied w g o cap bs) (hv : BR w v bs) (hm : bs.length ≤ 20000) : Calls Tryz.prog 16 #[.slice (some ⟨g, o, none⟩) bs.length cap, v] w fun e w' => e = .returned (.bool true) ∧ Below w.heap.size w w' := by
  have hcap := h.cap
  have hcapm := h.max
  have hglt := h.row.lt g rfl
  have hcv1 : ∀ n, (convert 25 9 (.slice (some ⟨g, o, none⟩) bs.length cap)).run Tryz.prog (w.drewN n) = .ok (.string ⟨bs.toArray⟩) (w.drewN n) := fun n => convert_rw (h.row.keep (S := fun _ => False) ((Mvs.refl _ _).drewN n) (fun _ _ c => c))
  have hcv2 : ∀ n, (convert 25 9 v).run Tryz.prog (w.drewN n) = .ok (.string ⟨bs.toArray⟩) (w.drewN n) := fun n => BR.convert (hv.below (below_drewN w n))
  obtain ⟨A, c, rfl, hl, hmx, hn, _⟩ := hv
  simp only [List.length_map] at hcv2 hl ⊢
  have HC := hide h
  have d1 : ¬ (cap : Int) < (bs.length : Int) + 6 := by omega
  have d2 : decide ((cap : Int) < (bs.length : Int) + 6) = false := by simp; omega
  have hcapx : Hid (cap ≤ maxLen) := by
    rcases h.2 with ⟨h, _⟩ | ⟨g', o', cap', k1, k2, k3, k4, _⟩
    · cases h
    · cases k2
      exact k4
  have hcx : (cap : Int) ≤ 9223372036854775807 := by have := hcapx.out; simp only [maxLen] at this; omega
  clear h
  go_enter Tryz.func16, Tryz.ntmps16
  go_wp2_with fail
  go_quiet (fail)
  go_wp2_with fail
  go_loopw [6] (fun k wr => ∃ i : Nat, i ≤ 6 ∧ k = .int .i64 i ∧ Hid (Below w.heap.size w wr)) (fun k _ => 6 - (intOf k).toNat)
  case atStart => exact ⟨0, by omega, rfl, below_drewN _ _⟩
  case round =>
    obtain ⟨i, hi, rfl, HB⟩ := hrel
    by_cases hlt : i < 6
    · have hlt' : (i : Int) < 6 := by omega
      have hcm : wr.cell? ⟨g, o + (bs.length + i), none⟩ = some (.int .u8 ((201 + i : Nat) : Int)) := (HB.out.cell (p := ⟨g, o + (bs.length + i), none⟩) hglt).trans (HC.out.mark i hlt)
      have hin : (bs.length : Int) + i < cap := by omega
      have hwr : IntKind.u8.wrap (201 + (i : Int)) = ((201 + i : Nat) : Int) := by
        simp [IntKind.wrap, IntKind.signed, IntKind.bits]
        omega
      clear hcv1 hcv2
      go_wp2
      exact ⟨⟨i + 1, by omega, by go_num, HB⟩, by simp [intOf]; omega⟩
    · have hge : ¬ (i : Int) < 6 := by omega
      go_wp2
      go_ret
      exact ⟨rfl, HB.out⟩

set_option maxHeartbeats 1000000 in
theorem sameBytes_yes (xs : List UInt8) (v1 v2 : Value) (w : World) (h1 : BR w v1 xs) (h2 : BR w v2 xs) : Calls Tryz.prog 13 #[v1, v2] w fun e w' => e = .returned (.bool true) ∧ w' = w := by
  have c1 := BR.convert h1
  have c2 := BR.convert h2
  obtain ⟨A1, k1, rfl, _⟩ := BR.form h1
  obtain ⟨A2, k2, rfl, _⟩ := BR.form h2
  clear h1 h2
  go_enter Tryz.func13, Tryz.ntmps13
  go_wp2
  go_ret
  exact ⟨rfl, rfl⟩
end Go.Proofs.YtcbkmcagnmpifaaGreatDoor

end
section
namespace Go.Proofs.YtcbkmcagnmpifaaGreatDoor
open Go.RowKit
def sumNB : List OpA → Nat
  | [] => 0
  | x :: r => x.bytes.length + x.name.length + sumNB r
theorem sumNB_at (ops : List OpA) (k : Nat) (h : k < ops.length) : sumNB (ops.drop k) = ops[k].bytes.length + ops[k].name.length + sumNB (ops.drop (k + 1)) := by
  rw [List.drop_eq_getElem_cons h]
  rfl
theorem size_NB : ∀ ops : List OpA, sizeOps ops = 1 + 10 * ops.length + sumNB ops
  | [] => rfl
  | x :: r => by
    rw [sizeOps, opSize, size_NB r, sumNB, List.length_cons]
    omega
structure Reach (ops : List OpA) : Prop where
  len : ops.length ≤ 140737488351232
  parts : ∀ x ∈ ops, x.name.length ≤ 140737488351232 ∧ x.bytes.length ≤ 140737488351232
def longB (ops : List OpA) : Bool := decide (20000 < ops.length + sumNB ops)
set_option maxRecDepth 8000 in
set_option maxHeartbeats 4000000 in
theorem long_any (ops : List OpA) (v : Value) (w : World) (h : OPs w v ops) (hr : Reach ops) :
    Calls Tryz.prog 7 #[v] w fun e w' => e = .returned (.bool (longB ops)) ∧ Below w.heap.size w w' := by
  have HO := hide h
  obtain ⟨A, c, rfl, hl, hm⟩ := h.form
  have hmx : c ≤ 9223372036854775807 := by simp only [maxLen] at hm; omega
  have hlen := hr.len
  obtain ⟨R, hR⟩ : ∃ R, Hid (R = longB ops) := ⟨_, rfl⟩
  rw [← hR.out]
  have hR' : Hid (R = decide (20000 < ops.length + sumNB ops)) := hR
  clear h hm hR
  go_enter Tryz.func7, Tryz.ntmps7
  go_wp2
  go_loopw [3, 5, 10] (fun n _ u wr => ∃ k m : Nat, k ≤ ops.length ∧ u = .int .i64 k ∧ n = .int .i64 m ∧ Hid (m ≤ 140737488351232 ∧ (m ≤ 20000 ∨ k = 0)) ∧ Hid (Below w.heap.size w wr) ∧ Hid (m + sumNB (ops.drop k) = ops.length + sumNB ops)) (fun _ _ u _ => ops.length - (intOf u).toNat)
  case atStart => exact ⟨0, ops.length, Nat.zero_le _, rfl, rfl, ⟨hlen, .inr rfl⟩, Below.refl _ _, rfl⟩
  case round =>
    obtain ⟨k, m, hkl, rfl, rfl, hM, hB, hA⟩ := hrel
    obtain ⟨hm1, hm2⟩ := hM.out
    by_cases hlt : k < ops.length
    · have hltz : (k : Int) < (ops.length : Int) := by omega
      obtain ⟨g, o, rfl, hg, _, q0, q1, q2, q3, q4⟩ := (HO.out.below hB.out).at hlt
      obtain ⟨Ab, cb, hvb, _⟩ := q4.form
      have HD := sumNB_at ops k hlt
      have hpt := hr.parts ops[k] (List.getElem_mem hlt)
      have hA' := hA.out
      rw [HD] at hA'
      generalize hx : ops[k] = x at q0 q1 q2 q3 hvb hA' hpt
      clear hx q4 HD
      obtain ⟨kd, nm, att, vl, bs⟩ := x
      simp only at q0 q1 q2 q3 hvb hA' hpt
      subst hvb
      obtain ⟨p1, p2⟩ := hpt
      replace hA' := hide hA'
      by_cases hov : 20000 < m + (bs.length + nm.length)
      · have g1 : decide ((20000 : Int) < (m : Int) + ((bs.length : Int) + (nm.length : Int))) = true := decide_eq_true (by omega)
        have e : Hid (R = true) := by
          show _ = _
          rw [hR'.out]
          have := hA'.out
          exact decide_eq_true (by omega)
        go_wp2
        go_ret
        refine ⟨by rw [e.out]; rfl, hB.out.trans (((Below.refl _ _).alloc (Nat.le_refl _) _).mono hB.out.size)⟩
      · have g1 : decide ((20000 : Int) < (m : Int) + ((bs.length : Int) + (nm.length : Int))) = false := decide_eq_false (by omega)
        have g2 : decide ((m : Int) + ((bs.length : Int) + (nm.length : Int)) < 0) = false := decide_eq_false (by omega)
        go_wp2_with fail
        go_round
        case rel =>
          refine ⟨k + 1, m + (bs.length + nm.length), by omega, by go_num, ?_, ⟨by omega, .inl (by omega)⟩, hB.out.trans (((Below.refl _ _).alloc (Nat.le_refl _) _).mono hB.out.size), ?_⟩
          · congr 1 <;> omega
          · show _ = _
            have := hA'.out
            omega
        case measure => simp [intOf]; omega
    · have hltz : ¬ (k : Int) < (ops.length : Int) := by omega
      have hA' := hA.out
      rw [List.drop_eq_nil_of_le (by omega)] at hA'
      have hz : sumNB [] = 0 := rfl
      have e : Hid (R = decide ((20000 : Int) < (m : Int))) := by
        show _ = _
        rw [hR'.out]
        exact decide_eq_decide.2 (by omega)
      clear hA' hz
      go_wp2
      go_ret
      exact ⟨by rw [e.out]; rfl, hB.out⟩
end Go.Proofs.YtcbkmcagnmpifaaGreatDoor

end
