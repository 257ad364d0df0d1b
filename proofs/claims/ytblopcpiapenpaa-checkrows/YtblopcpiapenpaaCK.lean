/- A copy of bytes with marks behind it, and whether it stands; two rows of bytes that are the same. -/
import Derived.Test.YtblopcpiapenpaaCO
import Derived.BigQuiet
import Derived.Deep.QuietTactic
namespace Go.Proofs.Ytblopcpiapenpaa
open Go.RowKit
theorem convert_rw {w : World} {v : Value} {bs : List UInt8} {G : Option Nat} (h : Rw w 1 v bs.length (bs.map bv) G) : (convert 23 9 v).run Try.prog w = .ok (.string ⟨bs.toArray⟩) w := BR.convert h.br
theorem Rw.to {w : World} {n k g o cap : Nat} {cs : List Value} (h : Rw w 1 (.slice (some ⟨g, o, none⟩) n cap) n cs (some g)) (hk : k ≤ n) : Rw w 1 (.slice (some ⟨g, o, none⟩) k cap) k (cs.take k) (some g) := by
  have hl := h.1
  rcases h.2 with ⟨h, _⟩ | ⟨g', o', cap', hg, hv, h1, h2, h3, h4, h5⟩
  · cases h
  · cases hg
    cases hv
    refine ⟨by rw [List.length_take]; omega, .inr ⟨g, o, cap, rfl, rfl, by omega, by omega, h3, fun j u hu => ?_, h5⟩⟩
    have h6 := (List.getElem?_eq_some_iff.1 hu).1
    rw [List.length_take] at h6
    rw [List.getElem?_take_of_lt (by omega)] at hu
    exact h4 _ u hu

def marks : List UInt8 := [201, 202, 203, 204, 205, 206]
/-- A copy of bs with the marks behind it. -/
def Copied (w : World) (g o cap : Nat) (bs : List UInt8) : Prop := Rw w 1 (.slice (some ⟨g, o, none⟩) (bs.length + 6) cap) (bs.length + 6) ((bs ++ marks).map bv) (some g)
def CopyOut (w w' : World) (e : Ending) (bs : List UInt8) : Prop := ∃ g o cap, e = .returned (.slice (some ⟨g, o, none⟩) bs.length cap) ∧ Copied w' g o cap bs ∧ w.heap.size ≤ g ∧ Below w.heap.size w w'

set_option maxRecDepth 20000 in
set_option maxHeartbeats 1000000 in
theorem bytes_any (v : Value) (bs : List UInt8) (w : World) (h : BR w v bs) (hm : bs.length ≤ 20000) : Calls Try.prog 12 #[v] w fun e w' => CopyOut w w' e bs := by
  have hA := hide h
  obtain ⟨A, c, rfl, hl, hmx, hn, _⟩ := h
  simp only [List.length_map] at hA hl ⊢
  obtain ⟨i0, hi, hz0, hz1, hz2⟩ := info_parts byteInfo
  go_enter Try.func12, Try.ntmps12
  go_wp2_with (at_make; refine wpList_make_own w rfl _ _ 23 rfl w.heap.size 5 i0 (.int .u8 0) 1 Try.underlying23 hi hz0 hz1 .i64 .i64 _ (bs.length + 6) rfl rfl (by omega) (by rw [hz2]; omega) (by simp only [maxLen]; omega) (Nat.le_refl _) ?_)
  intro w1 how1 hgr1
  have hb1 : Hid (Below w.heap.size w w1) := ⟨hgr1.os, hgr1.tape, hgr1.output, hgr1.size, fun k hk => hgr1.block k hk (by simp)⟩
  have hr1 : Hid (Rw w1 1 (.slice (some ⟨w.heap.size, 0, none⟩) 0 (bs.length + 6)) 0 [] (some w.heap.size)) := Rw.of_owns how1
  have hs1 : Hid (Src Try.prog 1 23 (.slice A bs.length c) bs.length (bs.map bv) w1) := by
    exact BR.src (hA.out.below hb1.out)
  clear how1 hgr1
  go_wp2_with (at_builtin; refine wpList_append_rw rfl _ _ 23 23 rfl 5 i0 (.int .u8 0) 1 1 Try.underlying23 hi hz0 hz1 hz2 rfl rfl hr1.out _ bs.length (bs.map bv) rfl hs1.out (by simp only [maxLen]; omega) (by omega) ?_)
  intro v2 w2 G2 hr2 hm2 hg2
  obtain ⟨A2, c2, rfl⟩ := hr2.form
  have hb2 : Hid (Below w.heap.size w w2) := below_mvs hb1.out hm2 (fun k hk e => by cases e; omega) (Nat.le_refl _)
  have hg2' : Hid (∀ g, G2 = some g → w.heap.size ≤ g) := by
    rintro g rfl
    have := hb1.out.size
    rcases hg2 with h | h
    · cases h
      exact Nat.le_refl _
    · cases h
      exact this
  replace hr2 := hide hr2
  clear hm2 hg2 hs1 hr1
  go_wp2_with (at_builtin; refine wpList_append_rw rfl _ _ 23 23 rfl 5 i0 (.int .u8 0) 1 1 Try.underlying23 hi hz0 hz1 hz2 rfl rfl (hr2.out.keep (S := fun _ => False) ((Mvs.refl _ _).alloc _) (fun _ _ c => c)) _ 6 (marks.map bv) rfl (src_lit marks rfl rfl) (by simp only [maxLen]; omega) (by omega) ?_)
  intro v3 w3 G3 hr3 hm3 hg3
  have hb3 : Hid (Below w.heap.size w w3) := below_mvs (hb2.out.alloc hb2.out.size _) hm3 (fun k hk e => by have := hg2'.out k e.symm; omega) (Nat.le_refl _)
  have hg3' : Hid (∀ g, G3 = some g → w.heap.size ≤ g) := by
    have := hb2.out.size
    rintro g rfl
    rcases hg3 with h | h
    · exact hg2'.out g h.symm
    · cases h
      omega
  obtain ⟨g, o, cap, rfl, rfl, hcap⟩ : ∃ g o cap, G3 = some g ∧ v3 = .slice (some ⟨g, o, none⟩) (bs.length + 6) cap ∧ bs.length + 6 ≤ cap := by
    rcases hr3.2 with ⟨_, h, _⟩ | ⟨g, o, cap, k1, k2, k3, _⟩
    · omega
    · exact ⟨g, o, cap, k1, k2, k3⟩
  have hC : Hid (Copied w3 g o cap bs) := by
    show Rw _ _ _ _ _ _
    rw [List.map_append]
    exact hr3
  have hcap2 : (bs.length : Int) ≤ cap := by omega
  clear hr3 hm3 hg3 hr2 hi hz0 hz1 hz2
  go_wp2
  go_ret
  exact ⟨g, o, cap, rfl, hC.out, hg3'.out g rfl, hb3.out⟩

theorem Copied.cell {w : World} {g o cap : Nat} {bs : List UInt8} (h : Copied w g o cap bs) (j : Nat) (hj : j < bs.length + 6) : w.cell? ⟨g, o + j, none⟩ = some (bv ((bs ++ marks)[j]'(by simp [marks]; omega))) := by
  rcases h.2 with ⟨h, _⟩ | ⟨g', o', cap', k1, k2, _, _, _, k6, _⟩
  · cases h
  · cases k1
    simp only [Value.slice.injEq, Option.some.injEq, Addr.mk.injEq] at k2
    obtain ⟨⟨_, rfl, _⟩, _, _⟩ := k2
    exact k6 j _ (by rw [List.getElem?_map, List.getElem?_eq_getElem (by simp [marks]; omega)]; rfl)
theorem Copied.mark {w : World} {g o cap : Nat} {bs : List UInt8} (h : Copied w g o cap bs) (i : Nat) (hi : i < 6) : w.cell? ⟨g, o + (bs.length + i), none⟩ = some (.int .u8 ((201 + i : Nat) : Int)) := by
  rw [h.cell (bs.length + i) (by omega)]
  unfold bv
  congr 3
  rw [List.getElem_append_right (by omega)]
  have h6 : i = 0 ∨ i = 1 ∨ i = 2 ∨ i = 3 ∨ i = 4 ∨ i = 5 := by omega
  rcases h6 with rfl | rfl | rfl | rfl | rfl | rfl <;> simp [marks]
theorem Copied.cap {w : World} {g o cap : Nat} {bs : List UInt8} (h : Copied w g o cap bs) : bs.length + 6 ≤ cap := by
  rcases h.2 with ⟨h, _⟩ | ⟨g', o', cap', k1, k2, k3, _⟩
  · cases h
  · cases k2
    exact k3
theorem Copied.row {w : World} {g o cap : Nat} {bs : List UInt8} (h : Copied w g o cap bs) : Rw w 1 (.slice (some ⟨g, o, none⟩) bs.length cap) bs.length (bs.map bv) (some g) := by
  have := Rw.to (k := bs.length) h (by omega)
  rw [← List.map_take, List.take_left'] at this
  · exact this
  · rfl

set_option maxRecDepth 20000 in
set_option maxHeartbeats 1000000 in
theorem kept_any (g o cap : Nat) (bs : List UInt8) (v : Value) (w : World) (h : Copied w g o cap bs) (hv : BR w v bs) (hm : bs.length ≤ 20000) : Calls Try.prog 15 #[.slice (some ⟨g, o, none⟩) bs.length cap, v] w fun e w' => e = .returned (.bool true) ∧ Below w.heap.size w w' := by
  have hcap := h.cap
  have hcapm := h.max
  have hglt := h.row.lt g rfl
  have hcv1 : ∀ n, (convert 23 9 (.slice (some ⟨g, o, none⟩) bs.length cap)).run Try.prog (w.drewN n) = .ok (.string ⟨bs.toArray⟩) (w.drewN n) := fun n => convert_rw (h.row.keep (S := fun _ => False) ((Mvs.refl _ _).drewN n) (fun _ _ c => c))
  have hcv2 : ∀ n, (convert 23 9 v).run Try.prog (w.drewN n) = .ok (.string ⟨bs.toArray⟩) (w.drewN n) := fun n => BR.convert (hv.below (below_drewN w n))
  obtain ⟨A, c, rfl, hl, hmx, hn, _⟩ := hv
  simp only [List.length_map] at hcv2 hl ⊢
  have HC := hide h
  have d1 : ¬ (cap : Int) < (bs.length : Int) + 6 := by omega
  have d2 : decide ((cap : Int) < (bs.length : Int) + 6) = false := by simp; omega
  have hcapx : Hid (cap ≤ maxLen) := by
    rcases h.2 with ⟨h, _⟩ | ⟨g', o', cap', k1, k2, k3, k4, _⟩
    · cases h
    · cases k2
      exact k4
  have hcx : (cap : Int) ≤ 9223372036854775807 := by have := hcapx.out; simp only [maxLen] at this; omega
  clear h
  go_enter Try.func15, Try.ntmps15
  go_wp2_with fail
  go_quiet (fail)
  go_wp2_with fail
  go_loopw [6] (fun k wr => ∃ i : Nat, i ≤ 6 ∧ k = .int .i64 i ∧ Hid (Below w.heap.size w wr)) (fun k _ => 6 - (intOf k).toNat)
  case atStart => exact ⟨0, by omega, rfl, below_drewN _ _⟩
  case round =>
    obtain ⟨i, hi, rfl, HB⟩ := hrel
    by_cases hlt : i < 6
    · have hlt' : (i : Int) < 6 := by omega
      have hcm : wr.cell? ⟨g, o + (bs.length + i), none⟩ = some (.int .u8 ((201 + i : Nat) : Int)) := (HB.out.cell (p := ⟨g, o + (bs.length + i), none⟩) hglt).trans (HC.out.mark i hlt)
      have hin : (bs.length : Int) + i < cap := by omega
      have hwr : IntKind.u8.wrap (201 + (i : Int)) = ((201 + i : Nat) : Int) := by
        simp [IntKind.wrap, IntKind.signed, IntKind.bits]
        omega
      clear hcv1 hcv2
      go_wp2
      exact ⟨⟨i + 1, by omega, by go_num, HB⟩, by simp [intOf]; omega⟩
    · have hge : ¬ (i : Int) < 6 := by omega
      go_wp2
      go_ret
      exact ⟨rfl, HB.out⟩

set_option maxHeartbeats 1000000 in
theorem sameBytes_yes (xs : List UInt8) (v1 v2 : Value) (w : World) (h1 : BR w v1 xs) (h2 : BR w v2 xs) : Calls Try.prog 16 #[v1, v2] w fun e w' => e = .returned (.bool true) ∧ w' = w := by
  have c1 := BR.convert h1
  have c2 := BR.convert h2
  obtain ⟨A1, k1, rfl, _⟩ := BR.form h1
  obtain ⟨A2, k2, rfl, _⟩ := BR.form h2
  clear h1 h2
  go_enter Try.func16, Try.ntmps16
  go_wp2
  go_ret
  exact ⟨rfl, rfl⟩
end Go.Proofs.Ytblopcpiapenpaa
