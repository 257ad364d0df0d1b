/- What LinesPlays leans on: Expect with its errors, their numbers; a copy with marks behind, and whether it stands. -/
import Derived.Test.YtkcailfpanmhdaaDoorLRf2
import Derived.Test.YtkcailfpanmhdaaDoorNum
import Derived.Test.YtkcailfpanmhdaaDoorArgs
import Derived.OwnWalk
namespace Go.Proofs.YtkcailfpanmhdaaDoor
open Go.RowKit
/-- What Expect hands back. -/
def expectV (ea : Nat → Addr) (a : Nat) (n : Int) : Value := if n < 1 ∨ 100000 < n then .iface 92 (.pointer (some (ea 0))) else if 0 < a then .iface 92 (.pointer (some (ea 8))) else .nilIface
section
variable (w : World) (b : Nat) (G : Option Nat) (l : List UInt8) (a : Nat) (ea : Nat → Addr)
set_option maxHeartbeats 1000000 in
theorem expect_any (n : Int) (h : RD w b G l a) (hE : Errs w ea) : Calls Tryd.prog 15 #[.pointer (some ⟨b, 0, none⟩), .int .i64 n] w fun e w' => e = .returned (expectV ea a n) ∧ RD w' b G l (expectOut a n).2 ∧ Mvs (fun k => k = b) w w' := by
  unfold expectV expectOut
  by_cases hn : n < 1 ∨ 100000 < n
  · rw [if_pos hn, if_pos hn]
    have FIN := hide h
    have c0 : w.cell? ⟨0, 0, none⟩ = some (.iface 92 (.pointer (some (ea 0)))) := hE.cell 0 (by decide)
    clear h hE
    rcases hn with hn | hn
    · go_enter Tryd.func15, Tryd.ntmps15
      go_wp2
      go_ret
      exact ⟨rfl, FIN.out, Mvs.refl _ _⟩
    · have hn2 : ¬ n < 1 := by omega
      go_enter Tryd.func15, Tryd.ntmps15
      go_wp2
      go_ret
      exact ⟨rfl, FIN.out, Mvs.refl _ _⟩
  · rw [if_neg hn, if_neg hn]
    have hn1 : ¬ n < 1 := by omega
    have hn2 : ¬ 100000 < n := by omega
    by_cases ha : 0 < a
    · rw [if_pos ha, if_pos ha]
      have ha' : (0 : Int) < a := by omega
      have FIN := hide h
      have c8 : w.cell? ⟨8, 0, none⟩ = some (.iface 92 (.pointer (some (ea 8)))) := hE.cell 8 (by decide)
      obtain ⟨v, s, h⟩ := h
      have hc := h.blk.cell
      clear h hE
      go_enter Tryd.func15, Tryd.ntmps15
      go_wp2
      go_ret
      exact ⟨rfl, FIN.out, Mvs.refl _ _⟩
    · rw [if_neg ha, if_neg ha]
      obtain rfl : a = 0 := by omega
      exact expect_ok w b G l n h (by omega) (by omega)
theorem num_expect (n : Int) (u : World) (hE : Errs u ea) : Calls Tryd.prog 14 #[expectV ea a n] u fun e w' => e = .returned (.int .i64 (expectOut a n).1) ∧ Below u.heap.size u w' := by
  unfold expectV expectOut
  split
  · exact num_err 0 (by decide) u ea hE
  · split
    · exact num_err 8 (by decide) u ea hE
    · refine (num_nil u).mono ?_
      rintro e w' ⟨rfl, rfl⟩
      exact ⟨rfl, Below.refl _ _⟩
end
theorem Rw.of_owns {w : World} {base : Nat} {e : TypeId} {v : Value} {n : Nat} {xs : List Value} (h : w.ownsRow base e 1 v n xs) : Rw w 1 v n xs v.ownBlock := by
  refine ⟨h.1, ?_⟩
  rcases h.2 with ⟨rfl, hn⟩ | ⟨g, cap, cur, rfl, _, hg, h1, h2, h3, h4⟩
  · exact .inl ⟨rfl, hn, rfl⟩
  · have hk : Blk w g cur e := hg
    refine .inr ⟨g, 0, cap, rfl, rfl, h1, h2, hk.lt, fun j u hu => ?_, fun j hj => ⟨?_, hk.frozen _⟩⟩
    · have hj := (List.getElem?_eq_some_iff.1 hu).1
      rw [← h4] at hu
      simp only [Nat.mul_one] at hu
      rw [hk.cell, Nat.zero_add]
      have hjn : j < n := by rw [h.1] at hj; omega
      rw [List.getElem?_take_of_lt hjn] at hu
      simpa using hu
    · rw [hk.cell, Nat.zero_add, Array.getElem?_eq_getElem (by omega)]
      rfl
def marks : List UInt8 := [201, 202, 203, 204, 205, 206]
theorem AR.convert {w : World} {v : Value} {bs : List UInt8} (h : AR w v (bs.map bv)) : (convert 27 9 v).run Tryd.prog w = .ok (.string ⟨bs.toArray⟩) w := by
  obtain ⟨A, cap, rfl, h1, h2, h3, h4⟩ := h
  rw [List.length_map]
  by_cases hb : bs = []
  · subst hb
    exact run_convert_bytes_zero w 27 5 Tryd.underlying27 Tryd.underlying5 A cap 9 Tryd.underlying9
  · obtain ⟨g, o, rfl, hg, h5⟩ := h4 (by simpa using hb)
    exact run_convert_bytes_back (P := Tryd.prog) w 27 9 5 ⟨g, o, none⟩ cap bs Tryd.underlying27 Tryd.underlying5 Tryd.underlying9 (fun j hj => by
      rw [Go.WideShapes.add_plain]
      exact h5 j (bv bs[j]) (by simp [List.getElem?_eq_getElem hj]))

/-- A copy of bs with the marks behind it. -/
def Copied (w : World) (g o cap : Nat) (bs : List UInt8) : Prop := Rw w 1 (.slice (some ⟨g, o, none⟩) (bs.length + 6) cap) (bs.length + 6) ((bs ++ marks).map bv) (some g)
def CopyOut (w w' : World) (e : Ending) (bs : List UInt8) : Prop := ∃ g o cap, e = .returned (.slice (some ⟨g, o, none⟩) bs.length cap) ∧ Copied w' g o cap bs ∧ w.heap.size ≤ g ∧ Below w.heap.size w w'

set_option maxRecDepth 20000 in
set_option maxHeartbeats 1000000 in
theorem bytes_any (v : Value) (bs : List UInt8) (w : World) (h : AR w v (bs.map bv)) (hm : bs.length ≤ 20000) : Calls Tryd.prog 9 #[v] w fun e w' => CopyOut w w' e bs := by
  have hA := hide h
  obtain ⟨A, c, rfl, hl, hmx, hn, _⟩ := h
  simp only [List.length_map] at hA hl ⊢
  obtain ⟨i0, hi, hz0, hz1, hz2⟩ := info_parts byteInfo
  go_enter Tryd.func9, Tryd.ntmps9
  go_wp2_with (at_make; refine wpList_make_own w rfl _ _ 27 rfl w.heap.size 5 i0 (.int .u8 0) 1 Tryd.underlying27 hi hz0 hz1 .i64 .i64 _ (bs.length + 6) rfl rfl (by omega) (by rw [hz2]; omega) (by simp only [maxLen]; omega) (Nat.le_refl _) ?_)
  intro w1 how1 hgr1
  have hb1 : Hid (Below w.heap.size w w1) := ⟨hgr1.os, hgr1.tape, hgr1.output, hgr1.size, fun k hk => hgr1.block k hk (by simp)⟩
  have hr1 : Hid (Rw w1 1 (.slice (some ⟨w.heap.size, 0, none⟩) 0 (bs.length + 6)) 0 [] (some w.heap.size)) := Rw.of_owns how1
  have hs1 : Hid (Src Tryd.prog 1 27 (.slice A bs.length c) bs.length (bs.map bv) w1) := by
    have := (hA.out.below hb1.out).src (P := Tryd.prog) Tryd.underlying27 (bv_oneCell bs)
    rw [List.length_map] at this
    exact this
  clear how1 hgr1
  go_wp2_with (at_builtin; refine wpList_append_rw rfl _ _ 27 27 rfl 5 i0 (.int .u8 0) 1 1 Tryd.underlying27 hi hz0 hz1 hz2 rfl rfl hr1.out _ bs.length (bs.map bv) rfl hs1.out (by simp only [maxLen]; omega) (by omega) ?_)
  intro v2 w2 G2 hr2 hm2 hg2
  obtain ⟨A2, c2, rfl⟩ := hr2.form
  have hb2 : Hid (Below w.heap.size w w2) := below_mvs hb1.out hm2 (fun k hk e => by cases e; omega) (Nat.le_refl _)
  have hg2' : Hid (∀ g, G2 = some g → w.heap.size ≤ g) := by
    rintro g rfl
    have := hb1.out.size
    rcases hg2 with h | h
    · cases h
      exact Nat.le_refl _
    · cases h
      exact this
  replace hr2 := hide hr2
  clear hm2 hg2 hs1 hr1
  go_wp2_with (at_builtin; refine wpList_append_rw rfl _ _ 27 27 rfl 5 i0 (.int .u8 0) 1 1 Tryd.underlying27 hi hz0 hz1 hz2 rfl rfl (hr2.out.keep (S := fun _ => False) ((Mvs.refl _ _).alloc _) (fun _ _ c => c)) _ 6 (marks.map bv) rfl (src_lit marks rfl rfl) (by simp only [maxLen]; omega) (by omega) ?_)
  intro v3 w3 G3 hr3 hm3 hg3
  have hb3 : Hid (Below w.heap.size w w3) := below_mvs (hb2.out.alloc hb2.out.size _) hm3 (fun k hk e => by have := hg2'.out k e.symm; omega) (Nat.le_refl _)
  have hg3' : Hid (∀ g, G3 = some g → w.heap.size ≤ g) := by
    have := hb2.out.size
    rintro g rfl
    rcases hg3 with h | h
    · exact hg2'.out g h.symm
    · cases h
      omega
  obtain ⟨g, o, cap, rfl, rfl, hcap⟩ : ∃ g o cap, G3 = some g ∧ v3 = .slice (some ⟨g, o, none⟩) (bs.length + 6) cap ∧ bs.length + 6 ≤ cap := by
    rcases hr3.2 with ⟨_, h, _⟩ | ⟨g, o, cap, k1, k2, k3, _⟩
    · omega
    · exact ⟨g, o, cap, k1, k2, k3⟩
  have hC : Hid (Copied w3 g o cap bs) := by
    show Rw _ _ _ _ _ _
    rw [List.map_append]
    exact hr3
  have hcap2 : (bs.length : Int) ≤ cap := by omega
  clear hr3 hm3 hg3 hr2 hi hz0 hz1 hz2
  go_wp2
  go_ret
  exact ⟨g, o, cap, rfl, hC.out, hg3'.out g rfl, hb3.out⟩

theorem Copied.cell {w : World} {g o cap : Nat} {bs : List UInt8} (h : Copied w g o cap bs) (j : Nat) (hj : j < bs.length + 6) : w.cell? ⟨g, o + j, none⟩ = some (bv ((bs ++ marks)[j]'(by simp [marks]; omega))) := by
  rcases h.2 with ⟨h, _⟩ | ⟨g', o', cap', k1, k2, _, _, _, k6, _⟩
  · cases h
  · cases k1
    simp only [Value.slice.injEq, Option.some.injEq, Addr.mk.injEq] at k2
    obtain ⟨⟨_, rfl, _⟩, _, _⟩ := k2
    exact k6 j _ (by rw [List.getElem?_map, List.getElem?_eq_getElem (by simp [marks]; omega)]; rfl)
theorem Copied.mark {w : World} {g o cap : Nat} {bs : List UInt8} (h : Copied w g o cap bs) (i : Nat) (hi : i < 6) : w.cell? ⟨g, o + (bs.length + i), none⟩ = some (.int .u8 ((201 + i : Nat) : Int)) := by
  rw [h.cell (bs.length + i) (by omega)]
  unfold bv
  congr 3
  rw [List.getElem_append_right (by omega)]
  have h6 : i = 0 ∨ i = 1 ∨ i = 2 ∨ i = 3 ∨ i = 4 ∨ i = 5 := by omega
  rcases h6 with rfl | rfl | rfl | rfl | rfl | rfl <;> simp [marks]
theorem Copied.cap {w : World} {g o cap : Nat} {bs : List UInt8} (h : Copied w g o cap bs) : bs.length + 6 ≤ cap := by
  rcases h.2 with ⟨h, _⟩ | ⟨g', o', cap', k1, k2, k3, _⟩
  · cases h
  · cases k2
    exact k3
theorem Copied.row {w : World} {g o cap : Nat} {bs : List UInt8} (h : Copied w g o cap bs) : Rw w 1 (.slice (some ⟨g, o, none⟩) bs.length cap) bs.length (bs.map bv) (some g) := by
  have := Rw.to (k := bs.length) h (by omega)
  rw [← List.map_take, List.take_left'] at this
  · exact this
  · rfl

set_option maxRecDepth 20000 in
set_option maxHeartbeats 1000000 in
theorem kept_any (g o cap : Nat) (bs : List UInt8) (v : Value) (w : World) (h : Copied w g o cap bs) (hv : AR w v (bs.map bv)) (hm : bs.length ≤ 20000) : Calls Tryd.prog 11 #[.slice (some ⟨g, o, none⟩) bs.length cap, v] w fun e w' => e = .returned (.bool true) ∧ Below w.heap.size w w' := by
  have hcap := h.cap
  have hcapm := h.max
  have hglt := h.row.lt g rfl
  have hcv1 : ∀ n, (convert 27 9 (.slice (some ⟨g, o, none⟩) bs.length cap)).run Tryd.prog (w.drewN n) = .ok (.string ⟨bs.toArray⟩) (w.drewN n) := fun n => convert_rw (h.row.keep (S := fun _ => False) ((Mvs.refl _ _).drewN n) (fun _ _ c => c))
  have hcv2 : ∀ n, (convert 27 9 v).run Tryd.prog (w.drewN n) = .ok (.string ⟨bs.toArray⟩) (w.drewN n) := fun n => (hv.keep (S := fun _ => False) ((Mvs.refl _ _).drewN n) (fun _ _ _ _ c => c)).convert
  obtain ⟨A, c, rfl, hl, hmx, hn, _⟩ := hv
  simp only [List.length_map] at hcv2 hl ⊢
  have HC := hide h
  have d1 : ¬ (cap : Int) < (bs.length : Int) + 6 := by omega
  have d2 : decide ((cap : Int) < (bs.length : Int) + 6) = false := by simp; omega
  have hcapx : Hid (cap ≤ maxLen) := by
    rcases h.2 with ⟨h, _⟩ | ⟨g', o', cap', k1, k2, k3, k4, _⟩
    · cases h
    · cases k2
      exact k4
  have hcx : (cap : Int) ≤ 9223372036854775807 := by have := hcapx.out; simp only [maxLen] at this; omega
  clear h
  go_enter Tryd.func11, Tryd.ntmps11
  go_wp2_with fail
  go_quiet (fail)
  go_wp2_with fail
  go_loopw [6] (fun k wr => ∃ i : Nat, i ≤ 6 ∧ k = .int .i64 i ∧ Hid (Below w.heap.size w wr)) (fun k _ => 6 - (intOf k).toNat)
  case atStart => exact ⟨0, by omega, rfl, below_drewN _ _⟩
  case round =>
    obtain ⟨i, hi, rfl, HB⟩ := hrel
    by_cases hlt : i < 6
    · have hlt' : (i : Int) < 6 := by omega
      have hcm : wr.cell? ⟨g, o + (bs.length + i), none⟩ = some (.int .u8 ((201 + i : Nat) : Int)) := (HB.out.cell (p := ⟨g, o + (bs.length + i), none⟩) hglt).trans (HC.out.mark i hlt)
      have hin : (bs.length : Int) + i < cap := by omega
      have hwr : IntKind.u8.wrap (201 + (i : Int)) = ((201 + i : Nat) : Int) := by
        simp [IntKind.wrap, IntKind.signed, IntKind.bits]
        omega
      clear hcv1 hcv2
      go_wp2
      exact ⟨⟨i + 1, by omega, by go_num, HB⟩, by simp [intOf]; omega⟩
    · have hge : ¬ (i : Int) < 6 := by omega
      go_wp2
      go_ret
      exact ⟨rfl, HB.out⟩
end Go.Proofs.YtkcailfpanmhdaaDoor
