/- strings.SplitSeq at a byte: the iterator over a text's pieces, for every body. -/
import Derived.RangeFuncNested
import Derived.RangeFuncBound
import Derived.RangeFuncCalls
import Derived.RangeFuncLeaves
import Derived.RangeFuncBox
import Derived.Shelf.Abstract
import Derived.Shelf.RegionOpen
import Derived.OwnWalkIn
import Derived.TacticsInMore
import Derived.LoopNIn
import Derived.LoopIn
import Derived.BigQuiet
import Derived.Deep.QuietTactic
import Derived.Test.YtbjencibkkhbhaaGreatDoorMgQMath
import Derived.Test.YtbjencibkkhbhaaGreatDoorCalm
import Derived.Test.YtbjencibkkhbhaaGreatDoorOwn
import Derived.Test.YtbjencibkkhbhaaGreatDoorHd0
namespace Go.Proofs.YtbjencibkkhbhaaGreatDoor
open Go.RowKit Go.Shelf
attribute [local go_sem] Oper.semAt_some
theorem splitSeq_anyS (c0 : UInt8) (l : List UInt8) (w : World) : Calls Tryz.prog 26 #[.string ⟨l.toArray⟩, .string ⟨#[c0]⟩] w fun e w' =>
    e = .returned (.func (.func 67) #[] #[.pointer (some ⟨w.heap.size + 1, 0, none⟩), .pointer (some ⟨w.heap.size, 0, none⟩), .pointer (some ⟨w.heap.size + 2, 0, none⟩)]) ∧
      w' = ((w.alloc (.cells #[.string ⟨l.toArray⟩] 9)).alloc (.cells #[.string ⟨#[c0]⟩] 9)).alloc (.cells #[.int .i64 0] 3) := by
  have H : Hid (∀ w, Calls Tryz.prog 46 #[.string ⟨l.toArray⟩, .string ⟨#[c0]⟩, .int .i64 0] w fun e w' =>
    e = .returned (.func (.func 67) #[] #[.pointer (some ⟨w.heap.size + 1, 0, none⟩), .pointer (some ⟨w.heap.size, 0, none⟩), .pointer (some ⟨w.heap.size + 2, 0, none⟩)]) ∧
      w' = ((w.alloc (.cells #[.string ⟨l.toArray⟩] 9)).alloc (.cells #[.string ⟨#[c0]⟩] 9)).alloc (.cells #[.int .i64 0] 3)) := by
    intro w
    go_enter Tryz.func46, Tryz.ntmps46
    go_wp2
    go_ret
    exact ⟨rfl, rfl⟩
  go_enter Tryz.func26, Tryz.ntmps26
  go_wp2_with (go_at_call 46; refine (H.out _).mono ?_; rintro e w' ⟨rfl, rfl⟩)
  go_ret
  exact ⟨rfl, rfl⟩
theorem index_dotS {c0 : UInt8} {t : List UInt8} {x : Int} (hx : Lib.indexByte t c0 = x) (w : World) : Calls Tryz.prog 69 #[.string ⟨t.toArray⟩, .string ⟨#[c0]⟩] w fun e w' => e = .returned (.int .i64 x) ∧ w' = w := by
  subst hx
  exact Tryz.strings_Index_one ⟨t.toArray⟩ c0 w
/-- How long the text is that a cell holds. -/
def lenAtS (b : Nat) (w : World) : Nat := match w.cell? ⟨b, 0, none⟩ with
  | some (.string s) => s.size
  | _ => 0
theorem lenAt_eqS {b : Nat} {w : World} {t : List UInt8} (h : Blk w b #[.string ⟨t.toArray⟩] 9) : lenAtS b w = t.length := by
  unfold lenAtS
  rw [h.cell]
  simp [ByteArray.size]
theorem drop_midS (p r : List UInt8) (c : UInt8) : (p ++ c :: r).drop (p.length + 1) = r := by
  rw [List.drop_append, List.drop_of_length_le (by omega), show p.length + 1 - p.length = 1 from by omega]
  rfl
/-- The three captured cells stand as they were. -/
def Kept3cS (Bs Bp Bq : Nat) (W W' : World) : Prop := W'.heap[Bs]? = W.heap[Bs]? ∧ W'.heap[Bp]? = W.heap[Bp]? ∧ W'.heap[Bq]? = W.heap[Bq]?
set_option maxRecDepth 20000 in
set_option maxHeartbeats 1000000 in
theorem split_iterS {c0 : UInt8} (n l Bs Bp Bq : Nat) (hn : 1 ≤ n) (h1 : Bp ≠ Bs) (h2 : Bq ≠ Bs) (s : List UInt8) (hs : s.length ≤ 1000000000) (J Jx : List (List UInt8) → World → Prop)
    (hJs : ∀ pre W v, J pre W → J pre (W.setCell ⟨Bs, 0, none⟩ v))
    (hY : ∀ pre x W, J pre W → (∃ post, pre ++ x :: post = spc c0 s) → YieldAt Fence.wide (n - 1) Tryz.prog l #[.string ⟨x.toArray⟩] W fun e W' =>
      (e = .returned (.bool true) ∧ J (pre ++ [x]) W' ∧ Kept3cS Bs Bp Bq W W') ∨ (e = .returned (.bool false) ∧ Jx (pre ++ [x]) W'))
    (W : World) (hW : Blk W Bs #[.string ⟨s.toArray⟩] 9) (hP : Blk W Bp #[.string ⟨#[c0]⟩] 9) (hQ : Blk W Bq #[.int .i64 0] 3) (h0 : J [] W) :
    CallsIn Fence.wide n Tryz.prog 67 #[.func (.yield l) #[] #[], .pointer (some ⟨Bp, 0, none⟩), .pointer (some ⟨Bs, 0, none⟩), .pointer (some ⟨Bq, 0, none⟩)] W fun e W' => (∃ v, e = .returned v) ∧
      (J (spc c0 s) W' ∨ ∃ pre, Jx pre W') := by
  refine callsIn_of_wp Tryz.func67 rfl trivial ?_ rfl
  simp only [Tryz.ntmps67, List.size_toArray, List.length_cons, List.length_nil, Nat.reduceAdd, Nat.reduceSub, Array.replicate_succ, Array.replicate_zero, List.push_toArray, List.append_toArray, List.nil_append, List.cons_append]
  have HY := hide hY
  have HS := hide hJs
  clear hY hJs
  have hp0 : W.cell? ⟨Bp, 0, none⟩ = some (.string ⟨#[c0]⟩) := hP.cell 0
  gi_wp2
  gi_loopw [7, 8] (fun _ _ wr => ∃ (t : List UInt8) (pre : List (List UInt8)), Hid (Blk wr Bs #[.string ⟨t.toArray⟩] 9) ∧ Hid (Blk wr Bp #[.string ⟨#[c0]⟩] 9) ∧ Hid (Blk wr Bq #[.int .i64 0] 3) ∧ t.length ≤ 1000000000 ∧ Hid (pre ++ spc c0 t = spc c0 s) ∧ Hid (J pre wr)) (fun _ _ wr => lenAtS Bs wr)
  case atStart => exact ⟨s, [], hW, hP, hQ, hs, rfl, h0⟩
  case round =>
    obtain ⟨t, pre, HB, HP, HQ, ht, HX, HJ⟩ := hrel
    clear hW hP hQ h0 hp0
    have hc := HB.out.cell
    have hcp := HP.out.cell
    have hcq := HQ.out.cell
    have hf := HB.out.frozen
    by_cases hin : c0 ∈ t
    · obtain ⟨p, r, hp, h46⟩ := split_at_byte t hin
      have HI := hide (index_dotS (hp ▸ index_in r h46))
      have HX2 : Hid ((pre ++ [p]) ++ spc c0 r = spc c0 s) := by
        show _ = _
        rw [← HX.out, hp, spc_mid r h46]
        simp
      have HPo : Hid (∃ post, pre ++ p :: post = spc c0 s) := ⟨spc c0 r, by rw [← HX.out, hp, spc_mid r h46]⟩
      have e1 : (⟨t.toArray⟩ : ByteArray).extract 0 p.length = ⟨p.toArray⟩ := by
        rw [ext_take, hp, List.take_left' rfl]
      have e2 : (⟨t.toArray⟩ : ByteArray).extract (p.length + 1) t.length = ⟨r.toArray⟩ := by
        rw [ext_drop, hp, drop_midS p r]
      have hk : p.length + 1 + r.length = t.length := by rw [hp]; simp; omega
      clear hin h46 hp
      generalize p.length = k at *
      obtain ⟨fn, tmps, assign, body, hy, hR⟩ := HY.out pre p _ HJ.out HPo.out
      replace hR := hide hR
      gi_wp2_with (first | (refine ⟨trivial, ?_⟩; gi_at_call 69; refine (callsIn_wide.2 (HI.out _)).mono ?_; rintro e w' ⟨rfl, rfl⟩))
      refine hR.out.mono ?_
      clear hR hy
      rintro e W3 (⟨rfl, hJ3, hk3⟩ | ⟨rfl, hJx3⟩)
      · have HB3 : Hid (Blk W3 Bs #[.string ⟨t.toArray⟩] 9) := by
          show W3.heap[Bs]? = _
          rw [hk3.1]
          exact HB.out
        have HP3 : Hid (Blk W3 Bp #[.string ⟨#[c0]⟩] 9) := by
          show W3.heap[Bp]? = _
          rw [hk3.2.1]
          exact HP.out
        have HQ3 : Hid (Blk W3 Bq #[.int .i64 0] 3) := by
          show W3.heap[Bq]? = _
          rw [hk3.2.2]
          exact HQ.out
        have HJ3 := hide hJ3
        clear hJ3 hk3 hc hcp hcq hf
        have hc := HB3.out.cell
        have hcp := HP3.out.cell
        have hf := HB3.out.frozen
        gi_wp2
        go_roundw
        case rel => exact ⟨r, pre ++ [p], HB3.out.set 0 _, HP3.out.set_other _ _ (fun e => h1 e.symm), HQ3.out.set_other _ _ (fun e => h2 e.symm), by omega, HX2, HS.out _ _ _ HJ3.out⟩
        case measure =>
          rw [lenAt_eqS (HB3.out.set 0 _), lenAt_eqS HB.out]
          omega
      · gi_wp2
        refine bodyPost_ret (results_none rfl _ _ _) rfl ?_
        exact ⟨⟨_, rfl⟩, .inr ⟨_, hJx3⟩⟩
    · have HI := hide (index_dotS (index_out hin))
      have HX2 : Hid (pre ++ [t] = spc c0 s) := by
        show _ = _
        rw [← HX.out, spc_end hin]
      obtain ⟨fn, tmps, assign, body, hy, hR⟩ := HY.out pre t _ HJ.out ⟨[], HX2.out⟩
      replace hR := hide hR
      clear hin
      gi_wp2_with (first | (refine ⟨trivial, ?_⟩; gi_at_call 69; refine (callsIn_wide.2 (HI.out _)).mono ?_; rintro e w' ⟨rfl, rfl⟩))
      refine hR.out.mono ?_
      clear hR hy
      rintro e W3 (⟨rfl, hJ3, _⟩ | ⟨rfl, hJx3⟩)
      · gi_wp2
        go_end0
        exact ⟨⟨_, rfl⟩, .inl (by rw [← HX2.out]; exact hJ3)⟩
      · gi_wp2
        go_end0
        exact ⟨⟨_, rfl⟩, .inr ⟨_, hJx3⟩⟩
end Go.Proofs.YtbjencibkkhbhaaGreatDoor
