/- Looks, needsMark, Quote, Unquote of package quote. -/
/- strings.Lines: the iterator over a text's lines, for every body. -/
import Derived.Test.YtcmhaihoeecjoaaGreatDoorU01
import Derived.Test.YtcmhaihoeecjoaaGreatDoorShelf
import Derived.Test.YtcmhaihoeecjoaaGreatDoorChecked
import Derived.RangeFuncNested
import Derived.RangeFuncBound
import Derived.RangeFuncCalls
import Derived.RangeFuncLeaves
import Derived.RangeFuncBox
import Derived.Shelf.Abstract
import Derived.Shelf.RegionOpen
import Derived.OwnWalkIn
import Derived.TacticsInMore
import Derived.LoopNIn
import Derived.LoopIn
section
namespace Go.Proofs.YtcmhaihoeecjoaaGreatDoor
open Go.RowKit
theorem hide {p : Prop} (h : p) : Hid p := h
def str (l : List UInt8) : Value := .string ⟨l.toArray⟩
theorem size_lit (l : List UInt8) : (⟨l.toArray⟩ : ByteArray).size = l.length := by simp [ByteArray.size]
theorem cat_lit (a b : List UInt8) : (⟨a.toArray⟩ : ByteArray) ++ ⟨b.toArray⟩ = ⟨(a ++ b).toArray⟩ := by
  apply ByteArray.ext
  simp [ByteArray.data_append]
theorem trim_calls (l : List UInt8) (w : World) : Calls Tryz.prog 89 #[.string ⟨l.toArray⟩, .string ⟨#[62]⟩] w fun e w' => e = .returned (.string ⟨(Lib.trimLeftB l 62).toArray⟩) ∧ w' = w :=
  Tryz.strings_TrimLeft_one ⟨l.toArray⟩ 62 (by decide) w
theorem pre_calls (l : List UInt8) (w : World) : Calls Tryz.prog 90 #[.string ⟨l.toArray⟩, .string ⟨#[70, 114, 111, 109, 32]⟩] w fun e w' => e = .returned (.bool (Lib.hasPrefix l fromS)) ∧ w' = w :=
  Tryz.strings_HasPrefix ⟨l.toArray⟩ ⟨#[70, 114, 111, 109, 32]⟩ w
set_option maxHeartbeats 400000 in
theorem looks_any (l : List UInt8) (w : World) :
    Calls Tryz.prog 52 #[.string ⟨l.toArray⟩] w fun e w' => e = .returned (.tuple #[.bool (sepB l), .bool (quoB l)]) ∧ w' = w := by
  have ht := nm_trim l
  have hle := trim_le l
  cases hn : nm l with
  | false =>
    have hs : sepB l = false := by
      cases h : sepB l with
      | true => rw [nm_sep h] at hn; cases hn
      | false => rfl
    have hq : quoB l = false := by
      cases h : quoB l with
      | true => rw [nm_quo h] at hn; cases hn
      | false => rfl
    rw [hn] at ht
    rw [hs, hq]
    clear hs hq hn
    generalize hg : Lib.trimLeftB l 62 = t at ht hle
    have HG := hide hg
    clear hg
    go_enter Tryz.func52, Tryz.ntmps52
    go_wp2_with (first | (go_at_call 89; refine (trim_calls l _).mono ?_; rintro e w' ⟨rfl, rfl⟩; rw [HG.out]) | (go_at_call 90; refine (pre_calls t _).mono ?_; rintro e w' ⟨rfl, rfl⟩))
    go_ret2
    exact ⟨rfl, rfl⟩
  | true =>
    have hs := sep_trim hn
    rw [quo_not_sep hn]
    rw [hn] at ht
    clear hn
    have HS := hide hs
    clear hs
    generalize hg : Lib.trimLeftB l 62 = t at ht hle HS
    have HG := hide hg
    clear hg
    by_cases he : t.length = l.length
    · have hb : ((t.length : Int) == (l.length : Int)) = true := by simp [he]
      have hs : sepB l = true := by rw [HS.out]; simpa using he
      rw [hs]
      clear he hs
      go_enter Tryz.func52, Tryz.ntmps52
      go_wp2_with (first | (go_at_call 89; refine (trim_calls l _).mono ?_; rintro e w' ⟨rfl, rfl⟩; rw [HG.out]) | (go_at_call 90; refine (pre_calls t _).mono ?_; rintro e w' ⟨rfl, rfl⟩))
      go_ret2
      exact ⟨by simp, rfl⟩
    · have hb : ((t.length : Int) == (l.length : Int)) = false := by simp; omega
      have hs : sepB l = false := by rw [HS.out]; simpa using he
      rw [hs]
      clear he hs
      go_enter Tryz.func52, Tryz.ntmps52
      go_wp2_with (first | (go_at_call 89; refine (trim_calls l _).mono ?_; rintro e w' ⟨rfl, rfl⟩; rw [HG.out]) | (go_at_call 90; refine (pre_calls t _).mono ?_; rintro e w' ⟨rfl, rfl⟩))
      go_ret2
      exact ⟨by simp, rfl⟩
set_option maxHeartbeats 400000 in
theorem needs_any (l : List UInt8) (w : World) :
    Calls Tryz.prog 72 #[.string ⟨l.toArray⟩] w fun e w' => e = .returned (.bool (nm l)) ∧ w' = w := by
  have HN := hide (nm_or l)
  have HL := hide (looks_any l w)
  cases hs : sepB l <;> rw [hs] at HN HL
  all_goals
    clear hs
    go_enter Tryz.func72, Tryz.ntmps72
    go_wp2_with (go_at_call 52; refine HL.out.mono ?_; rintro e w' ⟨rfl, rfl⟩)
    go_ret
    exact ⟨by rw [HN.out]; simp, rfl⟩
set_option maxHeartbeats 400000 in
theorem quote_any (l : List UInt8) (w : World) (hl : l.length ≤ 4611686018427387904) :
    Calls Tryz.prog 38 #[.string ⟨l.toArray⟩] w fun e w' => e = .returned (.string ⟨(quoteL l).toArray⟩) ∧ w' = w := by
  have HL := hide (needs_any l w)
  unfold quoteL
  cases hs : nm l <;> rw [hs] at HL
  all_goals
    clear hs
    go_enter Tryz.func38, Tryz.ntmps38
    go_wp2_with (go_at_call 72; refine HL.out.mono ?_; rintro e w' ⟨rfl, rfl⟩)
    go_ret
    exact ⟨by first | (rw [cat_lit [62] l]; rfl) | simp, rfl⟩
set_option maxHeartbeats 400000 in
theorem unquote_any (l : List UInt8) (w : World) (hl : l.length ≤ 4611686018427387904) :
    Calls Tryz.prog 55 #[.string ⟨l.toArray⟩] w fun e w' => e = .returned (.string ⟨(unquoteL l).toArray⟩) ∧ w' = w := by
  have HL := hide (looks_any l w)
  unfold unquoteL
  cases hs : quoB l <;> rw [hs] at HL
  · clear hs
    go_enter Tryz.func55, Tryz.ntmps55
    go_wp2_with (go_at_call 52; refine HL.out.mono ?_; rintro e w' ⟨rfl, rfl⟩)
    go_ret
    exact ⟨by simp, rfl⟩
  · obtain ⟨r, rfl, _⟩ := quo_form hs
    clear hs
    have e1 := ext_drop (62 :: r) 1
    simp only [List.length_cons] at e1 hl
    go_enter Tryz.func55, Tryz.ntmps55
    go_wp2_with (go_at_call 52; refine HL.out.mono ?_; rintro e w' ⟨rfl, rfl⟩)
    go_ret
    exact ⟨by simp, rfl⟩
end Go.Proofs.YtcmhaihoeecjoaaGreatDoor

end
section
namespace Go.Proofs.YtcmhaihoeecjoaaGreatDoor
open Go.RowKit Go.Shelf
attribute [local go_sem] Oper.semAt_some
theorem lines_any (l : List UInt8) (w : World) : Calls Tryz.prog 36 #[.string ⟨l.toArray⟩] w fun e w' => e = .returned (.func (.func 73) #[] #[.pointer (some ⟨w.heap.size, 0, none⟩)]) ∧ w' = w.alloc (.cells #[.string ⟨l.toArray⟩] 9) := by
  go_enter Tryz.func36, Tryz.ntmps36
  go_wp2
  go_ret
  exact ⟨rfl, rfl⟩
theorem index_str {t : List UInt8} {x : Int} (hx : Lib.indexByte t 10 = x) (w : World) : Calls Tryz.prog 74 #[.string ⟨t.toArray⟩, .int .u8 10] w fun e w' => e = .returned (.int .i64 x) ∧ w' = w := by
  subst hx
  exact Tryz.strings_IndexByte ⟨t.toArray⟩ 10 w
/-- How long the text is that a cell holds. -/
def lenAt (b : Nat) (w : World) : Nat := match w.cell? ⟨b, 0, none⟩ with
  | some (.string s) => s.size
  | _ => 0
theorem lenAt_eq {b : Nat} {w : World} {t : List UInt8} (h : Blk w b #[.string ⟨t.toArray⟩] 9) : lenAt b w = t.length := by
  unfold lenAt
  rw [h.cell]
  simp [ByteArray.size]
theorem take_mid (p r : List UInt8) : (p ++ 10 :: r).take (p.length + 1) = p ++ [10] := by
  rw [List.take_append, List.take_of_length_le (by omega), show p.length + 1 - p.length = 1 from by omega]
  rfl
theorem drop_mid (p r : List UInt8) : (p ++ 10 :: r).drop (p.length + 1) = r := by
  rw [List.drop_append, List.drop_of_length_le (by omega), show p.length + 1 - p.length = 1 from by omega]
  rfl
set_option maxRecDepth 20000 in
set_option maxHeartbeats 1000000 in
theorem lines_iter (n l Bs : Nat) (hn : 1 ≤ n) (s : List UInt8) (hs : s.length ≤ 1000000000) (J Jx : List (List UInt8) → World → Prop)
    (hJs : ∀ pre W v, J pre W → J pre (W.setCell ⟨Bs, 0, none⟩ v)) (hJd : ∀ pre W, J pre W → J pre W.drew)
    (hY : ∀ pre x W, J pre W → (∃ post, pre ++ x :: post = splitS s) → YieldAt Fence.wide (n - 1) Tryz.prog l #[.string ⟨x.toArray⟩] W fun e W' =>
      (e = .returned (.bool true) ∧ J (pre ++ [x]) W' ∧ W'.heap[Bs]? = W.heap[Bs]?) ∨ (e = .returned (.bool false) ∧ Jx (pre ++ [x]) W'))
    (W : World) (hW : Blk W Bs #[.string ⟨s.toArray⟩] 9) (h0 : J [] W) :
    CallsIn Fence.wide n Tryz.prog 73 #[.func (.yield l) #[] #[], .pointer (some ⟨Bs, 0, none⟩)] W fun e W' => (∃ v, e = .returned v) ∧
      (J (splitS s) W' ∨ ∃ pre, Jx pre W') := by
  refine callsIn_of_wp Tryz.func73 rfl trivial ?_ rfl
  simp only [Tryz.ntmps73, List.size_toArray, List.length_cons, List.length_nil, Nat.reduceAdd, Nat.reduceSub, Array.replicate_succ, Array.replicate_zero, List.push_toArray, List.append_toArray, List.nil_append, List.cons_append]
  have HY := hide hY
  have HS := hide hJs
  have HD := hide hJd
  clear hY hJs hJd
  gi_wp2
  gi_loopw [3] (fun _ wr => ∃ (t : List UInt8) (pre : List (List UInt8)), Hid (Blk wr Bs #[.string ⟨t.toArray⟩] 9) ∧ t.length ≤ 1000000000 ∧ Hid (pre ++ splitS t = splitS s) ∧ Hid (J pre wr)) (fun _ wr => lenAt Bs wr)
  case atStart => exact ⟨s, [], hW, hs, rfl, h0⟩
  case round =>
    obtain ⟨t, pre, HB, ht, HX, HJ⟩ := hrel
    have hc := HB.out.cell
    have hf := HB.out.frozen
    by_cases h0 : t = []
    · subst h0
      gi_wp2
      go_end0
      have hx := HX.out
      rw [splitS, List.append_nil] at hx
      exact ⟨⟨_, rfl⟩, .inl (by rw [← hx]; exact HJ.out)⟩
    · have hE : ((t.length : Int) > 0) := by
        have := List.length_pos_iff.2 h0
        omega
      cases hcut : cut10 t with
      | none =>
        have h10 := cut10_none hcut
        clear hcut
        have HI := hide (index_str (index_none h10))
        have HX2 : Hid ((pre ++ [t]) ++ splitS [] = splitS s) := by
          show _ = _
          rw [← HX.out, splitS_end t h10 h0]
          simp [splitS]
        obtain ⟨fn, tmps, assign, body, hy, hR⟩ := HY.out pre t _ (HS.out _ _ (.string ⟨#[]⟩) HJ.out) ⟨[], by rw [← HX.out, splitS_end t h10 h0]⟩
        replace hR := hide hR
        clear h0 h10
        gi_wp2_with (first | (refine ⟨trivial, ?_⟩; gi_at_call 74; refine (callsIn_wide.2 (HI.out _)).mono ?_; rintro e w' ⟨rfl, rfl⟩))
        refine hR.out.mono ?_
        clear hR hy
        rintro e W3 (⟨rfl, hJ3, hk3⟩ | ⟨rfl, hJx3⟩)
        · have HB3 : Hid (Blk W3 Bs #[.string ⟨([] : List UInt8).toArray⟩] 9) := by
            show W3.heap[Bs]? = _
            rw [hk3]
            exact HB.out.set 0 _
          have HJ3 := hide hJ3
          clear hJ3 hk3
          gi_wp2
          go_roundw
          case rel => exact ⟨[], pre ++ [t], HB3, by simp, HX2, HJ3⟩
          case measure =>
            rw [lenAt_eq HB3.out, lenAt_eq HB.out]
            simp
            omega
        · gi_wp2
          refine bodyPost_ret (results_none rfl _ _ _) rfl ?_
          exact ⟨⟨_, rfl⟩, .inr ⟨_, hJx3⟩⟩
      | some pr =>
        obtain ⟨p, r⟩ := pr
        obtain ⟨hp, h10⟩ := cut10_some hcut
        have HI := hide (index_str (hp ▸ index_mid r h10))
        have HX2 : Hid ((pre ++ [p ++ [10]]) ++ splitS r = splitS s) := by
          show _ = _
          rw [← HX.out, hp, splitS_mid p r h10]
          simp
        have HP : Hid (∃ post, pre ++ (p ++ [10]) :: post = splitS s) := ⟨splitS r, by rw [← HX.out, hp, splitS_mid p r h10]⟩
        have e1 : (⟨t.toArray⟩ : ByteArray).extract 0 (p.length + 1) = ⟨(p ++ [10]).toArray⟩ := by
          rw [ext_take, hp, take_mid p r]
        have e2 : (⟨t.toArray⟩ : ByteArray).extract (p.length + 1) t.length = ⟨r.toArray⟩ := by
          rw [ext_drop, hp, drop_mid p r]
        have hk : p.length + 1 + r.length = t.length := by rw [hp]; simp; omega
        clear hcut h0 h10 hp
        generalize p.length = k at *
        generalize p ++ [10] = x at *
        have hmx : Tryz.prog.follows .mixedOrders = true := by kernel_rfl
        gi_wp2_with (first | (refine ⟨trivial, ?_⟩; gi_at_call 74; refine (callsIn_wide.2 (HI.out _)).mono ?_; rintro e w' ⟨rfl, rfl⟩))
        gi_region
        obtain ⟨fn, tmps, assign, body, hy, hR⟩ := HY.out pre x (w'.setCell ⟨Bs, 0, none⟩ (.string ⟨r.toArray⟩)).drew (HD.out _ _ (HS.out _ _ _ HJ.out)) HP.out
        replace hR := hide hR
        gi_wp2
        refine hR.out.mono ?_
        clear hR hy
        rintro e W3 (⟨rfl, hJ3, hk3⟩ | ⟨rfl, hJx3⟩)
        · have HB3 : Hid (Blk W3 Bs #[.string ⟨r.toArray⟩] 9) := by
            show W3.heap[Bs]? = _
            rw [hk3]
            exact HB.out.set 0 _
          have HJ3 := hide hJ3
          clear hJ3 hk3
          gi_wp2
          go_roundw
          case rel => exact ⟨r, pre ++ [x], HB3, by omega, HX2, HJ3⟩
          case measure =>
            rw [lenAt_eq HB3.out, lenAt_eq HB.out]
            omega
        · gi_wp2
          refine bodyPost_ret (results_none rfl _ _ _) rfl ?_
          exact ⟨⟨_, rfl⟩, .inr ⟨_, hJx3⟩⟩
end Go.Proofs.YtcmhaihoeecjoaaGreatDoor

end
