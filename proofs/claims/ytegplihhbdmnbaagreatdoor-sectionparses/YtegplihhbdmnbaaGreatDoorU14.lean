/- Body of package header; places: the iterator over a header's fields, for every body. -/
import Derived.RangeFuncNested
import Derived.RangeFuncBound
import Derived.RangeFuncCalls
import Derived.RangeFuncLeaves
import Derived.RangeFuncBox
import Derived.Shelf.Abstract
import Derived.Shelf.RegionOpen
import Derived.OwnWalkIn
import Derived.TacticsInMore
import Derived.LoopNIn
import Derived.LoopIn
import Derived.Test.YtegplihhbdmnbaaGreatDoorU13
namespace Go.Proofs.YtegplihhbdmnbaaGreatDoor
open Go.RowKit Go.Shelf
attribute [local go_sem] Oper.semAt_some
theorem lit_empty {t : List UInt8} (h : t = []) : ((⟨t.toArray⟩ : ByteArray) == ⟨#[]⟩) = true := by subst h; rfl
set_option maxRecDepth 20000 in
set_option maxHeartbeats 1000000 in
theorem body_any (m : List UInt8) (w : World) (hm : m.length ≤ 1000000) :
    Calls Tryz.prog 109 #[.string ⟨m.toArray⟩] w fun e w' => e = .returned (.int .i64 ((bodyL (splitS m) 0 : Nat) : Int)) ∧ w' = w := by
  have hsz := size_lit m
  go_enter Tryz.func109, Tryz.ntmps109
  go_wp2
  go_loopw [3] (fun v wr => wr = w ∧ ∃ (j : Nat) (pre : List UInt8) (l2 : List (List UInt8)), v = .int .i64 j ∧ Hid (AtL m pre l2) ∧ Hid (pre.length = j) ∧ Hid (bodyL l2 j = bodyL (splitS m) 0)) (fun v _ => m.length - (intOf v).toNat)
  case atStart => exact ⟨rfl, 0, [], splitS m, rfl, AtL.start m, rfl, rfl⟩
  case round =>
    obtain ⟨rfl, j, pre, l2, rfl, HA, HK, HE⟩ := hrel
    have hjm : j + l2.flatten.length = m.length := by
      rw [HA.out.eq, List.length_append, HK.out]
    cases l2 with
    | nil =>
      have hj : j = m.length := by simpa using hjm
      subst hj
      have HE0 : Hid (bodyL (splitS m) 0 = m.length) := by
        show _ = _
        rw [← HE.out]
        rfl
      clear HE HA HK hjm
      go_wp2
      go_ret
      exact ⟨by rw [HE0.out]; rfl, rfl⟩
    | cons x r =>
      have HLn := hide (line_any HA.out hm HK.out)
      have hne : 0 < x.length := List.length_pos_iff.2 HA.out.ok.ne
      have hlt : (j : Int) < m.length := by
        simp at hjm
        omega
      have hjn : j + x.length ≤ m.length := by rw [← hjm, List.flatten_cons, List.length_append]; omega
      have HN := hide HA.out.next
      have HK2 : Hid ((pre ++ x).length = j + x.length) := by
        show _ = _
        rw [List.length_append, HK.out]
      by_cases ht : txt x = []
      · have HE0 : Hid (bodyL (splitS m) 0 = j + x.length) := by
          show _ = _
          rw [← HE.out, bodyL, if_pos ht]
        rw [ht] at HLn
        obtain ⟨n, hn⟩ : ∃ n, x.length = n := ⟨_, rfl⟩
        rw [hn] at HLn HE0
        clear HE HA HK hjm hn hne hjn HN HK2 ht
        go_wp2_with (first
          | (go_at_call 131; refine (HLn.out _).mono ?_; rintro e w2 ⟨rfl, rfl⟩))
        go_ret
        exact ⟨by rw [HE0.out]; rfl, rfl⟩
      · have HE0 : Hid (bodyL r (j + x.length) = bodyL (splitS m) 0) := by
          show _ = _
          rw [← HE.out, bodyL, if_neg ht]
        have htE : (txt x).isEmpty = false := by simpa using ht
        obtain ⟨n, hn⟩ : ∃ n, x.length = n := ⟨_, rfl⟩
        rw [hn] at HLn HE0 hne hjn HK2
        generalize txt x = t at *
        clear HE HA HK hjm hn ht
        go_wp2_with (first
          | (go_at_call 131; refine (HLn.out _).mono ?_; rintro e w2 ⟨rfl, rfl⟩))
        go_roundw
        case rel => exact ⟨trivial, j + n, _, r, rfl, HN, HK2, HE0⟩
        case measure => simp [intOf]; omega
theorem places_any (m : List UInt8) (w : World) : Calls Tryz.prog 133 #[.string ⟨m.toArray⟩] w fun e w' => e = .returned (.func (.func 147) #[] #[.pointer (some ⟨w.heap.size, 0, none⟩)]) ∧ w' = w.alloc (.cells #[.string ⟨m.toArray⟩] 9) := by
  go_enter Tryz.func133, Tryz.ntmps133
  go_wp2
  go_ret
  exact ⟨rfl, rfl⟩
theorem nameV_some {t p : List UInt8} (h : nameO t = some p) : nameV t = (p, true) := by
  unfold nameV
  rw [h]
theorem nameV_none {t : List UInt8} (h : nameO t = none) : nameV t = ([], false) := by
  unfold nameV
  rw [h]
set_option maxRecDepth 20000 in
set_option maxHeartbeats 1000000 in
theorem places_iter (n l Bs : Nat) (hn : 1 ≤ n) (m : List UInt8) (hm : m.length ≤ 1000000) (J Jx : List Fd → World → Prop)
    (hJe : ∀ pre W W', J pre W → Below W.heap.size W W' → J pre W')
    (hY : ∀ pre x W, J pre W → (∃ post, pre ++ x :: post = (hd (splitS m) 0).1) → YieldAt Fence.wide (n - 1) Tryz.prog l #[.string ⟨x.name.toArray⟩, .agg #[.int .i64 (x.from' : Nat), .int .i64 (x.to : Nat)]] W fun e W' =>
      (e = .returned (.bool true) ∧ J (pre ++ [x]) W' ∧ W'.heap[Bs]? = W.heap[Bs]?) ∨ (e = .returned (.bool false) ∧ Jx (pre ++ [x]) W'))
    (W : World) (hW : Blk W Bs #[.string ⟨m.toArray⟩] 9) (h0 : J [] W) :
    CallsIn Fence.wide n Tryz.prog 147 #[.func (.yield l) #[] #[], .pointer (some ⟨Bs, 0, none⟩)] W fun e W' => (∃ v, e = .returned v) ∧
      (J (hd (splitS m) 0).1 W' ∨ ∃ pre, Jx pre W') := by
  have hsz := size_lit m
  refine callsIn_of_wp Tryz.func147 rfl trivial ?_ rfl
  simp only [Tryz.ntmps147, List.size_toArray, List.length_cons, List.length_nil, Nat.reduceAdd, Nat.reduceSub, Array.replicate_succ, Array.replicate_zero, List.push_toArray, List.append_toArray, List.nil_append, List.cons_append]
  have HY := hide hY
  have HJe := hide hJe
  clear hY hJe
  gi_wp2
  gi_loopw [3] (fun v wr => ∃ (j : Nat) (pre : List UInt8) (l2 : List (List UInt8)) (fs : List Fd), v = .int .i64 j ∧ Hid (AtL m pre l2) ∧ Hid (pre.length = j) ∧ Hid (fs ++ (hd l2 j).1 = (hd (splitS m) 0).1) ∧ Hid (Blk wr Bs #[.string ⟨m.toArray⟩] 9) ∧ Hid (J fs wr)) (fun v _ => m.length - (intOf v).toNat)
  case atStart => exact ⟨0, [], splitS m, [], rfl, AtL.start m, rfl, rfl, hW, h0⟩
  case round =>
    obtain ⟨j, pre, l2, fs, rfl, HA, HK, HE, HB, HJ⟩ := hrel
    clear hW h0
    have hc := HB.out.cell
    have hjm : j + l2.flatten.length = m.length := by
      rw [HA.out.eq, List.length_append, HK.out]
    cases l2 with
    | nil =>
      have hj : j = m.length := by simpa using hjm
      subst hj
      have HE0 : Hid (fs = (hd (splitS m) 0).1) := by
        show _ = _
        rw [← HE.out]
        simp [hd_nil]
      clear HE HA HK hjm
      gi_wp2
      go_end0
      exact ⟨⟨_, rfl⟩, .inl (by rw [← HE0.out]; exact HJ.out)⟩
    | cons x r =>
      have HLn := hide (line_any HA.out hm HK.out)
      have hne : 0 < x.length := List.length_pos_iff.2 HA.out.ok.ne
      have hlt : (j : Int) < m.length := by
        simp at hjm
        omega
      by_cases ht : txt x = []
      · have HE0 : Hid (fs = (hd (splitS m) 0).1) := by
          show _ = _
          rw [← HE.out, hd_stop ht]
          simp
        rw [ht] at HLn
        obtain ⟨k, hk⟩ : ∃ k, x.length = k := ⟨_, rfl⟩
        rw [hk] at HLn
        clear HE HA HK hjm hk hne ht
        gi_wp2_with (first
          | (refine ⟨trivial, ?_⟩; gi_at_call 131; refine (callsIn_wide.2 (HLn.out _)).mono ?_; rintro e w2 ⟨rfl, rfl⟩))
        refine bodyPost_ret (results_none rfl _ _ _) rfl ?_
        exact ⟨⟨_, rfl⟩, .inl (by rw [← HE0.out]; exact HJ.out)⟩
      · have hg := List.takeWhile_append_dropWhile (p := blB) (l := r)
        have HN1 := hide HA.out.next
        have HK1 : Hid ((pre ++ x).length = j + x.length) := by
          show _ = _
          rw [List.length_append, HK.out]
        have HG := hide (goOn_any HN1.out hm HK1.out)
        have HN : Hid (AtL m ((pre ++ x) ++ (r.takeWhile blB).flatten) (r.dropWhile blB)) := by
          refine AtL.skip (g := r.takeWhile blB) ?_
          rw [hg]
          exact HN1.out
        have HK2 : Hid (((pre ++ x) ++ (r.takeWhile blB).flatten).length = j + x.length + (r.takeWhile blB).flatten.length) := by
          show _ = _
          rw [List.length_append, HK1.out]
        have hjn : j + x.length + (r.takeWhile blB).flatten.length ≤ m.length := by
          rw [HN.out.eq, List.length_append, HK2.out]
          omega
        have HNm := hide (fun w => nameOf_any (txt x) w (by have := txt_len x; simp at hjm; omega))
        have HE0 : Hid (fs ++ ((fdOf x (r.takeWhile blB) j).toList ++ (hd (r.dropWhile blB) (j + x.length + (r.takeWhile blB).flatten.length)).1) = (hd (splitS m) 0).1) := by
          show _ = _
          rw [← HE.out, hd_cons ht]
        have htE : (txt x).isEmpty = false := by simpa using ht
        have hFd : fdOf x (r.takeWhile blB) j = (nameO (txt x)).map fun p => ⟨p, Lib.trimS ((txt x).drop (p.length + 1) ++ ((r.takeWhile blB).map txt).flatten) [32, 9], j, j + x.length + (r.takeWhile blB).flatten.length⟩ := rfl
        rw [hFd] at HE0
        obtain ⟨k, hk⟩ : ∃ k, x.length = k := ⟨_, rfl⟩
        rw [hk] at HLn hne HG HK2 hjn HE0
        obtain ⟨e1, he1⟩ : ∃ e1, j + k + (r.takeWhile blB).flatten.length = e1 := ⟨_, rfl⟩
        rw [he1] at HG HK2 hjn HE0
        have hje : j < e1 := by omega
        clear HE HA HK hjm hk ht HN1 HK1 hg hFd he1
        cases hnm : nameO (txt x) with
        | none =>
          rw [hnm] at HE0
          rw [nameV_none hnm] at HNm
          have HE1 : Hid (fs ++ (hd (r.dropWhile blB) e1).1 = (hd (splitS m) 0).1) := HE0.out
          generalize txt x = t at *
          clear hnm HE0
          gi_wp2_with (first
            | (refine ⟨trivial, ?_⟩; gi_at_call 131; refine (callsIn_wide.2 (HLn.out _)).mono ?_; rintro e w2 ⟨rfl, rfl⟩)
            | (refine ⟨trivial, ?_⟩; gi_at_call 148; refine (callsIn_wide.2 (HG.out _)).mono ?_; rintro e w2 ⟨rfl, rfl⟩)
            | (refine ⟨trivial, ?_⟩; gi_at_call 149; refine (callsIn_wide.2 (HNm.out _)).mono ?_; rintro e w3 ⟨rfl, hb3⟩; replace hb3 := hide hb3))
          refine ⟨fun _ _ => trivial, ?_⟩
          gi_wp2
          go_roundw
          case rel => exact ⟨e1, _, _, fs, rfl, HN, HK2, HE1, HB.out.below hb3.out HB.out.lt, HJe.out _ _ _ HJ.out hb3.out⟩
          case measure => simp [intOf]; omega
        | some p =>
          rw [hnm] at HE0
          rw [nameV_some hnm] at HNm
          obtain ⟨f, hf⟩ : ∃ f : Fd, f = ⟨p, Lib.trimS ((txt x).drop (p.length + 1) ++ ((r.takeWhile blB).map txt).flatten) [32, 9], j, e1⟩ := ⟨_, rfl⟩
          have HE1 : Hid ((fs ++ [f]) ++ (hd (r.dropWhile blB) e1).1 = (hd (splitS m) 0).1) := by
            show _ = _
            rw [← HE0.out, hf]
            simp
          have HPo : Hid (∃ post, fs ++ f :: post = (hd (splitS m) 0).1) := ⟨(hd (r.dropWhile blB) e1).1, by rw [← HE1.out]; simp⟩
          have HYf : Hid (∀ W, J fs W → YieldAt Fence.wide (n - 1) Tryz.prog l #[.string ⟨p.toArray⟩, .agg #[.int .i64 (j : Nat), .int .i64 (e1 : Nat)]] W fun e W' =>
            (e = .returned (.bool true) ∧ J (fs ++ [f]) W' ∧ W'.heap[Bs]? = W.heap[Bs]?) ∨ (e = .returned (.bool false) ∧ Jx (fs ++ [f]) W')) := fun W hJ => by
            have := HY.out fs f W hJ HPo.out
            rw [hf] at this ⊢
            exact this
          generalize txt x = t at *
          clear hnm HE0 hf HY
          gi_wp2_with (first
            | (refine ⟨trivial, ?_⟩; gi_at_call 131; refine (callsIn_wide.2 (HLn.out _)).mono ?_; rintro e w2 ⟨rfl, rfl⟩)
            | (refine ⟨trivial, ?_⟩; gi_at_call 148; refine (callsIn_wide.2 (HG.out _)).mono ?_; rintro e w2 ⟨rfl, rfl⟩)
            | (refine ⟨trivial, ?_⟩; gi_at_call 149; refine (callsIn_wide.2 (HNm.out _)).mono ?_; rintro e w3 ⟨rfl, hb3⟩
               obtain ⟨fn, tmps, assign, body, hy, hR⟩ := HYf.out w3 (HJe.out _ _ _ HJ.out hb3)
               replace hR := hide hR
               replace hb3 := hide hb3))
          refine hR.out.mono ?_
          have HB3 := hide (HB.out.below hb3.out HB.out.lt)
          clear hR hy
          rintro e W3 (⟨rfl, hJ3, hk3⟩ | ⟨rfl, hJx3⟩)
          · have HB4 : Hid (Blk W3 Bs #[.string ⟨m.toArray⟩] 9) := by
              show W3.heap[Bs]? = _
              rw [hk3]
              exact HB3.out
            have HJ3 := hide hJ3
            clear hJ3 hk3
            gi_wp2
            go_roundw
            case rel => exact ⟨e1, _, _, fs ++ [f], rfl, HN, HK2, HE1, HB4, HJ3⟩
            case measure => simp [intOf]; omega
          · gi_wp2
            refine bodyPost_ret (results_none rfl _ _ _) rfl ?_
            exact ⟨⟨_, rfl⟩, .inr ⟨_, hJx3⟩⟩
end Go.Proofs.YtegplihhbdmnbaaGreatDoor
