/- Body of package header; places: the iterator over a header's fields, for every body. -/
/- A range over places of package header: one law for every body. -/
import Derived.RangeFuncNested
import Derived.RangeFuncBound
import Derived.RangeFuncCalls
import Derived.RangeFuncLeaves
import Derived.RangeFuncBox
import Derived.Shelf.Abstract
import Derived.Shelf.RegionOpen
import Derived.OwnWalkIn
import Derived.TacticsInMore
import Derived.LoopNIn
import Derived.LoopIn
import Derived.Test.YtegplihhbdmnbaaGreatDoorU07
section
namespace Go.Proofs.YtegplihhbdmnbaaGreatDoor
open Go.RowKit Go.Shelf
attribute [local go_sem] Oper.semAt_some
theorem lit_empty {t : List UInt8} (h : t = []) : ((⟨t.toArray⟩ : ByteArray) == ⟨#[]⟩) = true := by subst h; rfl
set_option maxRecDepth 20000 in
set_option maxHeartbeats 1000000 in
theorem body_any (m : List UInt8) (w : World) (hm : m.length ≤ 1000000) :
    Calls Tryz.prog 109 #[.string ⟨m.toArray⟩] w fun e w' => e = .returned (.int .i64 ((bodyL (splitS m) 0 : Nat) : Int)) ∧ w' = w := by
  have hsz := size_lit m
  go_enter Tryz.func109, Tryz.ntmps109
  go_wp2
  go_loopw [3] (fun v wr => wr = w ∧ ∃ (j : Nat) (pre : List UInt8) (l2 : List (List UInt8)), v = .int .i64 j ∧ Hid (AtL m pre l2) ∧ Hid (pre.length = j) ∧ Hid (bodyL l2 j = bodyL (splitS m) 0)) (fun v _ => m.length - (intOf v).toNat)
  case atStart => exact ⟨rfl, 0, [], splitS m, rfl, AtL.start m, rfl, rfl⟩
  case round =>
    obtain ⟨rfl, j, pre, l2, rfl, HA, HK, HE⟩ := hrel
    have hjm : j + l2.flatten.length = m.length := by
      rw [HA.out.eq, List.length_append, HK.out]
    cases l2 with
    | nil =>
      have hj : j = m.length := by simpa using hjm
      subst hj
      have HE0 : Hid (bodyL (splitS m) 0 = m.length) := by
        show _ = _
        rw [← HE.out]
        rfl
      clear HE HA HK hjm
      go_wp2
      go_ret
      exact ⟨by rw [HE0.out]; rfl, rfl⟩
    | cons x r =>
      have HLn := hide (line_any HA.out hm HK.out)
      have hne : 0 < x.length := List.length_pos_iff.2 HA.out.ok.ne
      have hlt : (j : Int) < m.length := by
        simp at hjm
        omega
      have hjn : j + x.length ≤ m.length := by rw [← hjm, List.flatten_cons, List.length_append]; omega
      have HN := hide HA.out.next
      have HK2 : Hid ((pre ++ x).length = j + x.length) := by
        show _ = _
        rw [List.length_append, HK.out]
      by_cases ht : txt x = []
      · have HE0 : Hid (bodyL (splitS m) 0 = j + x.length) := by
          show _ = _
          rw [← HE.out, bodyL, if_pos ht]
        rw [ht] at HLn
        obtain ⟨n, hn⟩ : ∃ n, x.length = n := ⟨_, rfl⟩
        rw [hn] at HLn HE0
        clear HE HA HK hjm hn hne hjn HN HK2 ht
        go_wp2_with (first
          | (go_at_call 131; refine (HLn.out _).mono ?_; rintro e w2 ⟨rfl, rfl⟩))
        go_ret
        exact ⟨by rw [HE0.out]; rfl, rfl⟩
      · have HE0 : Hid (bodyL r (j + x.length) = bodyL (splitS m) 0) := by
          show _ = _
          rw [← HE.out, bodyL, if_neg ht]
        have htE : (txt x).isEmpty = false := by simpa using ht
        obtain ⟨n, hn⟩ : ∃ n, x.length = n := ⟨_, rfl⟩
        rw [hn] at HLn HE0 hne hjn HK2
        generalize txt x = t at *
        clear HE HA HK hjm hn ht
        go_wp2_with (first
          | (go_at_call 131; refine (HLn.out _).mono ?_; rintro e w2 ⟨rfl, rfl⟩))
        go_roundw
        case rel => exact ⟨trivial, j + n, _, r, rfl, HN, HK2, HE0⟩
        case measure => simp [intOf]; omega
theorem places_any (m : List UInt8) (w : World) : Calls Tryz.prog 133 #[.string ⟨m.toArray⟩] w fun e w' => e = .returned (.func (.func 147) #[] #[.pointer (some ⟨w.heap.size, 0, none⟩)]) ∧ w' = w.alloc (.cells #[.string ⟨m.toArray⟩] 9) := by
  go_enter Tryz.func133, Tryz.ntmps133
  go_wp2
  go_ret
  exact ⟨rfl, rfl⟩
theorem nameV_some {t p : List UInt8} (h : nameO t = some p) : nameV t = (p, true) := by
  unfold nameV
  rw [h]
theorem nameV_none {t : List UInt8} (h : nameO t = none) : nameV t = ([], false) := by
  unfold nameV
  rw [h]
set_option maxRecDepth 20000 in
set_option maxHeartbeats 1000000 in
theorem places_iter (n l Bs : Nat) (hn : 1 ≤ n) (m : List UInt8) (hm : m.length ≤ 1000000) (J Jx : List Fd → World → Prop)
    (hJe : ∀ pre W W', J pre W → Below W.heap.size W W' → J pre W')
    (hY : ∀ pre x W, J pre W → (∃ post, pre ++ x :: post = (hd (splitS m) 0).1) → YieldAt Fence.wide (n - 1) Tryz.prog l #[.string ⟨x.name.toArray⟩, .agg #[.int .i64 (x.from' : Nat), .int .i64 (x.to : Nat)]] W fun e W' =>
      (e = .returned (.bool true) ∧ J (pre ++ [x]) W' ∧ W'.heap[Bs]? = W.heap[Bs]?) ∨ (e = .returned (.bool false) ∧ Jx (pre ++ [x]) W'))
    (W : World) (hW : Blk W Bs #[.string ⟨m.toArray⟩] 9) (h0 : J [] W) :
    CallsIn Fence.wide n Tryz.prog 147 #[.func (.yield l) #[] #[], .pointer (some ⟨Bs, 0, none⟩)] W fun e W' => (∃ v, e = .returned v) ∧
      (J (hd (splitS m) 0).1 W' ∨ ∃ pre, Jx pre W') := by
  have hsz := size_lit m
  refine callsIn_of_wp Tryz.func147 rfl trivial ?_ rfl
  simp only [Tryz.ntmps147, List.size_toArray, List.length_cons, List.length_nil, Nat.reduceAdd, Nat.reduceSub, Array.replicate_succ, Array.replicate_zero, List.push_toArray, List.append_toArray, List.nil_append, List.cons_append]
  have HY := hide hY
  have HJe := hide hJe
  clear hY hJe
  gi_wp2
  gi_loopw [3] (fun v wr => ∃ (j : Nat) (pre : List UInt8) (l2 : List (List UInt8)) (fs : List Fd), v = .int .i64 j ∧ Hid (AtL m pre l2) ∧ Hid (pre.length = j) ∧ Hid (fs ++ (hd l2 j).1 = (hd (splitS m) 0).1) ∧ Hid (Blk wr Bs #[.string ⟨m.toArray⟩] 9) ∧ Hid (J fs wr)) (fun v _ => m.length - (intOf v).toNat)
  case atStart => exact ⟨0, [], splitS m, [], rfl, AtL.start m, rfl, rfl, hW, h0⟩
  case round =>
    obtain ⟨j, pre, l2, fs, rfl, HA, HK, HE, HB, HJ⟩ := hrel
    clear hW h0
    have hc := HB.out.cell
    have hjm : j + l2.flatten.length = m.length := by
      rw [HA.out.eq, List.length_append, HK.out]
    cases l2 with
    | nil =>
      have hj : j = m.length := by simpa using hjm
      subst hj
      have HE0 : Hid (fs = (hd (splitS m) 0).1) := by
        show _ = _
        rw [← HE.out]
        simp [hd_nil]
      clear HE HA HK hjm
      gi_wp2
      go_end0
      exact ⟨⟨_, rfl⟩, .inl (by rw [← HE0.out]; exact HJ.out)⟩
    | cons x r =>
      have HLn := hide (line_any HA.out hm HK.out)
      have hne : 0 < x.length := List.length_pos_iff.2 HA.out.ok.ne
      have hlt : (j : Int) < m.length := by
        simp at hjm
        omega
      by_cases ht : txt x = []
      · have HE0 : Hid (fs = (hd (splitS m) 0).1) := by
          show _ = _
          rw [← HE.out, hd_stop ht]
          simp
        rw [ht] at HLn
        obtain ⟨k, hk⟩ : ∃ k, x.length = k := ⟨_, rfl⟩
        rw [hk] at HLn
        clear HE HA HK hjm hk hne ht
        gi_wp2_with (first
          | (refine ⟨trivial, ?_⟩; gi_at_call 131; refine (callsIn_wide.2 (HLn.out _)).mono ?_; rintro e w2 ⟨rfl, rfl⟩))
        refine bodyPost_ret (results_none rfl _ _ _) rfl ?_
        exact ⟨⟨_, rfl⟩, .inl (by rw [← HE0.out]; exact HJ.out)⟩
      · have hg := List.takeWhile_append_dropWhile (p := blB) (l := r)
        have HN1 := hide HA.out.next
        have HK1 : Hid ((pre ++ x).length = j + x.length) := by
          show _ = _
          rw [List.length_append, HK.out]
        have HG := hide (goOn_any HN1.out hm HK1.out)
        have HN : Hid (AtL m ((pre ++ x) ++ (r.takeWhile blB).flatten) (r.dropWhile blB)) := by
          refine AtL.skip (g := r.takeWhile blB) ?_
          rw [hg]
          exact HN1.out
        have HK2 : Hid (((pre ++ x) ++ (r.takeWhile blB).flatten).length = j + x.length + (r.takeWhile blB).flatten.length) := by
          show _ = _
          rw [List.length_append, HK1.out]
        have hjn : j + x.length + (r.takeWhile blB).flatten.length ≤ m.length := by
          rw [HN.out.eq, List.length_append, HK2.out]
          omega
        have HNm := hide (fun w => nameOf_any (txt x) w (by have := txt_len x; simp at hjm; omega))
        have HE0 : Hid (fs ++ ((fdOf x (r.takeWhile blB) j).toList ++ (hd (r.dropWhile blB) (j + x.length + (r.takeWhile blB).flatten.length)).1) = (hd (splitS m) 0).1) := by
          show _ = _
          rw [← HE.out, hd_cons ht]
        have htE : (txt x).isEmpty = false := by simpa using ht
        have hFd : fdOf x (r.takeWhile blB) j = (nameO (txt x)).map fun p => ⟨p, Lib.trimS ((txt x).drop (p.length + 1) ++ ((r.takeWhile blB).map txt).flatten) [32, 9], j, j + x.length + (r.takeWhile blB).flatten.length⟩ := rfl
        rw [hFd] at HE0
        obtain ⟨k, hk⟩ : ∃ k, x.length = k := ⟨_, rfl⟩
        rw [hk] at HLn hne HG HK2 hjn HE0
        obtain ⟨e1, he1⟩ : ∃ e1, j + k + (r.takeWhile blB).flatten.length = e1 := ⟨_, rfl⟩
        rw [he1] at HG HK2 hjn HE0
        have hje : j < e1 := by omega
        clear HE HA HK hjm hk ht HN1 HK1 hg hFd he1
        cases hnm : nameO (txt x) with
        | none =>
          rw [hnm] at HE0
          rw [nameV_none hnm] at HNm
          have HE1 : Hid (fs ++ (hd (r.dropWhile blB) e1).1 = (hd (splitS m) 0).1) := HE0.out
          generalize txt x = t at *
          clear hnm HE0
          gi_wp2_with (first
            | (refine ⟨trivial, ?_⟩; gi_at_call 131; refine (callsIn_wide.2 (HLn.out _)).mono ?_; rintro e w2 ⟨rfl, rfl⟩)
            | (refine ⟨trivial, ?_⟩; gi_at_call 148; refine (callsIn_wide.2 (HG.out _)).mono ?_; rintro e w2 ⟨rfl, rfl⟩)
            | (refine ⟨trivial, ?_⟩; gi_at_call 149; refine (callsIn_wide.2 (HNm.out _)).mono ?_; rintro e w3 ⟨rfl, hb3⟩; replace hb3 := hide hb3))
          refine ⟨fun _ _ => trivial, ?_⟩
          gi_wp2
          go_roundw
          case rel => exact ⟨e1, _, _, fs, rfl, HN, HK2, HE1, HB.out.below hb3.out HB.out.lt, HJe.out _ _ _ HJ.out hb3.out⟩
          case measure => simp [intOf]; omega
        | some p =>
          rw [hnm] at HE0
          rw [nameV_some hnm] at HNm
          obtain ⟨f, hf⟩ : ∃ f : Fd, f = ⟨p, Lib.trimS ((txt x).drop (p.length + 1) ++ ((r.takeWhile blB).map txt).flatten) [32, 9], j, e1⟩ := ⟨_, rfl⟩
          have HE1 : Hid ((fs ++ [f]) ++ (hd (r.dropWhile blB) e1).1 = (hd (splitS m) 0).1) := by
            show _ = _
            rw [← HE0.out, hf]
            simp
          have HPo : Hid (∃ post, fs ++ f :: post = (hd (splitS m) 0).1) := ⟨(hd (r.dropWhile blB) e1).1, by rw [← HE1.out]; simp⟩
          have HYf : Hid (∀ W, J fs W → YieldAt Fence.wide (n - 1) Tryz.prog l #[.string ⟨p.toArray⟩, .agg #[.int .i64 (j : Nat), .int .i64 (e1 : Nat)]] W fun e W' =>
            (e = .returned (.bool true) ∧ J (fs ++ [f]) W' ∧ W'.heap[Bs]? = W.heap[Bs]?) ∨ (e = .returned (.bool false) ∧ Jx (fs ++ [f]) W')) := fun W hJ => by
            have := HY.out fs f W hJ HPo.out
            rw [hf] at this ⊢
            exact this
          generalize txt x = t at *
          clear hnm HE0 hf HY
          gi_wp2_with (first
            | (refine ⟨trivial, ?_⟩; gi_at_call 131; refine (callsIn_wide.2 (HLn.out _)).mono ?_; rintro e w2 ⟨rfl, rfl⟩)
            | (refine ⟨trivial, ?_⟩; gi_at_call 148; refine (callsIn_wide.2 (HG.out _)).mono ?_; rintro e w2 ⟨rfl, rfl⟩)
            | (refine ⟨trivial, ?_⟩; gi_at_call 149; refine (callsIn_wide.2 (HNm.out _)).mono ?_; rintro e w3 ⟨rfl, hb3⟩
               obtain ⟨fn, tmps, assign, body, hy, hR⟩ := HYf.out w3 (HJe.out _ _ _ HJ.out hb3)
               replace hR := hide hR
               replace hb3 := hide hb3))
          refine hR.out.mono ?_
          have HB3 := hide (HB.out.below hb3.out HB.out.lt)
          clear hR hy
          rintro e W3 (⟨rfl, hJ3, hk3⟩ | ⟨rfl, hJx3⟩)
          · have HB4 : Hid (Blk W3 Bs #[.string ⟨m.toArray⟩] 9) := by
              show W3.heap[Bs]? = _
              rw [hk3]
              exact HB3.out
            have HJ3 := hide hJ3
            clear hJ3 hk3
            gi_wp2
            go_roundw
            case rel => exact ⟨e1, _, _, fs ++ [f], rfl, HN, HK2, HE1, HB4, HJ3⟩
            case measure => simp [intOf]; omega
          · gi_wp2
            refine bodyPost_ret (results_none rfl _ _ _) rfl ?_
            exact ⟨⟨_, rfl⟩, .inr ⟨_, hJx3⟩⟩
end Go.Proofs.YtegplihhbdmnbaaGreatDoor

end
section
namespace Go.Proofs.YtegplihhbdmnbaaGreatDoor
open Go.RowKit Go.Shelf
/-- The three blocks that the loop itself turns: the text's cell, the block for deferred calls, the record. -/
def Own3 (Bs B : Nat) (k : Nat) : Prop := k = Bs ∨ k = B ∨ k = B + 1
/-- A round leaves these three as they were. -/
def Kept3 (Bs B : Nat) (W W' : World) : Prop := ∀ k, Own3 Bs B k → W'.heap[k]? = W.heap[k]?
theorem Kept3.refl (Bs B : Nat) (W : World) : Kept3 Bs B W W := fun _ _ => rfl
theorem Kept3.trans {Bs B : Nat} {X Y Z : World} (h : Kept3 Bs B X Y) (k : Kept3 Bs B Y Z) : Kept3 Bs B X Z := fun i hi => (k i hi).trans (h i hi)
theorem Kept3.mvs {Bs B : Nat} {S : Nat → Prop} {W W' : World} (h : Mvs S W W') (hs : ∀ k, Own3 Bs B k → k < W.heap.size ∧ ¬ S k) : Kept3 Bs B W W' := fun k hk => h.block k (hs k hk).1 (hs k hk).2
/-- None of the three is a row of bytes. -/
def NoRow (Bs B : Nat) (W : World) : Prop := ∀ k, Own3 Bs B k → ∀ c fz, W.heap[k]? ≠ some (.cells c 5 fz)
theorem NoRow.mk3 {Bs B : Nat} {W : World} (h1 : ∃ v, Blk W Bs #[v] 9) (h2 : W.heap[B]? = some (.deferred (some []))) (h3 : ∃ r, W.heap[B + 1]? = some (.loop r)) : NoRow Bs B W := by
  obtain ⟨v, h1⟩ := h1
  obtain ⟨r, h3⟩ := h3
  rintro k (rfl | rfl | rfl) c fz h
  · have h1' : W.heap[k]? = _ := h1
    rw [h1'] at h
    simp at h
  · rw [h2] at h
    simp at h
  · rw [h3] at h
    simp at h
theorem NoRow.start {Bs : Nat} {W : World} {v : Value} (h1 : Blk W Bs #[v] 9) : NoRow Bs W.heap.size W := by
  rintro k (rfl | rfl | rfl) c fz h
  · have h1' : W.heap[k]? = _ := h1
    rw [h1'] at h
    simp at h
  · simp at h
  · simp at h
/-- A builder is one still, where no row of bytes has turned, and not its own block. -/
theorem isBuilder_mvs {S : Nat → Prop} {B b : Nat} {bs : List Value} {W W' : World} (h : Lib.IsBuilderF 72 5 B b bs W) (hm : Mvs S W W') (hb : ¬ S b) (hr : ∀ k, S k → ∀ c fz, W.heap[k]? ≠ some (.cells c 5 fz)) : Lib.IsBuilderF 72 5 B b bs W' := by
  have key : ∀ p, Lib.BuilderAtF 72 5 B b p bs W → Lib.BuilderAtF 72 5 B b p bs W' := by
    rintro p ⟨hB, v, hbk, hown, hne⟩
    refine ⟨hB, v, (hm.block b (Array.getElem?_eq_some_iff.1 hbk).1 hb).trans hbk, ⟨hown.1, ?_⟩, hne⟩
    rcases hown.2 with h0 | ⟨g, cap, cur, fz, rfl, hbg, hg, rest⟩
    · exact .inl h0
    · exact .inr ⟨g, cap, cur, fz, rfl, hbg, (hm.block g (Array.getElem?_eq_some_iff.1 hg).1 (fun hs => hr g hs _ _ hg)).trans hg, rest⟩
  exact h.elim (fun x => .inl (key _ x)) (fun x => .inr (key _ x))
theorem kept3_others {Bs B b : Nat} {W W' : World} (h : Lib.OthersKept 5 (some b) W W') (h1 : ∃ v, Blk W Bs #[v] 9) (h2 : W.heap[B]? = some (.deferred (some []))) (h3 : ∃ r, W.heap[B + 1]? = some (.loop r)) (hb : ¬ Own3 Bs B b) : Kept3 Bs B W W' := by
  obtain ⟨v, h1⟩ := h1
  obtain ⟨r, h3⟩ := h3
  have hne : ∀ k, Own3 Bs B k → some k ≠ some b := fun k hk e => hb (by cases e; exact hk)
  rintro k (rfl | rfl | rfl)
  · have h1' : W.heap[k]? = _ := h1
    rw [h1']
    exact h k _ h1' (hne _ (.inl rfl)) (fun c fz e => by cases e)
  · rw [h2]
    exact h k _ h2 (hne _ (.inr (.inl rfl))) (fun c fz e => by cases e)
  · rw [h3]
    exact h _ _ h3 (hne _ (.inr (.inr rfl))) (fun c fz e => by cases e)
/-- How the body of a round may be left. -/
def rndPost (Bs B : Nat) (I : World → Prop) (Ix : Code → World → Prop) (W : World) : Exit → Act → World → Prop
  | .normal, _, W' => Kept3 Bs B W W' ∧ I W'
  | .ret, _, W' => Kept3 Bs B W W' ∧ Ix .ret W'
  | .exit id, _, W' => Kept3 Bs B W W' ∧ Ix (.exit id) W'
  | .goto t, _, W' => Kept3 Bs B W W' ∧ Ix (.goto t) W'
  | .panic _, _, _ => False
  | .outgrown, _, _ => False
theorem mvs_putObj {S : Nat → Prop} (W : World) (l : Nat) (o : Obj) (hs : S l) : Mvs S W (W.putObj l o) :=
  ⟨rfl, rfl, rfl, by simp, fun _ _ hk => World.putObj_heap_other (fun e => hk (e ▸ hs))⟩
theorem heap_setCell_other {W : World} {b k : Nat} {v : Value} (h : k ≠ b) : (W.setCell ⟨b, 0, none⟩ v).heap[k]? = W.heap[k]? := Below.heap_setCell _ _ _ _ h
/-- What a field's place is in memory. -/
def plc (x : Fd) : Array Value := #[.int .i64 (x.from' : Nat), .int .i64 (x.to : Nat)]
set_option maxHeartbeats 1000000 in
theorem range_places {n : Nat} (h2 : 2 ≤ n) {g : Operand} {ps : Array Tmp} {assign body : Code} {Q : Exit → Act → World → Prop} {a : Act} {w : World} {Bs : Nat} {s : List UInt8} (hsl : s.length ≤ 1000000)
    (hg : a.eval g = .func (.func 147) #[] #[.pointer (some ⟨Bs, 0, none⟩)]) (hps : ps.size = 2) (hB : Blk w Bs #[.string ⟨s.toArray⟩] 9)
    (I : List Fd → World → Prop) (Ix : Code → World → Prop)
    (hI : ∀ pre W W', I pre W → NoRow Bs w.heap.size W → Mvs (Own3 Bs w.heap.size) W W' → I pre W') (hIx : ∀ c W W', Ix c W → NoRow Bs w.heap.size W → Mvs (Own3 Bs w.heap.size) W W' → Ix c W') (h0 : I [] w) (a₁ : Nat → Fd → Act)
    (hassign : ∀ (l : Nat) (x : Fd) (W : World) (K : Act → World → Prop), (∀ W' b, Below W.heap.size W W' → Blk W' b (plc x) 178 → W.heap.size ≤ b → K (a₁ b x) W') →
      assign.wpIn (Fence.wide.inRound l) (n - 1 - 1) Tryz.prog (Exit.then K (fun _ _ _ => False)) { tmps := (ps.zip #[.string ⟨x.name.toArray⟩, .agg (plc x)]).foldl (fun t (p, v) => t.setIfInBounds p v) a.tmps, defers := [] } W)
    (hbody : ∀ (l : Nat) (pre : List Fd) (x : Fd) (W : World) (b : Nat), I pre W → (∃ U, I pre U ∧ U.heap.size ≤ b ∧ ∀ k, ¬ Own3 Bs w.heap.size k → k < U.heap.size → W.heap[k]? = U.heap[k]?) → (∃ post, pre ++ x :: post = (hd (splitS s) 0).1) → w.heap.size + 1 < b → Blk W b (plc x) 178 → (∃ r, W.heap[w.heap.size + 1]? = some (.loop r)) → Blk W Bs #[.string ⟨s.toArray⟩] 9 → W.heap[w.heap.size]? = some (.deferred (some [])) →
      body.wpIn (Fence.wide.inRound l) (n - 1 - 1) Tryz.prog (rndPost Bs w.heap.size (I (pre ++ [x])) Ix W) (a₁ b x) W)
    (hdone : ∀ (W : World), I (hd (splitS s) 0).1 W → W.heap[w.heap.size]? = some (.deferred (some [])) → Q .normal { a with defers := { target := .collected w.heap.size, args := #[] } :: a.defers } W)
    (hstop : ∀ (c : Code) (W : World), Ix c W → W.heap[w.heap.size]? = some (.deferred (some [])) → c.wpIn Fence.wide n Tryz.prog Q { a with defers := { target := .collected w.heap.size, args := #[] } :: a.defers } W) :
    (Code.rangeFunc g ps assign body).wpIn Fence.wide n Tryz.prog Q a w := by
  have hBlt := hB.lt
  refine wpIn_rangeFunc ?_
  intro fn hfn
  show ∃ l mark w₁ d w₁' f args w₂, (Instr.enterLoop fn a.tmps ps assign body none).run Tryz.prog w = _ ∧ _
  obtain ⟨rec, hrec⟩ : ∃ rec : LoopState → Option Code → Loop, rec = fun st pe => { state := st, pending := pe, fn, tmps := a.tmps, params := ps, assign, body, defers := w.heap.size } := ⟨_, rfl⟩
  obtain ⟨W1, hW1⟩ : ∃ W1, (w.alloc (.deferred (some []))).alloc (.loop (rec .ready none)) = W1 := ⟨_, rfl⟩
  have hL1 : W1.heap[w.heap.size + 1]? = some (.loop (rec .ready none)) := by
    rw [← hW1]; have := World.alloc_heap_new (w.alloc (.deferred (some []))) (.loop (rec .ready none)); rwa [World.size_alloc] at this
  have hK1 : W1.heap[w.heap.size]? = some (.deferred (some [])) := by
    rw [← hW1]; exact (Below.heap_alloc _ _ _ (by simp)).trans (World.alloc_heap_new w _)
  have hI1 : I [] W1 := by rw [← hW1]; exact hI _ _ _ h0 (NoRow.start hB) (((Mvs.refl _ _).alloc _).alloc _)
  have hB1 : Blk W1 Bs #[.string ⟨s.toArray⟩] 9 := by rw [← hW1]; exact (hB.alloc _).alloc _
  refine ⟨w.heap.size + 1, [{ target := .collected w.heap.size, args := #[] }], W1, { target := .fn (.func 147) #[.pointer (some ⟨Bs, 0, none⟩)], args := #[.func (.yield (w.heap.size + 1)) #[] #[]] }, W1, 147,
    #[.func (.yield (w.heap.size + 1)) #[] #[]] ++ #[.pointer (some ⟨Bs, 0, none⟩)], W1, ?_, ?_, ?_, ?_, fun _ => by omega, ?_⟩
  · rw [← hW1, hrec]; exact run_enterLoop_outer _ _ _ _ _
  · simp only [resolve, hg]
    simp [go_sem]
  · intro f' _; trivial
  · simp [invoke, go_sem]
  · refine (places_iter (n - 1) (w.heap.size + 1) Bs (by omega) s hsl
      (fun pre W => I pre W ∧ W.heap[w.heap.size + 1]? = some (.loop (rec .ready none)) ∧ W.heap[w.heap.size]? = some (.deferred (some [])) ∧ Blk W Bs #[.string ⟨s.toArray⟩] 9)
      (fun _ W => ∃ c, Ix c W ∧ W.heap[w.heap.size + 1]? = some (.loop (rec .done (some c))) ∧ W.heap[w.heap.size]? = some (.deferred (some [])) ∧ Blk W Bs #[.string ⟨s.toArray⟩] 9)
      ?_ ?_ W1 hB1 ⟨hI1, hL1, hK1, hB1⟩).mono ?_
    · rintro pre W W' ⟨hi, hl, hk, hu⟩ hb
      exact ⟨hI _ _ _ hi (NoRow.mk3 ⟨_, hu⟩ hk ⟨_, hl⟩) (Mvs.of_below hb), (hb.block _ (Array.getElem?_eq_some_iff.1 hl).1).trans hl, (hb.block _ (Array.getElem?_eq_some_iff.1 hk).1).trans hk, hu.below hb hu.lt⟩
    · rintro pre x W ⟨hi, hl, hk, hu⟩ hpost
      have hlt0 : w.heap.size + 1 < W.heap.size := (Array.getElem?_eq_some_iff.1 hl).1
      have hy := run_yield (P := Tryz.prog) (args := #[.string ⟨x.name.toArray⟩, .agg (plc x)]) hl (by rw [hrec]; exact hps.symm)
      rw [hrec] at hy
      refine ⟨fn, _, assign, body, hy, roundIn_of_wpIn hfn (hassign _ x W _ (fun V b hV hbk hbw => ?_))⟩
      have hlV : V.heap[w.heap.size + 1]? = some (.loop (rec .ready none)) := (hV.block _ hlt0).trans hl
      have hkV : V.heap[w.heap.size]? = some (.deferred (some [])) := (hV.block _ (by omega)).trans hk
      have huV : Blk V Bs #[.string ⟨s.toArray⟩] 9 := hu.below hV hu.lt
      have hiV := hI _ _ _ hi (NoRow.mk3 ⟨_, hu⟩ hk ⟨_, hl⟩) (Mvs.of_below hV)
      have hsV : V.heap[Bs]? = W.heap[Bs]? := hV.block _ hu.lt
      have hlt : w.heap.size + 1 < V.heap.size := (Array.getElem?_eq_some_iff.1 hlV).1
      refine ⟨_, run_beginRound hlV (by rw [hrec]), ?_⟩
      have hl2 : (V.putObj (w.heap.size + 1) (.loop { rec .ready none with state := .busy })).heap[w.heap.size + 1]? = some (.loop { rec .ready none with state := .busy }) := World.putObj_heap_same hlt
      have hk2 : (V.putObj (w.heap.size + 1) (.loop { rec .ready none with state := .busy })).heap[w.heap.size]? = some (.deferred (some [])) := (World.putObj_heap_other (by omega)).trans hkV
      have hu2 : Blk (V.putObj (w.heap.size + 1) (.loop { rec .ready none with state := .busy })) Bs #[.string ⟨s.toArray⟩] 9 := (World.putObj_heap_other (by omega)).trans huV
      have hb2 : Blk (V.putObj (w.heap.size + 1) (.loop { rec .ready none with state := .busy })) b (plc x) 178 := (World.putObj_heap_other (by omega)).trans hbk
      have hs2 : (V.putObj (w.heap.size + 1) (.loop { rec .ready none with state := .busy })).heap[Bs]? = W.heap[Bs]? := (World.putObj_heap_other (by omega)).trans hsV
      refine wpIn_mono (hbody _ pre x _ b (hI _ _ _ hiV (NoRow.mk3 ⟨_, huV⟩ hkV ⟨_, hlV⟩) (mvs_putObj _ _ _ (.inr (.inr rfl)))) ⟨W, hi, hbw, fun k hk1 hk2 => (World.putObj_heap_other (fun e => hk1 (.inr (.inr e)))).trans (hV.block k hk2)⟩ hpost (by omega) hb2 ⟨_, hl2⟩ hu2 hk2) ?_
      have fin : ∀ (jump : Option Code) (W3 : World), Kept3 Bs w.heap.size (V.putObj (w.heap.size + 1) (.loop { rec .ready none with state := .busy })) W3 →
          (Instr.endRound (w.heap.size + 1) jump).run Tryz.prog W3 = .ok (.bool jump.isNone) (W3.putObj (w.heap.size + 1) (.loop (rec (if jump.isNone then .ready else .done) jump))) ∧
          (W3.putObj (w.heap.size + 1) (.loop (rec (if jump.isNone then .ready else .done) jump))).heap[w.heap.size + 1]? = some (.loop (rec (if jump.isNone then .ready else .done) jump)) ∧
          (W3.putObj (w.heap.size + 1) (.loop (rec (if jump.isNone then .ready else .done) jump))).heap[w.heap.size]? = some (.deferred (some [])) ∧
          (W3.putObj (w.heap.size + 1) (.loop (rec (if jump.isNone then .ready else .done) jump))).heap[Bs]? = W.heap[Bs]? ∧ NoRow Bs w.heap.size W3 := fun jump W3 hk3 => by
        have hl3 := (hk3 _ (.inr (.inr rfl))).trans hl2
        have hnr : NoRow Bs w.heap.size W3 := NoRow.mk3 ⟨_, (hk3 _ (.inl rfl)).trans hu2⟩ ((hk3 _ (.inr (.inl rfl))).trans hk2) ⟨_, hl3⟩
        have := run_endRound (P := Tryz.prog) jump hl3
        rw [hrec] at this ⊢
        exact ⟨this, World.putObj_heap_same (Array.getElem?_eq_some_iff.1 hl3).1, (World.putObj_heap_other (by omega)).trans ((hk3 _ (.inr (.inl rfl))).trans hk2), (World.putObj_heap_other (by omega)).trans ((hk3 _ (.inl rfl)).trans hs2), hnr⟩
      rintro e a3 W3 hp
      cases e with
      | normal =>
        obtain ⟨hk3, hi3⟩ := hp
        obtain ⟨hr, hl4, hk4, hs4, hnr⟩ := fin none W3 hk3
        exact ⟨_, _, hr, .inl ⟨rfl, ⟨hI _ _ _ hi3 hnr (mvs_putObj _ _ _ (.inr (.inr rfl))), hl4, hk4, hs4.trans hu⟩, hs4⟩⟩
      | ret =>
        obtain ⟨hk3, hi3⟩ := hp
        obtain ⟨hr, hl4, hk4, hs4, hnr⟩ := fin (some .ret) W3 hk3
        exact ⟨_, _, hr, .inr ⟨rfl, .ret, hIx _ _ _ hi3 hnr (mvs_putObj _ _ _ (.inr (.inr rfl))), hl4, hk4, hs4.trans hu⟩⟩
      | exit id =>
        obtain ⟨hk3, hi3⟩ := hp
        obtain ⟨hr, hl4, hk4, hs4, hnr⟩ := fin (some (.exit id)) W3 hk3
        exact ⟨_, _, hr, .inr ⟨rfl, .exit id, hIx _ _ _ hi3 hnr (mvs_putObj _ _ _ (.inr (.inr rfl))), hl4, hk4, hs4.trans hu⟩⟩
      | goto t =>
        obtain ⟨hk3, hi3⟩ := hp
        obtain ⟨hr, hl4, hk4, hs4, hnr⟩ := fin (some (.goto t)) W3 hk3
        exact ⟨_, _, hr, .inr ⟨rfl, .goto t, hIx _ _ _ hi3 hnr (mvs_putObj _ _ _ (.inr (.inr rfl))), hl4, hk4, hs4.trans hu⟩⟩
      | panic ch => exact hp.elim
      | outgrown => exact hp.elim
    · rintro e W2 ⟨⟨v, rfl⟩, (⟨hi, hl, hk, hu⟩ | ⟨_, c, hi, hl, hk, hu⟩)⟩
      · exact ⟨none, _, by have := run_endLoop (P := Tryz.prog) hl (by rw [hrec]; simp); rw [hrec] at this; exact this, hdone _ (hI _ _ _ hi (NoRow.mk3 ⟨_, hu⟩ hk ⟨_, hl⟩) (mvs_putObj _ _ _ (.inr (.inr rfl)))) ((World.putObj_heap_other (by omega)).trans hk)⟩
      · exact ⟨some c, _, by have := run_endLoop (P := Tryz.prog) hl (by rw [hrec]; simp); rw [hrec] at this; exact this, hstop c _ (hIx _ _ _ hi (NoRow.mk3 ⟨_, hu⟩ hk ⟨_, hl⟩) (mvs_putObj _ _ _ (.inr (.inr rfl)))) ((World.putObj_heap_other (by omega)).trans hk)⟩
end Go.Proofs.YtegplihhbdmnbaaGreatDoor

end
