/- fits of package boxes: all runs against a name. -/
/- isWild and simplest of package boxes. -/
/- strings.SplitSeq at a byte: the iterator over a text's pieces, for every body. -/
import Derived.Test.YtdbmaobjikjifaaGreatDoorRU14
import Derived.Test.YtdbmaobjikjifaaGreatDoorRU12
import Derived.RangeFuncNested
import Derived.RangeFuncBound
import Derived.RangeFuncCalls
import Derived.RangeFuncLeaves
import Derived.RangeFuncBox
import Derived.Shelf.Abstract
import Derived.Shelf.RegionOpen
import Derived.OwnWalkIn
import Derived.TacticsInMore
import Derived.LoopNIn
import Derived.LoopIn
import Derived.BigQuiet
import Derived.Deep.QuietTactic
import Derived.Test.YtdbmaobjikjifaaGreatDoorRU08
import Derived.Test.YtdbmaobjikjifaaGreatDoorRU04
import Derived.Test.YtdbmaobjikjifaaGreatDoorRU03
import Derived.Test.YtdbmaobjikjifaaGreatDoorRU06
section
set_option linter.unusedSimpArgs false
set_option linter.unusedVariables false
namespace Go.Proofs.YtdbmaobjikjifaaGreatDoorR
open Go.RowKit Go.Shelf
theorem spc_sml (c : UInt8) {s : List UInt8} (hs : s.length ≤ 100000) : Sml (spc c s) := ⟨by have := spc_len c s; omega, fun p hp => by have := spc_size s p hp; omega⟩
theorem Pt.form {q : Nat} {w : World} {v : Value} {ps : List (List UInt8)} (h : Pt q w v ps) : ∃ o cap, v = .slice (some ⟨q, o, none⟩) ps.length cap := by
  obtain ⟨_, o, cap, h, _⟩ := h
  exact ⟨o, cap, h⟩
theorem Rd.form {α : Type} {E : World → Value → α → Prop} {B : Nat} {w : World} {v : Value} {xs : List α} (h : Rd B E w v xs) : ∃ A cap, v = .slice A xs.length cap := by
  obtain ⟨g, o, cap, h, _⟩ := h
  exact ⟨_, cap, h⟩
theorem fitA_cons (r : List Glob) {rs : List (List Glob)} (hne : rs ≠ []) {ps : List (List UInt8)} : fitA (r :: rs) ps = match cutF ps r with | some l => fitM l rs | none => false := by
  cases rs with
  | nil => exact absurd rfl hne
  | cons x y =>
    unfold fitA
    simp only
    cases h : cutF ps r <;> rfl
def SmA (rs : List (List Glob)) : Prop := rs.length ≤ 1000000 ∧ ∀ r ∈ rs, SmR r ∧ r ≠ []
theorem mvs_below {q : Nat} {w x y : World} (h : Below w.heap.size w x) (hm : Mvs (fun k => k = q) x y) (hq : w.heap.size ≤ q) : Below w.heap.size w y := h.trans (hm.below (fun k hk e => by omega) h.size)
end Go.Proofs.YtdbmaobjikjifaaGreatDoorR

end
section
set_option linter.unusedSimpArgs false
set_option linter.unusedVariables false
namespace Go.Proofs.YtdbmaobjikjifaaGreatDoorR
open Go.RowKit Go.Shelf
def bvB (c : UInt8) : Value := .int .u8 (c.toNat : Int)
theorem byteInfo13 : (Tryz.prog.info? 5).map (fun i => (i.zero, i.size, i.bytes)) = some (some (.int .u8 0), 1, 1) := by kernel_rfl
theorem Rw.of_mk {w : World} {base : Nat} {e : TypeId} {v : Value} {n : Nat} {xs : List Value} (h : w.ownsRow base e 1 v n xs) : Rw w 1 v n xs v.ownBlock := by
  refine ⟨by rw [h.1], ?_⟩
  rcases h.2 with ⟨rfl, hn⟩ | ⟨g, cap, cur, rfl, _, hg, h1, h2, h3, h4⟩
  · exact .inl ⟨rfl, hn, rfl⟩
  · have hk : Blk w g cur e := hg
    refine .inr ⟨g, 0, cap, rfl, rfl, h1, h2, hk.lt, fun j u hu => ?_, fun j hj => ⟨?_, hk.frozen _⟩⟩
    · have hj := (List.getElem?_eq_some_iff.1 hu).1
      rw [← h4] at hu
      simp only [Nat.mul_one] at hu
      rw [hk.cell, Nat.zero_add]
      have hjn : j < n := by rw [h.1] at hj; omega
      rw [List.getElem?_take_of_lt hjn] at hu
      simpa using hu
    · rw [hk.cell, Nat.zero_add, Array.getElem?_eq_getElem (by omega)]
      rfl
theorem Rw.put1 {w : World} {n : Nat} {cs : List Value} {g o c : Nat} (h : Rw w 1 (.slice (some ⟨g, o, none⟩) n c) n cs (some g)) (i : Nat) (hi : i < n) (u : Value) : Rw (w.setCell ⟨g, o + i, none⟩ u) 1 (.slice (some ⟨g, o, none⟩) n c) n (cs.set i u) (some g) := by
  rcases h.2 with ⟨h, _⟩ | ⟨g', o', cap', k1, k2, h1, h2, h3, h4, h5⟩
  · cases h
  · cases k1
    cases k2
    refine ⟨by rw [List.length_set]; exact h.1, .inr ⟨g, o, c, rfl, rfl, h1, h2, by simpa [World.setCell] using h3, fun j x hx => ?_, fun j hj => ?_⟩⟩
    · by_cases hji : j = i
      · subst hji
        have hjl := (List.getElem?_eq_some_iff.1 hx).1
        rw [List.length_set] at hjl
        rw [List.getElem?_set_self hjl] at hx
        cases hx
        exact World.cell?_setCell_same _ _ _ (h4 j cs[j] (List.getElem?_eq_getElem hjl))
      · rw [List.getElem?_set_ne (fun e => hji e.symm)] at hx
        rw [World.cell?_setCell_other _ ⟨g, o + i, none⟩ ⟨g, o + j, none⟩ _ (fun e => hji (by have := congrArg Addr.off e; simp only at this; omega))]
        exact h4 j x hx
    · refine ⟨?_, by rw [World.frozen?_setCell]; exact (h5 j hj).2⟩
      exact World.isSome_setCells g [u] (o + i) w _ (h5 j hj).1
theorem Rw.some' {w : World} {sz n g : Nat} {v : Value} {cs : List Value} (h : Rw w sz v n cs (some g)) : ∃ o cap, v = .slice (some ⟨g, o, none⟩) n cap ∧ n ≤ cap ∧ cap ≤ maxLen ∧ g < w.heap.size ∧ (∀ j u, cs[j]? = some u → w.cell? ⟨g, o + j, none⟩ = some u) ∧ ∀ j, j < cap * sz → w.frozen? ⟨g, o + j, none⟩ = false := by
  rcases h.2 with ⟨_, _, h⟩ | ⟨g', o, cap, k1, k2, h1, h2, h3, h4, h5⟩
  · cases h
  · cases k1
    exact ⟨o, cap, k2, h1, h2, h3, h4, fun j hj => (h5 j hj).2⟩
theorem src_bx {w : World} (e : Value) (t ts : TypeId) {k : Nat} (he : e.oneCell' = true) (ht : Tryz.prog.underlying ts = some (.slice t)) : Src Tryz.prog 1 ts (.slice (some ⟨w.heap.size, 0, none⟩) 1 k) 1 [e] (w.alloc (.cells #[e] t)) := by
  refine Src.ofSlice _ ht ⟨w.heap.size, 0, none⟩ 1 k _ (by simp) (fun j u hu => ?_) (by simpa using he)
  have hk := Blk.new w #[e] t
  simp only [Addr.add_lit, Nat.zero_add]
  rw [hk.cell]
  simpa using hu
/-- Bytes under way in a block of this call's own. -/
def Kb (w wr : World) (v : Value) (k : List UInt8) : Prop := Below w.heap.size w wr ∧ ∃ g, w.heap.size ≤ g ∧ Rw wr 1 v k.length (k.map bvB) (some g)
theorem Kb.grow {w wr w' : World} {v' : Value} {k : List UInt8} {c : UInt8} {g n : Nat} {G' : Option Nat} (hn : k.length = n) (hb : Below w.heap.size w wr) (hg : w.heap.size ≤ g) (hr : Rw w' 1 v' (n + 1) (k.map bvB ++ [bvB c]) G') {o : Obj} (hm : Mvs (fun j => j = g) (wr.alloc o) w') (hG : G' = some g ∨ G' = some (wr.heap.size + 1)) : Kb w w' v' (k ++ [c]) := by
  subst hn
  have hb2 : Below w.heap.size w w' := (hb.alloc hb.size o).trans (hm.below (fun j hj e => by omega) (by have := hb.size; simp; omega))
  have he : ∃ g', w.heap.size ≤ g' ∧ G' = some g' := by
    rcases hG with h | h
    · exact ⟨_, hg, h⟩
    · exact ⟨_, by have := hb.size; omega, h⟩
  obtain ⟨g', hg', rfl⟩ := he
  exact ⟨hb2, g', hg', by simpa using hr⟩
theorem Kb.last {w wr : World} {k : List UInt8} {d : UInt8} {g o cap n : Nat} (hn : k.length = n) (hb : Below w.heap.size w wr) (hg : w.heap.size ≤ g) (hr : Rw wr 1 (.slice (some ⟨g, o, none⟩) (n + 1) cap) (n + 1) ((k ++ [d]).map bvB) (some g)) (c : UInt8) : Kb w (wr.setCell ⟨g, o + n, none⟩ (bvB c)) (.slice (some ⟨g, o, none⟩) (n + 1) cap) (k ++ [c]) := by
  subst hn
  refine ⟨hb.setCell (p := ⟨g, o + k.length, none⟩) hg _, g, hg, ?_⟩
  have := hr.put1 k.length (by omega) (bvB c)
  rw [show ((k ++ [d]).map bvB).set k.length (bvB c) = (k ++ [c]).map bvB from by simp] at this
  simpa using this
theorem simS_nil (c : UInt8) : simS [] c = [c] := rfl
theorem simS_app {k : List UInt8} {c d : UInt8} (h : (starB c && starB d) = false) : simS (k ++ [d]) c = (k ++ [d]) ++ [c] := by simp [simS, h]
theorem simS_star {k : List UInt8} {d : UInt8} (hd : starB d = true) : simS (k ++ [d]) 42 = k ++ [42] := by simp [simS, hd, show starB 42 = true from rfl]
theorem simS_same {k : List UInt8} {c d : UInt8} (hc : starB c = true) (hd : starB d = true) (h : c ≠ 42) : simS (k ++ [d]) c = k ++ [d] := by simp [simS, hc, hd, h]
theorem simF_at (P : List UInt8) (i : Nat) (h : i < P.length) : (P.take (i + 1)).foldl simS [] = simS ((P.take i).foldl simS []) P[i] := by
  rw [List.take_succ_eq_append_getElem h, List.foldl_append]
  rfl
end Go.Proofs.YtdbmaobjikjifaaGreatDoorR

end
section
namespace Go.Proofs.YtdbmaobjikjifaaGreatDoorR
open Go.RowKit Go.Shelf
attribute [local go_sem] Oper.semAt_some
theorem splitSeq_anyS (c0 : UInt8) (l : List UInt8) (w : World) : Calls Tryz.prog 110 #[.string ⟨l.toArray⟩, .string ⟨#[c0]⟩] w fun e w' =>
    e = .returned (.func (.func 168) #[] #[.pointer (some ⟨w.heap.size + 1, 0, none⟩), .pointer (some ⟨w.heap.size, 0, none⟩), .pointer (some ⟨w.heap.size + 2, 0, none⟩)]) ∧
      w' = ((w.alloc (.cells #[.string ⟨l.toArray⟩] 9)).alloc (.cells #[.string ⟨#[c0]⟩] 9)).alloc (.cells #[.int .i64 0] 3) := by
  have H : Hid (∀ w, Calls Tryz.prog 132 #[.string ⟨l.toArray⟩, .string ⟨#[c0]⟩, .int .i64 0] w fun e w' =>
    e = .returned (.func (.func 168) #[] #[.pointer (some ⟨w.heap.size + 1, 0, none⟩), .pointer (some ⟨w.heap.size, 0, none⟩), .pointer (some ⟨w.heap.size + 2, 0, none⟩)]) ∧
      w' = ((w.alloc (.cells #[.string ⟨l.toArray⟩] 9)).alloc (.cells #[.string ⟨#[c0]⟩] 9)).alloc (.cells #[.int .i64 0] 3)) := by
    intro w
    go_enter Tryz.func132, Tryz.ntmps132
    go_wp2
    go_ret
    exact ⟨rfl, rfl⟩
  go_enter Tryz.func110, Tryz.ntmps110
  go_wp2_with (go_at_call 132; refine (H.out _).mono ?_; rintro e w' ⟨rfl, rfl⟩)
  go_ret
  exact ⟨rfl, rfl⟩
theorem index_dotS {c0 : UInt8} {t : List UInt8} {x : Int} (hx : Lib.indexByte t c0 = x) (w : World) : Calls Tryz.prog 170 #[.string ⟨t.toArray⟩, .string ⟨#[c0]⟩] w fun e w' => e = .returned (.int .i64 x) ∧ w' = w := by
  subst hx
  exact Tryz.strings_Index_one ⟨t.toArray⟩ c0 w
/-- How long the text is that a cell holds. -/
def lenAtS (b : Nat) (w : World) : Nat := match w.cell? ⟨b, 0, none⟩ with
  | some (.string s) => s.size
  | _ => 0
theorem lenAt_eqS {b : Nat} {w : World} {t : List UInt8} (h : Blk w b #[.string ⟨t.toArray⟩] 9) : lenAtS b w = t.length := by
  unfold lenAtS
  rw [h.cell]
  simp [ByteArray.size]
theorem drop_midS (p r : List UInt8) (c : UInt8) : (p ++ c :: r).drop (p.length + 1) = r := by
  rw [List.drop_append, List.drop_of_length_le (by omega), show p.length + 1 - p.length = 1 from by omega]
  rfl
/-- The three captured cells stand as they were. -/
def Kept3cS (Bs Bp Bq : Nat) (W W' : World) : Prop := W'.heap[Bs]? = W.heap[Bs]? ∧ W'.heap[Bp]? = W.heap[Bp]? ∧ W'.heap[Bq]? = W.heap[Bq]?
set_option maxRecDepth 20000 in
set_option maxHeartbeats 1000000 in
theorem split_iterS {c0 : UInt8} (n l Bs Bp Bq : Nat) (hn : 1 ≤ n) (h1 : Bp ≠ Bs) (h2 : Bq ≠ Bs) (s : List UInt8) (hs : s.length ≤ 1000000000) (J Jx : List (List UInt8) → World → Prop)
    (hJs : ∀ pre W v, J pre W → J pre (W.setCell ⟨Bs, 0, none⟩ v))
    (hY : ∀ pre x W, J pre W → (∃ post, pre ++ x :: post = spc c0 s) → YieldAt Fence.wide (n - 1) Tryz.prog l #[.string ⟨x.toArray⟩] W fun e W' =>
      (e = .returned (.bool true) ∧ J (pre ++ [x]) W' ∧ Kept3cS Bs Bp Bq W W') ∨ (e = .returned (.bool false) ∧ Jx (pre ++ [x]) W'))
    (W : World) (hW : Blk W Bs #[.string ⟨s.toArray⟩] 9) (hP : Blk W Bp #[.string ⟨#[c0]⟩] 9) (hQ : Blk W Bq #[.int .i64 0] 3) (h0 : J [] W) :
    CallsIn Fence.wide n Tryz.prog 168 #[.func (.yield l) #[] #[], .pointer (some ⟨Bp, 0, none⟩), .pointer (some ⟨Bs, 0, none⟩), .pointer (some ⟨Bq, 0, none⟩)] W fun e W' => (∃ v, e = .returned v) ∧
      (J (spc c0 s) W' ∨ ∃ pre, Jx pre W') := by
  refine callsIn_of_wp Tryz.func168 rfl trivial ?_ rfl
  simp only [Tryz.ntmps168, List.size_toArray, List.length_cons, List.length_nil, Nat.reduceAdd, Nat.reduceSub, Array.replicate_succ, Array.replicate_zero, List.push_toArray, List.append_toArray, List.nil_append, List.cons_append]
  have HY := hide hY
  have HS := hide hJs
  clear hY hJs
  have hp0 : W.cell? ⟨Bp, 0, none⟩ = some (.string ⟨#[c0]⟩) := hP.cell 0
  gi_wp2
  gi_loopw [7, 8] (fun _ _ wr => ∃ (t : List UInt8) (pre : List (List UInt8)), Hid (Blk wr Bs #[.string ⟨t.toArray⟩] 9) ∧ Hid (Blk wr Bp #[.string ⟨#[c0]⟩] 9) ∧ Hid (Blk wr Bq #[.int .i64 0] 3) ∧ t.length ≤ 1000000000 ∧ Hid (pre ++ spc c0 t = spc c0 s) ∧ Hid (J pre wr)) (fun _ _ wr => lenAtS Bs wr)
  case atStart => exact ⟨s, [], hW, hP, hQ, hs, rfl, h0⟩
  case round =>
    obtain ⟨t, pre, HB, HP, HQ, ht, HX, HJ⟩ := hrel
    clear hW hP hQ h0 hp0
    have hc := HB.out.cell
    have hcp := HP.out.cell
    have hcq := HQ.out.cell
    have hf := HB.out.frozen
    by_cases hin : c0 ∈ t
    · obtain ⟨p, r, hp, h46⟩ := split_at_byte t hin
      have HI := hide (index_dotS (hp ▸ index_in r h46))
      have HX2 : Hid ((pre ++ [p]) ++ spc c0 r = spc c0 s) := by
        show _ = _
        rw [← HX.out, hp, spc_mid r h46]
        simp
      have HPo : Hid (∃ post, pre ++ p :: post = spc c0 s) := ⟨spc c0 r, by rw [← HX.out, hp, spc_mid r h46]⟩
      have e1 : (⟨t.toArray⟩ : ByteArray).extract 0 p.length = ⟨p.toArray⟩ := by
        rw [ext_take, hp, List.take_left' rfl]
      have e2 : (⟨t.toArray⟩ : ByteArray).extract (p.length + 1) t.length = ⟨r.toArray⟩ := by
        rw [ext_drop, hp, drop_midS p r]
      have hk : p.length + 1 + r.length = t.length := by rw [hp]; simp; omega
      clear hin h46 hp
      generalize p.length = k at *
      obtain ⟨fn, tmps, assign, body, hy, hR⟩ := HY.out pre p _ HJ.out HPo.out
      replace hR := hide hR
      gi_wp2_with (first | (refine ⟨trivial, ?_⟩; gi_at_call 170; refine (callsIn_wide.2 (HI.out _)).mono ?_; rintro e w' ⟨rfl, rfl⟩))
      refine hR.out.mono ?_
      clear hR hy
      rintro e W3 (⟨rfl, hJ3, hk3⟩ | ⟨rfl, hJx3⟩)
      · have HB3 : Hid (Blk W3 Bs #[.string ⟨t.toArray⟩] 9) := by
          show W3.heap[Bs]? = _
          rw [hk3.1]
          exact HB.out
        have HP3 : Hid (Blk W3 Bp #[.string ⟨#[c0]⟩] 9) := by
          show W3.heap[Bp]? = _
          rw [hk3.2.1]
          exact HP.out
        have HQ3 : Hid (Blk W3 Bq #[.int .i64 0] 3) := by
          show W3.heap[Bq]? = _
          rw [hk3.2.2]
          exact HQ.out
        have HJ3 := hide hJ3
        clear hJ3 hk3 hc hcp hcq hf
        have hc := HB3.out.cell
        have hcp := HP3.out.cell
        have hf := HB3.out.frozen
        gi_wp2
        go_roundw
        case rel => exact ⟨r, pre ++ [p], HB3.out.set 0 _, HP3.out.set_other _ _ (fun e => h1 e.symm), HQ3.out.set_other _ _ (fun e => h2 e.symm), by omega, HX2, HS.out _ _ _ HJ3.out⟩
        case measure =>
          rw [lenAt_eqS (HB3.out.set 0 _), lenAt_eqS HB.out]
          omega
      · gi_wp2
        refine bodyPost_ret (results_none rfl _ _ _) rfl ?_
        exact ⟨⟨_, rfl⟩, .inr ⟨_, hJx3⟩⟩
    · have HI := hide (index_dotS (index_out hin))
      have HX2 : Hid (pre ++ [t] = spc c0 s) := by
        show _ = _
        rw [← HX.out, spc_end hin]
      obtain ⟨fn, tmps, assign, body, hy, hR⟩ := HY.out pre t _ HJ.out ⟨[], HX2.out⟩
      replace hR := hide hR
      clear hin
      gi_wp2_with (first | (refine ⟨trivial, ?_⟩; gi_at_call 170; refine (callsIn_wide.2 (HI.out _)).mono ?_; rintro e w' ⟨rfl, rfl⟩))
      refine hR.out.mono ?_
      clear hR hy
      rintro e W3 (⟨rfl, hJ3, _⟩ | ⟨rfl, hJx3⟩)
      · gi_wp2
        go_end0
        exact ⟨⟨_, rfl⟩, .inl (by rw [← HX2.out]; exact hJ3)⟩
      · gi_wp2
        go_end0
        exact ⟨⟨_, rfl⟩, .inr ⟨_, hJx3⟩⟩
end Go.Proofs.YtdbmaobjikjifaaGreatDoorR

end
