/- Looks, needsMark, Quote, Unquote of package quote. -/
/- strings.Lines: the iterator over a text's lines, for every body. -/
/- A range over strings.Lines: one law for every body. -/
import Derived.Test.YtdbmaobjikjifaaGreatDoorRU01
import Derived.Test.YtdbmaobjikjifaaGreatDoorRU02
import Derived.Test.YtdbmaobjikjifaaGreatDoorRShelf
import Derived.Test.YtdbmaobjikjifaaGreatDoorRChecked
import Derived.RangeFuncNested
import Derived.RangeFuncBound
import Derived.RangeFuncCalls
import Derived.RangeFuncLeaves
import Derived.RangeFuncBox
import Derived.Shelf.Abstract
import Derived.Shelf.RegionOpen
import Derived.OwnWalkIn
import Derived.TacticsInMore
import Derived.LoopNIn
import Derived.LoopIn
import Derived.Test.YtdbmaobjikjifaaGreatDoorRU03
section
namespace Go.Proofs.YtdbmaobjikjifaaGreatDoorR
open Go.RowKit
theorem hide {p : Prop} (h : p) : Hid p := h
def str (l : List UInt8) : Value := .string ⟨l.toArray⟩
theorem size_lit (l : List UInt8) : (⟨l.toArray⟩ : ByteArray).size = l.length := by simp [ByteArray.size]
theorem cat_lit (a b : List UInt8) : (⟨a.toArray⟩ : ByteArray) ++ ⟨b.toArray⟩ = ⟨(a ++ b).toArray⟩ := by
  apply ByteArray.ext
  simp [ByteArray.data_append]
theorem trim_calls (l : List UInt8) (w : World) : Calls Tryz.prog 200 #[.string ⟨l.toArray⟩, .string ⟨#[62]⟩] w fun e w' => e = .returned (.string ⟨(Lib.trimLeftB l 62).toArray⟩) ∧ w' = w :=
  Tryz.strings_TrimLeft_one ⟨l.toArray⟩ 62 (by decide) w
theorem pre_calls (l : List UInt8) (w : World) : Calls Tryz.prog 201 #[.string ⟨l.toArray⟩, .string ⟨#[70, 114, 111, 109, 32]⟩] w fun e w' => e = .returned (.bool (Lib.hasPrefix l fromS)) ∧ w' = w :=
  Tryz.strings_HasPrefix ⟨l.toArray⟩ ⟨#[70, 114, 111, 109, 32]⟩ w
set_option maxHeartbeats 400000 in
theorem looks_any (l : List UInt8) (w : World) :
    Calls Tryz.prog 194 #[.string ⟨l.toArray⟩] w fun e w' => e = .returned (.tuple #[.bool (sepB l), .bool (quoB l)]) ∧ w' = w := by
  have ht := nm_trim l
  have hle := trim_le l
  cases hn : nm l with
  | false =>
    have hs : sepB l = false := by
      cases h : sepB l with
      | true => rw [nm_sep h] at hn; cases hn
      | false => rfl
    have hq : quoB l = false := by
      cases h : quoB l with
      | true => rw [nm_quo h] at hn; cases hn
      | false => rfl
    rw [hn] at ht
    rw [hs, hq]
    clear hs hq hn
    generalize hg : Lib.trimLeftB l 62 = t at ht hle
    have HG := hide hg
    clear hg
    go_enter Tryz.func194, Tryz.ntmps194
    go_wp2_with (first | (go_at_call 200; refine (trim_calls l _).mono ?_; rintro e w' ⟨rfl, rfl⟩; rw [HG.out]) | (go_at_call 201; refine (pre_calls t _).mono ?_; rintro e w' ⟨rfl, rfl⟩))
    go_ret2
    exact ⟨rfl, rfl⟩
  | true =>
    have hs := sep_trim hn
    rw [quo_not_sep hn]
    rw [hn] at ht
    clear hn
    have HS := hide hs
    clear hs
    generalize hg : Lib.trimLeftB l 62 = t at ht hle HS
    have HG := hide hg
    clear hg
    by_cases he : t.length = l.length
    · have hb : ((t.length : Int) == (l.length : Int)) = true := by simp [he]
      have hs : sepB l = true := by rw [HS.out]; simpa using he
      rw [hs]
      clear he hs
      go_enter Tryz.func194, Tryz.ntmps194
      go_wp2_with (first | (go_at_call 200; refine (trim_calls l _).mono ?_; rintro e w' ⟨rfl, rfl⟩; rw [HG.out]) | (go_at_call 201; refine (pre_calls t _).mono ?_; rintro e w' ⟨rfl, rfl⟩))
      go_ret2
      exact ⟨by simp, rfl⟩
    · have hb : ((t.length : Int) == (l.length : Int)) = false := by simp; omega
      have hs : sepB l = false := by rw [HS.out]; simpa using he
      rw [hs]
      clear he hs
      go_enter Tryz.func194, Tryz.ntmps194
      go_wp2_with (first | (go_at_call 200; refine (trim_calls l _).mono ?_; rintro e w' ⟨rfl, rfl⟩; rw [HG.out]) | (go_at_call 201; refine (pre_calls t _).mono ?_; rintro e w' ⟨rfl, rfl⟩))
      go_ret2
      exact ⟨by simp, rfl⟩
set_option maxHeartbeats 400000 in
theorem needs_any (l : List UInt8) (w : World) :
    Calls Tryz.prog 177 #[.string ⟨l.toArray⟩] w fun e w' => e = .returned (.bool (nm l)) ∧ w' = w := by
  have HN := hide (nm_or l)
  have HL := hide (looks_any l w)
  cases hs : sepB l <;> rw [hs] at HN HL
  all_goals
    clear hs
    go_enter Tryz.func177, Tryz.ntmps177
    go_wp2_with (go_at_call 194; refine HL.out.mono ?_; rintro e w' ⟨rfl, rfl⟩)
    go_ret
    exact ⟨by rw [HN.out]; simp, rfl⟩
end Go.Proofs.YtdbmaobjikjifaaGreatDoorR

end
section
namespace Go.Proofs.YtdbmaobjikjifaaGreatDoorR.Qq
open Go.RowKit Go.Shelf
attribute [local go_sem] Oper.semAt_some
theorem lines_any (l : List UInt8) (w : World) : Calls Tryz.prog 176 #[.string ⟨l.toArray⟩] w fun e w' => e = .returned (.func (.func 193) #[] #[.pointer (some ⟨w.heap.size, 0, none⟩)]) ∧ w' = w.alloc (.cells #[.string ⟨l.toArray⟩] 9) := by
  go_enter Tryz.func176, Tryz.ntmps176
  go_wp2
  go_ret
  exact ⟨rfl, rfl⟩
theorem index_str {t : List UInt8} {x : Int} (hx : Lib.indexByte t 10 = x) (w : World) : Calls Tryz.prog 186 #[.string ⟨t.toArray⟩, .int .u8 10] w fun e w' => e = .returned (.int .i64 x) ∧ w' = w := by
  subst hx
  exact Tryz.strings_IndexByte ⟨t.toArray⟩ 10 w
/-- How long the text is that a cell holds. -/
def lenAt (b : Nat) (w : World) : Nat := match w.cell? ⟨b, 0, none⟩ with
  | some (.string s) => s.size
  | _ => 0
theorem lenAt_eq {b : Nat} {w : World} {t : List UInt8} (h : Blk w b #[.string ⟨t.toArray⟩] 9) : lenAt b w = t.length := by
  unfold lenAt
  rw [h.cell]
  simp [ByteArray.size]
theorem take_mid (p r : List UInt8) : (p ++ 10 :: r).take (p.length + 1) = p ++ [10] := by
  rw [List.take_append, List.take_of_length_le (by omega), show p.length + 1 - p.length = 1 from by omega]
  rfl
theorem drop_mid (p r : List UInt8) : (p ++ 10 :: r).drop (p.length + 1) = r := by
  rw [List.drop_append, List.drop_of_length_le (by omega), show p.length + 1 - p.length = 1 from by omega]
  rfl
set_option maxRecDepth 20000 in
set_option maxHeartbeats 1000000 in
theorem lines_iter (n l Bs : Nat) (hn : 1 ≤ n) (s : List UInt8) (hs : s.length ≤ 1000000000) (J Jx : List (List UInt8) → World → Prop)
    (hJs : ∀ pre W v, J pre W → J pre (W.setCell ⟨Bs, 0, none⟩ v)) (hJd : ∀ pre W, J pre W → J pre W.drew)
    (hY : ∀ pre x W, J pre W → (∃ post, pre ++ x :: post = splitS s) → YieldAt Fence.wide (n - 1) Tryz.prog l #[.string ⟨x.toArray⟩] W fun e W' =>
      (e = .returned (.bool true) ∧ J (pre ++ [x]) W' ∧ W'.heap[Bs]? = W.heap[Bs]?) ∨ (e = .returned (.bool false) ∧ Jx (pre ++ [x]) W'))
    (W : World) (hW : Blk W Bs #[.string ⟨s.toArray⟩] 9) (h0 : J [] W) :
    CallsIn Fence.wide n Tryz.prog 193 #[.func (.yield l) #[] #[], .pointer (some ⟨Bs, 0, none⟩)] W fun e W' => (∃ v, e = .returned v) ∧
      (J (splitS s) W' ∨ ∃ pre, Jx pre W') := by
  refine callsIn_of_wp Tryz.func193 rfl trivial ?_ rfl
  simp only [Tryz.ntmps193, List.size_toArray, List.length_cons, List.length_nil, Nat.reduceAdd, Nat.reduceSub, Array.replicate_succ, Array.replicate_zero, List.push_toArray, List.append_toArray, List.nil_append, List.cons_append]
  have HY := hide hY
  have HS := hide hJs
  have HD := hide hJd
  clear hY hJs hJd
  gi_wp2
  gi_loopw [3] (fun _ wr => ∃ (t : List UInt8) (pre : List (List UInt8)), Hid (Blk wr Bs #[.string ⟨t.toArray⟩] 9) ∧ t.length ≤ 1000000000 ∧ Hid (pre ++ splitS t = splitS s) ∧ Hid (J pre wr)) (fun _ wr => lenAt Bs wr)
  case atStart => exact ⟨s, [], hW, hs, rfl, h0⟩
  case round =>
    obtain ⟨t, pre, HB, ht, HX, HJ⟩ := hrel
    have hc := HB.out.cell
    have hf := HB.out.frozen
    by_cases h0 : t = []
    · subst h0
      gi_wp2
      go_end0
      have hx := HX.out
      rw [splitS, List.append_nil] at hx
      exact ⟨⟨_, rfl⟩, .inl (by rw [← hx]; exact HJ.out)⟩
    · have hE : ((t.length : Int) > 0) := by
        have := List.length_pos_iff.2 h0
        omega
      cases hcut : cut10 t with
      | none =>
        have h10 := cut10_none hcut
        clear hcut
        have HI := hide (index_str (index_none h10))
        have HX2 : Hid ((pre ++ [t]) ++ splitS [] = splitS s) := by
          show _ = _
          rw [← HX.out, splitS_end t h10 h0]
          simp [splitS]
        obtain ⟨fn, tmps, assign, body, hy, hR⟩ := HY.out pre t _ (HS.out _ _ (.string ⟨#[]⟩) HJ.out) ⟨[], by rw [← HX.out, splitS_end t h10 h0]⟩
        replace hR := hide hR
        clear h0 h10
        gi_wp2_with (first | (refine ⟨trivial, ?_⟩; gi_at_call 186; refine (callsIn_wide.2 (HI.out _)).mono ?_; rintro e w' ⟨rfl, rfl⟩))
        refine hR.out.mono ?_
        clear hR hy
        rintro e W3 (⟨rfl, hJ3, hk3⟩ | ⟨rfl, hJx3⟩)
        · have HB3 : Hid (Blk W3 Bs #[.string ⟨([] : List UInt8).toArray⟩] 9) := by
            show W3.heap[Bs]? = _
            rw [hk3]
            exact HB.out.set 0 _
          have HJ3 := hide hJ3
          clear hJ3 hk3
          gi_wp2
          go_roundw
          case rel => exact ⟨[], pre ++ [t], HB3, by simp, HX2, HJ3⟩
          case measure =>
            rw [lenAt_eq HB3.out, lenAt_eq HB.out]
            simp
            omega
        · gi_wp2
          refine bodyPost_ret (results_none rfl _ _ _) rfl ?_
          exact ⟨⟨_, rfl⟩, .inr ⟨_, hJx3⟩⟩
      | some pr =>
        obtain ⟨p, r⟩ := pr
        obtain ⟨hp, h10⟩ := cut10_some hcut
        have HI := hide (index_str (hp ▸ index_mid r h10))
        have HX2 : Hid ((pre ++ [p ++ [10]]) ++ splitS r = splitS s) := by
          show _ = _
          rw [← HX.out, hp, splitS_mid p r h10]
          simp
        have HP : Hid (∃ post, pre ++ (p ++ [10]) :: post = splitS s) := ⟨splitS r, by rw [← HX.out, hp, splitS_mid p r h10]⟩
        have e1 : (⟨t.toArray⟩ : ByteArray).extract 0 (p.length + 1) = ⟨(p ++ [10]).toArray⟩ := by
          rw [ext_take, hp, take_mid p r]
        have e2 : (⟨t.toArray⟩ : ByteArray).extract (p.length + 1) t.length = ⟨r.toArray⟩ := by
          rw [ext_drop, hp, drop_mid p r]
        have hk : p.length + 1 + r.length = t.length := by rw [hp]; simp; omega
        clear hcut h0 h10 hp
        generalize p.length = k at *
        generalize p ++ [10] = x at *
        have hmx : Tryz.prog.follows .mixedOrders = true := by kernel_rfl
        gi_wp2_with (first | (refine ⟨trivial, ?_⟩; gi_at_call 186; refine (callsIn_wide.2 (HI.out _)).mono ?_; rintro e w' ⟨rfl, rfl⟩))
        gi_region
        obtain ⟨fn, tmps, assign, body, hy, hR⟩ := HY.out pre x (w'.setCell ⟨Bs, 0, none⟩ (.string ⟨r.toArray⟩)).drew (HD.out _ _ (HS.out _ _ _ HJ.out)) HP.out
        replace hR := hide hR
        gi_wp2
        refine hR.out.mono ?_
        clear hR hy
        rintro e W3 (⟨rfl, hJ3, hk3⟩ | ⟨rfl, hJx3⟩)
        · have HB3 : Hid (Blk W3 Bs #[.string ⟨r.toArray⟩] 9) := by
            show W3.heap[Bs]? = _
            rw [hk3]
            exact HB.out.set 0 _
          have HJ3 := hide hJ3
          clear hJ3 hk3
          gi_wp2
          go_roundw
          case rel => exact ⟨r, pre ++ [x], HB3, by omega, HX2, HJ3⟩
          case measure =>
            rw [lenAt_eq HB3.out, lenAt_eq HB.out]
            omega
        · gi_wp2
          refine bodyPost_ret (results_none rfl _ _ _) rfl ?_
          exact ⟨⟨_, rfl⟩, .inr ⟨_, hJx3⟩⟩
end Go.Proofs.YtdbmaobjikjifaaGreatDoorR.Qq

end
section
namespace Go.Proofs.YtdbmaobjikjifaaGreatDoorR.Qq
open Go.RowKit Go.Shelf
/-- The three blocks that the loop itself turns: the text's cell, the block for deferred calls, the record. -/
def Own3 (Bs B : Nat) (k : Nat) : Prop := k = Bs ∨ k = B ∨ k = B + 1
/-- A round leaves these three as they were. -/
def Kept3 (Bs B : Nat) (W W' : World) : Prop := ∀ k, Own3 Bs B k → W'.heap[k]? = W.heap[k]?
theorem Kept3.refl (Bs B : Nat) (W : World) : Kept3 Bs B W W := fun _ _ => rfl
theorem Kept3.trans {Bs B : Nat} {X Y Z : World} (h : Kept3 Bs B X Y) (k : Kept3 Bs B Y Z) : Kept3 Bs B X Z := fun i hi => (k i hi).trans (h i hi)
theorem Kept3.mvs {Bs B : Nat} {S : Nat → Prop} {W W' : World} (h : Mvs S W W') (hs : ∀ k, Own3 Bs B k → k < W.heap.size ∧ ¬ S k) : Kept3 Bs B W W' := fun k hk => h.block k (hs k hk).1 (hs k hk).2
/-- None of the three is a row of bytes. -/
def NoRow (Bs B : Nat) (W : World) : Prop := ∀ k, Own3 Bs B k → ∀ c fz, W.heap[k]? ≠ some (.cells c 5 fz)
theorem NoRow.mk3 {Bs B : Nat} {W : World} (h1 : ∃ v, Blk W Bs #[v] 9) (h2 : W.heap[B]? = some (.deferred (some []))) (h3 : ∃ r, W.heap[B + 1]? = some (.loop r)) : NoRow Bs B W := by
  obtain ⟨v, h1⟩ := h1
  obtain ⟨r, h3⟩ := h3
  rintro k (rfl | rfl | rfl) c fz h
  · have h1' : W.heap[k]? = _ := h1
    rw [h1'] at h
    simp at h
  · rw [h2] at h
    simp at h
  · rw [h3] at h
    simp at h
theorem NoRow.start {Bs : Nat} {W : World} {v : Value} (h1 : Blk W Bs #[v] 9) : NoRow Bs W.heap.size W := by
  rintro k (rfl | rfl | rfl) c fz h
  · have h1' : W.heap[k]? = _ := h1
    rw [h1'] at h
    simp at h
  · simp at h
  · simp at h
theorem kept3_others {Bs B b : Nat} {W W' : World} (h : Lib.OthersKept 5 (some b) W W') (h1 : ∃ v, Blk W Bs #[v] 9) (h2 : W.heap[B]? = some (.deferred (some []))) (h3 : ∃ r, W.heap[B + 1]? = some (.loop r)) (hb : ¬ Own3 Bs B b) : Kept3 Bs B W W' := by
  obtain ⟨v, h1⟩ := h1
  obtain ⟨r, h3⟩ := h3
  have hne : ∀ k, Own3 Bs B k → some k ≠ some b := fun k hk e => hb (by cases e; exact hk)
  rintro k (rfl | rfl | rfl)
  · have h1' : W.heap[k]? = _ := h1
    rw [h1']
    exact h k _ h1' (hne _ (.inl rfl)) (fun c fz e => by cases e)
  · rw [h2]
    exact h k _ h2 (hne _ (.inr (.inl rfl))) (fun c fz e => by cases e)
  · rw [h3]
    exact h _ _ h3 (hne _ (.inr (.inr rfl))) (fun c fz e => by cases e)
/-- How the body of a round may be left. -/
def rndPost (Bs B : Nat) (I : World → Prop) (Ix : Code → World → Prop) (W : World) : Exit → Act → World → Prop
  | .normal, _, W' => Kept3 Bs B W W' ∧ I W'
  | .ret, _, W' => Kept3 Bs B W W' ∧ Ix .ret W'
  | .exit id, _, W' => Kept3 Bs B W W' ∧ Ix (.exit id) W'
  | .goto t, _, W' => Kept3 Bs B W W' ∧ Ix (.goto t) W'
  | .panic _, _, _ => False
  | .outgrown, _, _ => False
theorem mvs_putObj {S : Nat → Prop} (W : World) (l : Nat) (o : Obj) (hs : S l) : Mvs S W (W.putObj l o) :=
  ⟨rfl, rfl, rfl, by simp, fun _ _ hk => World.putObj_heap_other (fun e => hk (e ▸ hs))⟩
theorem heap_setCell_other {W : World} {b k : Nat} {v : Value} (h : k ≠ b) : (W.setCell ⟨b, 0, none⟩ v).heap[k]? = W.heap[k]? := Below.heap_setCell _ _ _ _ h
set_option maxHeartbeats 1000000 in
theorem range_lines {n : Nat} (h2 : 2 ≤ n) {g : Operand} {ps : Array Tmp} {assign body : Code} {Q : Exit → Act → World → Prop} {a : Act} {w : World} {Bs : Nat} {s : List UInt8} (hsl : s.length ≤ 1000000000)
    (hg : a.eval g = .func (.func 193) #[] #[.pointer (some ⟨Bs, 0, none⟩)]) (hps : ps.size = 1) (hB : Blk w Bs #[.string ⟨s.toArray⟩] 9)
    (I : List (List UInt8) → World → Prop) (Ix : Code → World → Prop)
    (hI : ∀ pre W W', I pre W → NoRow Bs w.heap.size W → Mvs (Own3 Bs w.heap.size) W W' → I pre W') (hIx : ∀ c W W', Ix c W → NoRow Bs w.heap.size W → Mvs (Own3 Bs w.heap.size) W W' → Ix c W') (h0 : I [] w) (a₁ : List UInt8 → Act)
    (hassign : ∀ (l : Nat) (x : List UInt8) (W : World) (K : Act → World → Prop), K (a₁ x) W →
      assign.wpIn (Fence.wide.inRound l) (n - 1 - 1) Tryz.prog (Exit.then K (fun _ _ _ => False)) { tmps := (ps.zip #[.string ⟨x.toArray⟩]).foldl (fun t (p, v) => t.setIfInBounds p v) a.tmps, defers := [] } W)
    (hbody : ∀ (l : Nat) (pre : List (List UInt8)) (x : List UInt8) (W : World), I pre W → (∃ post, pre ++ x :: post = splitS s) → w.heap.size + 1 < W.heap.size → (∃ r, W.heap[w.heap.size + 1]? = some (.loop r)) → (∃ v, Blk W Bs #[v] 9) → W.heap[w.heap.size]? = some (.deferred (some [])) →
      body.wpIn (Fence.wide.inRound l) (n - 1 - 1) Tryz.prog (rndPost Bs w.heap.size (I (pre ++ [x])) Ix W) (a₁ x) W)
    (hdone : ∀ (W : World), I (splitS s) W → W.heap[w.heap.size]? = some (.deferred (some [])) → Q .normal { a with defers := { target := .collected w.heap.size, args := #[] } :: a.defers } W)
    (hstop : ∀ (c : Code) (W : World), Ix c W → W.heap[w.heap.size]? = some (.deferred (some [])) → c.wpIn Fence.wide n Tryz.prog Q { a with defers := { target := .collected w.heap.size, args := #[] } :: a.defers } W) :
    (Code.rangeFunc g ps assign body).wpIn Fence.wide n Tryz.prog Q a w := by
  have hBlt := hB.lt
  refine wpIn_rangeFunc ?_
  intro fn hfn
  show ∃ l mark w₁ d w₁' f args w₂, (Instr.enterLoop fn a.tmps ps assign body none).run Tryz.prog w = _ ∧ _
  obtain ⟨rec, hrec⟩ : ∃ rec : LoopState → Option Code → Loop, rec = fun st pe => { state := st, pending := pe, fn, tmps := a.tmps, params := ps, assign, body, defers := w.heap.size } := ⟨_, rfl⟩
  obtain ⟨W1, hW1⟩ : ∃ W1, (w.alloc (.deferred (some []))).alloc (.loop (rec .ready none)) = W1 := ⟨_, rfl⟩
  have hL1 : W1.heap[w.heap.size + 1]? = some (.loop (rec .ready none)) := by
    rw [← hW1]; have := World.alloc_heap_new (w.alloc (.deferred (some []))) (.loop (rec .ready none)); rwa [World.size_alloc] at this
  have hK1 : W1.heap[w.heap.size]? = some (.deferred (some [])) := by
    rw [← hW1]; exact (Below.heap_alloc _ _ _ (by simp)).trans (World.alloc_heap_new w _)
  have hI1 : I [] W1 := by rw [← hW1]; exact hI _ _ _ h0 (NoRow.start hB) (((Mvs.refl _ _).alloc _).alloc _)
  have hB1 : Blk W1 Bs #[.string ⟨s.toArray⟩] 9 := by rw [← hW1]; exact (hB.alloc _).alloc _
  refine ⟨w.heap.size + 1, [{ target := .collected w.heap.size, args := #[] }], W1, { target := .fn (.func 193) #[.pointer (some ⟨Bs, 0, none⟩)], args := #[.func (.yield (w.heap.size + 1)) #[] #[]] }, W1, 193,
    #[.func (.yield (w.heap.size + 1)) #[] #[]] ++ #[.pointer (some ⟨Bs, 0, none⟩)], W1, ?_, ?_, ?_, ?_, fun _ => by omega, ?_⟩
  · rw [← hW1, hrec]; exact run_enterLoop_outer _ _ _ _ _
  · simp only [resolve, hg]
    simp [go_sem]
  · intro f' _; trivial
  · simp [invoke, go_sem]
  · refine (lines_iter (n - 1) (w.heap.size + 1) Bs (by omega) s hsl
      (fun pre W => I pre W ∧ W.heap[w.heap.size + 1]? = some (.loop (rec .ready none)) ∧ W.heap[w.heap.size]? = some (.deferred (some [])) ∧ ∃ v, Blk W Bs #[v] 9)
      (fun _ W => ∃ c, Ix c W ∧ W.heap[w.heap.size + 1]? = some (.loop (rec .done (some c))) ∧ W.heap[w.heap.size]? = some (.deferred (some [])) ∧ ∃ v, Blk W Bs #[v] 9)
      ?_ ?_ ?_ W1 hB1 ⟨hI1, hL1, hK1, _, hB1⟩).mono ?_
    · rintro pre W v ⟨hi, hl, hk, u, hu⟩
      exact ⟨hI _ _ _ hi (NoRow.mk3 ⟨u, hu⟩ hk ⟨_, hl⟩) ((Mvs.refl _ _).setCell _ _ (fun _ => .inl rfl)), (heap_setCell_other (by omega)).trans hl, (heap_setCell_other (by omega)).trans hk, _, hu.set 0 v⟩
    · rintro pre W ⟨hi, hl, hk, hu⟩
      exact ⟨hI _ _ _ hi (NoRow.mk3 hu hk ⟨_, hl⟩) (Mvs.refl _ _).drew, hl, hk, hu⟩
    · rintro pre x W ⟨hi, hl, hk, hu⟩ hpost
      have hlt : w.heap.size + 1 < W.heap.size := (Array.getElem?_eq_some_iff.1 hl).1
      have hy := run_yield (P := Tryz.prog) (args := #[.string ⟨x.toArray⟩]) hl (by rw [hrec]; exact hps.symm)
      rw [hrec] at hy
      refine ⟨fn, _, assign, body, hy, roundIn_of_wpIn hfn (hassign _ x W _ ⟨_, run_beginRound hl (by rw [hrec]), ?_⟩)⟩
      have hl2 : (W.putObj (w.heap.size + 1) (.loop { rec .ready none with state := .busy })).heap[w.heap.size + 1]? = some (.loop { rec .ready none with state := .busy }) := World.putObj_heap_same hlt
      have hk2 : (W.putObj (w.heap.size + 1) (.loop { rec .ready none with state := .busy })).heap[w.heap.size]? = some (.deferred (some [])) := (World.putObj_heap_other (by omega)).trans hk
      have hu2 : ∃ v, Blk (W.putObj (w.heap.size + 1) (.loop { rec .ready none with state := .busy })) Bs #[v] 9 := hu.imp fun v hv => (World.putObj_heap_other (by omega)).trans hv
      have hs2 : (W.putObj (w.heap.size + 1) (.loop { rec .ready none with state := .busy })).heap[Bs]? = W.heap[Bs]? := World.putObj_heap_other (by omega)
      refine wpIn_mono (hbody _ pre x _ (hI _ _ _ hi (NoRow.mk3 hu hk ⟨_, hl⟩) (mvs_putObj _ _ _ (.inr (.inr rfl)))) hpost (by simpa using hlt) ⟨_, hl2⟩ hu2 hk2) ?_
      have fin : ∀ (jump : Option Code) (W3 : World), Kept3 Bs w.heap.size (W.putObj (w.heap.size + 1) (.loop { rec .ready none with state := .busy })) W3 →
          (Instr.endRound (w.heap.size + 1) jump).run Tryz.prog W3 = .ok (.bool jump.isNone) (W3.putObj (w.heap.size + 1) (.loop (rec (if jump.isNone then .ready else .done) jump))) ∧
          (W3.putObj (w.heap.size + 1) (.loop (rec (if jump.isNone then .ready else .done) jump))).heap[w.heap.size + 1]? = some (.loop (rec (if jump.isNone then .ready else .done) jump)) ∧
          (W3.putObj (w.heap.size + 1) (.loop (rec (if jump.isNone then .ready else .done) jump))).heap[w.heap.size]? = some (.deferred (some [])) ∧
          (W3.putObj (w.heap.size + 1) (.loop (rec (if jump.isNone then .ready else .done) jump))).heap[Bs]? = W.heap[Bs]? ∧ NoRow Bs w.heap.size W3 := fun jump W3 hk3 => by
        have hl3 := (hk3 _ (.inr (.inr rfl))).trans hl2
        have hnr : NoRow Bs w.heap.size W3 := NoRow.mk3 (hu2.imp fun v hv => (hk3 _ (.inl rfl)).trans hv) ((hk3 _ (.inr (.inl rfl))).trans hk2) ⟨_, hl3⟩
        have := run_endRound (P := Tryz.prog) jump hl3
        rw [hrec] at this ⊢
        exact ⟨this, World.putObj_heap_same (Array.getElem?_eq_some_iff.1 hl3).1, (World.putObj_heap_other (by omega)).trans ((hk3 _ (.inr (.inl rfl))).trans hk2), (World.putObj_heap_other (by omega)).trans ((hk3 _ (.inl rfl)).trans hs2), hnr⟩
      rintro e a3 W3 hp
      cases e with
      | normal =>
        obtain ⟨hk3, hi3⟩ := hp
        obtain ⟨hr, hl4, hk4, hs4, hnr⟩ := fin none W3 hk3
        exact ⟨_, _, hr, .inl ⟨rfl, ⟨hI _ _ _ hi3 hnr (mvs_putObj _ _ _ (.inr (.inr rfl))), hl4, hk4, hu.imp fun v hv => hs4.trans hv⟩, hs4⟩⟩
      | ret =>
        obtain ⟨hk3, hi3⟩ := hp
        obtain ⟨hr, hl4, hk4, hs4, hnr⟩ := fin (some .ret) W3 hk3
        exact ⟨_, _, hr, .inr ⟨rfl, .ret, hIx _ _ _ hi3 hnr (mvs_putObj _ _ _ (.inr (.inr rfl))), hl4, hk4, hu.imp fun v hv => hs4.trans hv⟩⟩
      | exit id =>
        obtain ⟨hk3, hi3⟩ := hp
        obtain ⟨hr, hl4, hk4, hs4, hnr⟩ := fin (some (.exit id)) W3 hk3
        exact ⟨_, _, hr, .inr ⟨rfl, .exit id, hIx _ _ _ hi3 hnr (mvs_putObj _ _ _ (.inr (.inr rfl))), hl4, hk4, hu.imp fun v hv => hs4.trans hv⟩⟩
      | goto t =>
        obtain ⟨hk3, hi3⟩ := hp
        obtain ⟨hr, hl4, hk4, hs4, hnr⟩ := fin (some (.goto t)) W3 hk3
        exact ⟨_, _, hr, .inr ⟨rfl, .goto t, hIx _ _ _ hi3 hnr (mvs_putObj _ _ _ (.inr (.inr rfl))), hl4, hk4, hu.imp fun v hv => hs4.trans hv⟩⟩
      | panic ch => exact hp.elim
      | outgrown => exact hp.elim
    · rintro e W2 ⟨⟨v, rfl⟩, (⟨hi, hl, hk, hu⟩ | ⟨_, c, hi, hl, hk, hu⟩)⟩
      · exact ⟨none, _, by have := run_endLoop (P := Tryz.prog) hl (by rw [hrec]; simp); rw [hrec] at this; exact this, hdone _ (hI _ _ _ hi (NoRow.mk3 hu hk ⟨_, hl⟩) (mvs_putObj _ _ _ (.inr (.inr rfl)))) ((World.putObj_heap_other (by omega)).trans hk)⟩
      · exact ⟨some c, _, by have := run_endLoop (P := Tryz.prog) hl (by rw [hrec]; simp); rw [hrec] at this; exact this, hstop c _ (hIx _ _ _ hi (NoRow.mk3 hu hk ⟨_, hl⟩) (mvs_putObj _ _ _ (.inr (.inr rfl)))) ((World.putObj_heap_other (by omega)).trans hk)⟩
end Go.Proofs.YtdbmaobjikjifaaGreatDoorR.Qq

end
