/- strings.SplitSeq at a byte: the iterator over a text's pieces, for every body. -/
/- A range over strings.SplitSeq: one law for every body. -/
import Derived.RangeFuncNested
import Derived.RangeFuncBound
import Derived.RangeFuncCalls
import Derived.RangeFuncLeaves
import Derived.RangeFuncBox
import Derived.Shelf.Abstract
import Derived.Shelf.RegionOpen
import Derived.OwnWalkIn
import Derived.TacticsInMore
import Derived.LoopNIn
import Derived.LoopIn
import Derived.BigQuiet
import Derived.Deep.QuietTactic
import Derived.Test.YtelpjiiladbigaaDoorU15
section
namespace Go.Proofs.YtelpjiiladbigaaDoor
open Go.RowKit Go.Shelf
attribute [local go_sem] Oper.semAt_some
theorem splitSeq_anyS (c0 : UInt8) (l : List UInt8) (w : World) : Calls Tryd.prog 26 #[.string ⟨l.toArray⟩, .string ⟨#[c0]⟩] w fun e w' =>
    e = .returned (.func (.func 60) #[] #[.pointer (some ⟨w.heap.size + 1, 0, none⟩), .pointer (some ⟨w.heap.size, 0, none⟩), .pointer (some ⟨w.heap.size + 2, 0, none⟩)]) ∧
      w' = ((w.alloc (.cells #[.string ⟨l.toArray⟩] 9)).alloc (.cells #[.string ⟨#[c0]⟩] 9)).alloc (.cells #[.int .i64 0] 3) := by
  have H : Hid (∀ w, Calls Tryd.prog 42 #[.string ⟨l.toArray⟩, .string ⟨#[c0]⟩, .int .i64 0] w fun e w' =>
    e = .returned (.func (.func 60) #[] #[.pointer (some ⟨w.heap.size + 1, 0, none⟩), .pointer (some ⟨w.heap.size, 0, none⟩), .pointer (some ⟨w.heap.size + 2, 0, none⟩)]) ∧
      w' = ((w.alloc (.cells #[.string ⟨l.toArray⟩] 9)).alloc (.cells #[.string ⟨#[c0]⟩] 9)).alloc (.cells #[.int .i64 0] 3)) := by
    intro w
    go_enter Tryd.func42, Tryd.ntmps42
    go_wp2
    go_ret
    exact ⟨rfl, rfl⟩
  go_enter Tryd.func26, Tryd.ntmps26
  go_wp2_with (go_at_call 42; refine (H.out _).mono ?_; rintro e w' ⟨rfl, rfl⟩)
  go_ret
  exact ⟨rfl, rfl⟩
theorem index_dotS {c0 : UInt8} {t : List UInt8} {x : Int} (hx : Lib.indexByte t c0 = x) (w : World) : Calls Tryd.prog 62 #[.string ⟨t.toArray⟩, .string ⟨#[c0]⟩] w fun e w' => e = .returned (.int .i64 x) ∧ w' = w := by
  subst hx
  exact Tryd.strings_Index_one ⟨t.toArray⟩ c0 w
/-- How long the text is that a cell holds. -/
def lenAtS (b : Nat) (w : World) : Nat := match w.cell? ⟨b, 0, none⟩ with
  | some (.string s) => s.size
  | _ => 0
theorem lenAt_eqS {b : Nat} {w : World} {t : List UInt8} (h : Blk w b #[.string ⟨t.toArray⟩] 9) : lenAtS b w = t.length := by
  unfold lenAtS
  rw [h.cell]
  simp [ByteArray.size]
theorem drop_midS (p r : List UInt8) (c : UInt8) : (p ++ c :: r).drop (p.length + 1) = r := by
  rw [List.drop_append, List.drop_of_length_le (by omega), show p.length + 1 - p.length = 1 from by omega]
  rfl
/-- The three captured cells stand as they were. -/
def Kept3cS (Bs Bp Bq : Nat) (W W' : World) : Prop := W'.heap[Bs]? = W.heap[Bs]? ∧ W'.heap[Bp]? = W.heap[Bp]? ∧ W'.heap[Bq]? = W.heap[Bq]?
set_option maxRecDepth 20000 in
set_option maxHeartbeats 1000000 in
theorem split_iterS {c0 : UInt8} (n l Bs Bp Bq : Nat) (hn : 1 ≤ n) (h1 : Bp ≠ Bs) (h2 : Bq ≠ Bs) (s : List UInt8) (hs : s.length ≤ 1000000000) (J Jx : List (List UInt8) → World → Prop)
    (hJs : ∀ pre W v, J pre W → J pre (W.setCell ⟨Bs, 0, none⟩ v))
    (hY : ∀ pre x W, J pre W → (∃ post, pre ++ x :: post = spc c0 s) → YieldAt Fence.wide (n - 1) Tryd.prog l #[.string ⟨x.toArray⟩] W fun e W' =>
      (e = .returned (.bool true) ∧ J (pre ++ [x]) W' ∧ Kept3cS Bs Bp Bq W W') ∨ (e = .returned (.bool false) ∧ Jx (pre ++ [x]) W'))
    (W : World) (hW : Blk W Bs #[.string ⟨s.toArray⟩] 9) (hP : Blk W Bp #[.string ⟨#[c0]⟩] 9) (hQ : Blk W Bq #[.int .i64 0] 3) (h0 : J [] W) :
    CallsIn Fence.wide n Tryd.prog 60 #[.func (.yield l) #[] #[], .pointer (some ⟨Bp, 0, none⟩), .pointer (some ⟨Bs, 0, none⟩), .pointer (some ⟨Bq, 0, none⟩)] W fun e W' => (∃ v, e = .returned v) ∧
      (J (spc c0 s) W' ∨ ∃ pre, Jx pre W') := by
  refine callsIn_of_wp Tryd.func60 rfl trivial ?_ rfl
  simp only [Tryd.ntmps60, List.size_toArray, List.length_cons, List.length_nil, Nat.reduceAdd, Nat.reduceSub, Array.replicate_succ, Array.replicate_zero, List.push_toArray, List.append_toArray, List.nil_append, List.cons_append]
  have HY := hide hY
  have HS := hide hJs
  clear hY hJs
  have hp0 : W.cell? ⟨Bp, 0, none⟩ = some (.string ⟨#[c0]⟩) := hP.cell 0
  gi_wp2
  gi_loopw [7, 8] (fun _ _ wr => ∃ (t : List UInt8) (pre : List (List UInt8)), Hid (Blk wr Bs #[.string ⟨t.toArray⟩] 9) ∧ Hid (Blk wr Bp #[.string ⟨#[c0]⟩] 9) ∧ Hid (Blk wr Bq #[.int .i64 0] 3) ∧ t.length ≤ 1000000000 ∧ Hid (pre ++ spc c0 t = spc c0 s) ∧ Hid (J pre wr)) (fun _ _ wr => lenAtS Bs wr)
  case atStart => exact ⟨s, [], hW, hP, hQ, hs, rfl, h0⟩
  case round =>
    obtain ⟨t, pre, HB, HP, HQ, ht, HX, HJ⟩ := hrel
    clear hW hP hQ h0 hp0
    have hc := HB.out.cell
    have hcp := HP.out.cell
    have hcq := HQ.out.cell
    have hf := HB.out.frozen
    by_cases hin : c0 ∈ t
    · obtain ⟨p, r, hp, h46⟩ := split_at_byte t hin
      have HI := hide (index_dotS (hp ▸ index_in r h46))
      have HX2 : Hid ((pre ++ [p]) ++ spc c0 r = spc c0 s) := by
        show _ = _
        rw [← HX.out, hp, spc_mid r h46]
        simp
      have HPo : Hid (∃ post, pre ++ p :: post = spc c0 s) := ⟨spc c0 r, by rw [← HX.out, hp, spc_mid r h46]⟩
      have e1 : (⟨t.toArray⟩ : ByteArray).extract 0 p.length = ⟨p.toArray⟩ := by
        rw [ext_take, hp, List.take_left' rfl]
      have e2 : (⟨t.toArray⟩ : ByteArray).extract (p.length + 1) t.length = ⟨r.toArray⟩ := by
        rw [ext_drop, hp, drop_midS p r]
      have hk : p.length + 1 + r.length = t.length := by rw [hp]; simp; omega
      clear hin h46 hp
      generalize p.length = k at *
      obtain ⟨fn, tmps, assign, body, hy, hR⟩ := HY.out pre p _ HJ.out HPo.out
      replace hR := hide hR
      gi_wp2_with (first | (refine ⟨trivial, ?_⟩; gi_at_call 62; refine (callsIn_wide.2 (HI.out _)).mono ?_; rintro e w' ⟨rfl, rfl⟩))
      refine hR.out.mono ?_
      clear hR hy
      rintro e W3 (⟨rfl, hJ3, hk3⟩ | ⟨rfl, hJx3⟩)
      · have HB3 : Hid (Blk W3 Bs #[.string ⟨t.toArray⟩] 9) := by
          show W3.heap[Bs]? = _
          rw [hk3.1]
          exact HB.out
        have HP3 : Hid (Blk W3 Bp #[.string ⟨#[c0]⟩] 9) := by
          show W3.heap[Bp]? = _
          rw [hk3.2.1]
          exact HP.out
        have HQ3 : Hid (Blk W3 Bq #[.int .i64 0] 3) := by
          show W3.heap[Bq]? = _
          rw [hk3.2.2]
          exact HQ.out
        have HJ3 := hide hJ3
        clear hJ3 hk3 hc hcp hcq hf
        have hc := HB3.out.cell
        have hcp := HP3.out.cell
        have hf := HB3.out.frozen
        gi_wp2
        go_roundw
        case rel => exact ⟨r, pre ++ [p], HB3.out.set 0 _, HP3.out.set_other _ _ (fun e => h1 e.symm), HQ3.out.set_other _ _ (fun e => h2 e.symm), by omega, HX2, HS.out _ _ _ HJ3.out⟩
        case measure =>
          rw [lenAt_eqS (HB3.out.set 0 _), lenAt_eqS HB.out]
          omega
      · gi_wp2
        refine bodyPost_ret (results_none rfl _ _ _) rfl ?_
        exact ⟨⟨_, rfl⟩, .inr ⟨_, hJx3⟩⟩
    · have HI := hide (index_dotS (index_out hin))
      have HX2 : Hid (pre ++ [t] = spc c0 s) := by
        show _ = _
        rw [← HX.out, spc_end hin]
      obtain ⟨fn, tmps, assign, body, hy, hR⟩ := HY.out pre t _ HJ.out ⟨[], HX2.out⟩
      replace hR := hide hR
      clear hin
      gi_wp2_with (first | (refine ⟨trivial, ?_⟩; gi_at_call 62; refine (callsIn_wide.2 (HI.out _)).mono ?_; rintro e w' ⟨rfl, rfl⟩))
      refine hR.out.mono ?_
      clear hR hy
      rintro e W3 (⟨rfl, hJ3, _⟩ | ⟨rfl, hJx3⟩)
      · gi_wp2
        go_end0
        exact ⟨⟨_, rfl⟩, .inl (by rw [← HX2.out]; exact hJ3)⟩
      · gi_wp2
        go_end0
        exact ⟨⟨_, rfl⟩, .inr ⟨_, hJx3⟩⟩
end Go.Proofs.YtelpjiiladbigaaDoor

end
section
namespace Go.Proofs.YtelpjiiladbigaaDoor
open Go.RowKit Go.Shelf
attribute [local go_sem] Oper.semAt_some
/-- The five blocks that the loop itself turns or holds. -/
def Own5S (Bs Bp Bq B : Nat) (k : Nat) : Prop := k = Bs ∨ k = Bp ∨ k = Bq ∨ k = B ∨ k = B + 1
def Kept5S (Bs Bp Bq B : Nat) (W W' : World) : Prop := ∀ k, Own5S Bs Bp Bq B k → W'.heap[k]? = W.heap[k]?
theorem mvs_putObjS {S : Nat → Prop} (W : World) (l : Nat) (o : Obj) (hs : S l) : Mvs S W (W.putObj l o) :=
  ⟨rfl, rfl, rfl, by simp, fun _ _ hk => World.putObj_heap_other (fun e => hk (e ▸ hs))⟩
theorem heap_setCell_otherS {W : World} {b k : Nat} {v : Value} (h : k ≠ b) : (W.setCell ⟨b, 0, none⟩ v).heap[k]? = W.heap[k]? := Below.heap_setCell _ _ _ _ h
theorem Blk.putObjS {W : World} {b l : Nat} {vs : Array Value} {t : TypeId} (h : Blk W b vs t) (o : Obj) (hne : b ≠ l) : Blk (W.putObj l o) b vs t := (World.putObj_heap_other hne).trans h
theorem Blk.new_atS {w : World} {vs : Array Value} {t : TypeId} {k : Nat} (h : w.heap.size = k) : Blk (w.alloc (.cells vs t)) k vs t := h ▸ Blk.new w vs t
theorem below_mvsS {B : Nat} {w x y : World} {S : Nat → Prop} (h : Below B w x) (hm : Mvs S x y) (hs : ∀ k, k < B → ¬ S k) (hB : B ≤ w.heap.size) : Below B w y := h.trans (hm.below hs (Nat.le_trans hB h.size))
/-- How the body of a round may be left. -/
def rndPostS (Bs Bp Bq B : Nat) (I : World → Prop) (Ix : Code → World → Prop) (W : World) : Exit → Act → World → Prop
  | .normal, _, W' => Kept5S Bs Bp Bq B W W' ∧ I W'
  | .ret, _, W' => Kept5S Bs Bp Bq B W W' ∧ Ix .ret W'
  | .exit id, _, W' => Kept5S Bs Bp Bq B W W' ∧ Ix (.exit id) W'
  | .goto t, _, W' => Kept5S Bs Bp Bq B W W' ∧ Ix (.goto t) W'
  | .panic _, _, _ => False
  | .outgrown, _, _ => False
set_option maxHeartbeats 1000000 in
theorem range_splitS {c0 : UInt8} {n : Nat} (h2 : 2 ≤ n) {g : Operand} {ps : Array Tmp} {assign body : Code} {Q : Exit → Act → World → Prop} {a : Act} {w : World} {Bs Bp Bq : Nat} {s : List UInt8} (hn1 : Bp ≠ Bs) (hn2 : Bq ≠ Bs) (hsl : s.length ≤ 1000000000)
    (hg : a.eval g = .func (.func 60) #[] #[.pointer (some ⟨Bp, 0, none⟩), .pointer (some ⟨Bs, 0, none⟩), .pointer (some ⟨Bq, 0, none⟩)]) (hps : ps.size = 1) (hB : Blk w Bs #[.string ⟨s.toArray⟩] 9) (hP : Blk w Bp #[.string ⟨#[c0]⟩] 9) (hQ : Blk w Bq #[.int .i64 0] 3)
    (I : List (List UInt8) → World → Prop) (Ix : Code → World → Prop)
    (hI : ∀ pre W W', I pre W → Mvs (Own5S Bs Bp Bq w.heap.size) W W' → I pre W') (hIx : ∀ c W W', Ix c W → Mvs (Own5S Bs Bp Bq w.heap.size) W W' → Ix c W') (h0 : I [] w) (a₁ : List UInt8 → Act)
    (hassign : ∀ (l : Nat) (x : List UInt8) (W : World) (K : Act → World → Prop), K (a₁ x) W →
      assign.wpIn (Fence.wide.inRound l) (n - 1 - 1) Tryd.prog (Exit.then K (fun _ _ _ => False)) { tmps := (ps.zip #[.string ⟨x.toArray⟩]).foldl (fun t (p, v) => t.setIfInBounds p v) a.tmps, defers := [] } W)
    (hbody : ∀ (l : Nat) (pre : List (List UInt8)) (x : List UInt8) (W : World), I pre W → (∃ post, pre ++ x :: post = spc c0 s) → w.heap.size + 1 < W.heap.size →
      body.wpIn (Fence.wide.inRound l) (n - 1 - 1) Tryd.prog (rndPostS Bs Bp Bq w.heap.size (I (pre ++ [x])) Ix W) (a₁ x) W)
    (hdone : ∀ (W : World), I (spc c0 s) W → W.heap[w.heap.size]? = some (.deferred (some [])) → Q .normal { a with defers := { target := .collected w.heap.size, args := #[] } :: a.defers } W)
    (hstop : ∀ (c : Code) (W : World), Ix c W → W.heap[w.heap.size]? = some (.deferred (some [])) → c.wpIn Fence.wide n Tryd.prog Q { a with defers := { target := .collected w.heap.size, args := #[] } :: a.defers } W) :
    (Code.rangeFunc g ps assign body).wpIn Fence.wide n Tryd.prog Q a w := by
  have hBlt := hB.lt
  have hPlt := hP.lt
  have hQlt := hQ.lt
  refine wpIn_rangeFunc ?_
  intro fn hfn
  show ∃ l mark w₁ d w₁' f args w₂, (Instr.enterLoop fn a.tmps ps assign body none).run Tryd.prog w = _ ∧ _
  obtain ⟨rec, hrec⟩ : ∃ rec : LoopState → Option Code → Loop, rec = fun st pe => { state := st, pending := pe, fn, tmps := a.tmps, params := ps, assign, body, defers := w.heap.size } := ⟨_, rfl⟩
  obtain ⟨W1, hW1⟩ : ∃ W1, (w.alloc (.deferred (some []))).alloc (.loop (rec .ready none)) = W1 := ⟨_, rfl⟩
  have hL1 : W1.heap[w.heap.size + 1]? = some (.loop (rec .ready none)) := by
    rw [← hW1]; have := World.alloc_heap_new (w.alloc (.deferred (some []))) (.loop (rec .ready none)); rwa [World.size_alloc] at this
  have hK1 : W1.heap[w.heap.size]? = some (.deferred (some [])) := by
    rw [← hW1]; exact (Below.heap_alloc _ _ _ (by simp)).trans (World.alloc_heap_new w _)
  have hI1 : I [] W1 := by rw [← hW1]; exact hI _ _ _ h0 (((Mvs.refl _ _).alloc _).alloc _)
  have hB1 : Blk W1 Bs #[.string ⟨s.toArray⟩] 9 := by rw [← hW1]; exact (hB.alloc _).alloc _
  have hP1 : Blk W1 Bp #[.string ⟨#[c0]⟩] 9 := by rw [← hW1]; exact (hP.alloc _).alloc _
  have hQ1 : Blk W1 Bq #[.int .i64 0] 3 := by rw [← hW1]; exact (hQ.alloc _).alloc _
  refine ⟨w.heap.size + 1, [{ target := .collected w.heap.size, args := #[] }], W1, { target := .fn (.func 60) #[.pointer (some ⟨Bp, 0, none⟩), .pointer (some ⟨Bs, 0, none⟩), .pointer (some ⟨Bq, 0, none⟩)], args := #[.func (.yield (w.heap.size + 1)) #[] #[]] }, W1, 60,
    #[.func (.yield (w.heap.size + 1)) #[] #[]] ++ #[.pointer (some ⟨Bp, 0, none⟩), .pointer (some ⟨Bs, 0, none⟩), .pointer (some ⟨Bq, 0, none⟩)], W1, ?_, ?_, ?_, ?_, fun _ => by omega, ?_⟩
  · rw [← hW1, hrec]; exact run_enterLoop_outer _ _ _ _ _
  · simp only [resolve, hg]
    simp [go_sem]
  · intro f' _; trivial
  · simp [invoke, go_sem]
  · refine (split_iterS (n - 1) (w.heap.size + 1) Bs Bp Bq (by omega) hn1 hn2 s hsl
      (fun pre W => I pre W ∧ W.heap[w.heap.size + 1]? = some (.loop (rec .ready none)) ∧ W.heap[w.heap.size]? = some (.deferred (some [])))
      (fun _ W => ∃ c, Ix c W ∧ W.heap[w.heap.size + 1]? = some (.loop (rec .done (some c))) ∧ W.heap[w.heap.size]? = some (.deferred (some [])))
      ?_ ?_ W1 hB1 hP1 hQ1 ⟨hI1, hL1, hK1⟩).mono ?_
    · rintro pre W v ⟨hi, hl, hk⟩
      exact ⟨hI _ _ _ hi ((Mvs.refl _ _).setCell _ _ (fun _ => .inl rfl)), (heap_setCell_otherS (by omega)).trans hl, (heap_setCell_otherS (by omega)).trans hk⟩
    · rintro pre x W ⟨hi, hl, hk⟩ hpost
      have hlt : w.heap.size + 1 < W.heap.size := (Array.getElem?_eq_some_iff.1 hl).1
      have hy := run_yield (P := Tryd.prog) (args := #[.string ⟨x.toArray⟩]) hl (by rw [hrec]; exact hps.symm)
      rw [hrec] at hy
      refine ⟨fn, _, assign, body, hy, roundIn_of_wpIn hfn (hassign _ x W _ ⟨_, run_beginRound hl (by rw [hrec]), ?_⟩)⟩
      have hl2 : (W.putObj (w.heap.size + 1) (.loop { rec .ready none with state := .busy })).heap[w.heap.size + 1]? = some (.loop { rec .ready none with state := .busy }) := World.putObj_heap_same hlt
      have hk2 : (W.putObj (w.heap.size + 1) (.loop { rec .ready none with state := .busy })).heap[w.heap.size]? = some (.deferred (some [])) := (World.putObj_heap_other (by omega)).trans hk
      have hs2 : ∀ b, b < w.heap.size → (W.putObj (w.heap.size + 1) (.loop { rec .ready none with state := .busy })).heap[b]? = W.heap[b]? := fun b hb => World.putObj_heap_other (by omega)
      refine wpIn_mono (hbody _ pre x _ (hI _ _ _ hi (mvs_putObjS _ _ _ (.inr (.inr (.inr (.inr rfl)))))) hpost (by simpa using hlt)) ?_
      have fin : ∀ (jump : Option Code) (W3 : World), Kept5S Bs Bp Bq w.heap.size (W.putObj (w.heap.size + 1) (.loop { rec .ready none with state := .busy })) W3 →
          (Instr.endRound (w.heap.size + 1) jump).run Tryd.prog W3 = .ok (.bool jump.isNone) (W3.putObj (w.heap.size + 1) (.loop (rec (if jump.isNone then .ready else .done) jump))) ∧
          (W3.putObj (w.heap.size + 1) (.loop (rec (if jump.isNone then .ready else .done) jump))).heap[w.heap.size + 1]? = some (.loop (rec (if jump.isNone then .ready else .done) jump)) ∧
          (W3.putObj (w.heap.size + 1) (.loop (rec (if jump.isNone then .ready else .done) jump))).heap[w.heap.size]? = some (.deferred (some [])) ∧
          (W3.putObj (w.heap.size + 1) (.loop (rec (if jump.isNone then .ready else .done) jump))).heap[Bs]? = W.heap[Bs]? ∧ (W3.putObj (w.heap.size + 1) (.loop (rec (if jump.isNone then .ready else .done) jump))).heap[Bp]? = W.heap[Bp]? ∧ (W3.putObj (w.heap.size + 1) (.loop (rec (if jump.isNone then .ready else .done) jump))).heap[Bq]? = W.heap[Bq]? := fun jump W3 hk3 => by
        have hl3 := (hk3 _ (.inr (.inr (.inr (.inr rfl))))).trans hl2
        have := run_endRound (P := Tryd.prog) jump hl3
        rw [hrec] at this ⊢
        exact ⟨this, World.putObj_heap_same (Array.getElem?_eq_some_iff.1 hl3).1, (World.putObj_heap_other (by omega)).trans ((hk3 _ (.inr (.inr (.inr (.inl rfl))))).trans hk2), (World.putObj_heap_other (by omega)).trans ((hk3 _ (.inl rfl)).trans (hs2 _ hBlt)), (World.putObj_heap_other (by omega)).trans ((hk3 _ (.inr (.inl rfl))).trans (hs2 _ hPlt)), (World.putObj_heap_other (by omega)).trans ((hk3 _ (.inr (.inr (.inl rfl)))).trans (hs2 _ hQlt))⟩
      rintro e a3 W3 hp
      cases e with
      | normal =>
        obtain ⟨hk3, hi3⟩ := hp
        obtain ⟨hr, hl4, hk4, hs4⟩ := fin none W3 hk3
        exact ⟨_, _, hr, .inl ⟨rfl, ⟨hI _ _ _ hi3 (mvs_putObjS _ _ _ (.inr (.inr (.inr (.inr rfl))))), hl4, hk4⟩, hs4⟩⟩
      | ret =>
        obtain ⟨hk3, hi3⟩ := hp
        obtain ⟨hr, hl4, hk4, _⟩ := fin (some .ret) W3 hk3
        exact ⟨_, _, hr, .inr ⟨rfl, .ret, hIx _ _ _ hi3 (mvs_putObjS _ _ _ (.inr (.inr (.inr (.inr rfl))))), hl4, hk4⟩⟩
      | exit id =>
        obtain ⟨hk3, hi3⟩ := hp
        obtain ⟨hr, hl4, hk4, _⟩ := fin (some (.exit id)) W3 hk3
        exact ⟨_, _, hr, .inr ⟨rfl, .exit id, hIx _ _ _ hi3 (mvs_putObjS _ _ _ (.inr (.inr (.inr (.inr rfl))))), hl4, hk4⟩⟩
      | goto t =>
        obtain ⟨hk3, hi3⟩ := hp
        obtain ⟨hr, hl4, hk4, _⟩ := fin (some (.goto t)) W3 hk3
        exact ⟨_, _, hr, .inr ⟨rfl, .goto t, hIx _ _ _ hi3 (mvs_putObjS _ _ _ (.inr (.inr (.inr (.inr rfl))))), hl4, hk4⟩⟩
      | panic ch => exact hp.elim
      | outgrown => exact hp.elim
    · rintro e W2 ⟨⟨v, rfl⟩, (⟨hi, hl, hk⟩ | ⟨_, c, hi, hl, hk⟩)⟩
      · exact ⟨none, _, by have := run_endLoop (P := Tryd.prog) hl (by rw [hrec]; simp); rw [hrec] at this; exact this, hdone _ (hI _ _ _ hi (mvs_putObjS _ _ _ (.inr (.inr (.inr (.inr rfl)))))) ((World.putObj_heap_other (by omega)).trans hk)⟩
      · exact ⟨some c, _, by have := run_endLoop (P := Tryd.prog) hl (by rw [hrec]; simp); rw [hrec] at this; exact this, hstop c _ (hIx _ _ _ hi (mvs_putObjS _ _ _ (.inr (.inr (.inr (.inr rfl)))))) ((World.putObj_heap_other (by omega)).trans hk)⟩
end Go.Proofs.YtelpjiiladbigaaDoor

end
