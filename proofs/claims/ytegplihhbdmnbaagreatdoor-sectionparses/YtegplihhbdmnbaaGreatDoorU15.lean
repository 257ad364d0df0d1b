/- A range over places of package header: one law for every body. -/
import Derived.Test.YtegplihhbdmnbaaGreatDoorU14
namespace Go.Proofs.YtegplihhbdmnbaaGreatDoor
open Go.RowKit Go.Shelf
/-- The three blocks that the loop itself turns: the text's cell, the block for deferred calls, the record. -/
def Own3 (Bs B : Nat) (k : Nat) : Prop := k = Bs ∨ k = B ∨ k = B + 1
/-- A round leaves these three as they were. -/
def Kept3 (Bs B : Nat) (W W' : World) : Prop := ∀ k, Own3 Bs B k → W'.heap[k]? = W.heap[k]?
theorem Kept3.refl (Bs B : Nat) (W : World) : Kept3 Bs B W W := fun _ _ => rfl
theorem Kept3.trans {Bs B : Nat} {X Y Z : World} (h : Kept3 Bs B X Y) (k : Kept3 Bs B Y Z) : Kept3 Bs B X Z := fun i hi => (k i hi).trans (h i hi)
theorem Kept3.mvs {Bs B : Nat} {S : Nat → Prop} {W W' : World} (h : Mvs S W W') (hs : ∀ k, Own3 Bs B k → k < W.heap.size ∧ ¬ S k) : Kept3 Bs B W W' := fun k hk => h.block k (hs k hk).1 (hs k hk).2
/-- None of the three is a row of bytes. -/
def NoRow (Bs B : Nat) (W : World) : Prop := ∀ k, Own3 Bs B k → ∀ c fz, W.heap[k]? ≠ some (.cells c 5 fz)
theorem NoRow.mk3 {Bs B : Nat} {W : World} (h1 : ∃ v, Blk W Bs #[v] 9) (h2 : W.heap[B]? = some (.deferred (some []))) (h3 : ∃ r, W.heap[B + 1]? = some (.loop r)) : NoRow Bs B W := by
  obtain ⟨v, h1⟩ := h1
  obtain ⟨r, h3⟩ := h3
  rintro k (rfl | rfl | rfl) c fz h
  · have h1' : W.heap[k]? = _ := h1
    rw [h1'] at h
    simp at h
  · rw [h2] at h
    simp at h
  · rw [h3] at h
    simp at h
theorem NoRow.start {Bs : Nat} {W : World} {v : Value} (h1 : Blk W Bs #[v] 9) : NoRow Bs W.heap.size W := by
  rintro k (rfl | rfl | rfl) c fz h
  · have h1' : W.heap[k]? = _ := h1
    rw [h1'] at h
    simp at h
  · simp at h
  · simp at h
/-- A builder is one still, where no row of bytes has turned, and not its own block. -/
theorem isBuilder_mvs {S : Nat → Prop} {B b : Nat} {bs : List Value} {W W' : World} (h : Lib.IsBuilderF 72 5 B b bs W) (hm : Mvs S W W') (hb : ¬ S b) (hr : ∀ k, S k → ∀ c fz, W.heap[k]? ≠ some (.cells c 5 fz)) : Lib.IsBuilderF 72 5 B b bs W' := by
  have key : ∀ p, Lib.BuilderAtF 72 5 B b p bs W → Lib.BuilderAtF 72 5 B b p bs W' := by
    rintro p ⟨hB, v, hbk, hown, hne⟩
    refine ⟨hB, v, (hm.block b (Array.getElem?_eq_some_iff.1 hbk).1 hb).trans hbk, ⟨hown.1, ?_⟩, hne⟩
    rcases hown.2 with h0 | ⟨g, cap, cur, fz, rfl, hbg, hg, rest⟩
    · exact .inl h0
    · exact .inr ⟨g, cap, cur, fz, rfl, hbg, (hm.block g (Array.getElem?_eq_some_iff.1 hg).1 (fun hs => hr g hs _ _ hg)).trans hg, rest⟩
  exact h.elim (fun x => .inl (key _ x)) (fun x => .inr (key _ x))
theorem kept3_others {Bs B b : Nat} {W W' : World} (h : Lib.OthersKept 5 (some b) W W') (h1 : ∃ v, Blk W Bs #[v] 9) (h2 : W.heap[B]? = some (.deferred (some []))) (h3 : ∃ r, W.heap[B + 1]? = some (.loop r)) (hb : ¬ Own3 Bs B b) : Kept3 Bs B W W' := by
  obtain ⟨v, h1⟩ := h1
  obtain ⟨r, h3⟩ := h3
  have hne : ∀ k, Own3 Bs B k → some k ≠ some b := fun k hk e => hb (by cases e; exact hk)
  rintro k (rfl | rfl | rfl)
  · have h1' : W.heap[k]? = _ := h1
    rw [h1']
    exact h k _ h1' (hne _ (.inl rfl)) (fun c fz e => by cases e)
  · rw [h2]
    exact h k _ h2 (hne _ (.inr (.inl rfl))) (fun c fz e => by cases e)
  · rw [h3]
    exact h _ _ h3 (hne _ (.inr (.inr rfl))) (fun c fz e => by cases e)
/-- How the body of a round may be left. -/
def rndPost (Bs B : Nat) (I : World → Prop) (Ix : Code → World → Prop) (W : World) : Exit → Act → World → Prop
  | .normal, _, W' => Kept3 Bs B W W' ∧ I W'
  | .ret, _, W' => Kept3 Bs B W W' ∧ Ix .ret W'
  | .exit id, _, W' => Kept3 Bs B W W' ∧ Ix (.exit id) W'
  | .goto t, _, W' => Kept3 Bs B W W' ∧ Ix (.goto t) W'
  | .panic _, _, _ => False
  | .outgrown, _, _ => False
theorem mvs_putObj {S : Nat → Prop} (W : World) (l : Nat) (o : Obj) (hs : S l) : Mvs S W (W.putObj l o) :=
  ⟨rfl, rfl, rfl, by simp, fun _ _ hk => World.putObj_heap_other (fun e => hk (e ▸ hs))⟩
theorem heap_setCell_other {W : World} {b k : Nat} {v : Value} (h : k ≠ b) : (W.setCell ⟨b, 0, none⟩ v).heap[k]? = W.heap[k]? := Below.heap_setCell _ _ _ _ h
/-- What a field's place is in memory. -/
def plc (x : Fd) : Array Value := #[.int .i64 (x.from' : Nat), .int .i64 (x.to : Nat)]
set_option maxHeartbeats 1000000 in
theorem range_places {n : Nat} (h2 : 2 ≤ n) {g : Operand} {ps : Array Tmp} {assign body : Code} {Q : Exit → Act → World → Prop} {a : Act} {w : World} {Bs : Nat} {s : List UInt8} (hsl : s.length ≤ 1000000)
    (hg : a.eval g = .func (.func 147) #[] #[.pointer (some ⟨Bs, 0, none⟩)]) (hps : ps.size = 2) (hB : Blk w Bs #[.string ⟨s.toArray⟩] 9)
    (I : List Fd → World → Prop) (Ix : Code → World → Prop)
    (hI : ∀ pre W W', I pre W → NoRow Bs w.heap.size W → Mvs (Own3 Bs w.heap.size) W W' → I pre W') (hIx : ∀ c W W', Ix c W → NoRow Bs w.heap.size W → Mvs (Own3 Bs w.heap.size) W W' → Ix c W') (h0 : I [] w) (a₁ : Nat → Fd → Act)
    (hassign : ∀ (l : Nat) (x : Fd) (W : World) (K : Act → World → Prop), (∀ W' b, Below W.heap.size W W' → Blk W' b (plc x) 178 → W.heap.size ≤ b → K (a₁ b x) W') →
      assign.wpIn (Fence.wide.inRound l) (n - 1 - 1) Tryz.prog (Exit.then K (fun _ _ _ => False)) { tmps := (ps.zip #[.string ⟨x.name.toArray⟩, .agg (plc x)]).foldl (fun t (p, v) => t.setIfInBounds p v) a.tmps, defers := [] } W)
    (hbody : ∀ (l : Nat) (pre : List Fd) (x : Fd) (W : World) (b : Nat), I pre W → (∃ U, I pre U ∧ U.heap.size ≤ b ∧ ∀ k, ¬ Own3 Bs w.heap.size k → k < U.heap.size → W.heap[k]? = U.heap[k]?) → (∃ post, pre ++ x :: post = (hd (splitS s) 0).1) → w.heap.size + 1 < b → Blk W b (plc x) 178 → (∃ r, W.heap[w.heap.size + 1]? = some (.loop r)) → Blk W Bs #[.string ⟨s.toArray⟩] 9 → W.heap[w.heap.size]? = some (.deferred (some [])) →
      body.wpIn (Fence.wide.inRound l) (n - 1 - 1) Tryz.prog (rndPost Bs w.heap.size (I (pre ++ [x])) Ix W) (a₁ b x) W)
    (hdone : ∀ (W : World), I (hd (splitS s) 0).1 W → W.heap[w.heap.size]? = some (.deferred (some [])) → Q .normal { a with defers := { target := .collected w.heap.size, args := #[] } :: a.defers } W)
    (hstop : ∀ (c : Code) (W : World), Ix c W → W.heap[w.heap.size]? = some (.deferred (some [])) → c.wpIn Fence.wide n Tryz.prog Q { a with defers := { target := .collected w.heap.size, args := #[] } :: a.defers } W) :
    (Code.rangeFunc g ps assign body).wpIn Fence.wide n Tryz.prog Q a w := by
  have hBlt := hB.lt
  refine wpIn_rangeFunc ?_
  intro fn hfn
  show ∃ l mark w₁ d w₁' f args w₂, (Instr.enterLoop fn a.tmps ps assign body none).run Tryz.prog w = _ ∧ _
  obtain ⟨rec, hrec⟩ : ∃ rec : LoopState → Option Code → Loop, rec = fun st pe => { state := st, pending := pe, fn, tmps := a.tmps, params := ps, assign, body, defers := w.heap.size } := ⟨_, rfl⟩
  obtain ⟨W1, hW1⟩ : ∃ W1, (w.alloc (.deferred (some []))).alloc (.loop (rec .ready none)) = W1 := ⟨_, rfl⟩
  have hL1 : W1.heap[w.heap.size + 1]? = some (.loop (rec .ready none)) := by
    rw [← hW1]; have := World.alloc_heap_new (w.alloc (.deferred (some []))) (.loop (rec .ready none)); rwa [World.size_alloc] at this
  have hK1 : W1.heap[w.heap.size]? = some (.deferred (some [])) := by
    rw [← hW1]; exact (Below.heap_alloc _ _ _ (by simp)).trans (World.alloc_heap_new w _)
  have hI1 : I [] W1 := by rw [← hW1]; exact hI _ _ _ h0 (NoRow.start hB) (((Mvs.refl _ _).alloc _).alloc _)
  have hB1 : Blk W1 Bs #[.string ⟨s.toArray⟩] 9 := by rw [← hW1]; exact (hB.alloc _).alloc _
  refine ⟨w.heap.size + 1, [{ target := .collected w.heap.size, args := #[] }], W1, { target := .fn (.func 147) #[.pointer (some ⟨Bs, 0, none⟩)], args := #[.func (.yield (w.heap.size + 1)) #[] #[]] }, W1, 147,
    #[.func (.yield (w.heap.size + 1)) #[] #[]] ++ #[.pointer (some ⟨Bs, 0, none⟩)], W1, ?_, ?_, ?_, ?_, fun _ => by omega, ?_⟩
  · rw [← hW1, hrec]; exact run_enterLoop_outer _ _ _ _ _
  · simp only [resolve, hg]
    simp [go_sem]
  · intro f' _; trivial
  · simp [invoke, go_sem]
  · refine (places_iter (n - 1) (w.heap.size + 1) Bs (by omega) s hsl
      (fun pre W => I pre W ∧ W.heap[w.heap.size + 1]? = some (.loop (rec .ready none)) ∧ W.heap[w.heap.size]? = some (.deferred (some [])) ∧ Blk W Bs #[.string ⟨s.toArray⟩] 9)
      (fun _ W => ∃ c, Ix c W ∧ W.heap[w.heap.size + 1]? = some (.loop (rec .done (some c))) ∧ W.heap[w.heap.size]? = some (.deferred (some [])) ∧ Blk W Bs #[.string ⟨s.toArray⟩] 9)
      ?_ ?_ W1 hB1 ⟨hI1, hL1, hK1, hB1⟩).mono ?_
    · rintro pre W W' ⟨hi, hl, hk, hu⟩ hb
      exact ⟨hI _ _ _ hi (NoRow.mk3 ⟨_, hu⟩ hk ⟨_, hl⟩) (Mvs.of_below hb), (hb.block _ (Array.getElem?_eq_some_iff.1 hl).1).trans hl, (hb.block _ (Array.getElem?_eq_some_iff.1 hk).1).trans hk, hu.below hb hu.lt⟩
    · rintro pre x W ⟨hi, hl, hk, hu⟩ hpost
      have hlt0 : w.heap.size + 1 < W.heap.size := (Array.getElem?_eq_some_iff.1 hl).1
      have hy := run_yield (P := Tryz.prog) (args := #[.string ⟨x.name.toArray⟩, .agg (plc x)]) hl (by rw [hrec]; exact hps.symm)
      rw [hrec] at hy
      refine ⟨fn, _, assign, body, hy, roundIn_of_wpIn hfn (hassign _ x W _ (fun V b hV hbk hbw => ?_))⟩
      have hlV : V.heap[w.heap.size + 1]? = some (.loop (rec .ready none)) := (hV.block _ hlt0).trans hl
      have hkV : V.heap[w.heap.size]? = some (.deferred (some [])) := (hV.block _ (by omega)).trans hk
      have huV : Blk V Bs #[.string ⟨s.toArray⟩] 9 := hu.below hV hu.lt
      have hiV := hI _ _ _ hi (NoRow.mk3 ⟨_, hu⟩ hk ⟨_, hl⟩) (Mvs.of_below hV)
      have hsV : V.heap[Bs]? = W.heap[Bs]? := hV.block _ hu.lt
      have hlt : w.heap.size + 1 < V.heap.size := (Array.getElem?_eq_some_iff.1 hlV).1
      refine ⟨_, run_beginRound hlV (by rw [hrec]), ?_⟩
      have hl2 : (V.putObj (w.heap.size + 1) (.loop { rec .ready none with state := .busy })).heap[w.heap.size + 1]? = some (.loop { rec .ready none with state := .busy }) := World.putObj_heap_same hlt
      have hk2 : (V.putObj (w.heap.size + 1) (.loop { rec .ready none with state := .busy })).heap[w.heap.size]? = some (.deferred (some [])) := (World.putObj_heap_other (by omega)).trans hkV
      have hu2 : Blk (V.putObj (w.heap.size + 1) (.loop { rec .ready none with state := .busy })) Bs #[.string ⟨s.toArray⟩] 9 := (World.putObj_heap_other (by omega)).trans huV
      have hb2 : Blk (V.putObj (w.heap.size + 1) (.loop { rec .ready none with state := .busy })) b (plc x) 178 := (World.putObj_heap_other (by omega)).trans hbk
      have hs2 : (V.putObj (w.heap.size + 1) (.loop { rec .ready none with state := .busy })).heap[Bs]? = W.heap[Bs]? := (World.putObj_heap_other (by omega)).trans hsV
      refine wpIn_mono (hbody _ pre x _ b (hI _ _ _ hiV (NoRow.mk3 ⟨_, huV⟩ hkV ⟨_, hlV⟩) (mvs_putObj _ _ _ (.inr (.inr rfl)))) ⟨W, hi, hbw, fun k hk1 hk2 => (World.putObj_heap_other (fun e => hk1 (.inr (.inr e)))).trans (hV.block k hk2)⟩ hpost (by omega) hb2 ⟨_, hl2⟩ hu2 hk2) ?_
      have fin : ∀ (jump : Option Code) (W3 : World), Kept3 Bs w.heap.size (V.putObj (w.heap.size + 1) (.loop { rec .ready none with state := .busy })) W3 →
          (Instr.endRound (w.heap.size + 1) jump).run Tryz.prog W3 = .ok (.bool jump.isNone) (W3.putObj (w.heap.size + 1) (.loop (rec (if jump.isNone then .ready else .done) jump))) ∧
          (W3.putObj (w.heap.size + 1) (.loop (rec (if jump.isNone then .ready else .done) jump))).heap[w.heap.size + 1]? = some (.loop (rec (if jump.isNone then .ready else .done) jump)) ∧
          (W3.putObj (w.heap.size + 1) (.loop (rec (if jump.isNone then .ready else .done) jump))).heap[w.heap.size]? = some (.deferred (some [])) ∧
          (W3.putObj (w.heap.size + 1) (.loop (rec (if jump.isNone then .ready else .done) jump))).heap[Bs]? = W.heap[Bs]? ∧ NoRow Bs w.heap.size W3 := fun jump W3 hk3 => by
        have hl3 := (hk3 _ (.inr (.inr rfl))).trans hl2
        have hnr : NoRow Bs w.heap.size W3 := NoRow.mk3 ⟨_, (hk3 _ (.inl rfl)).trans hu2⟩ ((hk3 _ (.inr (.inl rfl))).trans hk2) ⟨_, hl3⟩
        have := run_endRound (P := Tryz.prog) jump hl3
        rw [hrec] at this ⊢
        exact ⟨this, World.putObj_heap_same (Array.getElem?_eq_some_iff.1 hl3).1, (World.putObj_heap_other (by omega)).trans ((hk3 _ (.inr (.inl rfl))).trans hk2), (World.putObj_heap_other (by omega)).trans ((hk3 _ (.inl rfl)).trans hs2), hnr⟩
      rintro e a3 W3 hp
      cases e with
      | normal =>
        obtain ⟨hk3, hi3⟩ := hp
        obtain ⟨hr, hl4, hk4, hs4, hnr⟩ := fin none W3 hk3
        exact ⟨_, _, hr, .inl ⟨rfl, ⟨hI _ _ _ hi3 hnr (mvs_putObj _ _ _ (.inr (.inr rfl))), hl4, hk4, hs4.trans hu⟩, hs4⟩⟩
      | ret =>
        obtain ⟨hk3, hi3⟩ := hp
        obtain ⟨hr, hl4, hk4, hs4, hnr⟩ := fin (some .ret) W3 hk3
        exact ⟨_, _, hr, .inr ⟨rfl, .ret, hIx _ _ _ hi3 hnr (mvs_putObj _ _ _ (.inr (.inr rfl))), hl4, hk4, hs4.trans hu⟩⟩
      | exit id =>
        obtain ⟨hk3, hi3⟩ := hp
        obtain ⟨hr, hl4, hk4, hs4, hnr⟩ := fin (some (.exit id)) W3 hk3
        exact ⟨_, _, hr, .inr ⟨rfl, .exit id, hIx _ _ _ hi3 hnr (mvs_putObj _ _ _ (.inr (.inr rfl))), hl4, hk4, hs4.trans hu⟩⟩
      | goto t =>
        obtain ⟨hk3, hi3⟩ := hp
        obtain ⟨hr, hl4, hk4, hs4, hnr⟩ := fin (some (.goto t)) W3 hk3
        exact ⟨_, _, hr, .inr ⟨rfl, .goto t, hIx _ _ _ hi3 hnr (mvs_putObj _ _ _ (.inr (.inr rfl))), hl4, hk4, hs4.trans hu⟩⟩
      | panic ch => exact hp.elim
      | outgrown => exact hp.elim
    · rintro e W2 ⟨⟨v, rfl⟩, (⟨hi, hl, hk, hu⟩ | ⟨_, c, hi, hl, hk, hu⟩)⟩
      · exact ⟨none, _, by have := run_endLoop (P := Tryz.prog) hl (by rw [hrec]; simp); rw [hrec] at this; exact this, hdone _ (hI _ _ _ hi (NoRow.mk3 ⟨_, hu⟩ hk ⟨_, hl⟩) (mvs_putObj _ _ _ (.inr (.inr rfl)))) ((World.putObj_heap_other (by omega)).trans hk)⟩
      · exact ⟨some c, _, by have := run_endLoop (P := Tryz.prog) hl (by rw [hrec]; simp); rw [hrec] at this; exact this, hstop c _ (hIx _ _ _ hi (NoRow.mk3 ⟨_, hu⟩ hk ⟨_, hl⟩) (mvs_putObj _ _ _ (.inr (.inr rfl)))) ((World.putObj_heap_other (by omega)).trans hk)⟩
end Go.Proofs.YtegplihhbdmnbaaGreatDoor
