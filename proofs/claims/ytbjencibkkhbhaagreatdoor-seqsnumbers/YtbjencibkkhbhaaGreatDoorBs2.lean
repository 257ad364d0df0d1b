/- A range over strings.SplitSeq: one law for every body. -/
import Derived.Test.YtbjencibkkhbhaaGreatDoorBs1
namespace Go.Proofs.YtbjencibkkhbhaaGreatDoor
open Go.RowKit Go.Shelf
attribute [local go_sem] Oper.semAt_some
/-- The five blocks that the loop itself turns or holds. -/
def Own5S (Bs Bp Bq B : Nat) (k : Nat) : Prop := k = Bs ∨ k = Bp ∨ k = Bq ∨ k = B ∨ k = B + 1
def Kept5S (Bs Bp Bq B : Nat) (W W' : World) : Prop := ∀ k, Own5S Bs Bp Bq B k → W'.heap[k]? = W.heap[k]?
theorem mvs_putObjS {S : Nat → Prop} (W : World) (l : Nat) (o : Obj) (hs : S l) : Mvs S W (W.putObj l o) :=
  ⟨rfl, rfl, rfl, by simp, fun _ _ hk => World.putObj_heap_other (fun e => hk (e ▸ hs))⟩
theorem heap_setCell_otherS {W : World} {b k : Nat} {v : Value} (h : k ≠ b) : (W.setCell ⟨b, 0, none⟩ v).heap[k]? = W.heap[k]? := Below.heap_setCell _ _ _ _ h
theorem Blk.putObjS {W : World} {b l : Nat} {vs : Array Value} {t : TypeId} (h : Blk W b vs t) (o : Obj) (hne : b ≠ l) : Blk (W.putObj l o) b vs t := (World.putObj_heap_other hne).trans h
theorem Blk.new_atS {w : World} {vs : Array Value} {t : TypeId} {k : Nat} (h : w.heap.size = k) : Blk (w.alloc (.cells vs t)) k vs t := h ▸ Blk.new w vs t
theorem below_mvsS {B : Nat} {w x y : World} {S : Nat → Prop} (h : Below B w x) (hm : Mvs S x y) (hs : ∀ k, k < B → ¬ S k) (hB : B ≤ w.heap.size) : Below B w y := h.trans (hm.below hs (Nat.le_trans hB h.size))
/-- How the body of a round may be left. -/
def rndPostS (Bs Bp Bq B : Nat) (I : World → Prop) (Ix : Code → World → Prop) (W : World) : Exit → Act → World → Prop
  | .normal, _, W' => Kept5S Bs Bp Bq B W W' ∧ I W'
  | .ret, _, W' => Kept5S Bs Bp Bq B W W' ∧ Ix .ret W'
  | .exit id, _, W' => Kept5S Bs Bp Bq B W W' ∧ Ix (.exit id) W'
  | .goto t, _, W' => Kept5S Bs Bp Bq B W W' ∧ Ix (.goto t) W'
  | .panic _, _, _ => False
  | .outgrown, _, _ => False
set_option maxHeartbeats 1000000 in
theorem range_splitS {c0 : UInt8} {n : Nat} (h2 : 2 ≤ n) {g : Operand} {ps : Array Tmp} {assign body : Code} {Q : Exit → Act → World → Prop} {a : Act} {w : World} {Bs Bp Bq : Nat} {s : List UInt8} (hn1 : Bp ≠ Bs) (hn2 : Bq ≠ Bs) (hsl : s.length ≤ 1000000000)
    (hg : a.eval g = .func (.func 67) #[] #[.pointer (some ⟨Bp, 0, none⟩), .pointer (some ⟨Bs, 0, none⟩), .pointer (some ⟨Bq, 0, none⟩)]) (hps : ps.size = 1) (hB : Blk w Bs #[.string ⟨s.toArray⟩] 9) (hP : Blk w Bp #[.string ⟨#[c0]⟩] 9) (hQ : Blk w Bq #[.int .i64 0] 3)
    (I : List (List UInt8) → World → Prop) (Ix : Code → World → Prop)
    (hI : ∀ pre W W', I pre W → Mvs (Own5S Bs Bp Bq w.heap.size) W W' → I pre W') (hIx : ∀ c W W', Ix c W → Mvs (Own5S Bs Bp Bq w.heap.size) W W' → Ix c W') (h0 : I [] w) (a₁ : List UInt8 → Act)
    (hassign : ∀ (l : Nat) (x : List UInt8) (W : World) (K : Act → World → Prop), K (a₁ x) W →
      assign.wpIn (Fence.wide.inRound l) (n - 1 - 1) Tryz.prog (Exit.then K (fun _ _ _ => False)) { tmps := (ps.zip #[.string ⟨x.toArray⟩]).foldl (fun t (p, v) => t.setIfInBounds p v) a.tmps, defers := [] } W)
    (hbody : ∀ (l : Nat) (pre : List (List UInt8)) (x : List UInt8) (W : World), I pre W → (∃ post, pre ++ x :: post = spc c0 s) → w.heap.size + 1 < W.heap.size →
      body.wpIn (Fence.wide.inRound l) (n - 1 - 1) Tryz.prog (rndPostS Bs Bp Bq w.heap.size (I (pre ++ [x])) Ix W) (a₁ x) W)
    (hdone : ∀ (W : World), I (spc c0 s) W → W.heap[w.heap.size]? = some (.deferred (some [])) → Q .normal { a with defers := { target := .collected w.heap.size, args := #[] } :: a.defers } W)
    (hstop : ∀ (c : Code) (W : World), Ix c W → W.heap[w.heap.size]? = some (.deferred (some [])) → c.wpIn Fence.wide n Tryz.prog Q { a with defers := { target := .collected w.heap.size, args := #[] } :: a.defers } W) :
    (Code.rangeFunc g ps assign body).wpIn Fence.wide n Tryz.prog Q a w := by
  have hBlt := hB.lt
  have hPlt := hP.lt
  have hQlt := hQ.lt
  refine wpIn_rangeFunc ?_
  intro fn hfn
  show ∃ l mark w₁ d w₁' f args w₂, (Instr.enterLoop fn a.tmps ps assign body none).run Tryz.prog w = _ ∧ _
  obtain ⟨rec, hrec⟩ : ∃ rec : LoopState → Option Code → Loop, rec = fun st pe => { state := st, pending := pe, fn, tmps := a.tmps, params := ps, assign, body, defers := w.heap.size } := ⟨_, rfl⟩
  obtain ⟨W1, hW1⟩ : ∃ W1, (w.alloc (.deferred (some []))).alloc (.loop (rec .ready none)) = W1 := ⟨_, rfl⟩
  have hL1 : W1.heap[w.heap.size + 1]? = some (.loop (rec .ready none)) := by
    rw [← hW1]; have := World.alloc_heap_new (w.alloc (.deferred (some []))) (.loop (rec .ready none)); rwa [World.size_alloc] at this
  have hK1 : W1.heap[w.heap.size]? = some (.deferred (some [])) := by
    rw [← hW1]; exact (Below.heap_alloc _ _ _ (by simp)).trans (World.alloc_heap_new w _)
  have hI1 : I [] W1 := by rw [← hW1]; exact hI _ _ _ h0 (((Mvs.refl _ _).alloc _).alloc _)
  have hB1 : Blk W1 Bs #[.string ⟨s.toArray⟩] 9 := by rw [← hW1]; exact (hB.alloc _).alloc _
  have hP1 : Blk W1 Bp #[.string ⟨#[c0]⟩] 9 := by rw [← hW1]; exact (hP.alloc _).alloc _
  have hQ1 : Blk W1 Bq #[.int .i64 0] 3 := by rw [← hW1]; exact (hQ.alloc _).alloc _
  refine ⟨w.heap.size + 1, [{ target := .collected w.heap.size, args := #[] }], W1, { target := .fn (.func 67) #[.pointer (some ⟨Bp, 0, none⟩), .pointer (some ⟨Bs, 0, none⟩), .pointer (some ⟨Bq, 0, none⟩)], args := #[.func (.yield (w.heap.size + 1)) #[] #[]] }, W1, 67,
    #[.func (.yield (w.heap.size + 1)) #[] #[]] ++ #[.pointer (some ⟨Bp, 0, none⟩), .pointer (some ⟨Bs, 0, none⟩), .pointer (some ⟨Bq, 0, none⟩)], W1, ?_, ?_, ?_, ?_, fun _ => by omega, ?_⟩
  · rw [← hW1, hrec]; exact run_enterLoop_outer _ _ _ _ _
  · simp only [resolve, hg]
    simp [go_sem]
  · intro f' _; trivial
  · simp [invoke, go_sem]
  · refine (split_iterS (n - 1) (w.heap.size + 1) Bs Bp Bq (by omega) hn1 hn2 s hsl
      (fun pre W => I pre W ∧ W.heap[w.heap.size + 1]? = some (.loop (rec .ready none)) ∧ W.heap[w.heap.size]? = some (.deferred (some [])))
      (fun _ W => ∃ c, Ix c W ∧ W.heap[w.heap.size + 1]? = some (.loop (rec .done (some c))) ∧ W.heap[w.heap.size]? = some (.deferred (some [])))
      ?_ ?_ W1 hB1 hP1 hQ1 ⟨hI1, hL1, hK1⟩).mono ?_
    · rintro pre W v ⟨hi, hl, hk⟩
      exact ⟨hI _ _ _ hi ((Mvs.refl _ _).setCell _ _ (fun _ => .inl rfl)), (heap_setCell_otherS (by omega)).trans hl, (heap_setCell_otherS (by omega)).trans hk⟩
    · rintro pre x W ⟨hi, hl, hk⟩ hpost
      have hlt : w.heap.size + 1 < W.heap.size := (Array.getElem?_eq_some_iff.1 hl).1
      have hy := run_yield (P := Tryz.prog) (args := #[.string ⟨x.toArray⟩]) hl (by rw [hrec]; exact hps.symm)
      rw [hrec] at hy
      refine ⟨fn, _, assign, body, hy, roundIn_of_wpIn hfn (hassign _ x W _ ⟨_, run_beginRound hl (by rw [hrec]), ?_⟩)⟩
      have hl2 : (W.putObj (w.heap.size + 1) (.loop { rec .ready none with state := .busy })).heap[w.heap.size + 1]? = some (.loop { rec .ready none with state := .busy }) := World.putObj_heap_same hlt
      have hk2 : (W.putObj (w.heap.size + 1) (.loop { rec .ready none with state := .busy })).heap[w.heap.size]? = some (.deferred (some [])) := (World.putObj_heap_other (by omega)).trans hk
      have hs2 : ∀ b, b < w.heap.size → (W.putObj (w.heap.size + 1) (.loop { rec .ready none with state := .busy })).heap[b]? = W.heap[b]? := fun b hb => World.putObj_heap_other (by omega)
      refine wpIn_mono (hbody _ pre x _ (hI _ _ _ hi (mvs_putObjS _ _ _ (.inr (.inr (.inr (.inr rfl)))))) hpost (by simpa using hlt)) ?_
      have fin : ∀ (jump : Option Code) (W3 : World), Kept5S Bs Bp Bq w.heap.size (W.putObj (w.heap.size + 1) (.loop { rec .ready none with state := .busy })) W3 →
          (Instr.endRound (w.heap.size + 1) jump).run Tryz.prog W3 = .ok (.bool jump.isNone) (W3.putObj (w.heap.size + 1) (.loop (rec (if jump.isNone then .ready else .done) jump))) ∧
          (W3.putObj (w.heap.size + 1) (.loop (rec (if jump.isNone then .ready else .done) jump))).heap[w.heap.size + 1]? = some (.loop (rec (if jump.isNone then .ready else .done) jump)) ∧
          (W3.putObj (w.heap.size + 1) (.loop (rec (if jump.isNone then .ready else .done) jump))).heap[w.heap.size]? = some (.deferred (some [])) ∧
          (W3.putObj (w.heap.size + 1) (.loop (rec (if jump.isNone then .ready else .done) jump))).heap[Bs]? = W.heap[Bs]? ∧ (W3.putObj (w.heap.size + 1) (.loop (rec (if jump.isNone then .ready else .done) jump))).heap[Bp]? = W.heap[Bp]? ∧ (W3.putObj (w.heap.size + 1) (.loop (rec (if jump.isNone then .ready else .done) jump))).heap[Bq]? = W.heap[Bq]? := fun jump W3 hk3 => by
        have hl3 := (hk3 _ (.inr (.inr (.inr (.inr rfl))))).trans hl2
        have := run_endRound (P := Tryz.prog) jump hl3
        rw [hrec] at this ⊢
        exact ⟨this, World.putObj_heap_same (Array.getElem?_eq_some_iff.1 hl3).1, (World.putObj_heap_other (by omega)).trans ((hk3 _ (.inr (.inr (.inr (.inl rfl))))).trans hk2), (World.putObj_heap_other (by omega)).trans ((hk3 _ (.inl rfl)).trans (hs2 _ hBlt)), (World.putObj_heap_other (by omega)).trans ((hk3 _ (.inr (.inl rfl))).trans (hs2 _ hPlt)), (World.putObj_heap_other (by omega)).trans ((hk3 _ (.inr (.inr (.inl rfl)))).trans (hs2 _ hQlt))⟩
      rintro e a3 W3 hp
      cases e with
      | normal =>
        obtain ⟨hk3, hi3⟩ := hp
        obtain ⟨hr, hl4, hk4, hs4⟩ := fin none W3 hk3
        exact ⟨_, _, hr, .inl ⟨rfl, ⟨hI _ _ _ hi3 (mvs_putObjS _ _ _ (.inr (.inr (.inr (.inr rfl))))), hl4, hk4⟩, hs4⟩⟩
      | ret =>
        obtain ⟨hk3, hi3⟩ := hp
        obtain ⟨hr, hl4, hk4, _⟩ := fin (some .ret) W3 hk3
        exact ⟨_, _, hr, .inr ⟨rfl, .ret, hIx _ _ _ hi3 (mvs_putObjS _ _ _ (.inr (.inr (.inr (.inr rfl))))), hl4, hk4⟩⟩
      | exit id =>
        obtain ⟨hk3, hi3⟩ := hp
        obtain ⟨hr, hl4, hk4, _⟩ := fin (some (.exit id)) W3 hk3
        exact ⟨_, _, hr, .inr ⟨rfl, .exit id, hIx _ _ _ hi3 (mvs_putObjS _ _ _ (.inr (.inr (.inr (.inr rfl))))), hl4, hk4⟩⟩
      | goto t =>
        obtain ⟨hk3, hi3⟩ := hp
        obtain ⟨hr, hl4, hk4, _⟩ := fin (some (.goto t)) W3 hk3
        exact ⟨_, _, hr, .inr ⟨rfl, .goto t, hIx _ _ _ hi3 (mvs_putObjS _ _ _ (.inr (.inr (.inr (.inr rfl))))), hl4, hk4⟩⟩
      | panic ch => exact hp.elim
      | outgrown => exact hp.elim
    · rintro e W2 ⟨⟨v, rfl⟩, (⟨hi, hl, hk⟩ | ⟨_, c, hi, hl, hk⟩)⟩
      · exact ⟨none, _, by have := run_endLoop (P := Tryz.prog) hl (by rw [hrec]; simp); rw [hrec] at this; exact this, hdone _ (hI _ _ _ hi (mvs_putObjS _ _ _ (.inr (.inr (.inr (.inr rfl)))))) ((World.putObj_heap_other (by omega)).trans hk)⟩
      · exact ⟨some c, _, by have := run_endLoop (P := Tryz.prog) hl (by rw [hrec]; simp); rw [hrec] at this; exact this, hstop c _ (hIx _ _ _ hi (mvs_putObjS _ _ _ (.inr (.inr (.inr (.inr rfl)))))) ((World.putObj_heap_other (by omega)).trans hk)⟩
end Go.Proofs.YtbjencibkkhbhaaGreatDoor
