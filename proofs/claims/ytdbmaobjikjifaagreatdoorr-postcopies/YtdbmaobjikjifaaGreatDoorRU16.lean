/- A range over strings.SplitSeq: one law for every body. -/
/- Rows of rows that a call makes; runOf of package boxes. -/
/- runsOf of package boxes. -/
import Derived.Test.YtdbmaobjikjifaaGreatDoorRU15
import Derived.Test.YtdbmaobjikjifaaGreatDoorRU13
section
namespace Go.Proofs.YtdbmaobjikjifaaGreatDoorR
open Go.RowKit Go.Shelf
attribute [local go_sem] Oper.semAt_some
/-- The five blocks that the loop itself turns or holds. -/
def Own5S (Bs Bp Bq B : Nat) (k : Nat) : Prop := k = Bs ∨ k = Bp ∨ k = Bq ∨ k = B ∨ k = B + 1
def Kept5S (Bs Bp Bq B : Nat) (W W' : World) : Prop := ∀ k, Own5S Bs Bp Bq B k → W'.heap[k]? = W.heap[k]?
theorem mvs_putObjS {S : Nat → Prop} (W : World) (l : Nat) (o : Obj) (hs : S l) : Mvs S W (W.putObj l o) :=
  ⟨rfl, rfl, rfl, by simp, fun _ _ hk => World.putObj_heap_other (fun e => hk (e ▸ hs))⟩
theorem heap_setCell_otherS {W : World} {b k : Nat} {v : Value} (h : k ≠ b) : (W.setCell ⟨b, 0, none⟩ v).heap[k]? = W.heap[k]? := Below.heap_setCell _ _ _ _ h
theorem Blk.putObjS {W : World} {b l : Nat} {vs : Array Value} {t : TypeId} (h : Blk W b vs t) (o : Obj) (hne : b ≠ l) : Blk (W.putObj l o) b vs t := (World.putObj_heap_other hne).trans h
theorem Blk.new_atS {w : World} {vs : Array Value} {t : TypeId} {k : Nat} (h : w.heap.size = k) : Blk (w.alloc (.cells vs t)) k vs t := h ▸ Blk.new w vs t
theorem below_mvsS {B : Nat} {w x y : World} {S : Nat → Prop} (h : Below B w x) (hm : Mvs S x y) (hs : ∀ k, k < B → ¬ S k) (hB : B ≤ w.heap.size) : Below B w y := h.trans (hm.below hs (Nat.le_trans hB h.size))
/-- How the body of a round may be left. -/
def rndPostS (Bs Bp Bq B : Nat) (I : World → Prop) (Ix : Code → World → Prop) (W : World) : Exit → Act → World → Prop
  | .normal, _, W' => Kept5S Bs Bp Bq B W W' ∧ I W'
  | .ret, _, W' => Kept5S Bs Bp Bq B W W' ∧ Ix .ret W'
  | .exit id, _, W' => Kept5S Bs Bp Bq B W W' ∧ Ix (.exit id) W'
  | .goto t, _, W' => Kept5S Bs Bp Bq B W W' ∧ Ix (.goto t) W'
  | .panic _, _, _ => False
  | .outgrown, _, _ => False
set_option maxHeartbeats 1000000 in
theorem range_splitS {c0 : UInt8} {n : Nat} (h2 : 2 ≤ n) {g : Operand} {ps : Array Tmp} {assign body : Code} {Q : Exit → Act → World → Prop} {a : Act} {w : World} {Bs Bp Bq : Nat} {s : List UInt8} (hn1 : Bp ≠ Bs) (hn2 : Bq ≠ Bs) (hsl : s.length ≤ 1000000000)
    (hg : a.eval g = .func (.func 168) #[] #[.pointer (some ⟨Bp, 0, none⟩), .pointer (some ⟨Bs, 0, none⟩), .pointer (some ⟨Bq, 0, none⟩)]) (hps : ps.size = 1) (hB : Blk w Bs #[.string ⟨s.toArray⟩] 9) (hP : Blk w Bp #[.string ⟨#[c0]⟩] 9) (hQ : Blk w Bq #[.int .i64 0] 3)
    (I : List (List UInt8) → World → Prop) (Ix : Code → World → Prop)
    (hI : ∀ pre W W', I pre W → Mvs (Own5S Bs Bp Bq w.heap.size) W W' → I pre W') (hIx : ∀ c W W', Ix c W → Mvs (Own5S Bs Bp Bq w.heap.size) W W' → Ix c W') (h0 : I [] w) (a₁ : List UInt8 → Act)
    (hassign : ∀ (l : Nat) (x : List UInt8) (W : World) (K : Act → World → Prop), K (a₁ x) W →
      assign.wpIn (Fence.wide.inRound l) (n - 1 - 1) Tryz.prog (Exit.then K (fun _ _ _ => False)) { tmps := (ps.zip #[.string ⟨x.toArray⟩]).foldl (fun t (p, v) => t.setIfInBounds p v) a.tmps, defers := [] } W)
    (hbody : ∀ (l : Nat) (pre : List (List UInt8)) (x : List UInt8) (W : World), I pre W → (∃ post, pre ++ x :: post = spc c0 s) → w.heap.size + 1 < W.heap.size →
      body.wpIn (Fence.wide.inRound l) (n - 1 - 1) Tryz.prog (rndPostS Bs Bp Bq w.heap.size (I (pre ++ [x])) Ix W) (a₁ x) W)
    (hdone : ∀ (W : World), I (spc c0 s) W → W.heap[w.heap.size]? = some (.deferred (some [])) → Q .normal { a with defers := { target := .collected w.heap.size, args := #[] } :: a.defers } W)
    (hstop : ∀ (c : Code) (W : World), Ix c W → W.heap[w.heap.size]? = some (.deferred (some [])) → c.wpIn Fence.wide n Tryz.prog Q { a with defers := { target := .collected w.heap.size, args := #[] } :: a.defers } W) :
    (Code.rangeFunc g ps assign body).wpIn Fence.wide n Tryz.prog Q a w := by
  have hBlt := hB.lt
  have hPlt := hP.lt
  have hQlt := hQ.lt
  refine wpIn_rangeFunc ?_
  intro fn hfn
  show ∃ l mark w₁ d w₁' f args w₂, (Instr.enterLoop fn a.tmps ps assign body none).run Tryz.prog w = _ ∧ _
  obtain ⟨rec, hrec⟩ : ∃ rec : LoopState → Option Code → Loop, rec = fun st pe => { state := st, pending := pe, fn, tmps := a.tmps, params := ps, assign, body, defers := w.heap.size } := ⟨_, rfl⟩
  obtain ⟨W1, hW1⟩ : ∃ W1, (w.alloc (.deferred (some []))).alloc (.loop (rec .ready none)) = W1 := ⟨_, rfl⟩
  have hL1 : W1.heap[w.heap.size + 1]? = some (.loop (rec .ready none)) := by
    rw [← hW1]; have := World.alloc_heap_new (w.alloc (.deferred (some []))) (.loop (rec .ready none)); rwa [World.size_alloc] at this
  have hK1 : W1.heap[w.heap.size]? = some (.deferred (some [])) := by
    rw [← hW1]; exact (Below.heap_alloc _ _ _ (by simp)).trans (World.alloc_heap_new w _)
  have hI1 : I [] W1 := by rw [← hW1]; exact hI _ _ _ h0 (((Mvs.refl _ _).alloc _).alloc _)
  have hB1 : Blk W1 Bs #[.string ⟨s.toArray⟩] 9 := by rw [← hW1]; exact (hB.alloc _).alloc _
  have hP1 : Blk W1 Bp #[.string ⟨#[c0]⟩] 9 := by rw [← hW1]; exact (hP.alloc _).alloc _
  have hQ1 : Blk W1 Bq #[.int .i64 0] 3 := by rw [← hW1]; exact (hQ.alloc _).alloc _
  refine ⟨w.heap.size + 1, [{ target := .collected w.heap.size, args := #[] }], W1, { target := .fn (.func 168) #[.pointer (some ⟨Bp, 0, none⟩), .pointer (some ⟨Bs, 0, none⟩), .pointer (some ⟨Bq, 0, none⟩)], args := #[.func (.yield (w.heap.size + 1)) #[] #[]] }, W1, 168,
    #[.func (.yield (w.heap.size + 1)) #[] #[]] ++ #[.pointer (some ⟨Bp, 0, none⟩), .pointer (some ⟨Bs, 0, none⟩), .pointer (some ⟨Bq, 0, none⟩)], W1, ?_, ?_, ?_, ?_, fun _ => by omega, ?_⟩
  · rw [← hW1, hrec]; exact run_enterLoop_outer _ _ _ _ _
  · simp only [resolve, hg]
    simp [go_sem]
  · intro f' _; trivial
  · simp [invoke, go_sem]
  · refine (split_iterS (n - 1) (w.heap.size + 1) Bs Bp Bq (by omega) hn1 hn2 s hsl
      (fun pre W => I pre W ∧ W.heap[w.heap.size + 1]? = some (.loop (rec .ready none)) ∧ W.heap[w.heap.size]? = some (.deferred (some [])))
      (fun _ W => ∃ c, Ix c W ∧ W.heap[w.heap.size + 1]? = some (.loop (rec .done (some c))) ∧ W.heap[w.heap.size]? = some (.deferred (some [])))
      ?_ ?_ W1 hB1 hP1 hQ1 ⟨hI1, hL1, hK1⟩).mono ?_
    · rintro pre W v ⟨hi, hl, hk⟩
      exact ⟨hI _ _ _ hi ((Mvs.refl _ _).setCell _ _ (fun _ => .inl rfl)), (heap_setCell_otherS (by omega)).trans hl, (heap_setCell_otherS (by omega)).trans hk⟩
    · rintro pre x W ⟨hi, hl, hk⟩ hpost
      have hlt : w.heap.size + 1 < W.heap.size := (Array.getElem?_eq_some_iff.1 hl).1
      have hy := run_yield (P := Tryz.prog) (args := #[.string ⟨x.toArray⟩]) hl (by rw [hrec]; exact hps.symm)
      rw [hrec] at hy
      refine ⟨fn, _, assign, body, hy, roundIn_of_wpIn hfn (hassign _ x W _ ⟨_, run_beginRound hl (by rw [hrec]), ?_⟩)⟩
      have hl2 : (W.putObj (w.heap.size + 1) (.loop { rec .ready none with state := .busy })).heap[w.heap.size + 1]? = some (.loop { rec .ready none with state := .busy }) := World.putObj_heap_same hlt
      have hk2 : (W.putObj (w.heap.size + 1) (.loop { rec .ready none with state := .busy })).heap[w.heap.size]? = some (.deferred (some [])) := (World.putObj_heap_other (by omega)).trans hk
      have hs2 : ∀ b, b < w.heap.size → (W.putObj (w.heap.size + 1) (.loop { rec .ready none with state := .busy })).heap[b]? = W.heap[b]? := fun b hb => World.putObj_heap_other (by omega)
      refine wpIn_mono (hbody _ pre x _ (hI _ _ _ hi (mvs_putObjS _ _ _ (.inr (.inr (.inr (.inr rfl)))))) hpost (by simpa using hlt)) ?_
      have fin : ∀ (jump : Option Code) (W3 : World), Kept5S Bs Bp Bq w.heap.size (W.putObj (w.heap.size + 1) (.loop { rec .ready none with state := .busy })) W3 →
          (Instr.endRound (w.heap.size + 1) jump).run Tryz.prog W3 = .ok (.bool jump.isNone) (W3.putObj (w.heap.size + 1) (.loop (rec (if jump.isNone then .ready else .done) jump))) ∧
          (W3.putObj (w.heap.size + 1) (.loop (rec (if jump.isNone then .ready else .done) jump))).heap[w.heap.size + 1]? = some (.loop (rec (if jump.isNone then .ready else .done) jump)) ∧
          (W3.putObj (w.heap.size + 1) (.loop (rec (if jump.isNone then .ready else .done) jump))).heap[w.heap.size]? = some (.deferred (some [])) ∧
          (W3.putObj (w.heap.size + 1) (.loop (rec (if jump.isNone then .ready else .done) jump))).heap[Bs]? = W.heap[Bs]? ∧ (W3.putObj (w.heap.size + 1) (.loop (rec (if jump.isNone then .ready else .done) jump))).heap[Bp]? = W.heap[Bp]? ∧ (W3.putObj (w.heap.size + 1) (.loop (rec (if jump.isNone then .ready else .done) jump))).heap[Bq]? = W.heap[Bq]? := fun jump W3 hk3 => by
        have hl3 := (hk3 _ (.inr (.inr (.inr (.inr rfl))))).trans hl2
        have := run_endRound (P := Tryz.prog) jump hl3
        rw [hrec] at this ⊢
        exact ⟨this, World.putObj_heap_same (Array.getElem?_eq_some_iff.1 hl3).1, (World.putObj_heap_other (by omega)).trans ((hk3 _ (.inr (.inr (.inr (.inl rfl))))).trans hk2), (World.putObj_heap_other (by omega)).trans ((hk3 _ (.inl rfl)).trans (hs2 _ hBlt)), (World.putObj_heap_other (by omega)).trans ((hk3 _ (.inr (.inl rfl))).trans (hs2 _ hPlt)), (World.putObj_heap_other (by omega)).trans ((hk3 _ (.inr (.inr (.inl rfl)))).trans (hs2 _ hQlt))⟩
      rintro e a3 W3 hp
      cases e with
      | normal =>
        obtain ⟨hk3, hi3⟩ := hp
        obtain ⟨hr, hl4, hk4, hs4⟩ := fin none W3 hk3
        exact ⟨_, _, hr, .inl ⟨rfl, ⟨hI _ _ _ hi3 (mvs_putObjS _ _ _ (.inr (.inr (.inr (.inr rfl))))), hl4, hk4⟩, hs4⟩⟩
      | ret =>
        obtain ⟨hk3, hi3⟩ := hp
        obtain ⟨hr, hl4, hk4, _⟩ := fin (some .ret) W3 hk3
        exact ⟨_, _, hr, .inr ⟨rfl, .ret, hIx _ _ _ hi3 (mvs_putObjS _ _ _ (.inr (.inr (.inr (.inr rfl))))), hl4, hk4⟩⟩
      | exit id =>
        obtain ⟨hk3, hi3⟩ := hp
        obtain ⟨hr, hl4, hk4, _⟩ := fin (some (.exit id)) W3 hk3
        exact ⟨_, _, hr, .inr ⟨rfl, .exit id, hIx _ _ _ hi3 (mvs_putObjS _ _ _ (.inr (.inr (.inr (.inr rfl))))), hl4, hk4⟩⟩
      | goto t =>
        obtain ⟨hk3, hi3⟩ := hp
        obtain ⟨hr, hl4, hk4, _⟩ := fin (some (.goto t)) W3 hk3
        exact ⟨_, _, hr, .inr ⟨rfl, .goto t, hIx _ _ _ hi3 (mvs_putObjS _ _ _ (.inr (.inr (.inr (.inr rfl))))), hl4, hk4⟩⟩
      | panic ch => exact hp.elim
      | outgrown => exact hp.elim
    · rintro e W2 ⟨⟨v, rfl⟩, (⟨hi, hl, hk⟩ | ⟨_, c, hi, hl, hk⟩)⟩
      · exact ⟨none, _, by have := run_endLoop (P := Tryz.prog) hl (by rw [hrec]; simp); rw [hrec] at this; exact this, hdone _ (hI _ _ _ hi (mvs_putObjS _ _ _ (.inr (.inr (.inr (.inr rfl)))))) ((World.putObj_heap_other (by omega)).trans hk)⟩
      · exact ⟨some c, _, by have := run_endLoop (P := Tryz.prog) hl (by rw [hrec]; simp); rw [hrec] at this; exact this, hstop c _ (hIx _ _ _ hi (mvs_putObjS _ _ _ (.inr (.inr (.inr (.inr rfl)))))) ((World.putObj_heap_other (by omega)).trans hk)⟩
end Go.Proofs.YtdbmaobjikjifaaGreatDoorR

end
section
set_option linter.unusedSimpArgs false
set_option linter.unusedVariables false
namespace Go.Proofs.YtdbmaobjikjifaaGreatDoorR
open Go.RowKit Go.Shelf
attribute [local go_sem] Oper.semAt_some
/-- What is read in blocks from lo on (but not in block G), whatever happens elsewhere. -/
def Fn (lo : Nat) (G : Option Nat) (W : World) (R : Nat → World → Prop) : Prop :=
  ∃ F : Nat → Prop, (∀ k, F k → lo ≤ k ∧ k < W.heap.size ∧ some k ≠ G) ∧ ∀ W' B, (∀ k, F k → W'.heap[k]? = W.heap[k]?) → (∀ k, F k → k < B) → R B W'
section
variable {lo : Nat} {G G' : Option Nat} {W W' : World} {R : Nat → World → Prop}
theorem Fn.keep {S : Nat → Prop} (h : Fn lo G W R) (hm : Mvs S W W') (hs : ∀ k, lo ≤ k → some k ≠ G → ¬ S k) : Fn lo G W' R := by
  obtain ⟨F, h1, h2⟩ := h
  refine ⟨F, fun k hk => ⟨(h1 k hk).1, Nat.lt_of_lt_of_le (h1 k hk).2.1 hm.size, (h1 k hk).2.2⟩, fun W2 B ha hb => h2 W2 B (fun k hk => ?_) hb⟩
  rw [ha k hk]
  exact hm.block k (h1 k hk).2.1 (hs k (h1 k hk).1 (h1 k hk).2.2)
theorem Fn.other (h : Fn lo G W R) {n : Nat} (hn : W.heap.size ≤ n) : Fn lo (some n) W R := by
  obtain ⟨F, h1, h2⟩ := h
  exact ⟨F, fun k hk => ⟨(h1 k hk).1, (h1 k hk).2.1, fun e => by injection e with e; have := (h1 k hk).2.1; omega⟩, h2⟩
theorem Fn.get (h : Fn lo G W R) : R W.heap.size W := by
  obtain ⟨F, h1, h2⟩ := h
  exact h2 W _ (fun _ _ => rfl) (fun k hk => (h1 k hk).2.1)
theorem Fn.low {l2 : Nat} (h : Fn lo G W R) (hl : l2 ≤ lo) : Fn l2 G W R := by
  obtain ⟨F, h1, h2⟩ := h
  exact ⟨F, fun k hk => ⟨Nat.le_trans hl (h1 k hk).1, (h1 k hk).2⟩, h2⟩
theorem Fn.mono {R' : Nat → World → Prop} (h : Fn lo G W R) (hr : ∀ B W', R B W' → R' B W') : Fn lo G W R' := by
  obtain ⟨F, h1, h2⟩ := h
  exact ⟨F, h1, fun W' B ha hb => hr _ _ (h2 W' B ha hb)⟩
end
section
variable {α : Type} {E : Nat → World → Value → α → Prop} {L : Nat} {W W' : World} {v v' : Value} {xs : List α}
/-- A row under way, whose elements lie elsewhere, all of it in blocks from L on. -/
def GRow (E : Nat → World → Value → α → Prop) (L : Nat) (W : World) (v : Value) (xs : List α) (G : Option Nat) : Prop :=
  ∃ us, Rw W 1 v xs.length us G ∧ (∀ g, G = some g → L ≤ g) ∧ ∀ i (hi : i < xs.length), ∃ u, us[i]? = some u ∧ Fn L G W (fun B W' => E B W' u xs[i])
theorem GRow.nil (E : Nat → World → Value → α → Prop) (L : Nat) (W : World) : GRow E L W (.slice none 0 0) [] none := ⟨[], Rw.nil W 1, fun _ h => (by cases h), fun i hi => absurd hi (by simp)⟩
theorem GRow.keep {G : Option Nat} {S : Nat → Prop} (h : GRow E L W v xs G) (hm : Mvs S W W') (hs : ∀ k, L ≤ k → ¬ S k) : GRow E L W' v xs G := by
  obtain ⟨us, h1, h2, h3⟩ := h
  refine ⟨us, h1.keep hm fun g e => hs g (h2 g e), h2, fun i hi => ?_⟩
  obtain ⟨u, hu, hf⟩ := h3 i hi
  exact ⟨u, hu, hf.keep hm fun k hk _ => hs k hk⟩
theorem GRow.form {G : Option Nat} (h : GRow E L W v xs G) : ∃ A c, v = .slice A xs.length c := by
  obtain ⟨us, h1, _⟩ := h
  exact h1.form
theorem GRow.rw' {G : Option Nat} (h : GRow E L W v xs G) : ∃ us, Rw W 1 v xs.length us G ∧ us.length = xs.length ∧ (∀ g, G = some g → L ≤ g) ∧ ∀ i (hi : i < xs.length), ∃ u, us[i]? = some u ∧ Fn L G W (fun B W' => E B W' u xs[i]) := by
  obtain ⟨us, h1, h2, h3⟩ := h
  exact ⟨us, h1, by rw [h1.1]; omega, h2, h3⟩
/-- One more element, appended: W1 is the world behind the element's making, W' the one behind the append. -/
theorem GRow.grow {G G' : Option Nat} {us : List Value} {u : Value} {x : α} {W1 : World} (hg : ∀ g, G = some g → L ≤ g) (hl : us.length = xs.length) (h3 : ∀ i (hi : i < xs.length), ∃ u, us[i]? = some u ∧ Fn L G W1 (fun B W' => E B W' u xs[i]))
    (hx : Fn L G W1 (fun B W' => E B W' u x)) (hL : L ≤ W1.heap.size) (hr : Rw W' 1 v' (xs.length + 1) (us ++ [u]) G') (hm : Mvs (fun k => some k = G) W1 W') (hG : G' = G ∨ G' = some W1.heap.size) : GRow E L W' v' (xs ++ [x]) G' := by
  have key : ∀ {R : Nat → World → Prop}, Fn L G W1 R → Fn L G' W' R := fun {R} h => by
    have h4 : Fn L G' W1 R := by
      rcases hG with rfl | rfl
      · exact h
      · exact h.other (Nat.le_refl _)
    obtain ⟨F, k1, k2⟩ := h
    obtain ⟨F', j1, j2⟩ := h4
    refine ⟨F, fun k hk => ⟨(k1 k hk).1, Nat.lt_of_lt_of_le (k1 k hk).2.1 hm.size, ?_⟩, fun W2 B ha hb => k2 W2 B (fun k hk => ?_) hb⟩
    · rcases hG with rfl | rfl
      · exact (k1 k hk).2.2
      · intro e
        injection e with e
        have := (k1 k hk).2.1
        omega
    · rw [ha k hk]
      exact hm.block k (k1 k hk).2.1 (k1 k hk).2.2
  refine ⟨us ++ [u], by simpa using hr, fun g e => ?_, fun i hi => ?_⟩
  · rcases hG with h | h
    · exact hg g (h ▸ e)
    · rw [h] at e
      injection e with e
      omega
  · by_cases hlt : i < xs.length
    · obtain ⟨u', hu, hf⟩ := h3 i hlt
      refine ⟨u', by rw [List.getElem?_append_left (by omega)]; exact hu, ?_⟩
      rw [List.getElem_append_left hlt]
      exact key hf
    · obtain rfl : i = xs.length := by simp at hi; omega
      refine ⟨u, by rw [← hl]; simp, ?_⟩
      rw [List.getElem_append_right (Nat.le_refl _)]
      simpa using key hx
/-- The row as it stands in the end: read in blocks of its own. -/
theorem GRow.fn {G : Option Nat} (h : GRow E L W v xs G) (hne : xs ≠ []) : Fn L none W (fun B W' => Rd B (E B) W' v xs) := by
  obtain ⟨us, h1, h2, h3⟩ := h
  rcases h1.2 with ⟨_, h, _⟩ | ⟨g, o, cap, rfl, rfl, k1, k2, k3, k4, k5⟩
  · exact absurd (List.length_eq_zero_iff.1 h) hne
  · refine ⟨fun k => k = g ∨ ∃ F : Nat → Prop, (∀ k, F k → L ≤ k ∧ k < W.heap.size) ∧ (∃ i, ∃ hi : i < xs.length, ∃ u, us[i]? = some u ∧ ∀ W' B, (∀ k, F k → W'.heap[k]? = W.heap[k]?) → (∀ k, F k → k < B) → E B W' u xs[i]) ∧ F k, ?_, ?_⟩
    · rintro k (rfl | ⟨F, hF, _, hk⟩)
      · exact ⟨h2 _ rfl, k3, by simp⟩
      · exact ⟨(hF k hk).1, (hF k hk).2, by simp⟩
    · intro W' B ha hb
      refine ⟨g, o, cap, rfl, k1, hb g (.inl rfl), fun i hi => ?_⟩
      obtain ⟨u, hu, F, f1, f2⟩ := h3 i hi
      have hF : ∀ k, F k → L ≤ k ∧ k < W.heap.size := fun k hk => ⟨(f1 k hk).1, (f1 k hk).2.1⟩
      refine ⟨u, ?_, f2 W' B (fun k hk => ha k (.inr ⟨F, hF, ⟨i, hi, u, hu, f2⟩, hk⟩)) (fun k hk => hb k (.inr ⟨F, hF, ⟨i, hi, u, hu, f2⟩, hk⟩))⟩
      rw [← k4 i u hu]
      exact World.cell?_of_block (ha g (.inl rfl))
end
/-- What strings.Split has made. -/
theorem fn_split {w : World} (ps : List (List UInt8)) {lo : Nat} (hlo : lo ≤ w.heap.size) {G : Option Nat} (hG : ∀ g, G = some g → g < w.heap.size) : Fn lo G (w.alloc (.cells (ps.map svB).toArray 9)) (fun B W' => E1 B W' (.slice (some ⟨w.heap.size, 0, none⟩) ps.length ps.length) ps) := by
  refine ⟨fun k => k = w.heap.size, ?_, ?_⟩
  · rintro k rfl
    exact ⟨hlo, by simp, fun e => by have := hG _ e.symm; omega⟩
  · intro W' B ha hb
    refine ⟨w.heap.size, 0, ps.length, rfl, Nat.le_refl _, hb _ rfl, fun i hi => ⟨svB ps[i], ?_, rfl⟩⟩
    have hk : Blk W' w.heap.size (ps.map svB).toArray 9 := (ha _ rfl).trans (Blk.new w _ _)
    rw [hk.cell]
    simp [List.getElem?_eq_getElem hi]
end Go.Proofs.YtdbmaobjikjifaaGreatDoorR

end
section
set_option linter.unusedSimpArgs false
set_option linter.unusedVariables false
namespace Go.Proofs.YtdbmaobjikjifaaGreatDoorR
open Go.RowKit Go.Shelf
attribute [local go_sem] Oper.semAt_some
theorem Fn.avoid {lo L : Nat} {G : Option Nat} {W : World} {R : Nat → World → Prop} (h : Fn lo none W R) (hL : L ≤ lo) (hG : ∀ g, G = some g → g < lo) : Fn L G W R := by
  obtain ⟨F, h1, h2⟩ := h
  exact ⟨F, fun k hk => ⟨Nat.le_trans hL (h1 k hk).1, (h1 k hk).2.1, fun e => by have := hG k e.symm; have := (h1 k hk).1; omega⟩, h2⟩
theorem runsT_snoc (x : List UInt8) : ∀ pre : List (List UInt8), runsT (pre ++ [x]) = runsT pre ++ [runL (if pre = [] then x else 37 :: x)]
  | [] => rfl
  | y :: ys => by simp [runsT]
theorem runsT_len (pre : List (List UInt8)) : (runsT pre).length = pre.length := by cases pre <;> simp [runsT]
end Go.Proofs.YtdbmaobjikjifaaGreatDoorR

end
