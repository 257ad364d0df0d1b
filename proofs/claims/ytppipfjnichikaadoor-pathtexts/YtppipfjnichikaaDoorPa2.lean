/- A range over strings.SplitSeq: one law for every body; arePieces of package path. -/
import Derived.Test.YtppipfjnichikaaDoorPa1
import Derived.Test.YtppipfjnichikaaDoorPa4
namespace Go.Proofs.YtppipfjnichikaaDoor
open Go.RowKit Go.Shelf
attribute [local go_sem] Oper.semAt_some
/-- The five blocks that the loop itself turns or holds. -/
def Own5 (Bs Bp Bq B : Nat) (k : Nat) : Prop := k = Bs ∨ k = Bp ∨ k = Bq ∨ k = B ∨ k = B + 1
def Kept5 (Bs Bp Bq B : Nat) (W W' : World) : Prop := ∀ k, Own5 Bs Bp Bq B k → W'.heap[k]? = W.heap[k]?
theorem mvs_putObj {S : Nat → Prop} (W : World) (l : Nat) (o : Obj) (hs : S l) : Mvs S W (W.putObj l o) :=
  ⟨rfl, rfl, rfl, by simp, fun _ _ hk => World.putObj_heap_other (fun e => hk (e ▸ hs))⟩
theorem heap_setCell_other {W : World} {b k : Nat} {v : Value} (h : k ≠ b) : (W.setCell ⟨b, 0, none⟩ v).heap[k]? = W.heap[k]? := Below.heap_setCell _ _ _ _ h
theorem Blk.putObj {W : World} {b l : Nat} {vs : Array Value} {t : TypeId} (h : Blk W b vs t) (o : Obj) (hne : b ≠ l) : Blk (W.putObj l o) b vs t := (World.putObj_heap_other hne).trans h
theorem Blk.new_at {w : World} {vs : Array Value} {t : TypeId} {k : Nat} (h : w.heap.size = k) : Blk (w.alloc (.cells vs t)) k vs t := h ▸ Blk.new w vs t
theorem below_mvs {B : Nat} {w x y : World} {S : Nat → Prop} (h : Below B w x) (hm : Mvs S x y) (hs : ∀ k, k < B → ¬ S k) (hB : B ≤ w.heap.size) : Below B w y := h.trans (hm.below hs (Nat.le_trans hB h.size))
/-- How the body of a round may be left. -/
def rndPost (Bs Bp Bq B : Nat) (I : World → Prop) (Ix : Code → World → Prop) (W : World) : Exit → Act → World → Prop
  | .normal, _, W' => Kept5 Bs Bp Bq B W W' ∧ I W'
  | .ret, _, W' => Kept5 Bs Bp Bq B W W' ∧ Ix .ret W'
  | .exit id, _, W' => Kept5 Bs Bp Bq B W W' ∧ Ix (.exit id) W'
  | .goto t, _, W' => Kept5 Bs Bp Bq B W W' ∧ Ix (.goto t) W'
  | .panic _, _, _ => False
  | .outgrown, _, _ => False
set_option maxHeartbeats 1000000 in
theorem range_split {n : Nat} (h2 : 2 ≤ n) {g : Operand} {ps : Array Tmp} {assign body : Code} {Q : Exit → Act → World → Prop} {a : Act} {w : World} {Bs Bp Bq : Nat} {s : List UInt8} (hn1 : Bp ≠ Bs) (hn2 : Bq ≠ Bs) (hsl : s.length ≤ 1000000000)
    (hg : a.eval g = .func (.func 50) #[] #[.pointer (some ⟨Bp, 0, none⟩), .pointer (some ⟨Bs, 0, none⟩), .pointer (some ⟨Bq, 0, none⟩)]) (hps : ps.size = 1) (hB : Blk w Bs #[.string ⟨s.toArray⟩] 9) (hP : Blk w Bp #[.string ⟨#[46]⟩] 9) (hQ : Blk w Bq #[.int .i64 0] 3)
    (I : List (List UInt8) → World → Prop) (Ix : Code → World → Prop)
    (hI : ∀ pre W W', I pre W → Mvs (Own5 Bs Bp Bq w.heap.size) W W' → I pre W') (hIx : ∀ c W W', Ix c W → Mvs (Own5 Bs Bp Bq w.heap.size) W W' → Ix c W') (h0 : I [] w) (a₁ : List UInt8 → Act)
    (hassign : ∀ (l : Nat) (x : List UInt8) (W : World) (K : Act → World → Prop), K (a₁ x) W →
      assign.wpIn (Fence.wide.inRound l) (n - 1 - 1) Tryd.prog (Exit.then K (fun _ _ _ => False)) { tmps := (ps.zip #[.string ⟨x.toArray⟩]).foldl (fun t (p, v) => t.setIfInBounds p v) a.tmps, defers := [] } W)
    (hbody : ∀ (l : Nat) (pre : List (List UInt8)) (x : List UInt8) (W : World), I pre W → (∃ post, pre ++ x :: post = splitD s) → w.heap.size + 1 < W.heap.size →
      body.wpIn (Fence.wide.inRound l) (n - 1 - 1) Tryd.prog (rndPost Bs Bp Bq w.heap.size (I (pre ++ [x])) Ix W) (a₁ x) W)
    (hdone : ∀ (W : World), I (splitD s) W → W.heap[w.heap.size]? = some (.deferred (some [])) → Q .normal { a with defers := { target := .collected w.heap.size, args := #[] } :: a.defers } W)
    (hstop : ∀ (c : Code) (W : World), Ix c W → W.heap[w.heap.size]? = some (.deferred (some [])) → c.wpIn Fence.wide n Tryd.prog Q { a with defers := { target := .collected w.heap.size, args := #[] } :: a.defers } W) :
    (Code.rangeFunc g ps assign body).wpIn Fence.wide n Tryd.prog Q a w := by
  have hBlt := hB.lt
  have hPlt := hP.lt
  have hQlt := hQ.lt
  refine wpIn_rangeFunc ?_
  intro fn hfn
  show ∃ l mark w₁ d w₁' f args w₂, (Instr.enterLoop fn a.tmps ps assign body none).run Tryd.prog w = _ ∧ _
  obtain ⟨rec, hrec⟩ : ∃ rec : LoopState → Option Code → Loop, rec = fun st pe => { state := st, pending := pe, fn, tmps := a.tmps, params := ps, assign, body, defers := w.heap.size } := ⟨_, rfl⟩
  obtain ⟨W1, hW1⟩ : ∃ W1, (w.alloc (.deferred (some []))).alloc (.loop (rec .ready none)) = W1 := ⟨_, rfl⟩
  have hL1 : W1.heap[w.heap.size + 1]? = some (.loop (rec .ready none)) := by
    rw [← hW1]; have := World.alloc_heap_new (w.alloc (.deferred (some []))) (.loop (rec .ready none)); rwa [World.size_alloc] at this
  have hK1 : W1.heap[w.heap.size]? = some (.deferred (some [])) := by
    rw [← hW1]; exact (Below.heap_alloc _ _ _ (by simp)).trans (World.alloc_heap_new w _)
  have hI1 : I [] W1 := by rw [← hW1]; exact hI _ _ _ h0 (((Mvs.refl _ _).alloc _).alloc _)
  have hB1 : Blk W1 Bs #[.string ⟨s.toArray⟩] 9 := by rw [← hW1]; exact (hB.alloc _).alloc _
  have hP1 : Blk W1 Bp #[.string ⟨#[46]⟩] 9 := by rw [← hW1]; exact (hP.alloc _).alloc _
  have hQ1 : Blk W1 Bq #[.int .i64 0] 3 := by rw [← hW1]; exact (hQ.alloc _).alloc _
  refine ⟨w.heap.size + 1, [{ target := .collected w.heap.size, args := #[] }], W1, { target := .fn (.func 50) #[.pointer (some ⟨Bp, 0, none⟩), .pointer (some ⟨Bs, 0, none⟩), .pointer (some ⟨Bq, 0, none⟩)], args := #[.func (.yield (w.heap.size + 1)) #[] #[]] }, W1, 50,
    #[.func (.yield (w.heap.size + 1)) #[] #[]] ++ #[.pointer (some ⟨Bp, 0, none⟩), .pointer (some ⟨Bs, 0, none⟩), .pointer (some ⟨Bq, 0, none⟩)], W1, ?_, ?_, ?_, ?_, fun _ => by omega, ?_⟩
  · rw [← hW1, hrec]; exact run_enterLoop_outer _ _ _ _ _
  · simp only [resolve, hg]
    simp [go_sem]
  · intro f' _; trivial
  · simp [invoke, go_sem]
  · refine (split_iter (n - 1) (w.heap.size + 1) Bs Bp Bq (by omega) hn1 hn2 s hsl
      (fun pre W => I pre W ∧ W.heap[w.heap.size + 1]? = some (.loop (rec .ready none)) ∧ W.heap[w.heap.size]? = some (.deferred (some [])))
      (fun _ W => ∃ c, Ix c W ∧ W.heap[w.heap.size + 1]? = some (.loop (rec .done (some c))) ∧ W.heap[w.heap.size]? = some (.deferred (some [])))
      ?_ ?_ W1 hB1 hP1 hQ1 ⟨hI1, hL1, hK1⟩).mono ?_
    · rintro pre W v ⟨hi, hl, hk⟩
      exact ⟨hI _ _ _ hi ((Mvs.refl _ _).setCell _ _ (fun _ => .inl rfl)), (heap_setCell_other (by omega)).trans hl, (heap_setCell_other (by omega)).trans hk⟩
    · rintro pre x W ⟨hi, hl, hk⟩ hpost
      have hlt : w.heap.size + 1 < W.heap.size := (Array.getElem?_eq_some_iff.1 hl).1
      have hy := run_yield (P := Tryd.prog) (args := #[.string ⟨x.toArray⟩]) hl (by rw [hrec]; exact hps.symm)
      rw [hrec] at hy
      refine ⟨fn, _, assign, body, hy, roundIn_of_wpIn hfn (hassign _ x W _ ⟨_, run_beginRound hl (by rw [hrec]), ?_⟩)⟩
      have hl2 : (W.putObj (w.heap.size + 1) (.loop { rec .ready none with state := .busy })).heap[w.heap.size + 1]? = some (.loop { rec .ready none with state := .busy }) := World.putObj_heap_same hlt
      have hk2 : (W.putObj (w.heap.size + 1) (.loop { rec .ready none with state := .busy })).heap[w.heap.size]? = some (.deferred (some [])) := (World.putObj_heap_other (by omega)).trans hk
      have hs2 : ∀ b, b < w.heap.size → (W.putObj (w.heap.size + 1) (.loop { rec .ready none with state := .busy })).heap[b]? = W.heap[b]? := fun b hb => World.putObj_heap_other (by omega)
      refine wpIn_mono (hbody _ pre x _ (hI _ _ _ hi (mvs_putObj _ _ _ (.inr (.inr (.inr (.inr rfl)))))) hpost (by simpa using hlt)) ?_
      have fin : ∀ (jump : Option Code) (W3 : World), Kept5 Bs Bp Bq w.heap.size (W.putObj (w.heap.size + 1) (.loop { rec .ready none with state := .busy })) W3 →
          (Instr.endRound (w.heap.size + 1) jump).run Tryd.prog W3 = .ok (.bool jump.isNone) (W3.putObj (w.heap.size + 1) (.loop (rec (if jump.isNone then .ready else .done) jump))) ∧
          (W3.putObj (w.heap.size + 1) (.loop (rec (if jump.isNone then .ready else .done) jump))).heap[w.heap.size + 1]? = some (.loop (rec (if jump.isNone then .ready else .done) jump)) ∧
          (W3.putObj (w.heap.size + 1) (.loop (rec (if jump.isNone then .ready else .done) jump))).heap[w.heap.size]? = some (.deferred (some [])) ∧
          (W3.putObj (w.heap.size + 1) (.loop (rec (if jump.isNone then .ready else .done) jump))).heap[Bs]? = W.heap[Bs]? ∧ (W3.putObj (w.heap.size + 1) (.loop (rec (if jump.isNone then .ready else .done) jump))).heap[Bp]? = W.heap[Bp]? ∧ (W3.putObj (w.heap.size + 1) (.loop (rec (if jump.isNone then .ready else .done) jump))).heap[Bq]? = W.heap[Bq]? := fun jump W3 hk3 => by
        have hl3 := (hk3 _ (.inr (.inr (.inr (.inr rfl))))).trans hl2
        have := run_endRound (P := Tryd.prog) jump hl3
        rw [hrec] at this ⊢
        exact ⟨this, World.putObj_heap_same (Array.getElem?_eq_some_iff.1 hl3).1, (World.putObj_heap_other (by omega)).trans ((hk3 _ (.inr (.inr (.inr (.inl rfl))))).trans hk2), (World.putObj_heap_other (by omega)).trans ((hk3 _ (.inl rfl)).trans (hs2 _ hBlt)), (World.putObj_heap_other (by omega)).trans ((hk3 _ (.inr (.inl rfl))).trans (hs2 _ hPlt)), (World.putObj_heap_other (by omega)).trans ((hk3 _ (.inr (.inr (.inl rfl)))).trans (hs2 _ hQlt))⟩
      rintro e a3 W3 hp
      cases e with
      | normal =>
        obtain ⟨hk3, hi3⟩ := hp
        obtain ⟨hr, hl4, hk4, hs4⟩ := fin none W3 hk3
        exact ⟨_, _, hr, .inl ⟨rfl, ⟨hI _ _ _ hi3 (mvs_putObj _ _ _ (.inr (.inr (.inr (.inr rfl))))), hl4, hk4⟩, hs4⟩⟩
      | ret =>
        obtain ⟨hk3, hi3⟩ := hp
        obtain ⟨hr, hl4, hk4, _⟩ := fin (some .ret) W3 hk3
        exact ⟨_, _, hr, .inr ⟨rfl, .ret, hIx _ _ _ hi3 (mvs_putObj _ _ _ (.inr (.inr (.inr (.inr rfl))))), hl4, hk4⟩⟩
      | exit id =>
        obtain ⟨hk3, hi3⟩ := hp
        obtain ⟨hr, hl4, hk4, _⟩ := fin (some (.exit id)) W3 hk3
        exact ⟨_, _, hr, .inr ⟨rfl, .exit id, hIx _ _ _ hi3 (mvs_putObj _ _ _ (.inr (.inr (.inr (.inr rfl))))), hl4, hk4⟩⟩
      | goto t =>
        obtain ⟨hk3, hi3⟩ := hp
        obtain ⟨hr, hl4, hk4, _⟩ := fin (some (.goto t)) W3 hk3
        exact ⟨_, _, hr, .inr ⟨rfl, .goto t, hIx _ _ _ hi3 (mvs_putObj _ _ _ (.inr (.inr (.inr (.inr rfl))))), hl4, hk4⟩⟩
      | panic ch => exact hp.elim
      | outgrown => exact hp.elim
    · rintro e W2 ⟨⟨v, rfl⟩, (⟨hi, hl, hk⟩ | ⟨_, c, hi, hl, hk⟩)⟩
      · exact ⟨none, _, by have := run_endLoop (P := Tryd.prog) hl (by rw [hrec]; simp); rw [hrec] at this; exact this, hdone _ (hI _ _ _ hi (mvs_putObj _ _ _ (.inr (.inr (.inr (.inr rfl)))))) ((World.putObj_heap_other (by omega)).trans hk)⟩
      · exact ⟨some c, _, by have := run_endLoop (P := Tryd.prog) hl (by rw [hrec]; simp); rw [hrec] at this; exact this, hstop c _ (hIx _ _ _ hi (mvs_putObj _ _ _ (.inr (.inr (.inr (.inr rfl)))))) ((World.putObj_heap_other (by omega)).trans hk)⟩
theorem pa_leave_atom {W w : World} {b : Bool} {tmps : Array Value} {r1 : Nat} {v : Bool} (hT : v = b) (h1 : Blk W r1 #[.bool b] 4) (hb : Below w.heap.size w W)
    (ht1 : tmps[4]? = some (.pointer (some ⟨r1, 0, none⟩)) := by rfl) :
    LeavesInM Fence.wide 5 Tryd.prog Tryd.f28 tmps (fun e w' => e = .returned (.bool v) ∧ Below w.heap.size w w') [] .returning W := by
  have c1 := h1.cell
  refine ⟨.bool b, ?_, by rw [hT], hb⟩
  simp [results, Tryd.results28, go_sem, ht1, c1]
set_option maxRecDepth 20000 in
set_option maxHeartbeats 1000000 in
theorem pieces_atom (s : List UInt8) (w : World) (hs : s.length ≤ 1000000) :
    Calls Tryd.prog 28 #[.string ⟨s.toArray⟩, .func (.func 29) #[] #[]] w fun e w' => e = .returned (.bool ((splitD s).all atomB)) ∧ Below w.heap.size w w' := by
  refine (callsIn_wide (n := 5)).1 ?_
  refine callsIn_of_wp_marks Tryd.func28 rfl trivial ?_ rfl
  simp only [Tryd.ntmps28, List.size_toArray, List.length_cons, List.length_nil, Nat.reduceAdd, Nat.reduceSub, Array.replicate_succ, Array.replicate_zero, List.push_toArray, List.append_toArray, List.nil_append, List.cons_append]
  gi_wp2_with (first | (refine ⟨trivial, ?_⟩; gi_at_call 39; refine (callsIn_wide.2 (splitSeq_any s _)).mono ?_; rintro e w' ⟨rfl, rfl⟩))
  obtain ⟨W0, hW0⟩ : ∃ W0, ((((w.alloc (.cells #[.func (.func 29) #[] #[]] 34)).alloc (.cells #[.bool false] 4)).alloc (.cells #[.string ⟨s.toArray⟩] 9)).alloc (.cells #[.string ⟨#[46]⟩] 9)).alloc (.cells #[.int .i64 0] 3) = W0 := ⟨_, rfl⟩
  have hsz : W0.heap.size = w.heap.size + 5 := by rw [← hW0]; simp
  have hb0 : Below w.heap.size w W0 := by rw [← hW0]; exact (((((Below.refl _ _).alloc (Nat.le_refl _) _).alloc (by simp) _).alloc (by simp; omega) _).alloc (by simp; omega) _).alloc (by simp; omega) _
  have hBf : Blk W0 w.heap.size #[.func (.func 29) #[] #[]] 34 := by rw [← hW0]; exact ((((Blk.new w _ _).alloc _).alloc _).alloc _).alloc _
  have hBr : Blk W0 (w.heap.size + 1) #[.bool false] 4 := by rw [← hW0]; exact (((Blk.new1 w _ _ _).alloc _).alloc _).alloc _
  have hBs : Blk W0 (w.heap.size + 2) #[.string ⟨s.toArray⟩] 9 := by rw [← hW0]; exact ((Blk.new_at (by simp)).alloc _).alloc _
  have hBp : Blk W0 (w.heap.size + 3) #[.string ⟨#[46]⟩] 9 := by rw [← hW0]; exact (Blk.new_at (by simp)).alloc _
  have hBq : Blk W0 (w.heap.size + 4) #[.int .i64 0] 3 := by rw [← hW0]; exact Blk.new_at (by simp)
  rw [hW0]
  clear hW0
  have hsub : ∀ k, k < w.heap.size + 2 → ¬ Own5 (w.heap.size + 2) (w.heap.size + 3) (w.heap.size + 4) W0.heap.size k := by rintro k hk (h | h | h | h | h) <;> omega
  refine range_split (by omega) (s := s) (Bs := w.heap.size + 2) (Bp := w.heap.size + 3) (Bq := w.heap.size + 4) (by omega) (by omega) (by omega) rfl rfl hBs hBp hBq
    (fun pre W => Blk W w.heap.size #[.func (.func 29) #[] #[]] 34 ∧ Blk W (w.heap.size + 1) #[.bool false] 4 ∧ Below w.heap.size w W ∧ pre.all atomB = true)
    (fun c W => c = .ret ∧ Blk W (w.heap.size + 1) #[.bool false] 4 ∧ Below w.heap.size w W ∧ (splitD s).all atomB = false)
    (fun pre W W' h hm => ⟨hm.blk h.1 (hsub _ (by omega)), hm.blk h.2.1 (hsub _ (by omega)), below_mvs h.2.2.1 hm (fun k hk => hsub k (by omega)) (Nat.le_refl _), h.2.2.2⟩)
    (fun c W W' h hm => ⟨h.1, hm.blk h.2.1 (hsub _ (by omega)), below_mvs h.2.2.1 hm (fun k hk => hsub k (by omega)) (Nat.le_refl _), h.2.2.2⟩) ⟨hBf, hBr, hb0, rfl⟩
    (fun x => { tmps := #[.string ⟨s.toArray⟩, .func (.func 29) #[] #[], undef, .pointer (some ⟨w.heap.size, 0, none⟩), .pointer (some ⟨w.heap.size + 1, 0, none⟩), .string ⟨x.toArray⟩, .string ⟨s.toArray⟩,
      .func (.func 50) #[] #[.pointer (some ⟨w.heap.size + 3, 0, none⟩), .pointer (some ⟨w.heap.size + 2, 0, none⟩), .pointer (some ⟨w.heap.size + 4, 0, none⟩)], .string ⟨x.toArray⟩, undef, undef, undef, undef], defers := [] }) ?assign ?body ?done ?stop
  case assign =>
    intro l x W K hK
    gi_wp2
    exact hK
  case body =>
    rintro l pre x W ⟨hf, hr, hbW, ha⟩ hpost hlt
    have hxl : x.length ≤ 1000000 := by
      obtain ⟨post, hp⟩ := hpost
      exact Nat.le_trans (splitD_len s x (by rw [← hp]; simp)) hs
    have HX : Hid (atomB x = false → (splitD s).all atomB = false) := by
      intro h
      obtain ⟨post, hp⟩ := hpost
      rw [← hp]
      simp [h]
    have HN := hide (isAtom_any x)
    have HA : Hid (pre.all atomB = true) := ha
    have hc := hf.cell
    have hcr := hr.cell
    have hfr := hr.frozen
    have HF := hide hf
    have HR := hide hr
    have HB := hide hbW
    clear hf hr hbW hpost ha
    cases hn : atomB x
    · have HX2 := hide (HX.out hn)
      rw [hn] at HN
      clear hn HX
      gi_wp2_with (refine ⟨trivial, ?_⟩; gi_at_call 29; refine (CallsIn.inRound l (callsIn_wide.2 (HN.out _ hxl))).mono ?_; rintro e w' ⟨rfl, rfl⟩)
      refine ⟨fun k hk => ?_, rfl, HR.out.set 0 _, HB.out.setCell (p := ⟨w.heap.size + 1, 0, none⟩) (by simp) _, HX2.out⟩
      have hk3 : ¬ k < w.heap.size + 2 := fun h => hsub k h hk
      exact heap_setCell_other (by omega)
    · have HA2 : Hid ((pre ++ [x]).all atomB = true) := by
        show _ = _
        rw [List.all_append, HA.out]
        simp [hn]
      rw [hn] at HN
      clear hn HX
      gi_wp2_with (refine ⟨trivial, ?_⟩; gi_at_call 29; refine (CallsIn.inRound l (callsIn_wide.2 (HN.out _ hxl))).mono ?_; rintro e w' ⟨rfl, rfl⟩)
      exact ⟨fun _ _ => rfl, HF.out, HR.out, HB.out, HA2.out⟩
  case done =>
    rintro W ⟨hf, hr, hbW, ha⟩ hK
    have hWs := (Array.getElem?_eq_some_iff.1 hK).1
    have HA := hide ha
    have hcr := hr.cell
    have hfr := hr.frozen
    clear ha
    gi_wp2
    have hr' := hr.set 0 (.bool true)
    have hK5 : (W.setCell ⟨w.heap.size + 1, 0, none⟩ (.bool true)).heap[W0.heap.size]? = some (.deferred (some [])) := (heap_setCell_other (by omega)).trans hK
    refine ⟨by simp, .inl ⟨_, _, rfl, run_takeDeferred hK5, ?_⟩⟩
    exact pa_leave_atom HA.out (hr'.putObj _ (by omega)) ((hbW.setCell (p := ⟨w.heap.size + 1, 0, none⟩) (by simp) _).trans (belowK_b (w := w) (Nat.le_refl _) _ _ _ _ (by omega) hK5 rfl rfl))
  case stop =>
    rintro c W ⟨rfl, hr, hbW, ha⟩ hK
    have HA := hide ha
    clear ha
    gi_wp2
    refine ⟨by simp, .inl ⟨_, _, rfl, run_takeDeferred hK, ?_⟩⟩
    exact pa_leave_atom HA.out (hr.putObj _ (by omega)) (hbW.trans (belowK_b (w := w) (Nat.le_refl _) W _ _ _ (by omega) hK rfl rfl))
theorem pa_leave_label {W w : World} {b : Bool} {tmps : Array Value} {r1 : Nat} {v : Bool} (hT : v = b) (h1 : Blk W r1 #[.bool b] 4) (hb : Below w.heap.size w W)
    (ht1 : tmps[4]? = some (.pointer (some ⟨r1, 0, none⟩)) := by rfl) :
    LeavesInM Fence.wide 5 Tryd.prog Tryd.f28 tmps (fun e w' => e = .returned (.bool v) ∧ Below w.heap.size w w') [] .returning W := by
  have c1 := h1.cell
  refine ⟨.bool b, ?_, by rw [hT], hb⟩
  simp [results, Tryd.results28, go_sem, ht1, c1]
set_option maxRecDepth 20000 in
set_option maxHeartbeats 1000000 in
theorem pieces_label (s : List UInt8) (w : World) (hs : s.length ≤ 1000000) :
    Calls Tryd.prog 28 #[.string ⟨s.toArray⟩, .func (.func 33) #[] #[]] w fun e w' => e = .returned (.bool ((splitD s).all labelB)) ∧ Below w.heap.size w w' := by
  refine (callsIn_wide (n := 5)).1 ?_
  refine callsIn_of_wp_marks Tryd.func28 rfl trivial ?_ rfl
  simp only [Tryd.ntmps28, List.size_toArray, List.length_cons, List.length_nil, Nat.reduceAdd, Nat.reduceSub, Array.replicate_succ, Array.replicate_zero, List.push_toArray, List.append_toArray, List.nil_append, List.cons_append]
  gi_wp2_with (first | (refine ⟨trivial, ?_⟩; gi_at_call 39; refine (callsIn_wide.2 (splitSeq_any s _)).mono ?_; rintro e w' ⟨rfl, rfl⟩))
  obtain ⟨W0, hW0⟩ : ∃ W0, ((((w.alloc (.cells #[.func (.func 33) #[] #[]] 34)).alloc (.cells #[.bool false] 4)).alloc (.cells #[.string ⟨s.toArray⟩] 9)).alloc (.cells #[.string ⟨#[46]⟩] 9)).alloc (.cells #[.int .i64 0] 3) = W0 := ⟨_, rfl⟩
  have hsz : W0.heap.size = w.heap.size + 5 := by rw [← hW0]; simp
  have hb0 : Below w.heap.size w W0 := by rw [← hW0]; exact (((((Below.refl _ _).alloc (Nat.le_refl _) _).alloc (by simp) _).alloc (by simp; omega) _).alloc (by simp; omega) _).alloc (by simp; omega) _
  have hBf : Blk W0 w.heap.size #[.func (.func 33) #[] #[]] 34 := by rw [← hW0]; exact ((((Blk.new w _ _).alloc _).alloc _).alloc _).alloc _
  have hBr : Blk W0 (w.heap.size + 1) #[.bool false] 4 := by rw [← hW0]; exact (((Blk.new1 w _ _ _).alloc _).alloc _).alloc _
  have hBs : Blk W0 (w.heap.size + 2) #[.string ⟨s.toArray⟩] 9 := by rw [← hW0]; exact ((Blk.new_at (by simp)).alloc _).alloc _
  have hBp : Blk W0 (w.heap.size + 3) #[.string ⟨#[46]⟩] 9 := by rw [← hW0]; exact (Blk.new_at (by simp)).alloc _
  have hBq : Blk W0 (w.heap.size + 4) #[.int .i64 0] 3 := by rw [← hW0]; exact Blk.new_at (by simp)
  rw [hW0]
  clear hW0
  have hsub : ∀ k, k < w.heap.size + 2 → ¬ Own5 (w.heap.size + 2) (w.heap.size + 3) (w.heap.size + 4) W0.heap.size k := by rintro k hk (h | h | h | h | h) <;> omega
  refine range_split (by omega) (s := s) (Bs := w.heap.size + 2) (Bp := w.heap.size + 3) (Bq := w.heap.size + 4) (by omega) (by omega) (by omega) rfl rfl hBs hBp hBq
    (fun pre W => Blk W w.heap.size #[.func (.func 33) #[] #[]] 34 ∧ Blk W (w.heap.size + 1) #[.bool false] 4 ∧ Below w.heap.size w W ∧ pre.all labelB = true)
    (fun c W => c = .ret ∧ Blk W (w.heap.size + 1) #[.bool false] 4 ∧ Below w.heap.size w W ∧ (splitD s).all labelB = false)
    (fun pre W W' h hm => ⟨hm.blk h.1 (hsub _ (by omega)), hm.blk h.2.1 (hsub _ (by omega)), below_mvs h.2.2.1 hm (fun k hk => hsub k (by omega)) (Nat.le_refl _), h.2.2.2⟩)
    (fun c W W' h hm => ⟨h.1, hm.blk h.2.1 (hsub _ (by omega)), below_mvs h.2.2.1 hm (fun k hk => hsub k (by omega)) (Nat.le_refl _), h.2.2.2⟩) ⟨hBf, hBr, hb0, rfl⟩
    (fun x => { tmps := #[.string ⟨s.toArray⟩, .func (.func 33) #[] #[], undef, .pointer (some ⟨w.heap.size, 0, none⟩), .pointer (some ⟨w.heap.size + 1, 0, none⟩), .string ⟨x.toArray⟩, .string ⟨s.toArray⟩,
      .func (.func 50) #[] #[.pointer (some ⟨w.heap.size + 3, 0, none⟩), .pointer (some ⟨w.heap.size + 2, 0, none⟩), .pointer (some ⟨w.heap.size + 4, 0, none⟩)], .string ⟨x.toArray⟩, undef, undef, undef, undef], defers := [] }) ?assign ?body ?done ?stop
  case assign =>
    intro l x W K hK
    gi_wp2
    exact hK
  case body =>
    rintro l pre x W ⟨hf, hr, hbW, ha⟩ hpost hlt
    have hxl : x.length ≤ 1000000 := by
      obtain ⟨post, hp⟩ := hpost
      exact Nat.le_trans (splitD_len s x (by rw [← hp]; simp)) hs
    have HX : Hid (labelB x = false → (splitD s).all labelB = false) := by
      intro h
      obtain ⟨post, hp⟩ := hpost
      rw [← hp]
      simp [h]
    have HN := hide (isLabel_any x)
    have HA : Hid (pre.all labelB = true) := ha
    have hc := hf.cell
    have hcr := hr.cell
    have hfr := hr.frozen
    have HF := hide hf
    have HR := hide hr
    have HB := hide hbW
    clear hf hr hbW hpost ha
    cases hn : labelB x
    · have HX2 := hide (HX.out hn)
      rw [hn] at HN
      clear hn HX
      gi_wp2_with (refine ⟨trivial, ?_⟩; gi_at_call 33; refine (CallsIn.inRound l (callsIn_wide.2 (HN.out _ hxl))).mono ?_; rintro e w' ⟨rfl, rfl⟩)
      refine ⟨fun k hk => ?_, rfl, HR.out.set 0 _, HB.out.setCell (p := ⟨w.heap.size + 1, 0, none⟩) (by simp) _, HX2.out⟩
      have hk3 : ¬ k < w.heap.size + 2 := fun h => hsub k h hk
      exact heap_setCell_other (by omega)
    · have HA2 : Hid ((pre ++ [x]).all labelB = true) := by
        show _ = _
        rw [List.all_append, HA.out]
        simp [hn]
      rw [hn] at HN
      clear hn HX
      gi_wp2_with (refine ⟨trivial, ?_⟩; gi_at_call 33; refine (CallsIn.inRound l (callsIn_wide.2 (HN.out _ hxl))).mono ?_; rintro e w' ⟨rfl, rfl⟩)
      exact ⟨fun _ _ => rfl, HF.out, HR.out, HB.out, HA2.out⟩
  case done =>
    rintro W ⟨hf, hr, hbW, ha⟩ hK
    have hWs := (Array.getElem?_eq_some_iff.1 hK).1
    have HA := hide ha
    have hcr := hr.cell
    have hfr := hr.frozen
    clear ha
    gi_wp2
    have hr' := hr.set 0 (.bool true)
    have hK5 : (W.setCell ⟨w.heap.size + 1, 0, none⟩ (.bool true)).heap[W0.heap.size]? = some (.deferred (some [])) := (heap_setCell_other (by omega)).trans hK
    refine ⟨by simp, .inl ⟨_, _, rfl, run_takeDeferred hK5, ?_⟩⟩
    exact pa_leave_label HA.out (hr'.putObj _ (by omega)) ((hbW.setCell (p := ⟨w.heap.size + 1, 0, none⟩) (by simp) _).trans (belowK_b (w := w) (Nat.le_refl _) _ _ _ _ (by omega) hK5 rfl rfl))
  case stop =>
    rintro c W ⟨rfl, hr, hbW, ha⟩ hK
    have HA := hide ha
    clear ha
    gi_wp2
    refine ⟨by simp, .inl ⟨_, _, rfl, run_takeDeferred hK, ?_⟩⟩
    exact pa_leave_label HA.out (hr.putObj _ (by omega)) (hbW.trans (belowK_b (w := w) (Nat.le_refl _) W _ _ _ (by omega) hK rfl rfl))
end Go.Proofs.YtppipfjnichikaaDoor
