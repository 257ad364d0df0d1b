/- strings.Lines, and a range over it: one law for every body. -/
/- Append to a row that a slice reaches, inside a fence. -/
import Derived.Test.YtegplihhbdmnbaaGreatDoorU08
import Derived.Test.YtegplihhbdmnbaaGreatDoorU05
import Derived.OwnWalkIn
section
namespace Go.Proofs.YtegplihhbdmnbaaGreatDoor
open Go.RowKit Go.Shelf
attribute [local go_sem] Oper.semAt_some
theorem lines_any (l : List UInt8) (w : World) : Calls Tryz.prog 114 #[.string ⟨l.toArray⟩] w fun e w' => e = .returned (.func (.func 135) #[] #[.pointer (some ⟨w.heap.size, 0, none⟩)]) ∧ w' = w.alloc (.cells #[.string ⟨l.toArray⟩] 9) := by
  go_enter Tryz.func114, Tryz.ntmps114
  go_wp2
  go_ret
  exact ⟨rfl, rfl⟩
theorem index_str {t : List UInt8} {x : Int} (hx : Lib.indexByte t 10 = x) (w : World) : Calls Tryz.prog 136 #[.string ⟨t.toArray⟩, .int .u8 10] w fun e w' => e = .returned (.int .i64 x) ∧ w' = w := by
  subst hx
  exact Tryz.strings_IndexByte ⟨t.toArray⟩ 10 w
/-- How long the text is that a cell holds. -/
def lenAt (b : Nat) (w : World) : Nat := match w.cell? ⟨b, 0, none⟩ with
  | some (.string s) => s.size
  | _ => 0
theorem lenAt_eq {b : Nat} {w : World} {t : List UInt8} (h : Blk w b #[.string ⟨t.toArray⟩] 9) : lenAt b w = t.length := by
  unfold lenAt
  rw [h.cell]
  simp [ByteArray.size]
theorem take_midL (p r : List UInt8) : (p ++ 10 :: r).take (p.length + 1) = p ++ [10] := by
  rw [List.take_append, List.take_of_length_le (by omega), show p.length + 1 - p.length = 1 from by omega]
  rfl
theorem drop_midL (p r : List UInt8) : (p ++ 10 :: r).drop (p.length + 1) = r := by
  rw [List.drop_append, List.drop_of_length_le (by omega), show p.length + 1 - p.length = 1 from by omega]
  rfl
set_option maxRecDepth 20000 in
set_option maxHeartbeats 1000000 in
theorem lines_iter (n l Bs : Nat) (hn : 1 ≤ n) (s : List UInt8) (hs : s.length ≤ 1000000000) (J Jx : List (List UInt8) → World → Prop)
    (hJs : ∀ pre W v, J pre W → J pre (W.setCell ⟨Bs, 0, none⟩ v)) (hJd : ∀ pre W, J pre W → J pre W.drew)
    (hY : ∀ pre x W, J pre W → (∃ post, pre ++ x :: post = splitS s) → YieldAt Fence.wide (n - 1) Tryz.prog l #[.string ⟨x.toArray⟩] W fun e W' =>
      (e = .returned (.bool true) ∧ J (pre ++ [x]) W' ∧ W'.heap[Bs]? = W.heap[Bs]?) ∨ (e = .returned (.bool false) ∧ Jx (pre ++ [x]) W'))
    (W : World) (hW : Blk W Bs #[.string ⟨s.toArray⟩] 9) (h0 : J [] W) :
    CallsIn Fence.wide n Tryz.prog 135 #[.func (.yield l) #[] #[], .pointer (some ⟨Bs, 0, none⟩)] W fun e W' => (∃ v, e = .returned v) ∧
      (J (splitS s) W' ∨ ∃ pre, Jx pre W') := by
  refine callsIn_of_wp Tryz.func135 rfl trivial ?_ rfl
  simp only [Tryz.ntmps135, List.size_toArray, List.length_cons, List.length_nil, Nat.reduceAdd, Nat.reduceSub, Array.replicate_succ, Array.replicate_zero, List.push_toArray, List.append_toArray, List.nil_append, List.cons_append]
  have HY := hide hY
  have HS := hide hJs
  have HD := hide hJd
  clear hY hJs hJd
  gi_wp2
  gi_loopw [3] (fun _ wr => ∃ (t : List UInt8) (pre : List (List UInt8)), Hid (Blk wr Bs #[.string ⟨t.toArray⟩] 9) ∧ t.length ≤ 1000000000 ∧ Hid (pre ++ splitS t = splitS s) ∧ Hid (J pre wr)) (fun _ wr => lenAt Bs wr)
  case atStart => exact ⟨s, [], hW, hs, rfl, h0⟩
  case round =>
    obtain ⟨t, pre, HB, ht, HX, HJ⟩ := hrel
    have hc := HB.out.cell
    have hf := HB.out.frozen
    by_cases h0 : t = []
    · subst h0
      gi_wp2
      go_end0
      have hx := HX.out
      rw [splitS, List.append_nil] at hx
      exact ⟨⟨_, rfl⟩, .inl (by rw [← hx]; exact HJ.out)⟩
    · have hE : ((t.length : Int) > 0) := by
        have := List.length_pos_iff.2 h0
        omega
      cases hcut : cut10 t with
      | none =>
        have h10 := cut10_none hcut
        clear hcut
        have HI := hide (index_str (index_none h10))
        have HX2 : Hid ((pre ++ [t]) ++ splitS [] = splitS s) := by
          show _ = _
          rw [← HX.out, splitS_end t h10 h0]
          simp [splitS]
        obtain ⟨fn, tmps, assign, body, hy, hR⟩ := HY.out pre t _ (HS.out _ _ (.string ⟨#[]⟩) HJ.out) ⟨[], by rw [← HX.out, splitS_end t h10 h0]⟩
        replace hR := hide hR
        clear h0 h10
        gi_wp2_with (first | (refine ⟨trivial, ?_⟩; gi_at_call 136; refine (callsIn_wide.2 (HI.out _)).mono ?_; rintro e w' ⟨rfl, rfl⟩))
        refine hR.out.mono ?_
        clear hR hy
        rintro e W3 (⟨rfl, hJ3, hk3⟩ | ⟨rfl, hJx3⟩)
        · have HB3 : Hid (Blk W3 Bs #[.string ⟨([] : List UInt8).toArray⟩] 9) := by
            show W3.heap[Bs]? = _
            rw [hk3]
            exact HB.out.set 0 _
          have HJ3 := hide hJ3
          clear hJ3 hk3
          gi_wp2
          go_roundw
          case rel => exact ⟨[], pre ++ [t], HB3, by simp, HX2, HJ3⟩
          case measure =>
            rw [lenAt_eq HB3.out, lenAt_eq HB.out]
            simp
            omega
        · gi_wp2
          refine bodyPost_ret (results_none rfl _ _ _) rfl ?_
          exact ⟨⟨_, rfl⟩, .inr ⟨_, hJx3⟩⟩
      | some pr =>
        obtain ⟨p, r⟩ := pr
        obtain ⟨hp, h10⟩ := cut10_some hcut
        have HI := hide (index_str (hp ▸ index_mid r h10))
        have HX2 : Hid ((pre ++ [p ++ [10]]) ++ splitS r = splitS s) := by
          show _ = _
          rw [← HX.out, hp, splitS_mid p r h10]
          simp
        have HP : Hid (∃ post, pre ++ (p ++ [10]) :: post = splitS s) := ⟨splitS r, by rw [← HX.out, hp, splitS_mid p r h10]⟩
        have e1 : (⟨t.toArray⟩ : ByteArray).extract 0 (p.length + 1) = ⟨(p ++ [10]).toArray⟩ := by
          rw [ext_take, hp, take_midL p r]
        have e2 : (⟨t.toArray⟩ : ByteArray).extract (p.length + 1) t.length = ⟨r.toArray⟩ := by
          rw [ext_drop, hp, drop_midL p r]
        have hk : p.length + 1 + r.length = t.length := by rw [hp]; simp; omega
        clear hcut h0 h10 hp
        generalize p.length = k at *
        generalize p ++ [10] = x at *
        have hmx : Tryz.prog.follows .mixedOrders = true := by kernel_rfl
        gi_wp2_with (first | (refine ⟨trivial, ?_⟩; gi_at_call 136; refine (callsIn_wide.2 (HI.out _)).mono ?_; rintro e w' ⟨rfl, rfl⟩))
        gi_region
        obtain ⟨fn, tmps, assign, body, hy, hR⟩ := HY.out pre x (w'.setCell ⟨Bs, 0, none⟩ (.string ⟨r.toArray⟩)).drew (HD.out _ _ (HS.out _ _ _ HJ.out)) HP.out
        replace hR := hide hR
        gi_wp2
        refine hR.out.mono ?_
        clear hR hy
        rintro e W3 (⟨rfl, hJ3, hk3⟩ | ⟨rfl, hJx3⟩)
        · have HB3 : Hid (Blk W3 Bs #[.string ⟨r.toArray⟩] 9) := by
            show W3.heap[Bs]? = _
            rw [hk3]
            exact HB.out.set 0 _
          have HJ3 := hide hJ3
          clear hJ3 hk3
          gi_wp2
          go_roundw
          case rel => exact ⟨r, pre ++ [x], HB3, by omega, HX2, HJ3⟩
          case measure =>
            rw [lenAt_eq HB3.out, lenAt_eq HB.out]
            omega
        · gi_wp2
          refine bodyPost_ret (results_none rfl _ _ _) rfl ?_
          exact ⟨⟨_, rfl⟩, .inr ⟨_, hJx3⟩⟩
set_option maxHeartbeats 1000000 in
theorem range_lines {n : Nat} (h2 : 2 ≤ n) {g : Operand} {ps : Array Tmp} {assign body : Code} {Q : Exit → Act → World → Prop} {a : Act} {w : World} {Bs : Nat} {s : List UInt8} (hsl : s.length ≤ 1000000000)
    (hg : a.eval g = .func (.func 135) #[] #[.pointer (some ⟨Bs, 0, none⟩)]) (hps : ps.size = 1) (hB : Blk w Bs #[.string ⟨s.toArray⟩] 9)
    (I : List (List UInt8) → World → Prop) (Ix : Code → World → Prop)
    (hI : ∀ pre W W', I pre W → NoRow Bs w.heap.size W → Mvs (Own3 Bs w.heap.size) W W' → I pre W') (hIx : ∀ c W W', Ix c W → NoRow Bs w.heap.size W → Mvs (Own3 Bs w.heap.size) W W' → Ix c W') (h0 : I [] w) (a₁ : List UInt8 → Act)
    (hassign : ∀ (l : Nat) (x : List UInt8) (W : World) (K : Act → World → Prop), K (a₁ x) W →
      assign.wpIn (Fence.wide.inRound l) (n - 1 - 1) Tryz.prog (Exit.then K (fun _ _ _ => False)) { tmps := (ps.zip #[.string ⟨x.toArray⟩]).foldl (fun t (p, v) => t.setIfInBounds p v) a.tmps, defers := [] } W)
    (hbody : ∀ (l : Nat) (pre : List (List UInt8)) (x : List UInt8) (W : World), I pre W → (∃ post, pre ++ x :: post = splitS s) → w.heap.size + 1 < W.heap.size → (∃ r, W.heap[w.heap.size + 1]? = some (.loop r)) → (∃ v, Blk W Bs #[v] 9) → W.heap[w.heap.size]? = some (.deferred (some [])) →
      body.wpIn (Fence.wide.inRound l) (n - 1 - 1) Tryz.prog (rndPost Bs w.heap.size (I (pre ++ [x])) Ix W) (a₁ x) W)
    (hdone : ∀ (W : World), I (splitS s) W → W.heap[w.heap.size]? = some (.deferred (some [])) → Q .normal { a with defers := { target := .collected w.heap.size, args := #[] } :: a.defers } W)
    (hstop : ∀ (c : Code) (W : World), Ix c W → W.heap[w.heap.size]? = some (.deferred (some [])) → c.wpIn Fence.wide n Tryz.prog Q { a with defers := { target := .collected w.heap.size, args := #[] } :: a.defers } W) :
    (Code.rangeFunc g ps assign body).wpIn Fence.wide n Tryz.prog Q a w := by
  have hBlt := hB.lt
  refine wpIn_rangeFunc ?_
  intro fn hfn
  show ∃ l mark w₁ d w₁' f args w₂, (Instr.enterLoop fn a.tmps ps assign body none).run Tryz.prog w = _ ∧ _
  obtain ⟨rec, hrec⟩ : ∃ rec : LoopState → Option Code → Loop, rec = fun st pe => { state := st, pending := pe, fn, tmps := a.tmps, params := ps, assign, body, defers := w.heap.size } := ⟨_, rfl⟩
  obtain ⟨W1, hW1⟩ : ∃ W1, (w.alloc (.deferred (some []))).alloc (.loop (rec .ready none)) = W1 := ⟨_, rfl⟩
  have hL1 : W1.heap[w.heap.size + 1]? = some (.loop (rec .ready none)) := by
    rw [← hW1]; have := World.alloc_heap_new (w.alloc (.deferred (some []))) (.loop (rec .ready none)); rwa [World.size_alloc] at this
  have hK1 : W1.heap[w.heap.size]? = some (.deferred (some [])) := by
    rw [← hW1]; exact (Below.heap_alloc _ _ _ (by simp)).trans (World.alloc_heap_new w _)
  have hI1 : I [] W1 := by rw [← hW1]; exact hI _ _ _ h0 (NoRow.start hB) (((Mvs.refl _ _).alloc _).alloc _)
  have hB1 : Blk W1 Bs #[.string ⟨s.toArray⟩] 9 := by rw [← hW1]; exact (hB.alloc _).alloc _
  refine ⟨w.heap.size + 1, [{ target := .collected w.heap.size, args := #[] }], W1, { target := .fn (.func 135) #[.pointer (some ⟨Bs, 0, none⟩)], args := #[.func (.yield (w.heap.size + 1)) #[] #[]] }, W1, 135,
    #[.func (.yield (w.heap.size + 1)) #[] #[]] ++ #[.pointer (some ⟨Bs, 0, none⟩)], W1, ?_, ?_, ?_, ?_, fun _ => by omega, ?_⟩
  · rw [← hW1, hrec]; exact run_enterLoop_outer _ _ _ _ _
  · simp only [resolve, hg]
    simp [go_sem]
  · intro f' _; trivial
  · simp [invoke, go_sem]
  · refine (lines_iter (n - 1) (w.heap.size + 1) Bs (by omega) s hsl
      (fun pre W => I pre W ∧ W.heap[w.heap.size + 1]? = some (.loop (rec .ready none)) ∧ W.heap[w.heap.size]? = some (.deferred (some [])) ∧ ∃ v, Blk W Bs #[v] 9)
      (fun _ W => ∃ c, Ix c W ∧ W.heap[w.heap.size + 1]? = some (.loop (rec .done (some c))) ∧ W.heap[w.heap.size]? = some (.deferred (some [])) ∧ ∃ v, Blk W Bs #[v] 9)
      ?_ ?_ ?_ W1 hB1 ⟨hI1, hL1, hK1, _, hB1⟩).mono ?_
    · rintro pre W v ⟨hi, hl, hk, u, hu⟩
      exact ⟨hI _ _ _ hi (NoRow.mk3 ⟨u, hu⟩ hk ⟨_, hl⟩) ((Mvs.refl _ _).setCell _ _ (fun _ => .inl rfl)), (heap_setCell_other (by omega)).trans hl, (heap_setCell_other (by omega)).trans hk, _, hu.set 0 v⟩
    · rintro pre W ⟨hi, hl, hk, hu⟩
      exact ⟨hI _ _ _ hi (NoRow.mk3 hu hk ⟨_, hl⟩) (Mvs.refl _ _).drew, hl, hk, hu⟩
    · rintro pre x W ⟨hi, hl, hk, hu⟩ hpost
      have hlt : w.heap.size + 1 < W.heap.size := (Array.getElem?_eq_some_iff.1 hl).1
      have hy := run_yield (P := Tryz.prog) (args := #[.string ⟨x.toArray⟩]) hl (by rw [hrec]; exact hps.symm)
      rw [hrec] at hy
      refine ⟨fn, _, assign, body, hy, roundIn_of_wpIn hfn (hassign _ x W _ ⟨_, run_beginRound hl (by rw [hrec]), ?_⟩)⟩
      have hl2 : (W.putObj (w.heap.size + 1) (.loop { rec .ready none with state := .busy })).heap[w.heap.size + 1]? = some (.loop { rec .ready none with state := .busy }) := World.putObj_heap_same hlt
      have hk2 : (W.putObj (w.heap.size + 1) (.loop { rec .ready none with state := .busy })).heap[w.heap.size]? = some (.deferred (some [])) := (World.putObj_heap_other (by omega)).trans hk
      have hu2 : ∃ v, Blk (W.putObj (w.heap.size + 1) (.loop { rec .ready none with state := .busy })) Bs #[v] 9 := hu.imp fun v hv => (World.putObj_heap_other (by omega)).trans hv
      have hs2 : (W.putObj (w.heap.size + 1) (.loop { rec .ready none with state := .busy })).heap[Bs]? = W.heap[Bs]? := World.putObj_heap_other (by omega)
      refine wpIn_mono (hbody _ pre x _ (hI _ _ _ hi (NoRow.mk3 hu hk ⟨_, hl⟩) (mvs_putObj _ _ _ (.inr (.inr rfl)))) hpost (by simpa using hlt) ⟨_, hl2⟩ hu2 hk2) ?_
      have fin : ∀ (jump : Option Code) (W3 : World), Kept3 Bs w.heap.size (W.putObj (w.heap.size + 1) (.loop { rec .ready none with state := .busy })) W3 →
          (Instr.endRound (w.heap.size + 1) jump).run Tryz.prog W3 = .ok (.bool jump.isNone) (W3.putObj (w.heap.size + 1) (.loop (rec (if jump.isNone then .ready else .done) jump))) ∧
          (W3.putObj (w.heap.size + 1) (.loop (rec (if jump.isNone then .ready else .done) jump))).heap[w.heap.size + 1]? = some (.loop (rec (if jump.isNone then .ready else .done) jump)) ∧
          (W3.putObj (w.heap.size + 1) (.loop (rec (if jump.isNone then .ready else .done) jump))).heap[w.heap.size]? = some (.deferred (some [])) ∧
          (W3.putObj (w.heap.size + 1) (.loop (rec (if jump.isNone then .ready else .done) jump))).heap[Bs]? = W.heap[Bs]? ∧ NoRow Bs w.heap.size W3 := fun jump W3 hk3 => by
        have hl3 := (hk3 _ (.inr (.inr rfl))).trans hl2
        have hnr : NoRow Bs w.heap.size W3 := NoRow.mk3 (hu2.imp fun v hv => (hk3 _ (.inl rfl)).trans hv) ((hk3 _ (.inr (.inl rfl))).trans hk2) ⟨_, hl3⟩
        have := run_endRound (P := Tryz.prog) jump hl3
        rw [hrec] at this ⊢
        exact ⟨this, World.putObj_heap_same (Array.getElem?_eq_some_iff.1 hl3).1, (World.putObj_heap_other (by omega)).trans ((hk3 _ (.inr (.inl rfl))).trans hk2), (World.putObj_heap_other (by omega)).trans ((hk3 _ (.inl rfl)).trans hs2), hnr⟩
      rintro e a3 W3 hp
      cases e with
      | normal =>
        obtain ⟨hk3, hi3⟩ := hp
        obtain ⟨hr, hl4, hk4, hs4, hnr⟩ := fin none W3 hk3
        exact ⟨_, _, hr, .inl ⟨rfl, ⟨hI _ _ _ hi3 hnr (mvs_putObj _ _ _ (.inr (.inr rfl))), hl4, hk4, hu.imp fun v hv => hs4.trans hv⟩, hs4⟩⟩
      | ret =>
        obtain ⟨hk3, hi3⟩ := hp
        obtain ⟨hr, hl4, hk4, hs4, hnr⟩ := fin (some .ret) W3 hk3
        exact ⟨_, _, hr, .inr ⟨rfl, .ret, hIx _ _ _ hi3 hnr (mvs_putObj _ _ _ (.inr (.inr rfl))), hl4, hk4, hu.imp fun v hv => hs4.trans hv⟩⟩
      | exit id =>
        obtain ⟨hk3, hi3⟩ := hp
        obtain ⟨hr, hl4, hk4, hs4, hnr⟩ := fin (some (.exit id)) W3 hk3
        exact ⟨_, _, hr, .inr ⟨rfl, .exit id, hIx _ _ _ hi3 hnr (mvs_putObj _ _ _ (.inr (.inr rfl))), hl4, hk4, hu.imp fun v hv => hs4.trans hv⟩⟩
      | goto t =>
        obtain ⟨hk3, hi3⟩ := hp
        obtain ⟨hr, hl4, hk4, hs4, hnr⟩ := fin (some (.goto t)) W3 hk3
        exact ⟨_, _, hr, .inr ⟨rfl, .goto t, hIx _ _ _ hi3 hnr (mvs_putObj _ _ _ (.inr (.inr rfl))), hl4, hk4, hu.imp fun v hv => hs4.trans hv⟩⟩
      | panic ch => exact hp.elim
      | outgrown => exact hp.elim
    · rintro e W2 ⟨⟨v, rfl⟩, (⟨hi, hl, hk, hu⟩ | ⟨_, c, hi, hl, hk, hu⟩)⟩
      · exact ⟨none, _, by have := run_endLoop (P := Tryz.prog) hl (by rw [hrec]; simp); rw [hrec] at this; exact this, hdone _ (hI _ _ _ hi (NoRow.mk3 hu hk ⟨_, hl⟩) (mvs_putObj _ _ _ (.inr (.inr rfl)))) ((World.putObj_heap_other (by omega)).trans hk)⟩
      · exact ⟨some c, _, by have := run_endLoop (P := Tryz.prog) hl (by rw [hrec]; simp); rw [hrec] at this; exact this, hstop c _ (hIx _ _ _ hi (NoRow.mk3 hu hk ⟨_, hl⟩) (mvs_putObj _ _ _ (.inr (.inr rfl)))) ((World.putObj_heap_other (by omega)).trans hk)⟩
end Go.Proofs.YtegplihhbdmnbaaGreatDoor

end
section
namespace Go.Proofs.YtegplihhbdmnbaaGreatDoor
open Go.RowKit
theorem wpListIn_append_rw {F : Fence} {nn : Nat} {P : Program} {w : World} {ops : Array Oper} {rest : List Oper} {o : Oper} {a : Act} {Q : Exit → Act → World → Prop} (hgd : o.guard = none) (s x : Operand) (t tx : TypeId)
    (ho : o.op = .call { callee := .builtin .append, args := #[s, x], argTypes := #[t, tx] })
    (e : TypeId) (i : TypeInfo) (z : Value) (size bytes : Nat) (ht : P.underlying t = some (.slice e)) (hi : P.info? e = some i) (hz : i.zero = some z) (hsize : i.size = size) (hby : i.bytes = bytes) (hzs : z.cells.size = size)
    {v : Value} {n : Nat} {cs : List Value} {G : Option Nat} (hv : a.eval s = v) (h : Rw w size v n cs G) (xv : Value) (m : Nat) (news : List Value) (hx : a.eval x = xv) (hs : Src P size tx xv m news w) (h63 : n + m ≤ maxLen) (hbytes : (n + m) * bytes ≤ 140737488355328)
    (hK : ∀ v' w' G', Rw w' size v' (n + m) (cs ++ news) G' → Mvs (fun k => some k = G) w w' → (G' = G ∨ G' = some w.heap.size) → wpListIn F nn P ops Q rest (a.put o.dst v') w') : wpListIn F nn P ops Q (o :: rest) a w := by
  refine wpListIn_plain hgd fun K hK' => ?_
  obtain ⟨v', w', G', hrun, r1, r2, r3⟩ := run_append_rw (P := P) t tx o.type e i z size bytes ht hi hz hsize hby hzs h xv m news hs h63 hbytes
  unfold Oper.wpIn
  refine ⟨?_, ?_⟩
  · simp [Oper.about, ho, resolve, Target.leads, Sem.run_pure]
  · rw [Oper.semAt_plain F _ _ (by rw [ho]; intro c hc'; cases hc')]
    simp [execOp, ho, resolve, invoke, builtin, hv, hx, hrun, Result.andThen]
    exact hK' _ _ (hK v' w' G' r1 r2 r3)
end Go.Proofs.YtegplihhbdmnbaaGreatDoor

end
