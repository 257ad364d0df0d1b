/- Size of package quote. -/
/- Package post: Find, names, bytes, and the small questions of a state's form. -/
/- A state in form, place by place. -/
import Derived.Test.YtdbmaobjikjifaaGreatDoorRU20
import Derived.Test.YtdbmaobjikjifaaGreatDoorRU07
import Derived.Test.YtdbmaobjikjifaaGreatDoorRU08
import Derived.Test.YtdbmaobjikjifaaGreatDoorRU19
import Derived.Test.YtdbmaobjikjifaaGreatDoorRU02
section
namespace Go.Proofs.YtdbmaobjikjifaaGreatDoorR.Qq
open Go.RowKit Go.Shelf
attribute [local go_sem] Oper.semAt_some
theorem below_mvs {B : Nat} {w x y : World} {S : Nat → Prop} (h : Below B w x) (hm : Mvs S x y) (hs : ∀ k, k < B → ¬ S k) (hB : B ≤ w.heap.size) : Below B w y := h.trans (hm.below hs (Nat.le_trans hB h.size))
/-- How many of these lines need a mark. -/
def cnt (xs : List (List UInt8)) : Nat := (xs.filter nm).length
theorem cnt_snoc (xs : List (List UInt8)) (x : List UInt8) : cnt (xs ++ [x]) = cnt xs + if nm x then 1 else 0 := by
  unfold cnt
  rw [List.filter_append, List.length_append, List.filter_cons]
  split <;> simp
theorem cnt_le (xs : List (List UInt8)) : cnt xs ≤ xs.length := List.length_filter_le _ _
theorem pre_le {pre : List (List UInt8)} {x : List UInt8} {s : List UInt8} (h : ∃ post, pre ++ x :: post = splitS s) : pre.length < s.length ∧ x.length ≤ s.length := by
  obtain ⟨post, h⟩ := h
  have h1 := splitS_len s
  have h2 := splitS_flat s
  rw [← h] at h1 h2
  rw [← h2]
  simp at h1 ⊢
  rw [← h2] at h1
  simp at h1
  omega
set_option maxRecDepth 20000 in
set_option maxHeartbeats 1000000 in
theorem size_any (s : List UInt8) (w : World) (hs : s.length ≤ 1000000) :
    Calls Tryz.prog 145 #[.string ⟨s.toArray⟩] w fun e w' => e = .returned (.int .i64 ((s.length + 1 + cnt (splitS s) : Nat) : Int)) ∧ Below w.heap.size w w' := by
  refine (callsIn_wide (n := 5)).1 ?_
  refine callsIn_of_wp_marks Tryz.func145 rfl trivial ?_ rfl
  simp only [Tryz.ntmps145, List.size_toArray, List.length_cons, List.length_nil, Nat.reduceAdd, Nat.reduceSub, Array.replicate_succ, Array.replicate_zero, List.push_toArray, List.append_toArray, List.nil_append, List.cons_append]
  gi_wp2_with (first | (refine ⟨trivial, ?_⟩; gi_at_call 176; refine (callsIn_wide.2 (lines_any s _)).mono ?_; rintro e w' ⟨rfl, rfl⟩))
  obtain ⟨W0, hW0⟩ : ∃ W0, (w.alloc (.cells #[.int .i64 ((s.length : Int) + 1)] 3)).alloc (.cells #[.string ⟨s.toArray⟩] 9) = W0 := ⟨_, rfl⟩
  have hsz : W0.heap.size = w.heap.size + 2 := by rw [← hW0]; simp
  have hb0 : Below w.heap.size w W0 := by rw [← hW0]; exact ((Below.refl _ _).alloc (Nat.le_refl _) _).alloc (by simp) _
  have hBs : Blk W0 (w.heap.size + 1) #[.string ⟨s.toArray⟩] 9 := by rw [← hW0]; exact Blk.new1 _ _ _ _
  have hB0 : Blk W0 w.heap.size #[.int .i64 ((s.length + 1 + cnt [] : Nat) : Int)] 3 := by rw [← hW0]; exact (Blk.new w _ _).alloc _
  rw [hW0]
  clear hW0
  have hsub : ∀ k, k < w.heap.size + 1 → ¬ Own3 (w.heap.size + 1) W0.heap.size k := by rintro k hk (h | h | h) <;> omega
  refine range_lines (by omega) (s := s) (Bs := w.heap.size + 1) (by omega) rfl rfl hBs
    (fun pre W => Blk W w.heap.size #[.int .i64 ((s.length + 1 + cnt pre : Nat) : Int)] 3 ∧ Below w.heap.size w W) (fun _ _ => False)
    (fun pre W W' h _ hm => ⟨hm.blk h.1 (hsub _ (by omega)), below_mvs h.2 hm (fun k hk => hsub k (by omega)) (Nat.le_refl _)⟩) (fun _ _ _ h _ _ => h) ⟨hB0, hb0⟩
    (fun x => { tmps := #[.string ⟨s.toArray⟩, undef, .int .i64 0, .pointer (some ⟨w.heap.size, 0, none⟩), .string ⟨x.toArray⟩, .string ⟨s.toArray⟩, .int .i64 s.length, .int .i64 ((s.length : Int) + 1), .string ⟨s.toArray⟩,
      .func (.func 193) #[] #[.pointer (some ⟨w.heap.size + 1, 0, none⟩)], .string ⟨x.toArray⟩, undef, undef, undef, undef, undef], defers := [] }) ?assign ?body ?done ?stop
  case assign =>
    intro l x W K hK
    gi_wp2
    exact hK
  case body =>
    rintro l pre x W ⟨hi, hbW⟩ hpost hlt _ _ _
    have hp := pre_le hpost
    have hcl := cnt_le pre
    have HC := hide (cnt_snoc pre x)
    have hc := hi.cell
    have hf := hi.frozen
    have HI := hide hi
    have HB := hide hbW
    clear hi hbW hpost
    have HN := hide (needs_any x)
    cases hn : nm x <;> rw [hn] at HN HC
    · clear hn
      gi_wp2_with (refine ⟨trivial, ?_⟩; gi_at_call 177; refine (CallsIn.inRound l (callsIn_wide.2 (HN.out _))).mono ?_; rintro e w' ⟨rfl, rfl⟩)
      refine ⟨Kept3.refl _ _ _, ?_, HB.out⟩
      rw [HC.out]
      exact HI.out
    · clear hn
      gi_wp2_with (refine ⟨trivial, ?_⟩; gi_at_call 177; refine (CallsIn.inRound l (callsIn_wide.2 (HN.out _))).mono ?_; rintro e w' ⟨rfl, rfl⟩)
      refine ⟨?_, ?_, ?_⟩
      · intro k hk
        have : k ≠ w.heap.size := by rcases hk with h | h | h <;> omega
        exact heap_setCell_other this
      · have := HI.out.set 0 (.int .i64 (((s.length : Int) + 1 + cnt pre) + 1))
        rw [HC.out]
        simpa [Int.add_assoc] using this
      · exact HB.out.setCell (p := ⟨w.heap.size, 0, none⟩) (Nat.le_refl _) _
  case done =>
    rintro W ⟨hi, hbW⟩ hK
    have hc := hi.cell
    gi_wp2
    refine ⟨by simp, .inl ⟨_, _, rfl, run_takeDeferred hK, ?_⟩⟩
    exact ⟨_, results_tmp rfl _ _ _, rfl, hbW.trans (belowK_b (w := w) (Nat.le_refl _) W _ _ _ (by omega) hK rfl rfl)⟩
  case stop =>
    rintro c W h _
    exact h.elim
end Go.Proofs.YtdbmaobjikjifaaGreatDoorR.Qq

end
section
set_option linter.unusedVariables false
set_option linter.unusedSimpArgs false
namespace Go.Proofs.YtdbmaobjikjifaaGreatDoorR
open Go.RowKit Go.Shelf
set_option maxHeartbeats 1000000 in
theorem pnum_any (n : Int) (w : World) : Calls Tryz.prog 17 #[.int .i64 n] w fun e w' => e = .returned (.bool (poIn n 1 2147483648)) ∧ w' = w := by
  unfold poIn
  by_cases h0 : 1 ≤ n
  · by_cases h1 : n ≤ 2147483648
    · rw [decide_eq_true h0, decide_eq_true h1]
      go_enter Tryz.func17, Tryz.ntmps17
      go_wp2
      go_ret
      exact ⟨rfl, rfl⟩
    · rw [decide_eq_true h0, decide_eq_false h1]
      go_enter Tryz.func17, Tryz.ntmps17
      go_wp2
      exact bodyPost_ret (v := .bool false) (by simp [results, Tryz.results17, go_sem] <;> omega) rfl ⟨rfl, rfl⟩
  · rw [decide_eq_false h0]
    go_enter Tryz.func17, Tryz.ntmps17
    go_wp2
    go_ret
    exact ⟨rfl, rfl⟩
set_option maxHeartbeats 1000000 in
theorem pmom_any (n : Int) (w : World) : Calls Tryz.prog 77 #[.int .i64 n] w fun e w' => e = .returned (.bool (poMom n)) ∧ w' = w := by
  unfold poMom poIn
  by_cases h0 : 0 ≤ n
  · by_cases h1 : n ≤ 4102444799
    · rw [decide_eq_true h0, decide_eq_true h1]
      go_enter Tryz.func77, Tryz.ntmps77
      go_wp2
      go_ret
      exact ⟨rfl, rfl⟩
    · rw [decide_eq_true h0, decide_eq_false h1]
      go_enter Tryz.func77, Tryz.ntmps77
      go_wp2
      exact bodyPost_ret (v := .bool false) (by simp [results, Tryz.results77, go_sem] <;> omega) rfl ⟨rfl, rfl⟩
  · rw [decide_eq_false h0]
    go_enter Tryz.func77, Tryz.ntmps77
    go_wp2
    go_ret
    exact ⟨rfl, rfl⟩
set_option maxHeartbeats 1000000 in
theorem pflg_any (n : Int) (w : World) : Calls Tryz.prog 91 #[.int .i64 n] w fun e w' => e = .returned (.bool (poIn n 0 31)) ∧ w' = w := by
  unfold poIn
  by_cases h0 : 0 ≤ n
  · by_cases h1 : n ≤ 31
    · rw [decide_eq_true h0, decide_eq_true h1]
      go_enter Tryz.func91, Tryz.ntmps91
      go_wp2
      go_ret
      exact ⟨rfl, rfl⟩
    · rw [decide_eq_true h0, decide_eq_false h1]
      go_enter Tryz.func91, Tryz.ntmps91
      go_wp2
      exact bodyPost_ret (v := .bool false) (by simp [results, Tryz.results91, go_sem] <;> omega) rfl ⟨rfl, rfl⟩
  · rw [decide_eq_false h0]
    go_enter Tryz.func91, Tryz.ntmps91
    go_wp2
    go_ret
    exact ⟨rfl, rfl⟩
set_option maxHeartbeats 1000000 in
theorem pbody_any (s : List UInt8) (w : World) : Calls Tryz.prog 78 #[.string ⟨s.toArray⟩] w fun e w' => e = .returned (.bool (decide (s.length ≤ 100000))) ∧ w' = w := by
  have hsz := size_lit s
  by_cases h1 : s.length ≤ 100000
  · rw [decide_eq_true h1]
    go_enter Tryz.func78, Tryz.ntmps78
    go_wp2
    exact bodyPost_ret (v := .bool true) (by simp [results, Tryz.results78, go_sem] <;> omega) rfl ⟨rfl, rfl⟩
  · rw [decide_eq_false h1]
    go_enter Tryz.func78, Tryz.ntmps78
    go_wp2
    exact bodyPost_ret (v := .bool false) (by simp [results, Tryz.results78, go_sem] <;> omega) rfl ⟨rfl, rfl⟩
set_option maxRecDepth 20000 in
set_option maxHeartbeats 2000000 in
theorem pfind1_any {bv : Value} {b : Bx} {W : World} (h : BxV W bv b) (u : Int) (n : List UInt8) (pu pn : Nat) (hu : Blk W pu #[.int .i64 u] 3) (hn : Blk W pn #[.string ⟨n.toArray⟩] 9) :
    Calls Tryz.prog 16 #[bv, .pointer (some ⟨pu, 0, none⟩), .pointer (some ⟨pn, 0, none⟩)] W fun e w' => e = .returned (.bool (decide (b.user = u) && decide (b.name = n))) ∧ Below W.heap.size W w' := by
  obtain ⟨mv, rfl, hm⟩ := h
  obtain ⟨A, c, rfl⟩ := hm.form
  clear hm
  obtain ⟨x, m, va, nx, ms⟩ := b
  dsimp only
  generalize ms.length = k
  have HB := hide ((Below.refl W.heap.size W).alloc (Nat.le_refl _) (.cells #[.int .i64 x, .string ⟨m.toArray⟩, .int .i64 va, .int .i64 nx, .slice A k c] 45))
  have c0 := (hu.alloc (.cells #[.int .i64 x, .string ⟨m.toArray⟩, .int .i64 va, .int .i64 nx, .slice A k c] 45)).cell 0
  have c1 := (hn.alloc (.cells #[.int .i64 x, .string ⟨m.toArray⟩, .int .i64 va, .int .i64 nx, .slice A k c] 45)).cell 0
  clear hu hn
  simp only [List.getElem?_toArray, List.getElem?_cons_zero] at c0 c1
  by_cases hx : x = u
  · subst hx
    by_cases hm : m = n
    · subst hm
      rw [decide_eq_true rfl, decide_eq_true rfl]
      go_enter Tryz.func16, Tryz.ntmps16
      go_wp2
      go_ret
      exact ⟨rfl, HB.out⟩
    · rw [decide_eq_true rfl, decide_eq_false hm]
      have hmb : (m == n) = false := beq_eq_false_iff_ne.2 hm
      go_enter Tryz.func16, Tryz.ntmps16
      go_wp2
      exact bodyPost_ret (v := .bool false) (by simp [results, Tryz.results16, go_sem, hm]) rfl ⟨rfl, HB.out⟩
  · rw [decide_eq_false hx]
    have hxb : (x == u) = false := beq_eq_false_iff_ne.2 hx
    go_enter Tryz.func16, Tryz.ntmps16
    go_wp2
    go_ret
    exact ⟨rfl, HB.out⟩
set_option maxRecDepth 20000 in
set_option maxHeartbeats 2000000 in
theorem pfind_any {w : World} {v : Value} {s : Stt} (h : StR w v s) (u : Int) (n : List UInt8) (hl : s.boxes.length ≤ 1000000) :
    Calls Tryz.prog 11 #[v, .int .i64 u, .string ⟨n.toArray⟩] w fun e w' => e = .returned (.int .i64 (fiP (poFind s.boxes u n))) ∧ Below w.heap.size w w' := by
  have HX := hide h
  obtain ⟨bv, sv, qv, rfl, hb, hs, hq⟩ := h
  obtain ⟨A, c, rfl⟩ := hb.form
  obtain ⟨As, cs, rfl⟩ := hs.form
  obtain ⟨Aq, cq, rfl⟩ := hq.form
  replace hb := hide hb
  clear hs hq
  generalize s.subs.length = ns at *
  generalize s.queue.length = nq at *
  obtain ⟨l, hl0⟩ : ∃ l, Hid (s.boxes = l) := ⟨_, hide rfl⟩
  rw [hl0.out] at hb hl ⊢
  clear HX
  have HB0 : Hid (Below w.heap.size w (((w.alloc (.cells #[.slice A l.length c, .slice As ns cs, .slice Aq nq cq, .int .i64 s.nextValid, .int .i64 s.nextItem] 28)).alloc (.cells #[.int .i64 u] 3)).alloc (.cells #[.string ⟨n.toArray⟩] 9))) := (((Below.refl w.heap.size w).alloc (Nat.le_refl _) _).alloc (by simp) _).alloc (by simp; omega) _
  have HK0 : Hid (Blk (((w.alloc (.cells #[.slice A l.length c, .slice As ns cs, .slice Aq nq cq, .int .i64 s.nextValid, .int .i64 s.nextItem] 28)).alloc (.cells #[.int .i64 u] 3)).alloc (.cells #[.string ⟨n.toArray⟩] 9)) w.heap.size #[.slice A l.length c, .slice As ns cs, .slice Aq nq cq, .int .i64 s.nextValid, .int .i64 s.nextItem] 28) := ((Blk.new w _ _).alloc _).alloc _
  have HK1 : Hid (Blk (((w.alloc (.cells #[.slice A l.length c, .slice As ns cs, .slice Aq nq cq, .int .i64 s.nextValid, .int .i64 s.nextItem] 28)).alloc (.cells #[.int .i64 u] 3)).alloc (.cells #[.string ⟨n.toArray⟩] 9)) (w.heap.size + 1) #[.int .i64 u] 3) := (Blk.new1 w _ _ _).alloc _
  have HK2 : Hid (Blk (((w.alloc (.cells #[.slice A l.length c, .slice As ns cs, .slice Aq nq cq, .int .i64 s.nextValid, .int .i64 s.nextItem] 28)).alloc (.cells #[.int .i64 u] 3)).alloc (.cells #[.string ⟨n.toArray⟩] 9)) (w.heap.size + 2) #[.string ⟨n.toArray⟩] 9) := by
    have := Blk.new1 (w.alloc (.cells #[.slice A l.length c, .slice As ns cs, .slice Aq nq cq, .int .i64 s.nextValid, .int .i64 s.nextItem] 28)) (.cells #[.int .i64 u] 3) #[.string ⟨n.toArray⟩] 9
    rwa [World.size_alloc] at this
  have eg : ∀ args w, (callFunc 16 args).run Tryz.prog w = .ok (.enter 16 args) w := enters_of Tryz.func16 (by kernel_rfl) rfl
  have HC := hide (pidxBox_any (hb.out.below stb_bx HB0.out) hl (fun b => decide (b.user = u) && decide (b.name = n)) 16 #[] #[.pointer (some ⟨w.heap.size + 1, 0, none⟩), .pointer (some ⟨w.heap.size + 2, 0, none⟩)] eg (fun i hi v W hW hv => pfind1_any hv u n _ _ (HK1.out.below hW HK1.out.lt) (HK2.out.below hW HK2.out.lt)))
  change Hid (Calls _ _ _ _ fun e w' => e = .returned (.int .i64 (fiP (poFind l u n))) ∧ _) at HC
  generalize fiP (poFind l u n) = r at *
  have q0 := HK0.out.cell 0
  clear eg
  go_enter Tryz.func11, Tryz.ntmps11
  go_wp2_with (go_at_call 15; refine HC.out.mono ?_; rintro e w1 ⟨rfl, hb1⟩; replace hb1 := hide hb1)
  go_ret
  exact ⟨rfl, HB0.out.trans (hb1.out.mono HB0.out.size)⟩
set_option maxHeartbeats 1000000 in
theorem puser_any {w : World} {v : Value} {s : Stt} (h : StR w v s) (u : Int) (hl : s.boxes.length ≤ 1000000) :
    Calls Tryz.prog 34 #[v, .int .i64 u] w fun e w' => e = .returned (.bool (poUser s.boxes u)) ∧ Below w.heap.size w w' := by
  have HX := hide h
  obtain ⟨bv, sv, qv, rfl, hb, hs, hq⟩ := h
  obtain ⟨A, c, rfl⟩ := hb.form
  obtain ⟨As, cs, rfl⟩ := hs.form
  obtain ⟨Aq, cq, rfl⟩ := hq.form
  clear hb hs hq
  have HB := hide ((Below.refl w.heap.size w).alloc (Nat.le_refl _) (.cells #[.slice A s.boxes.length c, .slice As s.subs.length cs, .slice Aq s.queue.length cq, .int .i64 s.nextValid, .int .i64 s.nextItem] 28))
  have HF := hide (pfind_any (HX.out.below HB.out) u inboxU hl)
  have HV : Hid (poUser s.boxes u = decide (0 ≤ fiP (poFind s.boxes u inboxU))) := by
    show _ = _
    unfold poUser
    cases poFind s.boxes u inboxU with
    | none => rfl
    | some i => simp [fiP]
  generalize poUser s.boxes u = T at *
  generalize fiP (poFind s.boxes u inboxU) = f at *
  go_enter Tryz.func34, Tryz.ntmps34
  go_wp2_with (go_at_call 11; refine HF.out.mono ?_; rintro e w1 ⟨rfl, hb1⟩; replace hb1 := hide hb1)
  go_ret
  exact ⟨by rw [HV.out]; rfl, HB.out.trans (hb1.out.mono HB.out.size)⟩
/-- The name that a text is, or nothing. -/
def nmP (s : List UInt8) : List UInt8 := (boxO s).getD []
set_option maxHeartbeats 1000000 in
theorem pnameOf_any (s : List UInt8) (w : World) (ea : Addr) (hE : EN w ea) (hs : s.length ≤ 1000000) : Calls Tryz.prog 27 #[.string ⟨s.toArray⟩] w fun e w' => e = .returned (.string ⟨(nmP s).toArray⟩) ∧ Below w.heap.size w w' := by
  have H := hide (name_any s w ea (fun _ => hE) hs)
  obtain ⟨T, HT⟩ : ∃ T, Hid (T = nmP s) := ⟨_, hide rfl⟩
  rw [← HT.out]
  cases ho : boxO s with
  | none =>
    rw [ho] at H
    change Hid (Calls _ _ _ _ fun e w' => e = .returned (.tuple #[.string ⟨#[]⟩, .iface 216 (.pointer (some ea))]) ∧ _) at H
    have HF : Hid (T = []) := by show _ = _; rw [HT.out]; unfold nmP; rw [ho]; rfl
    clear ho
    go_enter Tryz.func27, Tryz.ntmps27
    go_wp2_with (go_at_call 65; refine H.out.mono ?_; rintro e w1 ⟨rfl, hb1⟩; replace hb1 := hide hb1)
    go_ret
    exact ⟨by rw [HF.out]; rfl, hb1.out⟩
  | some n =>
    rw [ho] at H
    change Hid (Calls _ _ _ _ fun e w' => e = .returned (.tuple #[.string ⟨n.toArray⟩, .nilIface]) ∧ _) at H
    have HF : Hid (T = n) := by show _ = _; rw [HT.out]; unfold nmP; rw [ho]; rfl
    clear ho
    go_enter Tryz.func27, Tryz.ntmps27
    go_wp2_with (go_at_call 65; refine H.out.mono ?_; rintro e w1 ⟨rfl, hb1⟩; replace hb1 := hide hb1)
    go_ret
    exact ⟨by rw [HF.out]; rfl, hb1.out⟩
theorem boxO_nil : boxO ([] : List UInt8) = none := by decide
set_option maxHeartbeats 1000000 in
theorem pisName_any (s : List UInt8) (w : World) (ea : Addr) (hE : EN w ea) (hs : s.length ≤ 1000000) : Calls Tryz.prog 39 #[.string ⟨s.toArray⟩] w fun e w' => e = .returned (.bool (poName s)) ∧ Below w.heap.size w w' := by
  have H := hide (pnameOf_any s w ea hE hs)
  have hsz := size_lit s
  obtain ⟨T, HT⟩ : ∃ T, Hid (T = poName s) := ⟨_, hide rfl⟩
  rw [← HT.out]
  by_cases h0 : s = []
  · subst h0
    have HF : Hid (T = false) := by show _ = _; rw [HT.out]; unfold poName; rw [boxO_nil]; rfl
    clear H
    go_enter Tryz.func39, Tryz.ntmps39
    go_wp2
    go_ret
    exact ⟨by rw [HF.out]; rfl, Below.refl _ _⟩
  · have hb0 : (s == []) = false := beq_eq_false_iff_ne.2 h0
    by_cases hn : nmP s = s
    · rw [hn] at H
      have HF : Hid (T = true) := by
        show _ = _
        rw [HT.out]
        unfold poName
        unfold nmP at hn
        cases ho : boxO s with
        | none => rw [ho] at hn; exact absurd hn.symm h0
        | some n => rw [ho] at hn; cases hn; simp
      clear hn
      go_enter Tryz.func39, Tryz.ntmps39
      go_wp2_with (go_at_call 27; refine H.out.mono ?_; rintro e w1 ⟨rfl, hb1⟩; replace hb1 := hide hb1)
      exact bodyPost_ret (v := .bool true) (by simp [results, Tryz.results39, go_sem, h0]) rfl ⟨by rw [HF.out], hb1.out⟩
    · have HF : Hid (T = false) := by
        show _ = _
        rw [HT.out]
        unfold poName
        unfold nmP at hn
        cases ho : boxO s with
        | none => simp
        | some n => rw [ho] at hn; simpa using hn
      generalize nmP s = n at *
      have hb : (n == s) = false := beq_eq_false_iff_ne.2 hn
      go_enter Tryz.func39, Tryz.ntmps39
      go_wp2_with (go_at_call 27; refine H.out.mono ?_; rintro e w1 ⟨rfl, hb1⟩; replace hb1 := hide hb1)
      exact bodyPost_ret (v := .bool false) (by simp [results, Tryz.results39, go_sem, h0, hn]) rfl ⟨by rw [HF.out], hb1.out⟩
end Go.Proofs.YtdbmaobjikjifaaGreatDoorR

end
section
set_option linter.unusedVariables false
namespace Go.Proofs.YtdbmaobjikjifaaGreatDoorR
theorem poBoxes_iff : ∀ l : List Bx, poBoxes l = true ↔ (∀ i j (hi : i < l.length) (hj : j < l.length), i < j → l[i].valid ≠ l[j].valid) ∧ (∀ i (h : i + 1 < l.length), poLt (l[i]'(by omega)).user (l[i]'(by omega)).name l[i + 1].user l[i + 1].name = true)
  | [] => by simp [poBoxes]
  | b :: r => by
    have ih := poBoxes_iff r
    unfold poBoxes
    rw [Bool.and_eq_true, Bool.and_eq_true, ih, List.all_eq_true]
    constructor
    · rintro ⟨⟨h1, h2⟩, h3, h4⟩
      refine ⟨fun i j hi hj hij => ?_, fun i h => ?_⟩
      · cases j with
        | zero => omega
        | succ j =>
          simp only [List.length_cons] at hi hj
          cases i with
          | zero =>
            have := h1 r[j] (List.getElem_mem _)
            simp only [List.getElem_cons_zero, List.getElem_cons_succ]
            intro e
            simp [e] at this
          | succ i =>
            simp only [List.getElem_cons_succ]
            exact h3 i j (by omega) (by omega) (by omega)
      · cases i with
        | zero =>
          cases r with
          | nil => simp at h
          | cons c t => exact h2
        | succ i =>
          simp only [List.length_cons] at h
          exact h4 i (by omega)
    · rintro ⟨h1, h2⟩
      refine ⟨⟨fun c hc => ?_, ?_⟩, fun i j hi hj hij => ?_, fun i h => ?_⟩
      · obtain ⟨j, hj, rfl⟩ := List.mem_iff_getElem.1 hc
        have := h1 0 (j + 1) (by simp) (by simp; omega) (by omega)
        simp only [List.getElem_cons_zero, List.getElem_cons_succ] at this
        simpa using fun e => this e.symm
      · cases r with
        | nil => rfl
        | cons c t => exact h2 0 (by simp)
      · have := h1 (i + 1) (j + 1) (by simp; omega) (by simp; omega) (by omega)
        simpa only [List.getElem_cons_succ] using this
      · have := h2 (i + 1) (by simp; omega)
        simpa only [List.getElem_cons_succ] using this
theorem poSubs_iff (s : Stt) : ∀ l : List Sb, poSubs s l = true ↔ (∀ i (hi : i < l.length), poName l[i].name = true ∧ poUser s.boxes l[i].user = true) ∧ (∀ i (h : i + 1 < l.length), poLt (l[i]'(by omega)).user (l[i]'(by omega)).name l[i + 1].user l[i + 1].name = true)
  | [] => by simp [poSubs]
  | b :: r => by
    have ih := poSubs_iff s r
    unfold poSubs
    rw [Bool.and_eq_true, Bool.and_eq_true, Bool.and_eq_true, ih]
    constructor
    · rintro ⟨⟨⟨h1, h2⟩, h3⟩, h4, h5⟩
      refine ⟨fun i hi => ?_, fun i h => ?_⟩
      · cases i with
        | zero => exact ⟨h1, h2⟩
        | succ i =>
          simp only [List.length_cons] at hi
          exact h4 i (by omega)
      · cases i with
        | zero =>
          cases r with
          | nil => simp at h
          | cons c t => exact h3
        | succ i =>
          simp only [List.length_cons] at h
          exact h5 i (by omega)
    · rintro ⟨h1, h2⟩
      have h0 := h1 0 (by simp)
      refine ⟨⟨⟨h0.1, h0.2⟩, ?_⟩, fun i hi => ?_, fun i h => ?_⟩
      · cases r with
        | nil => rfl
        | cons c t => exact h2 0 (by simp)
      · have := h1 (i + 1) (by simp; omega)
        simpa only [List.getElem_cons_succ] using this
      · have := h2 (i + 1) (by simp; omega)
        simpa only [List.getElem_cons_succ] using this
end Go.Proofs.YtdbmaobjikjifaaGreatDoorR

end
