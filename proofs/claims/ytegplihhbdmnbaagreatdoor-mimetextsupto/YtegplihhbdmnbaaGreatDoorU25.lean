/- kidPlaces of package mime. -/
import Derived.Test.YtegplihhbdmnbaaGreatDoorU23
import Derived.Test.YtegplihhbdmnbaaGreatDoorU24
namespace Go.Proofs.YtegplihhbdmnbaaGreatDoor
open Go.RowKit Go.Shelf
attribute [local go_sem] Oper.semAt_some
/-- A place's two cells. -/
def stC (k : Nat × Nat) : List Value := [.int .i64 (k.1 : Nat), .int .i64 (k.2 : Nat)]
theorem st_len (k : Nat × Nat) : (stC k).length = 2 := rfl
theorem src_st {w : World} (k : Nat × Nat) {c : Nat} : Src Tryz.prog 2 124 (.slice (some ⟨w.heap.size, 0, none⟩) 1 c) 1 (stC k) (w.alloc (.cells #[.int .i64 (k.1 : Nat), .int .i64 (k.2 : Nat)] 98)) := by
  refine Src.ofSlice _ Tryz.underlying124 ⟨w.heap.size, 0, none⟩ 1 c _ (by simp [stC]) (fun j u hu => ?_) (by simp [Value.oneCell', stC])
  rw [Go.WideShapes.add_plain, Nat.zero_add, World.cell?_alloc_mark]
  rw [← hu, ← List.getElem?_toArray]
  rfl
theorem src_stD {w : World} (k e : Nat) (E : Int) (hE : (e : Int) = E) {c : Nat} : Src Tryz.prog 2 124 (.slice (some ⟨w.heap.size, 0, none⟩) 1 c) 1 (stC (k, e)) (w.alloc (.cells #[.int .i64 (k : Nat), .int .i64 E] 98)).drew := by
  subst hE
  refine Src.ofSlice _ Tryz.underlying124 ⟨w.heap.size, 0, none⟩ 1 c _ (by simp [stC]) (fun j u hu => ?_) (by simp [Value.oneCell', stC])
  show (w.alloc _).cell? _ = _
  rw [Go.WideShapes.add_plain, Nat.zero_add, World.cell?_alloc_mark]
  rw [← hu, ← List.getElem?_toArray]
  rfl
theorem stInfo : (Tryz.prog.info? 98).map (fun i => (i.zero, i.size, i.bytes)) = some (some (.agg #[.int .i64 0, .int .i64 0]), 2, 16) := by kernel_rfl
theorem trimR_any (s : List UInt8) (w : World) (hs : s.length ≤ 1000000) :
    Calls Tryz.prog 115 #[.string ⟨s.toArray⟩, .string ⟨#[32, 9]⟩] w fun e w' => e = .returned (.string ⟨(Lib.trimRightS s [32, 9]).toArray⟩) ∧ Below w.heap.size w w' :=
  Any.strings_TrimRight_laid Tryz.lays162 (by kernel_rfl) ⟨s.toArray⟩ ⟨#[32, 9]⟩ w (by rw [size_lit]; omega) (by decide) (ascii_of_all (by decide))
/-- Where the kid under way begins; -1: there is none. -/
def curI : Option Nat → Int
  | some k => (k : Int)
  | none => -1
/-- The cells that stay as they are. -/
structure KF (w W : World) (m D C : List UInt8) (a b : Nat) : Prop where
  msg : Blk W w.heap.size #[.string ⟨m.toArray⟩] 9
  body : Blk W (w.heap.size + 1) #[.int .i64 (a : Nat), .int .i64 (b : Nat)] 98
  dl : Blk W (w.heap.size + 1 + 1 + 1) #[.string ⟨D.toArray⟩] 9
  cl : Blk W (w.heap.size + 1 + 1 + 1 + 1) #[.string ⟨C.toArray⟩] 9
  low : Below w.heap.size w W
theorem KF.keep {w W W' : World} {m D C : List UInt8} {a b : Nat} {S : Nat → Prop} (h : KF w W m D C a b) (hm : Mvs S W W') (h1 : ∀ k, k < w.heap.size + 5 → ¬ S k) : KF w W' m D C a b :=
  ⟨hm.blk h.msg (h1 _ (by omega)), hm.blk h.body (h1 _ (by omega)), hm.blk h.dl (h1 _ (by omega)), hm.blk h.cl (h1 _ (by omega)), below_mvs h.low hm (fun k hk => h1 k (by omega)) (Nat.le_refl _)⟩
/-- The state between two lines. -/
def KI (w : World) (m bd : List UInt8) (a b : Nat) (s : List UInt8) (KP : List (Nat × Nat)) (pre : List (List UInt8)) (W : World) : Prop :=
  ∃ (v : Value) (xs : List (Nat × Nat)) (cur : Option Nat), Blk W (w.heap.size + 1 + 1 + 1 + 1 + 1) #[v] 124 ∧ RowOf stC 2 (w.heap.size + 11) W v xs ∧ Blk W (w.heap.size + 1 + 1 + 1 + 1 + 1 + 1) #[.int .i64 ((a + pre.flatten.length : Nat) : Int)] 3 ∧ Blk W (w.heap.size + 1 + 1 + 1 + 1 + 1 + 1 + 1) #[.int .i64 (curI cur)] 3 ∧ Blk W (w.heap.size + 1 + 1) #[.slice none 0 0] 124 ∧ KF w W m (dlm bd) (clo bd) a b ∧
    xs.length ≤ 99 ∧ (∀ k, cur = some k → a ≤ k ∧ k ≤ a + pre.flatten.length) ∧ (∀ post, pre ++ post = splitS s → (xs ++ kidsP m bd b post (a + pre.flatten.length) cur).take 100 = KP)
theorem KI.keep {w W W' : World} {m bd : List UInt8} {a b : Nat} {s : List UInt8} {KP : List (Nat × Nat)} {pre : List (List UInt8)} {S : Nat → Prop} (h : KI w m bd a b s KP pre W) (hm : Mvs S W W') (h1 : ∀ k, k < w.heap.size + 8 → ¬ S k) (h2 : ∀ k, w.heap.size + 11 ≤ k → ¬ S k) : KI w m bd a b s KP pre W' := by
  obtain ⟨v, xs, cur, b1, b2, b3, b4, b5, b6, b7⟩ := h
  exact ⟨v, xs, cur, hm.blk b1 (h1 _ (by omega)), b2.keep hm h2, hm.blk b3 (h1 _ (by omega)), hm.blk b4 (h1 _ (by omega)), hm.blk b5 (h1 _ (by omega)), b6.keep hm (fun k hk => h1 k (by omega)), b7⟩
/-- What kidPlaces answers. -/
def KOut (KP : List (Nat × Nat)) (w : World) (e : Ending) (w' : World) : Prop := Below w.heap.size w w' ∧ ∃ v, e = .returned v ∧ RowOf stC 2 w.heap.size w' v KP
def KX (w : World) (KP : List (Nat × Nat)) (c : Code) (W : World) : Prop :=
  c = .ret ∧ Below w.heap.size w W ∧ ∃ v, Blk W (w.heap.size + 1 + 1) #[v] 124 ∧ RowOf stC 2 (w.heap.size + 11) W v KP
theorem KX.keep {w W W' : World} {KP : List (Nat × Nat)} {c : Code} {S : Nat → Prop} (h : KX w KP c W) (hm : Mvs S W W') (h1 : ∀ k, k < w.heap.size + 8 → ¬ S k) (h2 : ∀ k, w.heap.size + 11 ≤ k → ¬ S k) : KX w KP c W' := by
  obtain ⟨h3, h4, v, h5, h6⟩ := h
  exact ⟨h3, below_mvs h4 hm (fun k hk => h1 k (by omega)) (Nat.le_refl _), v, hm.blk h5 (h1 _ (by omega)), h6.keep hm h2⟩
theorem leaveK {W w : World} {KP : List (Nat × Nat)} {v1 : Value} {tmps : Array Value} {r1 : Nat} (h1 : Blk W r1 #[v1] 124) (hO : KOut KP w (.returned v1) W)
    (ht1 : tmps[6]? = some (.pointer (some ⟨r1, 0, none⟩)) := by rfl) :
    LeavesInM Fence.wide 5 Tryz.prog Tryz.f82 tmps (KOut KP w) [] .returning W := by
  have c1 := h1.cell
  refine ⟨v1, ?_, hO⟩
  simp [results, Tryz.results82, go_sem, ht1, c1]
theorem flat_snoc (pre : List (List UInt8)) (x : List UInt8) : (pre ++ [x]).flatten.length = pre.flatten.length + x.length := by simp
theorem post_bd {pre : List (List UInt8)} {x s : List UInt8} (h : ∃ post, pre ++ x :: post = splitS s) : pre.flatten.length + x.length ≤ s.length := by
  obtain ⟨post, h⟩ := h
  have := congrArg (fun l : List (List UInt8) => l.flatten.length) h
  simp only [List.flatten_append, List.flatten_cons, List.length_append, splitS_flat] at this
  omega
set_option linter.unusedSimpArgs false in
set_option linter.unusedVariables false in
set_option maxRecDepth 20000 in
set_option maxHeartbeats 4000000 in
theorem kids_any (m bd : List UInt8) (a b : Nat) (w : World) (hab : a ≤ b) (hbm : b ≤ m.length) (hm : m.length ≤ 1000000) (hbd : bd.length ≤ 1000000) :
    Calls Tryz.prog 82 #[.string ⟨m.toArray⟩, .agg #[.int .i64 (a : Nat), .int .i64 (b : Nat)], .string ⟨bd.toArray⟩] w (KOut ((kidsP m bd b (splitS (seg m a b)) a none).take 100) w) := by
  obtain ⟨i0, hi, hz0, hz1, hz2⟩ := info_three stInfo
  have hsm := size_lit m
  have hab' : (a : Int) ≤ b := by omega
  have hbm' : (b : Int) ≤ m.length := by omega
  have e1 : (⟨m.toArray⟩ : ByteArray).extract a b = ⟨(seg m a b).toArray⟩ := ext_mid m a b
  have hsl := seg_len m a b hbm
  obtain ⟨s, hs⟩ : ∃ s, seg m a b = s := ⟨_, rfl⟩
  rw [hs] at e1 hsl ⊢
  clear hs
  obtain ⟨KP, hKP⟩ : ∃ KP, (kidsP m bd b (splitS s) a none).take 100 = KP := ⟨_, rfl⟩
  have HKP := hide hKP
  rw [hKP]
  clear hKP
  have hcD : (⟨#[45, 45]⟩ : ByteArray) ++ ⟨bd.toArray⟩ = ⟨(dlm bd).toArray⟩ := cat_lit [45, 45] bd
  have hcC : (⟨(dlm bd).toArray⟩ : ByteArray) ++ ⟨#[45, 45]⟩ = ⟨(clo bd).toArray⟩ := cat_lit (dlm bd) [45, 45]
  have hDl : (dlm bd).length ≤ 1000002 := by simp [dlm]; omega
  have HSL := hide hsl
  have hsl2 : s.length ≤ 1000000 := by omega
  clear hsl
  refine (callsIn_wide (n := 5)).1 ?_
  refine callsIn_of_wp_marks Tryz.func82 rfl trivial ?_ rfl
  simp only [Tryz.ntmps82, List.size_toArray, List.length_cons, List.length_nil, Nat.reduceAdd, Nat.reduceSub, Array.replicate_succ, Array.replicate_zero, List.push_toArray, List.append_toArray, List.nil_append, List.cons_append]
  gi_wp2_with (first
      | (refine ⟨trivial, ?_⟩; gi_at_call 114; refine (callsIn_wide.2 (lines_any s _)).mono ?_; rintro e w' ⟨rfl, rfl⟩))
  obtain ⟨W0, hW0⟩ : ∃ W0, ((((((((w.alloc (.cells #[.string ⟨m.toArray⟩] 9)).alloc (.cells #[.int .i64 (a : Nat), .int .i64 (b : Nat)] 98)).alloc (.cells #[.slice none 0 0] 124)).alloc (.cells #[.string ⟨(dlm bd).toArray⟩] 9)).alloc (.cells #[.string ⟨(clo bd).toArray⟩] 9)).alloc (.cells #[.slice none 0 0] 124)).alloc (.cells #[.int .i64 (a : Nat)] 3)).alloc (.cells #[.int .i64 (-1)] 3)).alloc (.cells #[.string ⟨s.toArray⟩] 9) = W0 := ⟨_, rfl⟩
  have hsz : W0.heap.size = w.heap.size + 9 := by rw [← hW0]; simp
  have hBs : Blk W0 (w.heap.size + 1 + 1 + 1 + 1 + 1 + 1 + 1 + 1) #[.string ⟨s.toArray⟩] 9 := by
    rw [← hW0]
    have := Blk.new (((((((((w.alloc (.cells #[.string ⟨m.toArray⟩] 9)).alloc (.cells #[.int .i64 (a : Nat), .int .i64 (b : Nat)] 98)).alloc (.cells #[.slice none 0 0] 124)).alloc (.cells #[.string ⟨(dlm bd).toArray⟩] 9)).alloc (.cells #[.string ⟨(clo bd).toArray⟩] 9)).alloc (.cells #[.slice none 0 0] 124)).alloc (.cells #[.int .i64 (a : Nat)] 3)).alloc (.cells #[.int .i64 (-1)] 3))) #[.string ⟨s.toArray⟩] 9
    simpa using this
  have hI0 : KI w m bd a b s KP [] W0 := by
    have hn : ∀ (u : World) (o : Obj), Below w.heap.size w u → Below w.heap.size w (u.alloc o) := fun u o h => h.alloc h.size _
    rw [← hW0]
    refine ⟨.slice none 0 0, [], none, ?_, RowOf.nil _ _ _ _, ?_, ?_, ?_, ⟨?_, ?_, ?_, ?_, ?_⟩, by simp, (fun k h => by cases h), (fun post h => ?_)⟩
    · have := Blk.new (((((w.alloc (.cells #[.string ⟨m.toArray⟩] 9)).alloc (.cells #[.int .i64 (a : Nat), .int .i64 (b : Nat)] 98)).alloc (.cells #[.slice none 0 0] 124)).alloc (.cells #[.string ⟨(dlm bd).toArray⟩] 9)).alloc (.cells #[.string ⟨(clo bd).toArray⟩] 9)) #[.slice none 0 0] 124
      simp only [World.size_alloc] at this
      exact ((this.alloc _).alloc _).alloc _
    · have := Blk.new ((((((w.alloc (.cells #[.string ⟨m.toArray⟩] 9)).alloc (.cells #[.int .i64 (a : Nat), .int .i64 (b : Nat)] 98)).alloc (.cells #[.slice none 0 0] 124)).alloc (.cells #[.string ⟨(dlm bd).toArray⟩] 9)).alloc (.cells #[.string ⟨(clo bd).toArray⟩] 9)).alloc (.cells #[.slice none 0 0] 124)) #[.int .i64 (a : Nat)] 3
      simp only [World.size_alloc] at this
      exact (this.alloc _).alloc _
    · have := Blk.new (((((((w.alloc (.cells #[.string ⟨m.toArray⟩] 9)).alloc (.cells #[.int .i64 (a : Nat), .int .i64 (b : Nat)] 98)).alloc (.cells #[.slice none 0 0] 124)).alloc (.cells #[.string ⟨(dlm bd).toArray⟩] 9)).alloc (.cells #[.string ⟨(clo bd).toArray⟩] 9)).alloc (.cells #[.slice none 0 0] 124)).alloc (.cells #[.int .i64 (a : Nat)] 3)) #[.int .i64 (-1)] 3
      simp only [World.size_alloc] at this
      exact this.alloc _
    · exact ((((((Blk.new2 w _ _ _ _).alloc _).alloc _).alloc _).alloc _).alloc _).alloc _
    · exact ((((((((Blk.new w _ _).alloc _).alloc _).alloc _).alloc _).alloc _).alloc _).alloc _).alloc _
    · exact (((((((Blk.new1 w _ _ _).alloc _).alloc _).alloc _).alloc _).alloc _).alloc _).alloc _
    · have := Blk.new (((w.alloc (.cells #[.string ⟨m.toArray⟩] 9)).alloc (.cells #[.int .i64 (a : Nat), .int .i64 (b : Nat)] 98)).alloc (.cells #[.slice none 0 0] 124)) #[.string ⟨(dlm bd).toArray⟩] 9
      simp only [World.size_alloc] at this
      exact ((((this.alloc _).alloc _).alloc _).alloc _).alloc _
    · have := Blk.new ((((w.alloc (.cells #[.string ⟨m.toArray⟩] 9)).alloc (.cells #[.int .i64 (a : Nat), .int .i64 (b : Nat)] 98)).alloc (.cells #[.slice none 0 0] 124)).alloc (.cells #[.string ⟨(dlm bd).toArray⟩] 9)) #[.string ⟨(clo bd).toArray⟩] 9
      simp only [World.size_alloc] at this
      exact (((this.alloc _).alloc _).alloc _).alloc _
    · exact hn _ _ (hn _ _ (hn _ _ (hn _ _ (hn _ _ (hn _ _ (hn _ _ (hn _ _ (hn _ _ (Below.refl _ _)))))))))
    · rw [List.nil_append] at h
      rw [h, List.nil_append]
      exact HKP.out
  rw [hW0]
  clear hW0 hcD hcC hDl
  have HSZ := hide hsz
  have hsub : ∀ k, (k < w.heap.size + 8 ∨ w.heap.size + 11 ≤ k) → ¬ Own3 (w.heap.size + 1 + 1 + 1 + 1 + 1 + 1 + 1 + 1) W0.heap.size k := by rintro k hk (h | h | h) <;> omega
  clear hsz
  refine range_lines (by omega) (s := s) (Bs := w.heap.size + 1 + 1 + 1 + 1 + 1 + 1 + 1 + 1) (by omega) rfl rfl hBs (KI w m bd a b s KP) (KX w KP)
    (fun pre W W' h _ hm => h.keep hm (fun k hk => hsub k (.inl hk)) (fun k hk => hsub k (.inr hk)))
    (fun c W W' h _ hm => h.keep hm (fun k hk => hsub k (.inl hk)) (fun k hk => hsub k (.inr hk))) hI0
    (fun x => { tmps := #[.string ⟨m.toArray⟩, .agg #[.int .i64 (a : Nat), .int .i64 (b : Nat)], .string ⟨bd.toArray⟩, .pointer (some ⟨w.heap.size, 0, none⟩), .pointer (some ⟨w.heap.size + 1, 0, none⟩), undef, .pointer (some ⟨w.heap.size + 1 + 1, 0, none⟩), .pointer (some ⟨w.heap.size + 1 + 1 + 1, 0, none⟩), .pointer (some ⟨w.heap.size + 1 + 1 + 1 + 1, 0, none⟩), .pointer (some ⟨w.heap.size + 1 + 1 + 1 + 1 + 1, 0, none⟩), .pointer (some ⟨w.heap.size + 1 + 1 + 1 + 1 + 1 + 1, 0, none⟩), .pointer (some ⟨w.heap.size + 1 + 1 + 1 + 1 + 1 + 1 + 1, 0, none⟩), .string ⟨x.toArray⟩, undef, undef, .string ⟨bd.toArray⟩, .string ⟨(dlm bd).toArray⟩, .string ⟨bd.toArray⟩, .string ⟨(dlm bd).toArray⟩, .string ⟨(clo bd).toArray⟩, .pointer (some ⟨w.heap.size + 1, 0, none⟩), .int .i64 (a : Nat), .string ⟨m.toArray⟩, .pointer (some ⟨w.heap.size + 1, 0, none⟩), .int .i64 (a : Nat), .pointer (some ⟨w.heap.size + 1, 1, none⟩), .int .i64 (b : Nat), .string ⟨s.toArray⟩, .func (.func 135) #[] #[.pointer (some ⟨w.heap.size + 1 + 1 + 1 + 1 + 1 + 1 + 1 + 1, 0, none⟩)], .string ⟨x.toArray⟩, undef, undef, undef, undef, undef, undef, undef, undef, undef, undef, undef, undef, undef, undef, undef, undef, undef, undef, undef, undef, undef, undef, undef, undef, undef, undef, undef, undef, undef, undef, undef, undef, undef, undef, undef, undef, undef, undef, undef, undef, undef, undef, undef, undef, undef, undef, undef, undef, undef, undef, undef], defers := [] }) ?assign ?body ?done ?stop
  case assign =>
    intro l x W K hK
    gi_wp2
    exact hK
  case body =>
    rintro l pre x W ⟨v, xs, cur, b1, b2, b6, b7, b8, b9, b10, b11, b12⟩ hpost hlt hr hu hd
    have hpb := post_bd hpost
    have HOL : Hid (∀ k, Own3 (w.heap.size + 1 + 1 + 1 + 1 + 1 + 1 + 1 + 1) W0.heap.size k → k < W.heap.size) := fun k hk => by
      obtain ⟨vu, hu⟩ := hu
      have := hu.lt
      have := HSZ.out
      rcases hk with h | h | h <;> omega
    have HPo := hide hpost
    have B1 := hide b1
    have HRow := hide b2
    have B6 := hide b6
    have B7 := hide b7
    have B2 := hide b8
    have KFx := hide b9
    have hxl := b10
    have HCu := hide b11
    have HM := hide b12
    have hbsz := b9.low.size
    have hx1 : x.length ≤ 1000000 := by omega
    have HWe := hide (fun w => wend_any x w hx1)
    have HTr := hide (fun w => trimR_any (txt x) w (by have := txt_len x; omega))
    have HTe : Hid (trimE x = Lib.trimRightS (txt x) [32, 9]) := rfl
    rw [← HTe.out] at HTr
    obtain ⟨n, hn⟩ : ∃ n, a + pre.flatten.length = n := ⟨_, rfl⟩
    have HN := hide hn
    rw [hn] at B6 HM HCu
    have hnb : n + x.length ≤ m.length := by
      have := HSL.out
      omega
    obtain ⟨ln, hln⟩ : ∃ ln, x.length = ln := ⟨_, rfl⟩
    have HLN := hide hln
    have hszx := size_lit x
    rw [hln] at hszx hnb hx1
    have HB6' : Hid (((a + (pre ++ [x]).flatten.length : Nat) : Int) = (n : Int) + ln) := by
      show _ = _
      rw [flat_snoc, ← HN.out, ← HLN.out]
      omega
    have HNn : Hid (a + (pre ++ [x]).flatten.length = n + ln) := by
      show _ = _
      rw [flat_snoc, ← HN.out, ← HLN.out]
      omega
    obtain ⟨A, c, rfl⟩ := b2.form
    have hDC : (dlm bd == clo bd) = false := beq_eq_false_iff_ne.2 (fun e => clo_ne bd e.symm)
    have hCD : (clo bd == dlm bd) = false := beq_eq_false_iff_ne.2 (clo_ne bd)
    obtain ⟨D, hD⟩ : ∃ D, dlm bd = D := ⟨_, rfl⟩
    obtain ⟨C, hC⟩ : ∃ C, clo bd = C := ⟨_, rfl⟩
    have HDD := hide hD
    have HCC := hide hC
    rw [hD, hC] at hDC hCD KFx ⊢
    clear b1 b2 b6 b7 b8 b9 b11 b12 hpost hu hd hr hn hln hD hC
    obtain ⟨T, hT⟩ : ∃ T, trimE x = T := ⟨_, rfl⟩
    have HTT := hide hT
    rw [hT] at HTr
    clear hT
    have hc6 := B6.out.cell 0
    by_cases h1 : T = D
    · subst h1
      cases cur with
      | none =>
        have HM2 : Hid (∀ post, (pre ++ [x]) ++ post = splitS s → (xs ++ kidsP m bd b post (a + (pre ++ [x]).flatten.length) (some (n + ln))).take 100 = KP) := fun post hp => by
          have := HM.out (x :: post) (by simpa using hp)
          rw [kidsP, HTT.out, HDD.out, if_pos rfl] at this
          rw [HNn.out, ← HLN.out]
          exact this
        have hx100 : ¬ ((xs.length : Int) = 100) := by omega
        have hm1 : ¬ ((-1 : Int) ≥ 0) := by omega
        have hcur : curI none = -1 := rfl
        rw [hcur] at B7
        clear HM hcur
        gi_wp2_with (first
          | (refine ⟨trivial, ?_⟩; gi_at_call 116; refine (CallsIn.inRound l (callsIn_wide.2 (HWe.out _))).mono ?_; rintro e w1 ⟨rfl, hw1⟩; obtain rfl := hw1.symm))
        refine ⟨trivial, ?_⟩
        refine (CallsIn.inRound l (callsIn_wide.2 (HTr.out _))).mono ?_
        rintro e w2 ⟨rfl, hb2⟩
        have q1 := hide (B1.out.below hb2 B1.out.lt)
        have q6 := hide (B6.out.below hb2 B6.out.lt)
        have q7 := hide (B7.out.below hb2 B7.out.lt)
        have q2 := hide (B2.out.below hb2 B2.out.lt)
        have qF := hide (KFx.out.keep (S := fun _ => False) (Mvs.of_below hb2) (fun _ _ c => c))
        have qR := hide (HRow.out.below hb2)
        have c1 := q1.out.cell 0
        have f1 := q1.out.frozen 0
        have l1 := q1.out.lt
        have c6 := q6.out.cell 0
        have f6 := q6.out.frozen 0
        have l6 := q6.out.lt
        have c7 := q7.out.cell 0
        have f7 := q7.out.frozen 0
        have l7 := q7.out.lt
        have c2 := q2.out.cell 0
        have f2 := q2.out.frozen 0
        have l2 := q2.out.lt
        have cD := qF.out.dl.cell 0
        have cC := qF.out.cl.cell 0
        have cM := qF.out.msg.cell 0
        have hsw2 := hb2.size
        have HK2 : Hid (Kept3 (w.heap.size + 1 + 1 + 1 + 1 + 1 + 1 + 1 + 1) W0.heap.size W w2) := fun k hk => hb2.block k (HOL.out k hk)
        clear hb2
        gi_wp2
        refine ⟨?_, ?_⟩
        · exact HK2.out.trans (fun q hq => (heap_setCell_other (by have := hsub (w.heap.size + 1 + 1 + 1 + 1 + 1 + 1) (.inl (by omega)); intro e; rw [e] at hq; exact this hq)).trans (heap_setCell_other (by have := hsub (w.heap.size + 1 + 1 + 1 + 1 + 1 + 1 + 1) (.inl (by omega)); intro e; rw [e] at hq; exact this hq)))
        · have hmv : Mvs (fun q => q = w.heap.size + 1 + 1 + 1 + 1 + 1 + 1 ∨ q = w.heap.size + 1 + 1 + 1 + 1 + 1 + 1 + 1) w2 ((w2.setCell ⟨w.heap.size + 1 + 1 + 1 + 1 + 1 + 1 + 1, 0, none⟩ (.int .i64 ((n : Int) + ln))).setCell ⟨w.heap.size + 1 + 1 + 1 + 1 + 1 + 1, 0, none⟩ (.int .i64 ((n : Int) + ln))) := ((Mvs.refl _ _).setCell _ _ (fun _ => .inr rfl)).setCell _ _ (fun _ => .inl rfl)
          refine ⟨_, xs, some (n + ln), hmv.blk q1.out (by omega), qR.out.keep hmv (fun q hq => by omega), ?_, ?_, hmv.blk q2.out (by omega), ?_, hxl, ?_, HM2.out⟩
          · rw [HB6'.out]
            exact (q6.out.set_other ⟨w.heap.size + 1 + 1 + 1 + 1 + 1 + 1 + 1, 0, none⟩ _ (by dsimp only; omega)).set 0 _
          · have : curI (some (n + ln)) = (n : Int) + ln := by
              show ((n + ln : Nat) : Int) = _
              omega
            rw [this]
            exact (q7.out.set 0 _).set_other ⟨w.heap.size + 1 + 1 + 1 + 1 + 1 + 1, 0, none⟩ _ (by dsimp only; omega)
          · rw [HDD.out, HCC.out]
            exact qF.out.keep hmv (fun q hq => by omega)
          · intro q hq
            cases hq
            rw [HNn.out]
            have := HN.out
            omega

      | some k =>
        have HM1 : Hid (∀ post, (pre ++ [x]) ++ post = splitS s → (xs ++ ([kidE m n k] ++ kidsP m bd b post (a + (pre ++ [x]).flatten.length) (some (n + ln)))).take 100 = KP) := fun post hp => by
          have := HM.out (x :: post) (by simpa using hp)
          rw [kidsP, HTT.out, HDD.out, if_pos rfl] at this
          rw [HNn.out, ← HLN.out]
          exact this
        have hcur : curI (some k) = (k : Int) := rfl
        rw [hcur] at B7
        clear HM hcur
        gi_wp2_with (first
          | (refine ⟨trivial, ?_⟩; gi_at_call 116; refine (CallsIn.inRound l (callsIn_wide.2 (HWe.out _))).mono ?_; rintro e w1 ⟨rfl, hw1⟩; obtain rfl := hw1.symm))
        refine ⟨trivial, ?_⟩
        refine (CallsIn.inRound l (callsIn_wide.2 (HTr.out _))).mono ?_
        rintro e w2 ⟨rfl, hb2⟩
        have q1 := hide (B1.out.below hb2 B1.out.lt)
        have q6 := hide (B6.out.below hb2 B6.out.lt)
        have q7 := hide (B7.out.below hb2 B7.out.lt)
        have q2 := hide (B2.out.below hb2 B2.out.lt)
        have qF := hide (KFx.out.keep (S := fun _ => False) (Mvs.of_below hb2) (fun _ _ c => c))
        have qR := hide (HRow.out.below hb2)
        have c1 := q1.out.cell 0
        have f1 := q1.out.frozen 0
        have l1 := q1.out.lt
        have c6 := q6.out.cell 0
        have f6 := q6.out.frozen 0
        have l6 := q6.out.lt
        have c7 := q7.out.cell 0
        have f7 := q7.out.frozen 0
        have l7 := q7.out.lt
        have c2 := q2.out.cell 0
        have f2 := q2.out.frozen 0
        have l2 := q2.out.lt
        have cD := qF.out.dl.cell 0
        have cC := qF.out.cl.cell 0
        have cM := qF.out.msg.cell 0
        have hsw2 := hb2.size
        have HK2 : Hid (Kept3 (w.heap.size + 1 + 1 + 1 + 1 + 1 + 1 + 1 + 1) W0.heap.size W w2) := fun k hk => hb2.block k (HOL.out k hk)
        clear hb2
        have hgk := HCu.out k rfl
        have hkn : (k : Int) ≤ n := by omega
        have hnm : (n : Int) ≤ m.length := by omega
        have es : (⟨m.toArray⟩ : ByteArray).extract k n = ⟨(seg m k n).toArray⟩ := ext_mid m k n
        have hsg := seg_len m k n (by omega)
        have HWs := hide (fun w => wend_any (seg m k n) w (by omega))
        have HKE : Hid (kidE m n k = (k, k + (txt (seg m k n)).length)) := rfl
        have htl := txt_len (seg m k n)
        obtain ⟨TX, hTX⟩ : ∃ TX, txt (seg m k n) = TX := ⟨_, rfl⟩
        rw [hTX] at HWs HKE htl
        obtain ⟨LT, hLT⟩ : ∃ LT, TX.length = LT := ⟨_, rfl⟩
        rw [hLT] at HKE htl
        have hzt := size_lit TX
        rw [hLT] at hzt
        obtain ⟨SG, hSG⟩ : ∃ SG, seg m k n = SG := ⟨_, rfl⟩
        rw [hSG] at es HWs hsg htl
        have hkl : IntKind.i64.wrap ((k : Int) + LT) = (k : Int) + LT := wrap_nat (by omega) (by omega)
        have hk0 : (k : Int) ≥ 0 := by omega
        obtain ⟨G, hrw, hg⟩ := qR.out
        have HRw := hide hrw
        have HG := hide hg
        have hGn : ∀ q, q < w.heap.size + 11 → ¬ some q = G := fun q hq e => by have := HG.out q e.symm; omega
        clear hTX hLT hSG hrw hg
        have c7' : w2.cell? ⟨w.heap.size + 1 + 1 + 1 + 1 + 1 + 1 + 1, 0, none⟩ = some (.int .i64 (k : Nat)) := c7
        gi_wp2
        refine regionI 13 (fun W => W.cell? ⟨w.heap.size + 1 + 1 + 1 + 1 + 1, 0, none⟩ = some (.slice A xs.length c) ∧ W.cell? ⟨w.heap.size + 1 + 1 + 1 + 1 + 1 + 1 + 1, 0, none⟩ = some (.int .i64 (k : Nat)) ∧ W.cell? ⟨w.heap.size, 0, none⟩ = some (.string ⟨m.toArray⟩) ∧ W.cell? ⟨w.heap.size + 1 + 1 + 1 + 1 + 1 + 1, 0, none⟩ = some (.int .i64 (n : Nat))) (by kernel_rfl) (by kernel_rfl) ?_
        have HT0 : w2.drew.cell? ⟨w.heap.size + 1 + 1 + 1 + 1 + 1, 0, none⟩ = some (.slice A xs.length c) ∧ w2.drew.cell? ⟨w.heap.size + 1 + 1 + 1 + 1 + 1 + 1 + 1, 0, none⟩ = some (.int .i64 (k : Nat)) ∧ w2.drew.cell? ⟨w.heap.size, 0, none⟩ = some (.string ⟨m.toArray⟩) ∧ w2.drew.cell? ⟨w.heap.size + 1 + 1 + 1 + 1 + 1 + 1, 0, none⟩ = some (.int .i64 (n : Nat)) := ⟨c1, c7', cM, c6⟩
        have HTH : Hid (∀ W (S : Nat → Prop), Mvs S w2 W → (∀ q, q < w.heap.size + 11 → ¬ S q) → W.cell? ⟨w.heap.size + 1 + 1 + 1 + 1 + 1, 0, none⟩ = some (.slice A xs.length c) ∧ W.cell? ⟨w.heap.size + 1 + 1 + 1 + 1 + 1 + 1 + 1, 0, none⟩ = some (.int .i64 (k : Nat)) ∧ W.cell? ⟨w.heap.size, 0, none⟩ = some (.string ⟨m.toArray⟩) ∧ W.cell? ⟨w.heap.size + 1 + 1 + 1 + 1 + 1 + 1, 0, none⟩ = some (.int .i64 (n : Nat))) := fun W S hm hS => ⟨(hm.blk q1.out (hS _ (by omega))).cell 0, (hm.blk q7.out (hS _ (by omega))).cell 0, (hm.blk qF.out.msg (hS _ (by omega))).cell 0, (hm.blk q6.out (hS _ (by omega))).cell 0⟩
        clear c1 c7 c7' cM c6
        refine takeL (i := 0) (v := (.slice A xs.length c)) rfl (by kernel_rfl) (by kernel_rfl) (by kernel_rfl) (by kernel_rfl) (by kernel_rfl) (fun _ _ _ h => absurd h.1 (by simp)) HT0 (Or.inl ⟨by rfl, fun W hW => by obtain ⟨t0, t1, t2, t3⟩ := hW; go_simp⟩) ?_
        simp only [Act.put, List.getElem_toArray, List.getElem_cons_succ, List.getElem_cons_zero, List.setIfInBounds_toArray, List.set_cons_zero, List.set_cons_succ]
        refine takeL (i := 1) (v := (.int .i64 (k : Nat))) rfl (by kernel_rfl) (by kernel_rfl) (by kernel_rfl) (by kernel_rfl) (by kernel_rfl) (fun _ _ _ h => absurd h.1 (by simp)) HT0 (Or.inl ⟨by rfl, fun W hW => by obtain ⟨t0, t1, t2, t3⟩ := hW; go_simp⟩) ?_
        simp only [Act.put, List.getElem_toArray, List.getElem_cons_succ, List.getElem_cons_zero, List.setIfInBounds_toArray, List.set_cons_zero, List.set_cons_succ]
        refine takeL (i := 2) (v := (.int .i64 (k : Nat))) rfl (by kernel_rfl) (by kernel_rfl) (by kernel_rfl) (by kernel_rfl) (by kernel_rfl) (fun _ _ _ h => absurd h.1 (by simp)) HT0 (Or.inl ⟨by rfl, fun W hW => by obtain ⟨t0, t1, t2, t3⟩ := hW; go_simp⟩) ?_
        simp only [Act.put, List.getElem_toArray, List.getElem_cons_succ, List.getElem_cons_zero, List.setIfInBounds_toArray, List.set_cons_zero, List.set_cons_succ]
        refine takeL (i := 3) (v := (.string ⟨m.toArray⟩)) rfl (by kernel_rfl) (by kernel_rfl) (by kernel_rfl) (by kernel_rfl) (by kernel_rfl) (fun _ _ _ h => absurd h.1 (by simp)) HT0 (Or.inl ⟨by rfl, fun W hW => by obtain ⟨t0, t1, t2, t3⟩ := hW; go_simp⟩) ?_
        simp only [Act.put, List.getElem_toArray, List.getElem_cons_succ, List.getElem_cons_zero, List.setIfInBounds_toArray, List.set_cons_zero, List.set_cons_succ]
        refine takeL (i := 4) (v := (.int .i64 (k : Nat))) rfl (by kernel_rfl) (by kernel_rfl) (by kernel_rfl) (by kernel_rfl) (by kernel_rfl) (fun _ _ _ h => absurd h.1 (by simp)) HT0 (Or.inl ⟨by rfl, fun W hW => by obtain ⟨t0, t1, t2, t3⟩ := hW; go_simp⟩) ?_
        simp only [Act.put, List.getElem_toArray, List.getElem_cons_succ, List.getElem_cons_zero, List.setIfInBounds_toArray, List.set_cons_zero, List.set_cons_succ]
        refine takeL (i := 5) (v := (.int .i64 (n : Nat))) rfl (by kernel_rfl) (by kernel_rfl) (by kernel_rfl) (by kernel_rfl) (by kernel_rfl) (fun _ _ _ h => absurd h.1 (by simp)) HT0 (Or.inl ⟨by rfl, fun W hW => by obtain ⟨t0, t1, t2, t3⟩ := hW; go_simp⟩) ?_
        simp only [Act.put, List.getElem_toArray, List.getElem_cons_succ, List.getElem_cons_zero, List.setIfInBounds_toArray, List.set_cons_zero, List.set_cons_succ]
        refine takeW (i := 6) (v := (.string ⟨SG.toArray⟩)) rfl (by kernel_rfl) (by kernel_rfl) (by kernel_rfl) rfl (fun _ _ _ h => absurd h.1 (by simp)) (fun _ => HT0) (Or.inl ⟨by rfl, fun W _ => by go_simp⟩) ?_
        simp only [Act.put, List.getElem_toArray, List.getElem_cons_succ, List.getElem_cons_zero, List.setIfInBounds_toArray, List.set_cons_zero, List.set_cons_succ]
        refine readyL (rs := [7]) (by kernel_rfl) (by simp) ?_
        refine AllL.cons rfl (fun K hK => ?_) AllL.nil
        try simp only [List.getElem_toArray, List.getElem_cons_succ, List.getElem_cons_zero]
        go_simp
        refine callsRetM (HWs.out _) ?_
        refine hK.out _ _ (fun _ => HT0) (fun _ => ?_)
        clear hK K
        try simp only [Act.put, List.getElem_toArray, List.getElem_cons_succ, List.getElem_cons_zero, List.setIfInBounds_toArray, List.set_cons_zero, List.set_cons_succ]
        refine takeW (i := 8) (v := (.int .i64 (LT : Nat))) rfl (by kernel_rfl) (by kernel_rfl) (by kernel_rfl) rfl (fun _ _ _ h => absurd h.1 (by simp)) (fun _ => HT0) (Or.inl ⟨by rfl, fun W _ => by go_simp⟩) ?_
        simp only [Act.put, List.getElem_toArray, List.getElem_cons_succ, List.getElem_cons_zero, List.setIfInBounds_toArray, List.set_cons_zero, List.set_cons_succ]
        refine takeW (i := 9) (v := (.int .i64 ((k : Int) + LT))) rfl (by kernel_rfl) (by kernel_rfl) (by kernel_rfl) rfl (fun _ _ _ h => absurd h.1 (by simp)) (fun _ => HT0) (Or.inl ⟨by rfl, fun W _ => by go_simp⟩) ?_
        simp only [Act.put, List.getElem_toArray, List.getElem_cons_succ, List.getElem_cons_zero, List.setIfInBounds_toArray, List.set_cons_zero, List.set_cons_succ]
        refine takeW (i := 10) (v := (.agg #[.int .i64 (k : Nat), .int .i64 ((k : Int) + LT)])) rfl (by kernel_rfl) (by kernel_rfl) (by kernel_rfl) rfl (fun _ _ _ h => absurd h.1 (by simp)) (fun _ => HT0) (Or.inl ⟨by rfl, fun W _ => by go_simp⟩) ?_
        simp only [Act.put, List.getElem_toArray, List.getElem_cons_succ, List.getElem_cons_zero, List.setIfInBounds_toArray, List.set_cons_zero, List.set_cons_succ]
        refine readyL (rs := [11]) (by kernel_rfl) (by simp) ?_
        refine AllL.cons rfl (fun K hK => ?_) AllL.nil
        try simp only [List.getElem_toArray, List.getElem_cons_succ, List.getElem_cons_zero]
        go_simp
        refine hK.out _ _ (fun _ => HTH.out _ (fun _ => False) ((Mvs.refl _ _).drew.alloc _) (fun _ _ c => c)) (fun HTn => ?_)
        clear hK K HT0
        have HT0 := HTn (by kernel_rfl)
        clear HTn
        try simp only [Act.put, List.getElem_toArray, List.getElem_cons_succ, List.getElem_cons_zero, List.setIfInBounds_toArray, List.set_cons_zero, List.set_cons_succ]
        refine readyL (rs := [12]) (by kernel_rfl) (by simp) ?_
        refine AllL.cons rfl (fun K hK => ?_) AllL.nil
        refine step_append_rw (by rfl) (.tmp 47) (.tmp 58) 124 124 (by rfl) 98 i0 (.agg #[.int .i64 0, .int .i64 0]) 2 16 Tryz.underlying124 hi hz0 hz1 hz2 (by rfl) (by simp [Act.eval, Act.put]) (HRw.out.keep (S := fun _ => False) ((Mvs.refl _ _).drew.alloc _) (fun _ _ c => c)) (.slice (some ⟨w2.heap.size, 0, none⟩) 1 1) 1 (stC (k, k + LT)) (by simp [Act.eval, Act.put]) (src_stD k (k + LT) _ (by omega)) (by simp only [maxLen]; omega) (by omega) ?_
        intro v3 w3 G3 hr3 hm3 hg3
        obtain ⟨A3, c3, rfl⟩ := hr3.form
        have hmw : Mvs (fun q => some q = G) w2 w3 := (((Mvs.refl _ _).drew.alloc _)).trans' hm3 (fun _ _ h => h)
        have hrow3 : RowOf stC 2 (w.heap.size + 11) w3 (.slice A3 (xs.length + 1) c3) (xs ++ [(k, k + LT)]) := RowOf.growN HG.out hr3 hg3 (by have := HSZ.out; have := HOL.out (W0.heap.size + 1) (.inr (.inr rfl)); simp; omega)
        refine hK.out _ _ (fun _ => HTH.out _ _ hmw hGn) (fun _ => ?_)
        clear hK K HT0
        try simp only [Act.put, List.getElem_toArray, List.getElem_cons_succ, List.getElem_cons_zero, List.setIfInBounds_toArray, List.set_cons_zero, List.set_cons_succ]
        have N1 := hide (hmw.blk q1.out (hGn _ (by omega)))
        have N6 := hide (hmw.blk q6.out (hGn _ (by omega)))
        have N7 := hide (hmw.blk q7.out (hGn _ (by omega)))
        have N2 := hide (hmw.blk q2.out (hGn _ (by omega)))
        have NF := hide (qF.out.keep hmw (fun q hq => hGn q (by omega)))
        have HK3 : Hid (Kept3 (w.heap.size + 1 + 1 + 1 + 1 + 1 + 1 + 1 + 1) W0.heap.size W w3) := HK2.out.trans (Kept3.mvs hmw (fun q hq => ⟨Nat.lt_of_lt_of_le (HOL.out q hq) hsw2, hGn q (by have := HSZ.out; rcases hq with h | h | h <;> omega)⟩))
        have d1 := N1.out.cell 0
        have d2 := N1.out.frozen 0
        clear hr3 hm3 hg3
        refine readyL (rs := [13]) (by kernel_rfl) (by simp) ?_
        refine AllL.cons rfl (fun K hK => ?_) AllL.nil
        try simp only [List.getElem_toArray, List.getElem_cons_succ, List.getElem_cons_zero]
        go_simp
        refine hK.out _ _ (vac (by kernel_rfl)) (fun _ => ?_)
        clear hK K
        have hmS : Mvs (fun q => q = w.heap.size + 1 + 1 + 1 + 1 + 1) w3 (w3.setCell ⟨w.heap.size + 1 + 1 + 1 + 1 + 1, 0, none⟩ (.slice A3 (xs.length + 1) c3)) := (Mvs.refl _ _).setCell _ _ (fun _ => rfl)
        have M1 := hide (N1.out.set 0 (.slice A3 (xs.length + 1) c3))
        have M6 := hide (hmS.blk N6.out (by omega))
        have M7 := hide (hmS.blk N7.out (by omega))
        have M2 := hide (hmS.blk N2.out (by omega))
        have MF := hide (NF.out.keep hmS (fun q hq => by omega))
        have MR := hide (hrow3.keep hmS (fun q hq => by omega))
        have HK4 : Hid (Kept3 (w.heap.size + 1 + 1 + 1 + 1 + 1 + 1 + 1 + 1) W0.heap.size W (w3.setCell ⟨w.heap.size + 1 + 1 + 1 + 1 + 1, 0, none⟩ (.slice A3 (xs.length + 1) c3))) := HK3.out.trans (Kept3.mvs hmS (fun q hq => ⟨Nat.lt_of_lt_of_le (HOL.out q hq) (Nat.le_trans hsw2 hmw.size), fun e => hsub q (.inl (by omega)) hq⟩))
        have hz3 := hmw.size
        clear N1 N6 N7 N2 NF hrow3 d1 d2 hmS c2 f1 f2 f6 f7 cD cC l1 l2 l6 l7
        refine doneL (by kernel_rfl) ⟨rfl, ?_⟩ _
        try simp only [Act.put, List.getElem_toArray, List.getElem_cons_succ, List.getElem_cons_zero, List.setIfInBounds_toArray, List.set_cons_zero, List.set_cons_succ]
        generalize (w3.setCell ⟨w.heap.size + 1 + 1 + 1 + 1 + 1, 0, none⟩ (.slice A3 (xs.length + 1) c3)) = w4 at *
        have c1 := M1.out.cell 0
        have f1 := M1.out.frozen 0
        have l1 := M1.out.lt
        have c6 := M6.out.cell 0
        have f6 := M6.out.frozen 0
        have l6 := M6.out.lt
        have c7 := M7.out.cell 0
        have f7 := M7.out.frozen 0
        have l7 := M7.out.lt
        have c2 := M2.out.cell 0
        have f2 := M2.out.frozen 0
        have l2 := M2.out.lt
        have cD := MF.out.dl.cell 0
        have cC := MF.out.cl.cell 0

        rw [HKE.out] at HM1
        by_cases hfull : xs.length = 99
        · have hx100 : ((xs.length : Int) + 1) = 100 := by omega
          have hx100' : (((xs.length + 1 : Nat) : Int) = 100) := by omega
          have HKPv : Hid (xs ++ [(k, k + LT)] = KP) := by
            obtain ⟨post, hp⟩ := HPo.out
            have := HM1.out post (by simpa using hp)
            rw [← List.append_assoc, List.take_left' (by simp [hfull])] at this
            exact this
          replace hfull := hide hfull
          gi_wp2
          have hmv : Mvs (fun q => q = w.heap.size + 1 + 1) w4 (w4.setCell ⟨w.heap.size + 1 + 1, 0, none⟩ (.slice A3 (xs.length + 1) c3)) := (Mvs.refl _ _).setCell _ _ (fun _ => rfl)
          refine ⟨HK4.out.trans (fun q hq => heap_setCell_other (by have := hsub (w.heap.size + 1 + 1) (.inl (by omega)); intro e; rw [e] at hq; exact this hq)), rfl, below_mvs (B := w.heap.size) (w := w) MF.out.low hmv (fun q (hq : q < w.heap.size) (h : q = w.heap.size + 1 + 1) => by omega) (Nat.le_refl _), _, M2.out.set 0 _, ?_⟩
          rw [← HKPv.out]
          exact MR.out.keep hmv (fun q hq => by omega)

        · have hx100 : ¬ (((xs.length : Int) + 1) = 100) := by omega
          have hx100' : ¬ (((xs.length + 1 : Nat) : Int) = 100) := by omega
          have HM2 : Hid (∀ post, (pre ++ [x]) ++ post = splitS s → ((xs ++ [(k, k + LT)]) ++ kidsP m bd b post (a + (pre ++ [x]).flatten.length) (some (n + ln))).take 100 = KP) := fun post hp => by
            have := HM1.out post hp
            rw [← List.append_assoc] at this
            exact this
          have hxl2 : (xs ++ [(k, k + LT)]).length ≤ 99 := by
            simp
            omega
          gi_wp2
          refine ⟨?_, ?_⟩
          · exact HK4.out.trans (fun q hq => (heap_setCell_other (by have := hsub (w.heap.size + 1 + 1 + 1 + 1 + 1 + 1) (.inl (by omega)); intro e; rw [e] at hq; exact this hq)).trans (heap_setCell_other (by have := hsub (w.heap.size + 1 + 1 + 1 + 1 + 1 + 1 + 1) (.inl (by omega)); intro e; rw [e] at hq; exact this hq)))
          · have hmv : Mvs (fun q => q = w.heap.size + 1 + 1 + 1 + 1 + 1 + 1 ∨ q = w.heap.size + 1 + 1 + 1 + 1 + 1 + 1 + 1) w4 ((w4.setCell ⟨w.heap.size + 1 + 1 + 1 + 1 + 1 + 1 + 1, 0, none⟩ (.int .i64 ((n : Int) + ln))).setCell ⟨w.heap.size + 1 + 1 + 1 + 1 + 1 + 1, 0, none⟩ (.int .i64 ((n : Int) + ln))) := ((Mvs.refl _ _).setCell _ _ (fun _ => .inr rfl)).setCell _ _ (fun _ => .inl rfl)
            refine ⟨_, xs ++ [(k, k + LT)], some (n + ln), hmv.blk M1.out (by omega), MR.out.keep hmv (fun q hq => by omega), ?_, ?_, hmv.blk M2.out (by omega), ?_, hxl2, ?_, HM2.out⟩
            · rw [HB6'.out]
              exact (M6.out.set_other ⟨w.heap.size + 1 + 1 + 1 + 1 + 1 + 1 + 1, 0, none⟩ _ (by dsimp only; omega)).set 0 _
            · have : curI (some (n + ln)) = (n : Int) + ln := by
                show ((n + ln : Nat) : Int) = _
                omega
              rw [this]
              exact (M7.out.set 0 _).set_other ⟨w.heap.size + 1 + 1 + 1 + 1 + 1 + 1, 0, none⟩ _ (by dsimp only; omega)
            · rw [HDD.out, HCC.out]
              exact MF.out.keep hmv (fun q hq => by omega)
            · intro q hq
              cases hq
              rw [HNn.out]
              have := HN.out
              omega

    · by_cases h2 : T = C
      · subst h2
        cases cur with
        | none =>
          have HKPv : Hid (xs = KP) := by
            obtain ⟨post, hp⟩ := HPo.out
            have := HM.out (x :: post) hp
            rw [kidsP, HTT.out, HDD.out, HCC.out, if_neg h1, if_pos rfl] at this
            rw [← this]
            show xs = (xs ++ []).take 100
            rw [List.append_nil, List.take_of_length_le (by omega)]
          have hm1 : ¬ ((-1 : Int) ≥ 0) := by omega
          have hcur : curI none = -1 := rfl
          rw [hcur] at B7
          clear HM hcur h1
          gi_wp2_with (first
            | (refine ⟨trivial, ?_⟩; gi_at_call 116; refine (CallsIn.inRound l (callsIn_wide.2 (HWe.out _))).mono ?_; rintro e w1 ⟨rfl, hw1⟩; obtain rfl := hw1.symm))
          refine ⟨trivial, ?_⟩
          refine (CallsIn.inRound l (callsIn_wide.2 (HTr.out _))).mono ?_
          rintro e w2 ⟨rfl, hb2⟩
          have q1 := hide (B1.out.below hb2 B1.out.lt)
          have q6 := hide (B6.out.below hb2 B6.out.lt)
          have q7 := hide (B7.out.below hb2 B7.out.lt)
          have q2 := hide (B2.out.below hb2 B2.out.lt)
          have qF := hide (KFx.out.keep (S := fun _ => False) (Mvs.of_below hb2) (fun _ _ c => c))
          have qR := hide (HRow.out.below hb2)
          have c1 := q1.out.cell 0
          have f1 := q1.out.frozen 0
          have l1 := q1.out.lt
          have c6 := q6.out.cell 0
          have f6 := q6.out.frozen 0
          have l6 := q6.out.lt
          have c7 := q7.out.cell 0
          have f7 := q7.out.frozen 0
          have l7 := q7.out.lt
          have c2 := q2.out.cell 0
          have f2 := q2.out.frozen 0
          have l2 := q2.out.lt
          have cD := qF.out.dl.cell 0
          have cC := qF.out.cl.cell 0
          have cM := qF.out.msg.cell 0
          have hsw2 := hb2.size
          have HK2 : Hid (Kept3 (w.heap.size + 1 + 1 + 1 + 1 + 1 + 1 + 1 + 1) W0.heap.size W w2) := fun k hk => hb2.block k (HOL.out k hk)
          clear hb2
          gi_wp2
          have hmv : Mvs (fun q => q = w.heap.size + 1 + 1) w2 (w2.setCell ⟨w.heap.size + 1 + 1, 0, none⟩ (.slice A xs.length c)) := (Mvs.refl _ _).setCell _ _ (fun _ => rfl)
          refine ⟨HK2.out.trans (fun q hq => heap_setCell_other (by have := hsub (w.heap.size + 1 + 1) (.inl (by omega)); intro e; rw [e] at hq; exact this hq)), rfl, below_mvs (B := w.heap.size) (w := w) qF.out.low hmv (fun q (hq : q < w.heap.size) (h : q = w.heap.size + 1 + 1) => by omega) (Nat.le_refl _), _, q2.out.set 0 _, ?_⟩
          rw [← HKPv.out]
          exact qR.out.keep hmv (fun q hq => by omega)

        | some k =>
          have HM1 : Hid ((xs ++ [kidE m n k]).take 100 = KP) := by
            obtain ⟨post, hp⟩ := HPo.out
            have := HM.out (x :: post) hp
            rw [kidsP, HTT.out, HDD.out, HCC.out, if_neg h1, if_pos rfl] at this
            exact this
          have hcur : curI (some k) = (k : Int) := rfl
          rw [hcur] at B7
          clear HM hcur h1
          gi_wp2_with (first
            | (refine ⟨trivial, ?_⟩; gi_at_call 116; refine (CallsIn.inRound l (callsIn_wide.2 (HWe.out _))).mono ?_; rintro e w1 ⟨rfl, hw1⟩; obtain rfl := hw1.symm))
          refine ⟨trivial, ?_⟩
          refine (CallsIn.inRound l (callsIn_wide.2 (HTr.out _))).mono ?_
          rintro e w2 ⟨rfl, hb2⟩
          have q1 := hide (B1.out.below hb2 B1.out.lt)
          have q6 := hide (B6.out.below hb2 B6.out.lt)
          have q7 := hide (B7.out.below hb2 B7.out.lt)
          have q2 := hide (B2.out.below hb2 B2.out.lt)
          have qF := hide (KFx.out.keep (S := fun _ => False) (Mvs.of_below hb2) (fun _ _ c => c))
          have qR := hide (HRow.out.below hb2)
          have c1 := q1.out.cell 0
          have f1 := q1.out.frozen 0
          have l1 := q1.out.lt
          have c6 := q6.out.cell 0
          have f6 := q6.out.frozen 0
          have l6 := q6.out.lt
          have c7 := q7.out.cell 0
          have f7 := q7.out.frozen 0
          have l7 := q7.out.lt
          have c2 := q2.out.cell 0
          have f2 := q2.out.frozen 0
          have l2 := q2.out.lt
          have cD := qF.out.dl.cell 0
          have cC := qF.out.cl.cell 0
          have cM := qF.out.msg.cell 0
          have hsw2 := hb2.size
          have HK2 : Hid (Kept3 (w.heap.size + 1 + 1 + 1 + 1 + 1 + 1 + 1 + 1) W0.heap.size W w2) := fun k hk => hb2.block k (HOL.out k hk)
          clear hb2
          have hgk := HCu.out k rfl
          have hkn : (k : Int) ≤ n := by omega
          have hnm : (n : Int) ≤ m.length := by omega
          have es : (⟨m.toArray⟩ : ByteArray).extract k n = ⟨(seg m k n).toArray⟩ := ext_mid m k n
          have hsg := seg_len m k n (by omega)
          have HWs := hide (fun w => wend_any (seg m k n) w (by omega))
          have HKE : Hid (kidE m n k = (k, k + (txt (seg m k n)).length)) := rfl
          have htl := txt_len (seg m k n)
          obtain ⟨TX, hTX⟩ : ∃ TX, txt (seg m k n) = TX := ⟨_, rfl⟩
          rw [hTX] at HWs HKE htl
          obtain ⟨LT, hLT⟩ : ∃ LT, TX.length = LT := ⟨_, rfl⟩
          rw [hLT] at HKE htl
          have hzt := size_lit TX
          rw [hLT] at hzt
          obtain ⟨SG, hSG⟩ : ∃ SG, seg m k n = SG := ⟨_, rfl⟩
          rw [hSG] at es HWs hsg htl
          have hkl : IntKind.i64.wrap ((k : Int) + LT) = (k : Int) + LT := wrap_nat (by omega) (by omega)
          have hk0 : (k : Int) ≥ 0 := by omega
          obtain ⟨G, hrw, hg⟩ := qR.out
          have HRw := hide hrw
          have HG := hide hg
          have hGn : ∀ q, q < w.heap.size + 11 → ¬ some q = G := fun q hq e => by have := HG.out q e.symm; omega
          clear hTX hLT hSG hrw hg
          have c7' : w2.cell? ⟨w.heap.size + 1 + 1 + 1 + 1 + 1 + 1 + 1, 0, none⟩ = some (.int .i64 (k : Nat)) := c7
          gi_wp2
          refine regionI 13 (fun W => W.cell? ⟨w.heap.size + 1 + 1 + 1 + 1 + 1, 0, none⟩ = some (.slice A xs.length c) ∧ W.cell? ⟨w.heap.size + 1 + 1 + 1 + 1 + 1 + 1 + 1, 0, none⟩ = some (.int .i64 (k : Nat)) ∧ W.cell? ⟨w.heap.size, 0, none⟩ = some (.string ⟨m.toArray⟩) ∧ W.cell? ⟨w.heap.size + 1 + 1 + 1 + 1 + 1 + 1, 0, none⟩ = some (.int .i64 (n : Nat))) (by kernel_rfl) (by kernel_rfl) ?_
          have HT0 : w2.drew.cell? ⟨w.heap.size + 1 + 1 + 1 + 1 + 1, 0, none⟩ = some (.slice A xs.length c) ∧ w2.drew.cell? ⟨w.heap.size + 1 + 1 + 1 + 1 + 1 + 1 + 1, 0, none⟩ = some (.int .i64 (k : Nat)) ∧ w2.drew.cell? ⟨w.heap.size, 0, none⟩ = some (.string ⟨m.toArray⟩) ∧ w2.drew.cell? ⟨w.heap.size + 1 + 1 + 1 + 1 + 1 + 1, 0, none⟩ = some (.int .i64 (n : Nat)) := ⟨c1, c7', cM, c6⟩
          have HTH : Hid (∀ W (S : Nat → Prop), Mvs S w2 W → (∀ q, q < w.heap.size + 11 → ¬ S q) → W.cell? ⟨w.heap.size + 1 + 1 + 1 + 1 + 1, 0, none⟩ = some (.slice A xs.length c) ∧ W.cell? ⟨w.heap.size + 1 + 1 + 1 + 1 + 1 + 1 + 1, 0, none⟩ = some (.int .i64 (k : Nat)) ∧ W.cell? ⟨w.heap.size, 0, none⟩ = some (.string ⟨m.toArray⟩) ∧ W.cell? ⟨w.heap.size + 1 + 1 + 1 + 1 + 1 + 1, 0, none⟩ = some (.int .i64 (n : Nat))) := fun W S hm hS => ⟨(hm.blk q1.out (hS _ (by omega))).cell 0, (hm.blk q7.out (hS _ (by omega))).cell 0, (hm.blk qF.out.msg (hS _ (by omega))).cell 0, (hm.blk q6.out (hS _ (by omega))).cell 0⟩
          clear c1 c7 c7' cM c6
          refine takeL (i := 0) (v := (.slice A xs.length c)) rfl (by kernel_rfl) (by kernel_rfl) (by kernel_rfl) (by kernel_rfl) (by kernel_rfl) (fun _ _ _ h => absurd h.1 (by simp)) HT0 (Or.inl ⟨by rfl, fun W hW => by obtain ⟨t0, t1, t2, t3⟩ := hW; go_simp⟩) ?_
          simp only [Act.put, List.getElem_toArray, List.getElem_cons_succ, List.getElem_cons_zero, List.setIfInBounds_toArray, List.set_cons_zero, List.set_cons_succ]
          refine takeL (i := 1) (v := (.int .i64 (k : Nat))) rfl (by kernel_rfl) (by kernel_rfl) (by kernel_rfl) (by kernel_rfl) (by kernel_rfl) (fun _ _ _ h => absurd h.1 (by simp)) HT0 (Or.inl ⟨by rfl, fun W hW => by obtain ⟨t0, t1, t2, t3⟩ := hW; go_simp⟩) ?_
          simp only [Act.put, List.getElem_toArray, List.getElem_cons_succ, List.getElem_cons_zero, List.setIfInBounds_toArray, List.set_cons_zero, List.set_cons_succ]
          refine takeL (i := 2) (v := (.int .i64 (k : Nat))) rfl (by kernel_rfl) (by kernel_rfl) (by kernel_rfl) (by kernel_rfl) (by kernel_rfl) (fun _ _ _ h => absurd h.1 (by simp)) HT0 (Or.inl ⟨by rfl, fun W hW => by obtain ⟨t0, t1, t2, t3⟩ := hW; go_simp⟩) ?_
          simp only [Act.put, List.getElem_toArray, List.getElem_cons_succ, List.getElem_cons_zero, List.setIfInBounds_toArray, List.set_cons_zero, List.set_cons_succ]
          refine takeL (i := 3) (v := (.string ⟨m.toArray⟩)) rfl (by kernel_rfl) (by kernel_rfl) (by kernel_rfl) (by kernel_rfl) (by kernel_rfl) (fun _ _ _ h => absurd h.1 (by simp)) HT0 (Or.inl ⟨by rfl, fun W hW => by obtain ⟨t0, t1, t2, t3⟩ := hW; go_simp⟩) ?_
          simp only [Act.put, List.getElem_toArray, List.getElem_cons_succ, List.getElem_cons_zero, List.setIfInBounds_toArray, List.set_cons_zero, List.set_cons_succ]
          refine takeL (i := 4) (v := (.int .i64 (k : Nat))) rfl (by kernel_rfl) (by kernel_rfl) (by kernel_rfl) (by kernel_rfl) (by kernel_rfl) (fun _ _ _ h => absurd h.1 (by simp)) HT0 (Or.inl ⟨by rfl, fun W hW => by obtain ⟨t0, t1, t2, t3⟩ := hW; go_simp⟩) ?_
          simp only [Act.put, List.getElem_toArray, List.getElem_cons_succ, List.getElem_cons_zero, List.setIfInBounds_toArray, List.set_cons_zero, List.set_cons_succ]
          refine takeL (i := 5) (v := (.int .i64 (n : Nat))) rfl (by kernel_rfl) (by kernel_rfl) (by kernel_rfl) (by kernel_rfl) (by kernel_rfl) (fun _ _ _ h => absurd h.1 (by simp)) HT0 (Or.inl ⟨by rfl, fun W hW => by obtain ⟨t0, t1, t2, t3⟩ := hW; go_simp⟩) ?_
          simp only [Act.put, List.getElem_toArray, List.getElem_cons_succ, List.getElem_cons_zero, List.setIfInBounds_toArray, List.set_cons_zero, List.set_cons_succ]
          refine takeW (i := 6) (v := (.string ⟨SG.toArray⟩)) rfl (by kernel_rfl) (by kernel_rfl) (by kernel_rfl) rfl (fun _ _ _ h => absurd h.1 (by simp)) (fun _ => HT0) (Or.inl ⟨by rfl, fun W _ => by go_simp⟩) ?_
          simp only [Act.put, List.getElem_toArray, List.getElem_cons_succ, List.getElem_cons_zero, List.setIfInBounds_toArray, List.set_cons_zero, List.set_cons_succ]
          refine readyL (rs := [7]) (by kernel_rfl) (by simp) ?_
          refine AllL.cons rfl (fun K hK => ?_) AllL.nil
          try simp only [List.getElem_toArray, List.getElem_cons_succ, List.getElem_cons_zero]
          go_simp
          refine callsRetM (HWs.out _) ?_
          refine hK.out _ _ (fun _ => HT0) (fun _ => ?_)
          clear hK K
          try simp only [Act.put, List.getElem_toArray, List.getElem_cons_succ, List.getElem_cons_zero, List.setIfInBounds_toArray, List.set_cons_zero, List.set_cons_succ]
          refine takeW (i := 8) (v := (.int .i64 (LT : Nat))) rfl (by kernel_rfl) (by kernel_rfl) (by kernel_rfl) rfl (fun _ _ _ h => absurd h.1 (by simp)) (fun _ => HT0) (Or.inl ⟨by rfl, fun W _ => by go_simp⟩) ?_
          simp only [Act.put, List.getElem_toArray, List.getElem_cons_succ, List.getElem_cons_zero, List.setIfInBounds_toArray, List.set_cons_zero, List.set_cons_succ]
          refine takeW (i := 9) (v := (.int .i64 ((k : Int) + LT))) rfl (by kernel_rfl) (by kernel_rfl) (by kernel_rfl) rfl (fun _ _ _ h => absurd h.1 (by simp)) (fun _ => HT0) (Or.inl ⟨by rfl, fun W _ => by go_simp⟩) ?_
          simp only [Act.put, List.getElem_toArray, List.getElem_cons_succ, List.getElem_cons_zero, List.setIfInBounds_toArray, List.set_cons_zero, List.set_cons_succ]
          refine takeW (i := 10) (v := (.agg #[.int .i64 (k : Nat), .int .i64 ((k : Int) + LT)])) rfl (by kernel_rfl) (by kernel_rfl) (by kernel_rfl) rfl (fun _ _ _ h => absurd h.1 (by simp)) (fun _ => HT0) (Or.inl ⟨by rfl, fun W _ => by go_simp⟩) ?_
          simp only [Act.put, List.getElem_toArray, List.getElem_cons_succ, List.getElem_cons_zero, List.setIfInBounds_toArray, List.set_cons_zero, List.set_cons_succ]
          refine readyL (rs := [11]) (by kernel_rfl) (by simp) ?_
          refine AllL.cons rfl (fun K hK => ?_) AllL.nil
          try simp only [List.getElem_toArray, List.getElem_cons_succ, List.getElem_cons_zero]
          go_simp
          refine hK.out _ _ (fun _ => HTH.out _ (fun _ => False) ((Mvs.refl _ _).drew.alloc _) (fun _ _ c => c)) (fun HTn => ?_)
          clear hK K HT0
          have HT0 := HTn (by kernel_rfl)
          clear HTn
          try simp only [Act.put, List.getElem_toArray, List.getElem_cons_succ, List.getElem_cons_zero, List.setIfInBounds_toArray, List.set_cons_zero, List.set_cons_succ]
          refine readyL (rs := [12]) (by kernel_rfl) (by simp) ?_
          refine AllL.cons rfl (fun K hK => ?_) AllL.nil
          refine step_append_rw (by rfl) (.tmp 47) (.tmp 58) 124 124 (by rfl) 98 i0 (.agg #[.int .i64 0, .int .i64 0]) 2 16 Tryz.underlying124 hi hz0 hz1 hz2 (by rfl) (by simp [Act.eval, Act.put]) (HRw.out.keep (S := fun _ => False) ((Mvs.refl _ _).drew.alloc _) (fun _ _ c => c)) (.slice (some ⟨w2.heap.size, 0, none⟩) 1 1) 1 (stC (k, k + LT)) (by simp [Act.eval, Act.put]) (src_stD k (k + LT) _ (by omega)) (by simp only [maxLen]; omega) (by omega) ?_
          intro v3 w3 G3 hr3 hm3 hg3
          obtain ⟨A3, c3, rfl⟩ := hr3.form
          have hmw : Mvs (fun q => some q = G) w2 w3 := (((Mvs.refl _ _).drew.alloc _)).trans' hm3 (fun _ _ h => h)
          have hrow3 : RowOf stC 2 (w.heap.size + 11) w3 (.slice A3 (xs.length + 1) c3) (xs ++ [(k, k + LT)]) := RowOf.growN HG.out hr3 hg3 (by have := HSZ.out; have := HOL.out (W0.heap.size + 1) (.inr (.inr rfl)); simp; omega)
          refine hK.out _ _ (fun _ => HTH.out _ _ hmw hGn) (fun _ => ?_)
          clear hK K HT0
          try simp only [Act.put, List.getElem_toArray, List.getElem_cons_succ, List.getElem_cons_zero, List.setIfInBounds_toArray, List.set_cons_zero, List.set_cons_succ]
          have N1 := hide (hmw.blk q1.out (hGn _ (by omega)))
          have N6 := hide (hmw.blk q6.out (hGn _ (by omega)))
          have N7 := hide (hmw.blk q7.out (hGn _ (by omega)))
          have N2 := hide (hmw.blk q2.out (hGn _ (by omega)))
          have NF := hide (qF.out.keep hmw (fun q hq => hGn q (by omega)))
          have HK3 : Hid (Kept3 (w.heap.size + 1 + 1 + 1 + 1 + 1 + 1 + 1 + 1) W0.heap.size W w3) := HK2.out.trans (Kept3.mvs hmw (fun q hq => ⟨Nat.lt_of_lt_of_le (HOL.out q hq) hsw2, hGn q (by have := HSZ.out; rcases hq with h | h | h <;> omega)⟩))
          have d1 := N1.out.cell 0
          have d2 := N1.out.frozen 0
          clear hr3 hm3 hg3
          refine readyL (rs := [13]) (by kernel_rfl) (by simp) ?_
          refine AllL.cons rfl (fun K hK => ?_) AllL.nil
          try simp only [List.getElem_toArray, List.getElem_cons_succ, List.getElem_cons_zero]
          go_simp
          refine hK.out _ _ (vac (by kernel_rfl)) (fun _ => ?_)
          clear hK K
          have hmS : Mvs (fun q => q = w.heap.size + 1 + 1 + 1 + 1 + 1) w3 (w3.setCell ⟨w.heap.size + 1 + 1 + 1 + 1 + 1, 0, none⟩ (.slice A3 (xs.length + 1) c3)) := (Mvs.refl _ _).setCell _ _ (fun _ => rfl)
          have M1 := hide (N1.out.set 0 (.slice A3 (xs.length + 1) c3))
          have M6 := hide (hmS.blk N6.out (by omega))
          have M7 := hide (hmS.blk N7.out (by omega))
          have M2 := hide (hmS.blk N2.out (by omega))
          have MF := hide (NF.out.keep hmS (fun q hq => by omega))
          have MR := hide (hrow3.keep hmS (fun q hq => by omega))
          have HK4 : Hid (Kept3 (w.heap.size + 1 + 1 + 1 + 1 + 1 + 1 + 1 + 1) W0.heap.size W (w3.setCell ⟨w.heap.size + 1 + 1 + 1 + 1 + 1, 0, none⟩ (.slice A3 (xs.length + 1) c3))) := HK3.out.trans (Kept3.mvs hmS (fun q hq => ⟨Nat.lt_of_lt_of_le (HOL.out q hq) (Nat.le_trans hsw2 hmw.size), fun e => hsub q (.inl (by omega)) hq⟩))
          have hz3 := hmw.size
          clear N1 N6 N7 N2 NF hrow3 d1 d2 hmS c2 f1 f2 f6 f7 cD cC l1 l2 l6 l7
          refine doneL (by kernel_rfl) ⟨rfl, ?_⟩ _
          try simp only [Act.put, List.getElem_toArray, List.getElem_cons_succ, List.getElem_cons_zero, List.setIfInBounds_toArray, List.set_cons_zero, List.set_cons_succ]
          generalize (w3.setCell ⟨w.heap.size + 1 + 1 + 1 + 1 + 1, 0, none⟩ (.slice A3 (xs.length + 1) c3)) = w4 at *
          have c1 := M1.out.cell 0
          have f1 := M1.out.frozen 0
          have l1 := M1.out.lt
          have c6 := M6.out.cell 0
          have f6 := M6.out.frozen 0
          have l6 := M6.out.lt
          have c7 := M7.out.cell 0
          have f7 := M7.out.frozen 0
          have l7 := M7.out.lt
          have c2 := M2.out.cell 0
          have f2 := M2.out.frozen 0
          have l2 := M2.out.lt
          have cD := MF.out.dl.cell 0
          have cC := MF.out.cl.cell 0

          rw [HKE.out] at HM1
          have HKPv : Hid (xs ++ [(k, k + LT)] = KP) := by
            have := HM1.out
            rw [List.take_of_length_le (by simp; omega)] at this
            exact this
          gi_wp2
          have hmv : Mvs (fun q => q = w.heap.size + 1 + 1) w4 (w4.setCell ⟨w.heap.size + 1 + 1, 0, none⟩ (.slice A3 (xs.length + 1) c3)) := (Mvs.refl _ _).setCell _ _ (fun _ => rfl)
          refine ⟨HK4.out.trans (fun q hq => heap_setCell_other (by have := hsub (w.heap.size + 1 + 1) (.inl (by omega)); intro e; rw [e] at hq; exact this hq)), rfl, below_mvs (B := w.heap.size) (w := w) MF.out.low hmv (fun q (hq : q < w.heap.size) (h : q = w.heap.size + 1 + 1) => by omega) (Nat.le_refl _), _, M2.out.set 0 _, ?_⟩
          rw [← HKPv.out]
          exact MR.out.keep hmv (fun q hq => by omega)

      · have h1' : (T == D) = false := beq_eq_false_iff_ne.2 h1
        have h2' : (T == C) = false := beq_eq_false_iff_ne.2 h2
        have HM2 : Hid (∀ post, (pre ++ [x]) ++ post = splitS s → (xs ++ kidsP m bd b post (a + (pre ++ [x]).flatten.length) cur).take 100 = KP) := fun post hp => by
          have := HM.out (x :: post) (by simpa using hp)
          rw [kidsP, HTT.out, HDD.out, HCC.out, if_neg h1, if_neg h2] at this
          rw [HNn.out, ← HLN.out]
          exact this
        clear h1 h2 HM
        gi_wp2_with (first
          | (refine ⟨trivial, ?_⟩; gi_at_call 116; refine (CallsIn.inRound l (callsIn_wide.2 (HWe.out _))).mono ?_; rintro e w1 ⟨rfl, hw1⟩; obtain rfl := hw1.symm))
        refine ⟨trivial, ?_⟩
        refine (CallsIn.inRound l (callsIn_wide.2 (HTr.out _))).mono ?_
        rintro e w2 ⟨rfl, hb2⟩
        have q1 := hide (B1.out.below hb2 B1.out.lt)
        have q6 := hide (B6.out.below hb2 B6.out.lt)
        have q7 := hide (B7.out.below hb2 B7.out.lt)
        have q2 := hide (B2.out.below hb2 B2.out.lt)
        have qF := hide (KFx.out.keep (S := fun _ => False) (Mvs.of_below hb2) (fun _ _ c => c))
        have qR := hide (HRow.out.below hb2)
        have c1 := q1.out.cell 0
        have f1 := q1.out.frozen 0
        have l1 := q1.out.lt
        have c6 := q6.out.cell 0
        have f6 := q6.out.frozen 0
        have l6 := q6.out.lt
        have c7 := q7.out.cell 0
        have f7 := q7.out.frozen 0
        have l7 := q7.out.lt
        have c2 := q2.out.cell 0
        have f2 := q2.out.frozen 0
        have l2 := q2.out.lt
        have cD := qF.out.dl.cell 0
        have cC := qF.out.cl.cell 0
        have cM := qF.out.msg.cell 0
        have hsw2 := hb2.size
        have HK2 : Hid (Kept3 (w.heap.size + 1 + 1 + 1 + 1 + 1 + 1 + 1 + 1) W0.heap.size W w2) := fun k hk => hb2.block k (HOL.out k hk)
        clear hb2
        gi_wp2
        have HBn := hide (q6.out.set 0 (.int .i64 ((n : Int) + ln)))
        refine ⟨?_, ?_⟩
        · exact HK2.out.trans (fun k hk => heap_setCell_other (by have := hsub (w.heap.size + 1 + 1 + 1 + 1 + 1 + 1) (.inl (by omega)); intro e; rw [e] at hk; exact this hk))
        · have hmv : Mvs (fun k => k = w.heap.size + 1 + 1 + 1 + 1 + 1 + 1) w2 (w2.setCell ⟨w.heap.size + 1 + 1 + 1 + 1 + 1 + 1, 0, none⟩ (.int .i64 ((n : Int) + ln))) := (Mvs.refl _ _).setCell _ _ (fun _ => rfl)
          refine ⟨_, xs, cur, hmv.blk q1.out (by omega), qR.out.keep hmv (fun k hk => by omega), ?_, hmv.blk q7.out (by omega), hmv.blk q2.out (by omega), ?_, hxl, ?_, HM2.out⟩
          · rw [HB6'.out]
            exact HBn.out
          · rw [HDD.out, HCC.out]
            exact qF.out.keep hmv (fun k hk => by omega)
          · intro k hk
            have := HCu.out k hk
            rw [HNn.out]
            omega
  case done =>
    rintro W ⟨v, xs, cur, b1, b2, b6, b7, b8, b9, b10, b11, b12⟩ hK
    have hWs := (Array.getElem?_eq_some_iff.1 hK).1
    have hfin := b12 [] (by simp)
    have HCu := hide b11
    have HBlow := hide b9.low
    have B1 := hide b1
    have B2 := hide b8
    have HRow := hide b2
    have HK := hide hK
    obtain ⟨A, c, rfl⟩ := b2.form
    have c1 := b1.cell 0
    have f1 := b1.frozen 0
    have l1 := b1.lt
    have c2 := b8.cell 0
    have f2 := b8.frozen 0
    have l2 := b8.lt
    have c7 := b7.cell 0
    have cB := b9.body.cell
    cases cur with
    | none =>
      have HKPv : Hid (xs = KP) := by
        have := hfin
        rw [kidsP, List.append_nil, List.take_of_length_le (by omega)] at this
        exact this
      have hm1 : ¬ ((-1 : Int) ≥ 0) := by omega
      have hcur : curI none = -1 := rfl
      rw [hcur] at c7
      clear b1 b2 b6 b7 b8 b9 b11 b12 hfin hcur hK
      gi_wp2
      have HSZ' := HSZ.out
      have hK5 : (W.setCell ⟨w.heap.size + 1 + 1, 0, none⟩ (.slice A xs.length c)).heap[W0.heap.size]? = some (.deferred (some [])) := (heap_setCell_other (by omega)).trans HK.out
      have hmv : Mvs (fun q => q = w.heap.size + 1 + 1) W (W.setCell ⟨w.heap.size + 1 + 1, 0, none⟩ (.slice A xs.length c)) := (Mvs.refl _ _).setCell _ _ (fun _ => rfl)
      have h9 := B2.out.set 0 (.slice A xs.length c)
      have hbF := below_mvs HBlow.out hmv (fun q hq => by omega) (Nat.le_refl _)
      have hrF := HRow.out.keep hmv (fun q hq => by omega)
      refine ⟨by simp, .inl ⟨_, _, rfl, run_takeDeferred hK5, ?_⟩⟩
      refine leaveK (h9.putObj _ (by omega)) ⟨hbF.trans (belowK_b (w := w) (Nat.le_refl _) _ _ _ _ (by omega) hK5 rfl rfl), _, rfl, ?_⟩
      rw [← HKPv.out]
      exact (hrF.keep (mvs_putObj (S := fun k => k = W0.heap.size) _ _ _ rfl) (fun k hk => by omega)).mono (by omega)
    | some k =>
      have HKPv : Hid (xs ++ [(k, b)] = KP) := by
        have := hfin
        rw [kidsP, List.take_of_length_le (by simp; omega)] at this
        exact this
      have hk0 : (k : Int) ≥ 0 := by omega
      have hcur : curI (some k) = (k : Int) := rfl
      rw [hcur] at c7
      obtain ⟨G, hrw, hg⟩ := HRow.out
      have HRw := hide hrw
      have HG := hide hg
      have hGn : ∀ q, q < w.heap.size + 11 → ¬ some q = G := fun q hq e => by have := HG.out q e.symm; omega
      clear b1 b2 b6 b7 b8 b9 b11 b12 hfin hcur hK hrw hg
      gi_wp2_with (first
        | (gi_at_builtin; refine wpListIn_append_rw rfl _ _ 124 124 rfl 98 i0 (.agg #[.int .i64 0, .int .i64 0]) 2 16 Tryz.underlying124 hi hz0 hz1 hz2 rfl rfl (HRw.out.keep (S := fun _ => False) ((Mvs.refl _ _).alloc _) (fun _ _ c => c)) _ 1 _ rfl (src_st (k, b)) (by simp only [maxLen]; omega) (by omega) ?_))
      intro v3 w3 G3 hr3 hm3 hg3
      obtain ⟨A3, c3, rfl⟩ := hr3.form
      have hmw : Mvs (fun q => some q = G) W w3 := ((Mvs.refl _ _).alloc _).trans' hm3 (fun _ _ h => h)
      have hrow3 : RowOf stC 2 (w.heap.size + 11) w3 (.slice A3 (xs.length + 1) c3) (xs ++ [(k, b)]) := RowOf.growN HG.out hr3 hg3 (by have := hmw.size; have := HSZ.out; simp; omega)
      have N1 := hide (hmw.blk B1.out (hGn _ (by omega)))
      have N2 := hide (hmw.blk B2.out (hGn _ (by omega)))
      have NK : Hid (w3.heap[W0.heap.size]? = some (.deferred (some []))) := (hmw.block _ hWs (hGn _ (by have := HSZ.out; omega))).trans HK.out
      have NB := hide (below_mvs HBlow.out hmw (fun q hq => hGn q (by omega)) (Nat.le_refl _))
      have hz3 := hmw.size
      have d1 := N1.out.cell 0
      have d1f := N1.out.frozen 0
      have d1l := N1.out.lt
      have d2 := (N2.out.set_other ⟨w.heap.size + 1 + 1 + 1 + 1 + 1, 0, none⟩ (.slice A3 (xs.length + 1) c3) (by dsimp only; omega)).cell 0
      have d2f := (N2.out.set_other ⟨w.heap.size + 1 + 1 + 1 + 1 + 1, 0, none⟩ (.slice A3 (xs.length + 1) c3) (by dsimp only; omega)).frozen 0
      clear hr3 hm3 hg3 hmw
      gi_wp2
      have HSZ' := HSZ.out
      have hK5 : ((w3.setCell ⟨w.heap.size + 1 + 1 + 1 + 1 + 1, 0, none⟩ (.slice A3 (xs.length + 1) c3)).setCell ⟨w.heap.size + 1 + 1, 0, none⟩ (.slice A3 (xs.length + 1) c3)).heap[W0.heap.size]? = some (.deferred (some [])) := (heap_setCell_other (by omega)).trans ((heap_setCell_other (by omega)).trans NK.out)
      have hmv : Mvs (fun q => q = w.heap.size + 1 + 1 + 1 + 1 + 1 ∨ q = w.heap.size + 1 + 1) w3 ((w3.setCell ⟨w.heap.size + 1 + 1 + 1 + 1 + 1, 0, none⟩ (.slice A3 (xs.length + 1) c3)).setCell ⟨w.heap.size + 1 + 1, 0, none⟩ (.slice A3 (xs.length + 1) c3)) := ((Mvs.refl _ _).setCell _ _ (fun _ => .inl rfl)).setCell _ _ (fun _ => .inr rfl)
      have h9 := (N2.out.set_other ⟨w.heap.size + 1 + 1 + 1 + 1 + 1, 0, none⟩ (.slice A3 (xs.length + 1) c3) (by dsimp only; omega)).set 0 (.slice A3 (xs.length + 1) c3)
      have hbF := below_mvs NB.out hmv (fun q hq => by omega) (Nat.le_refl _)
      have hrF := hrow3.keep hmv (fun q hq => by omega)
      refine ⟨by simp, .inl ⟨_, _, rfl, run_takeDeferred hK5, ?_⟩⟩
      refine leaveK (h9.putObj _ (by omega)) ⟨hbF.trans (belowK_b (w := w) (Nat.le_refl _) _ _ _ _ (by omega) hK5 rfl rfl), _, rfl, ?_⟩
      rw [← HKPv.out]
      exact (hrF.keep (mvs_putObj (S := fun k => k = W0.heap.size) _ _ _ rfl) (fun k hk => by omega)).mono (by omega)
  case stop =>
    rintro c W ⟨rfl, hbW, v, h1, h2⟩ hK
    have := HSZ.out
    gi_wp2
    refine ⟨by simp, .inl ⟨_, _, rfl, run_takeDeferred hK, ?_⟩⟩
    exact leaveK (h1.putObj _ (by omega)) ⟨hbW.trans (belowK_b (w := w) (Nat.le_refl _) W _ _ _ (by omega) hK rfl rfl), v, rfl, (h2.keep (mvs_putObj (S := fun k => k = W0.heap.size) _ _ _ rfl) (fun k hk => by omega)).mono (by omega)⟩
end Go.Proofs.YtegplihhbdmnbaaGreatDoor
