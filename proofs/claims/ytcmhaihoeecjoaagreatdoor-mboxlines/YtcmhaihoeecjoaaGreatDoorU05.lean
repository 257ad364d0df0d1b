/- Encode of package quote. -/
/- Decode of package quote. -/
import Derived.Test.YtcmhaihoeecjoaaGreatDoorU04
section
namespace Go.Proofs.YtcmhaihoeecjoaaGreatDoor
open Go.RowKit Go.Shelf
attribute [local go_sem] Oper.semAt_some
theorem size_calls {s : List UInt8} {m : Nat} (hs : s.length ≤ 1000000) (hm : s.length + 1 + cnt (splitS s) = m) (w : World) :
    Calls Tryz.prog 35 #[.string ⟨s.toArray⟩] w fun e w' => e = .returned (.int .i64 (m : Int)) ∧ Below w.heap.size w w' := by
  subst hm
  exact size_any s w hs
theorem strCells_lit (x : List UInt8) : Lib.strCells ⟨x.toArray⟩ = Lib.byteCells x := rfl
theorem byteCells_app (x y : List UInt8) : Lib.byteCells x ++ Lib.byteCells y = Lib.byteCells (x ++ y) := by simp [Lib.byteCells]
theorem byteCells_10 (x : List UInt8) : Lib.byteCells x ++ [.int .u8 10] = Lib.byteCells (x ++ [10]) := by simp [Lib.byteCells]
/-- The lines so far, quoted. -/
def qAll (pre : List (List UInt8)) : List UInt8 := (pre.map quoteL).flatten
theorem qAll_snoc (pre : List (List UInt8)) (x : List UInt8) : qAll (pre ++ [x]) = qAll pre ++ quoteL x := by simp [qAll]
theorem post_flat {pre : List (List UInt8)} {x s : List UInt8} (h : ∃ post, pre ++ x :: post = splitS s) : pre.flatten.length + x.length ≤ s.length := by
  obtain ⟨post, h⟩ := h
  have h2 := splitS_flat s
  rw [← h] at h2
  rw [← h2, List.flatten_append, List.flatten_cons, List.length_append, List.length_append]
  omega
theorem qAll_len {pre : List (List UInt8)} {x s : List UInt8} (h : ∃ post, pre ++ x :: post = splitS s) : (qAll pre).length ≤ 2 * s.length ∧ (quoteL x).length ≤ s.length + 1 := by
  have h1 := post_flat h
  have h2 := pre_le h
  have h3 := quo_len pre
  have h4 := cnt_le pre
  have h5 := quote_len x
  unfold cnt at h4
  unfold qAll
  constructor
  · omega
  · split at h5 <;> omega
set_option maxRecDepth 20000 in
set_option maxHeartbeats 1000000 in
theorem encode_any (s : List UInt8) (w : World) (hs : s.length ≤ 1000000) :
    Calls Tryz.prog 21 #[.string ⟨s.toArray⟩] w fun e w' => e = .returned (.string ⟨(encL s).toArray⟩) ∧ Below w.heap.size w w' := by
  obtain ⟨m, hm⟩ : ∃ m, s.length + 1 + cnt (splitS s) = m := ⟨_, rfl⟩
  have hmle : m ≤ 3000000 := by
    have := cnt_le (splitS s)
    have := splitS_len s
    omega
  have HS := hide (size_calls hs hm)
  clear hm
  refine (callsIn_wide (n := 5)).1 ?_
  refine callsIn_of_wp_marks Tryz.func21 rfl trivial ?_ rfl
  simp only [Tryz.ntmps21, List.size_toArray, List.length_cons, List.length_nil, Nat.reduceAdd, Nat.reduceSub, Array.replicate_succ, Array.replicate_zero, List.push_toArray, List.append_toArray, List.nil_append, List.cons_append]
  gi_wp2_with (first
    | (refine ⟨trivial, ?_⟩; gi_at_call 35; refine (callsIn_wide.2 (HS.out _)).mono ?_; rintro e w1 ⟨rfl, hb1⟩
       have HG := hide (Tryz.Builder_Grow_fresh w.heap.size w.heap.size m w1 (Nat.le_refl _) ((hb1.block _ (by simp)).trans (Blk.new w _ _)) (by have := hb1.size; simp at this; omega) (by omega))
       replace hb1 := hide hb1)
    | (refine ⟨trivial, ?_⟩; gi_at_call 34; refine (callsIn_wide.2 HG.out).mono ?_; rintro e w2 ⟨rfl, hbl2, hb2⟩
       replace hb2 := hide hb2
       replace hbl2 := hide hbl2)
    | (refine ⟨trivial, ?_⟩; gi_at_call 36; refine (callsIn_wide.2 (lines_any s _)).mono ?_; rintro e w' ⟨rfl, rfl⟩))
  obtain ⟨W0, hW0⟩ : ∃ W0, w2.alloc (.cells #[.string ⟨s.toArray⟩] 9) = W0 := ⟨_, rfl⟩
  have hbw2 : Below w.heap.size w w2 := (((Below.refl _ _).alloc (Nat.le_refl _) _).trans (hb1.out.mono (by simp))).trans hb2.out
  have hbl := Lib.IsBuilderF.of (.inr hbl2.out)
  have hlt2 : w.heap.size < w2.heap.size := hbl2.out.lt
  have hsz : W0.heap.size = w2.heap.size + 1 := by rw [← hW0]; simp
  have hb0 : Below w.heap.size w W0 := by rw [← hW0]; exact hbw2.alloc (by omega) _
  have hBs : Blk W0 w2.heap.size #[.string ⟨s.toArray⟩] 9 := by rw [← hW0]; exact Blk.new _ _ _
  have hB0 : Lib.IsBuilderF 67 5 w.heap.size w.heap.size (Lib.byteCells (qAll [])) W0 := by rw [← hW0]; exact hbl.alloc _
  rw [hW0]
  clear hW0 hbl hbw2 hb2 hbl2 hb1 HG
  have hsub : ∀ k, k < w.heap.size + 1 → ¬ Own3 w2.heap.size W0.heap.size k := by rintro k hk (h | h | h) <;> omega
  refine range_lines (by omega) (s := s) (Bs := w2.heap.size) (by omega) rfl rfl hBs
    (fun pre W => Lib.IsBuilderF 67 5 w.heap.size w.heap.size (Lib.byteCells (qAll pre)) W ∧ Below w.heap.size w W) (fun _ _ => False)
    (fun pre W W' h hn hm => ⟨isBuilder_mvs h.1 hm (hsub _ (by omega)) hn, below_mvs h.2 hm (fun k hk => hsub k (by omega)) (Nat.le_refl _)⟩) (fun _ _ _ h _ _ => h) ⟨hB0, hb0⟩
    (fun x => { tmps := #[.string ⟨s.toArray⟩, undef, .string ⟨#[]⟩, .pointer (some ⟨w.heap.size, 0, none⟩), .string ⟨x.toArray⟩, .string ⟨s.toArray⟩, .int .i64 (m : Int), .tuple #[], .string ⟨s.toArray⟩,
      .func (.func 73) #[] #[.pointer (some ⟨w2.heap.size, 0, none⟩)], .string ⟨x.toArray⟩, undef, undef, undef, undef, undef], defers := [] }) ?assign ?body ?done ?stop
  case assign =>
    intro l x W K hK
    gi_wp2
    exact hK
  case body =>
    rintro l pre x W ⟨hi, hbW⟩ hpost hlt hr hu hd
    have hp := pre_le hpost
    have hq := qAll_len hpost
    have HX := hide (qAll_snoc pre x)
    have HQ := hide (quote_any x W (by omega))
    have hbsz := hbW.size
    have HW := hide (Tryz.Builder_WriteString_k w.heap.size w.heap.size _ ⟨(quoteL x).toArray⟩ W hi (by rw [Lib.byteCells_length, size_lit]; omega) hbsz)
    have HK := hide (And.intro hu (And.intro hd hr))
    have HB := hide hbW
    clear hi hbW hpost hu hd hr
    generalize quoteL x = y at HQ HX HW hq
    gi_wp2_with (first
      | (refine ⟨trivial, ?_⟩; gi_at_call 38; refine (CallsIn.inRound l (callsIn_wide.2 HQ.out)).mono ?_; rintro e w' ⟨rfl, rfl⟩)
      | (refine ⟨trivial, ?_⟩; gi_at_call 37; refine (CallsIn.inRound l (callsIn_wide.2 HW.out)).mono ?_; rintro e w3 ⟨rfl, hbl3, hb3, ho3⟩; replace hbl3 := hide hbl3; replace hb3 := hide hb3; replace ho3 := hide ho3))
    obtain ⟨hu, hd, hr⟩ := HK.out
    refine ⟨kept3_others ho3.out hu hd hr (hsub _ (by omega)), ?_, HB.out.trans hb3.out⟩
    rw [HX.out, ← byteCells_app]
    exact .inr hbl3.out
  case done =>
    rintro W ⟨hi, hbW⟩ hK
    have hq : (qAll (splitS s)).length ≤ 3000000 := by
      have h3 := quo_len (splitS s)
      have h4 := cnt_le (splitS s)
      have h5 := splitS_len s
      rw [splitS_flat] at h3
      unfold cnt at h4
      unfold qAll
      omega
    have HW := hide (Tryz.Builder_WriteByte_k w.heap.size w.heap.size _ 10 W hi (by rw [Lib.byteCells_length]; omega) hbW.size)
    rw [byteCells_10] at HW
    have HE : Hid (qAll (splitS s) ++ [10] = encL s) := enc_alt s.length s (Nat.le_refl _)
    have HB := hide hbW
    have HD := hide hK
    have hWs := (Array.getElem?_eq_some_iff.1 hK).1
    have hWw : w.heap.size < W0.heap.size := by omega
    clear hi hbW hK hsz
    gi_wp2_with (first
      | (refine ⟨trivial, ?_⟩; gi_at_call 39; refine (callsIn_wide.2 HW.out).mono ?_; rintro e w3 ⟨rfl, hbl3, hb3, ho3⟩
         have HT := hide (Tryz.Builder_String_any_k w.heap.size w.heap.size (qAll (splitS s) ++ [10]) w3 (.inr hbl3) (Nat.le_trans HB.out.size hb3.size))
         replace hbl3 := hide hbl3; replace hb3 := hide hb3; replace ho3 := hide ho3)
      | (refine ⟨trivial, ?_⟩; gi_at_call 40; refine (callsIn_wide.2 HT.out).mono ?_; rintro e w4 ⟨rfl, hbl4, hb4, ho4⟩; replace hb4 := hide hb4; replace ho4 := hide ho4; clear hbl4))
    have hK4 : w4.heap[W0.heap.size]? = some (.deferred (some [])) := by
      refine ho4.out _ _ (ho3.out _ _ HD.out ?_ ?_) ?_ ?_
      · intro e; have := Option.some.inj e; omega
      · intro c fz e; cases e
      · intro e; have := Option.some.inj e; omega
      · intro c fz e; cases e
    have hbF : Below w.heap.size w w4 := (HB.out.trans hb3.out).trans hb4.out
    refine ⟨by simp, .inl ⟨_, _, rfl, run_takeDeferred hK4, ?_⟩⟩
    exact ⟨_, results_tmp rfl _ _ _, by rw [← HE.out]; rfl, hbF.trans (belowK_b (w := w) (Nat.le_refl _) w4 _ _ _ (by omega) hK4 rfl rfl)⟩
  case stop =>
    rintro c W h _
    exact h.elim
end Go.Proofs.YtcmhaihoeecjoaaGreatDoor

end
section
namespace Go.Proofs.YtcmhaihoeecjoaaGreatDoor
open Go.RowKit Go.Shelf
attribute [local go_sem] Oper.semAt_some
/-- The message that stands in a file so. -/
def decV (s : List UInt8) : Option (List UInt8) := if s.getLast? = some 10 ∧ anySep s = false then some (unqL s).dropLast else none
/-- What Decode answers. -/
def decT (s : List UInt8) (v : Value) : Value := match decV s with
  | some m => .tuple #[.string ⟨m.toArray⟩, .nilIface]
  | none => .tuple #[.string ⟨#[]⟩, v]
theorem suf_end (m : List UInt8) : Lib.hasSuffix (m ++ [10]) [10] = true := by
  unfold Lib.hasSuffix
  simp [List.isSuffixOf]
theorem suf_iff (s : List UInt8) : Lib.hasSuffix s [10] = true ↔ s.getLast? = some 10 := by
  rcases List.eq_nil_or_concat s with rfl | ⟨t, c, rfl⟩
  · simp [Lib.hasSuffix, List.isSuffixOf]
  · simp [Lib.hasSuffix, List.isSuffixOf]
    constructor <;> (intro h; exact h.symm)
theorem last_form {s : List UInt8} (h : s.getLast? = some 10) : ∃ t, s = t ++ [10] := by
  rcases List.eq_nil_or_concat s with rfl | ⟨t, c, rfl⟩
  · simp at h
  · simp at h
    exact ⟨t, by rw [h, List.concat_eq_append]⟩
theorem trim_end (m : List UInt8) : Lib.trimSuffix (m ++ [10]) [10] = m := by
  unfold Lib.trimSuffix
  rw [if_pos (suf_end m)]
  simp
theorem suf_calls {s : List UInt8} {b : Bool} (hs : s.length ≤ 1000000) (hb : Lib.hasSuffix s [10] = b) (w : World) : Calls Tryz.prog 54 #[.string ⟨s.toArray⟩, .string ⟨#[10]⟩] w fun e w' => e = .returned (.bool b) ∧ w' = w := by
  subst hb
  exact Tryz.strings_HasSuffix ⟨s.toArray⟩ ⟨#[10]⟩ w (by rw [size_lit]; omega)
theorem trimS_calls {s m : List UInt8} (hs : s.length ≤ 1000000) (hb : s = m ++ [10]) (w : World) : Calls Tryz.prog 56 #[.string ⟨s.toArray⟩, .string ⟨#[10]⟩] w fun e w' => e = .returned (.string ⟨m.toArray⟩) ∧ w' = w := by
  have := Tryz.strings_TrimSuffix ⟨s.toArray⟩ ⟨#[10]⟩ w (by rw [size_lit]; omega)
  have e1 : (Lib.trimSuffix s [10]) = m := by rw [hb, trim_end]
  rw [show (⟨s.toArray⟩ : ByteArray).data.toList = s from rfl, show (⟨#[10]⟩ : ByteArray).data.toList = [10] from rfl, e1] at this
  exact this
/-- The lines so far, unquoted. -/
def uAll (pre : List (List UInt8)) : List UInt8 := (pre.map unquoteL).flatten
theorem uAll_snoc (pre : List (List UInt8)) (x : List UInt8) : uAll (pre ++ [x]) = uAll pre ++ unquoteL x := by simp [uAll]
theorem unquote_len (x : List UInt8) : (unquoteL x).length ≤ x.length := by unfold unquoteL; split <;> simp
theorem sep_mem {pre : List (List UInt8)} {x s : List UInt8} (h : ∃ post, pre ++ x :: post = splitS s) (hx : sepB x = true) : anySep s = true := by
  obtain ⟨post, h⟩ := h
  unfold anySep
  rw [← h]
  simp [hx]
theorem Blk.new2 (w : World) (o o2 : Obj) (vs : Array Value) (t : TypeId) : Blk (((w.alloc o).alloc o2).alloc (.cells vs t)) (w.heap.size + 2) vs t := by
  have := Blk.new1 (w.alloc o) o2 vs t
  rwa [World.size_alloc] at this
theorem Blk.putObj {W : World} {b l : Nat} {vs : Array Value} {t : TypeId} (h : Blk W b vs t) (o : Obj) (hne : b ≠ l) : Blk (W.putObj l o) b vs t := (World.putObj_heap_other hne).trans h
theorem leave2 {W w : World} {v1 v2 T : Value} {tmps : Array Value} {r1 r2 : Nat} (hT : T = .tuple #[v1, v2]) (h1 : Blk W r1 #[v1] 9) (h2 : Blk W r2 #[v2] 24) (hb : Below w.heap.size w W)
    (ht1 : tmps[2]? = some (.pointer (some ⟨r1, 0, none⟩)) := by rfl) (ht2 : tmps[3]? = some (.pointer (some ⟨r2, 0, none⟩)) := by rfl) :
    LeavesInM Fence.wide 5 Tryz.prog Tryz.f31 tmps (fun e w' => e = .returned T ∧ Below w.heap.size w w') [] .returning W := by
  have c1 := h1.cell
  have c2 := h2.cell
  refine ⟨.tuple #[v1, v2], ?_, by rw [hT], hb⟩
  simp [results, Tryz.results31, go_sem, ht1, ht2, c1, c2]
set_option maxRecDepth 20000 in
set_option maxHeartbeats 1000000 in
theorem decode_any (s : List UInt8) (w : World) (p : Addr) (hs : s.length ≤ 1000000) (hg : decV s = none → 1 < w.heap.size ∧ w.cell? ⟨1, 0, none⟩ = some (.iface 167 (.pointer (some p)))) :
    Calls Tryz.prog 31 #[.string ⟨s.toArray⟩] w fun e w' => e = .returned (decT s (.iface 167 (.pointer (some p)))) ∧ Below w.heap.size w w' := by
  by_cases hend : s.getLast? = some 10
  · have HS := hide (suf_calls hs ((suf_iff s).2 hend))
    refine (callsIn_wide (n := 5)).1 ?_
    refine callsIn_of_wp_marks Tryz.func31 rfl trivial ?_ rfl
    simp only [Tryz.ntmps31, List.size_toArray, List.length_cons, List.length_nil, Nat.reduceAdd, Nat.reduceSub, Array.replicate_succ, Array.replicate_zero, List.push_toArray, List.append_toArray, List.nil_append, List.cons_append]
    have HG := hide hg
    have HEND := hide hend
    clear hg hend
    have HGr := hide (Tryz.Builder_Grow_fresh (w.heap.size + 2) (w.heap.size + 2) s.length (((w.alloc (.cells #[.string ⟨#[]⟩] 9)).alloc (.cells #[.nilIface] 24)).alloc (.cells #[.pointer none, .slice none 0 0] 67)) (Nat.le_refl _) (Blk.new2 _ _ _ _ _) (by simp) (by omega))
    gi_wp2_with (first
      | (refine ⟨trivial, ?_⟩; gi_at_call 54; refine (callsIn_wide.2 (HS.out _)).mono ?_; rintro e w' ⟨rfl, rfl⟩)
      | (refine ⟨trivial, ?_⟩; gi_at_call 34; refine (callsIn_wide.2 HGr.out).mono ?_; rintro e w2 ⟨rfl, hbl2, hb2⟩; replace hbl2 := hide hbl2; replace hb2 := hide hb2)
      | (refine ⟨trivial, ?_⟩; gi_at_call 36; refine (callsIn_wide.2 (lines_any s _)).mono ?_; rintro e w' ⟨rfl, rfl⟩))
    obtain ⟨W0, hW0⟩ : ∃ W0, w2.alloc (.cells #[.string ⟨s.toArray⟩] 9) = W0 := ⟨_, rfl⟩
    have hb2' := hb2.out
    have hbw2 : Below w.heap.size w w2 := (((((Below.refl _ _).alloc (Nat.le_refl _) _).alloc (by simp) _).alloc (by simp; omega) _)).trans (hb2'.mono (by omega))
    have hbl := Lib.IsBuilderF.of (.inr hbl2.out)
    have hlt2 : w.heap.size + 2 < w2.heap.size := hbl2.out.lt
    have hr1 : Blk w2 w.heap.size #[.string ⟨#[]⟩] 9 := (((Blk.new w _ _).alloc _).alloc _).below hb2' (by omega)
    have hr2 : Blk w2 (w.heap.size + 1) #[.nilIface] 24 := ((Blk.new1 w _ _ _).alloc _).below hb2' (by omega)
    have hsz : W0.heap.size = w2.heap.size + 1 := by rw [← hW0]; simp
    have hb0 : Below w.heap.size w W0 := by rw [← hW0]; exact hbw2.alloc (by omega) _
    have hBs : Blk W0 w2.heap.size #[.string ⟨s.toArray⟩] 9 := by rw [← hW0]; exact Blk.new _ _ _
    have hB0 : Lib.IsBuilderF 67 5 (w.heap.size + 2) (w.heap.size + 2) (Lib.byteCells (uAll [])) W0 := by rw [← hW0]; exact hbl.alloc _
    replace hr1 : Blk W0 w.heap.size #[.string ⟨#[]⟩] 9 := by rw [← hW0]; exact hr1.alloc _
    replace hr2 : Blk W0 (w.heap.size + 1) #[.nilIface] 24 := by rw [← hW0]; exact hr2.alloc _
    rw [hW0]
    clear hW0 hbl hbw2 hb2 hbl2 hb2' HGr HS
    have hsub : ∀ k, k < w.heap.size + 3 → ¬ Own3 w2.heap.size W0.heap.size k := by rintro k hk (h | h | h) <;> omega
    refine range_lines (by omega) (s := s) (Bs := w2.heap.size) (by omega) rfl rfl hBs
      (fun pre W => (Lib.IsBuilderF 67 5 (w.heap.size + 2) (w.heap.size + 2) (Lib.byteCells (uAll pre)) W ∧ Below w.heap.size w W) ∧ (Blk W w.heap.size #[.string ⟨#[]⟩] 9 ∧ Blk W (w.heap.size + 1) #[.nilIface] 24) ∧ pre.any sepB = false)
      (fun c W => c = .ret ∧ (Blk W w.heap.size #[.string ⟨#[]⟩] 9 ∧ Blk W (w.heap.size + 1) #[.iface 167 (.pointer (some p))] 24) ∧ Below w.heap.size w W ∧ anySep s = true)
      (fun pre W W' h hn hm => ⟨⟨isBuilder_mvs h.1.1 hm (hsub _ (by omega)) hn, below_mvs h.1.2 hm (fun k hk => hsub k (by omega)) (Nat.le_refl _)⟩, ⟨hm.blk h.2.1.1 (hsub _ (by omega)), hm.blk h.2.1.2 (hsub _ (by omega))⟩, h.2.2⟩)
      (fun c W W' h _ hm => ⟨h.1, ⟨hm.blk h.2.1.1 (hsub _ (by omega)), hm.blk h.2.1.2 (hsub _ (by omega))⟩, below_mvs h.2.2.1 hm (fun k hk => hsub k (by omega)) (Nat.le_refl _), h.2.2.2⟩) ⟨⟨hB0, hb0⟩, ⟨hr1, hr2⟩, rfl⟩
      (fun x => { tmps := #[.string ⟨s.toArray⟩, undef, .pointer (some ⟨w.heap.size, 0, none⟩), .pointer (some ⟨w.heap.size + 1, 0, none⟩), .pointer (some ⟨w.heap.size + 1 + 1, 0, none⟩), .string ⟨x.toArray⟩, undef, undef, .string ⟨s.toArray⟩, .bool true, .bool false, undef, .string ⟨s.toArray⟩, .int .i64 s.length, .tuple #[], .string ⟨s.toArray⟩,
        .func (.func 73) #[] #[.pointer (some ⟨w2.heap.size, 0, none⟩)], .string ⟨x.toArray⟩, undef, undef, undef, undef, undef, undef, undef, undef, undef, undef, undef, undef], defers := [] }) ?assign ?body ?done ?stop
    case assign =>
      intro l x W K hK
      gi_wp2
      exact hK
    case body =>
      rintro l pre x W ⟨⟨hi, hbW⟩, ⟨h1, h2⟩, hns⟩ hpost hlt hr hu hd
      have hp := pre_le hpost
      have hfl := post_flat hpost
      have hul := unq_len pre
      have hxl := unquote_len x
      have HX := hide (uAll_snoc pre x)
      have HL := hide (looks_any x W)
      have HK := hide (And.intro hu (And.intro hd hr))
      have HB := hide hbW
      have HI := hide hi
      have H1 := hide h1
      have H2 := hide h2
      have HN := hide hns
      have hbsz := hbW.size
      cases hx : sepB x with
      | true =>
        have HA := hide (sep_mem hpost hx)
        rw [hx] at HL
        have hdn : decV s = none := by unfold decV; rw [if_neg (fun h => by rw [HA.out] at h; cases h.2)]
        obtain ⟨hlow, hg⟩ := HG.out hdn
        have hgW : W.cell? ⟨1, 0, none⟩ = some (.iface 167 (.pointer (some p))) := (hbW.cell (p := ⟨1, 0, none⟩) hlow).trans hg
        have hc1 := h1.cell
        have hf1 := h1.frozen
        have hc2 := h2.cell
        have hf2 := h2.frozen
        have hmx : Tryz.prog.follows .mixedOrders = true := by kernel_rfl
        clear hi hbW hpost hu hd hr h1 h2 hns hx hdn hg
        gi_wp2_with (first
          | (refine ⟨trivial, ?_⟩; gi_at_call 52; refine (CallsIn.inRound l (callsIn_wide.2 HL.out)).mono ?_; rintro e w' ⟨rfl, rfl⟩))
        gi_region_with_o (fail)
        all_goals gi_wp2
        all_goals (try go_bits)
        all_goals
          refine ⟨fun k hk => ?_, rfl, ⟨(H1.out.set 0 _).set_other _ _ (by simp), (H2.out.set_other _ _ (by simp)).set 0 _⟩, ?_, HA.out⟩
          · have hk3 : ¬ k < w.heap.size + 3 := fun h => hsub k h hk
            exact (heap_setCell_other (by omega)).trans (heap_setCell_other (by omega))
          · exact ((HB.out.setCell (p := ⟨w.heap.size, 0, none⟩) (Nat.le_refl _) _).setCell (p := ⟨w.heap.size + 1, 0, none⟩) (by simp) _).drew
      | false =>
        have HQ := hide (unquote_any x W (by omega))
        have HW := hide (Tryz.Builder_WriteString_k (w.heap.size + 2) (w.heap.size + 2) _ ⟨(unquoteL x).toArray⟩ W hi (by rw [Lib.byteCells_length, size_lit]; unfold uAll; omega) (by omega))
        have HSX := hide hx
        rw [hx] at HL
        clear hi hbW hpost hu hd hr h1 h2 hns hx
        generalize unquoteL x = y at HQ HX HW hxl
        gi_wp2_with (first
          | (refine ⟨trivial, ?_⟩; gi_at_call 52; refine (CallsIn.inRound l (callsIn_wide.2 HL.out)).mono ?_; rintro e w' ⟨rfl, rfl⟩)
          | (refine ⟨trivial, ?_⟩; gi_at_call 55; refine (CallsIn.inRound l (callsIn_wide.2 HQ.out)).mono ?_; rintro e w' ⟨rfl, rfl⟩)
          | (refine ⟨trivial, ?_⟩; gi_at_call 37; refine (CallsIn.inRound l (callsIn_wide.2 HW.out)).mono ?_; rintro e w3 ⟨rfl, hbl3, hb3, ho3⟩; replace hbl3 := hide hbl3; replace hb3 := hide hb3; replace ho3 := hide ho3))
        obtain ⟨hu, hd, hr⟩ := HK.out
        refine ⟨kept3_others ho3.out hu hd hr (hsub _ (by omega)), ⟨?_, HB.out.trans (hb3.out.mono (by omega))⟩, ⟨H1.out.below hb3.out (by omega), H2.out.below hb3.out (by omega)⟩, ?_⟩
        · rw [HX.out, ← byteCells_app]
          exact .inr hbl3.out
        · rw [List.any_append, HN.out]
          simp [HSX.out]
    case done =>
      rintro W ⟨⟨hi, hbW⟩, ⟨h1, h2⟩, hns⟩ hK
      obtain ⟨t, ht⟩ := last_form HEND.out
      obtain ⟨m, hm⟩ := unq_end t
      have hU : uAll (splitS s) = m ++ [10] := by rw [← hm, ← ht]; rfl
      have HD : Hid (decT s (.iface 167 (.pointer (some p))) = .tuple #[.string ⟨m.toArray⟩, .nilIface]) := by
        show _ = _
        unfold decT decV
        rw [if_pos ⟨HEND.out, hns⟩, show unqL s = m ++ [10] by rw [ht]; exact hm, List.dropLast_concat]
      have hml : m.length + 1 ≤ 1000000 := by
        have h3 := unq_len (splitS s)
        rw [splitS_flat] at h3
        have h4 : (uAll (splitS s)).length ≤ s.length := h3
        rw [hU] at h4
        simp at h4
        omega
      rw [hU] at hi
      have hWs := (Array.getElem?_eq_some_iff.1 hK).1
      have HT := hide (Tryz.Builder_String_any_k (w.heap.size + 2) (w.heap.size + 2) (m ++ [10]) W hi (by omega))
      have HTr := hide (trimS_calls (s := m ++ [10]) (m := m) (by simpa using hml) rfl)
      have HB := hide hbW
      have HK := hide hK
      have H1 := hide h1
      have H2 := hide h2
      have hWw : w.heap.size + 3 < W0.heap.size := by omega
      clear hi hbW hK h1 h2 hsz hns hU hm ht
      generalize m ++ [10] = u at HT HTr
      gi_wp2_with (first
        | (refine ⟨trivial, ?_⟩; gi_at_call 40; refine (callsIn_wide.2 HT.out).mono ?_; rintro e w4 ⟨rfl, hbl4, hb4, ho4⟩
           have hc1 := (H1.out.below hb4 (by omega)).cell
           have hf1 := (H1.out.below hb4 (by omega)).frozen
           have hc2 := (H2.out.below hb4 (by omega)).cell
           have hf2 := (H2.out.below hb4 (by omega)).frozen
           replace hb4 := hide hb4; replace ho4 := hide ho4; clear hbl4)
        | (refine ⟨trivial, ?_⟩; gi_at_call 56; refine (callsIn_wide.2 (HTr.out _)).mono ?_; rintro e w' ⟨rfl, rfl⟩))
      have hK4 : w'.heap[W0.heap.size]? = some (.deferred (some [])) := ho4.out _ _ HK.out (fun e => by have := Option.some.inj e; omega) (fun c fz e => by cases e)
      have hK5 : ((w'.setCell ⟨w.heap.size, 0, none⟩ (.string ⟨m.toArray⟩)).setCell ⟨w.heap.size + 1, 0, none⟩ .nilIface).heap[W0.heap.size]? = some (.deferred (some [])) := (heap_setCell_other (by omega)).trans ((heap_setCell_other (by omega)).trans hK4)
      have h1' := ((H1.out.below hb4.out (by omega)).set 0 (.string ⟨m.toArray⟩)).set_other ⟨w.heap.size + 1, 0, none⟩ .nilIface (by simp)
      have h2' := ((H2.out.below hb4.out (by omega)).set_other ⟨w.heap.size, 0, none⟩ (.string ⟨m.toArray⟩) (by simp)).set 0 .nilIface
      have hbF := ((HB.out.trans (hb4.out.mono (by omega))).setCell (p := ⟨w.heap.size, 0, none⟩) (Nat.le_refl _) (.string ⟨m.toArray⟩)).setCell (p := ⟨w.heap.size + 1, 0, none⟩) (by simp) .nilIface
      refine ⟨by simp, .inl ⟨_, _, rfl, run_takeDeferred hK5, ?_⟩⟩
      exact leave2 HD.out (h1'.putObj _ (by omega)) (h2'.putObj _ (by omega)) (hbF.trans (belowK_b (w := w) (Nat.le_refl _) _ _ _ _ (by omega) hK5 rfl rfl))
    case stop =>
      rintro c W ⟨rfl, ⟨h1, h2⟩, hbW, ha⟩ hK
      have hdn : decV s = none := by unfold decV; rw [if_neg (fun h => by rw [ha] at h; cases h.2)]
      have HD : Hid (decT s (.iface 167 (.pointer (some p))) = .tuple #[.string ⟨#[]⟩, .iface 167 (.pointer (some p))]) := by
        show _ = _
        unfold decT
        rw [hdn]
      gi_wp2
      refine ⟨by simp, .inl ⟨_, _, rfl, run_takeDeferred hK, ?_⟩⟩
      exact leave2 HD.out (h1.putObj _ (by omega)) (h2.putObj _ (by omega)) (hbW.trans (belowK_b (w := w) (Nat.le_refl _) W _ _ _ (by omega) hK rfl rfl))
  · have hb : Lib.hasSuffix s [10] = false := by
      cases h : Lib.hasSuffix s [10] with
      | true => exact absurd ((suf_iff s).1 h) hend
      | false => rfl
    have hn : decV s = none := by unfold decV; rw [if_neg (fun h => hend h.1)]
    have HS := hide (suf_calls hs hb)
    obtain ⟨hlow, hc⟩ := hg hn
    have HT : Hid (decT s (.iface 167 (.pointer (some p))) = .tuple #[.string ⟨#[]⟩, .iface 167 (.pointer (some p))]) := by show _ = _; unfold decT; rw [hn]
    have hc2 : ((w.alloc (.cells #[.string ⟨#[]⟩] 9)).alloc (.cells #[.nilIface] 24)).cell? ⟨1, 0, none⟩ = some (.iface 167 (.pointer (some p))) :=
      (Below.cell (p := ⟨1, 0, none⟩) (((Below.refl w.heap.size w).alloc (Nat.le_refl _) _).alloc (by simp) _) hlow).trans hc
    clear hb hn hg hc
    go_enter Tryz.func31, Tryz.ntmps31
    go_wp2_with (first
      | (go_at_call 54; refine (HS.out _).mono ?_; rintro e w' ⟨rfl, rfl⟩))
    go_region
    go_wp2
    refine bodyPost_ret (v := .tuple #[.string ⟨#[]⟩, .iface 167 (.pointer (some p))]) (by simp [results, Tryz.results31, go_sem]) rfl ⟨by rw [HT.out], ?_⟩
    exact (((Below.refl _ _).alloc (Nat.le_refl _) _).alloc (by simp) _).drew
end Go.Proofs.YtcmhaihoeecjoaaGreatDoor

end
