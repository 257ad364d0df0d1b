/- The law of copies. -/
import Derived.Test.YtdbmaobjikjifaaGreatDoorRU42
import Derived.Test.YtdbmaobjikjifaaGreatDoorRU43
set_option linter.unusedVariables false
set_option linter.unusedSimpArgs false
namespace Go.Proofs.YtdbmaobjikjifaaGreatDoorR
open Go.RowKit Go.Shelf
def BoAt (w : World) (g o : Nat) (b : Bool) : Prop := w.cell? ⟨g, o, none⟩ = some (.bool b)
theorem stb_bool : Stb BoAt := fun w w' g o x hg hb h => cell_belowP hb hg h
def stC (x : List UInt8) : List Value := [.string ⟨x.toArray⟩]
theorem stC_len (x : List UInt8) : (stC x).length = 1 := rfl
theorem stC_rd {w : World} {v : Value} {xs : List (List UInt8)} {G : Option Nat} (h : Rw w 1 v xs.length (xs.flatMap stC) G) : RdE 1 StrAt w v xs := by
  obtain ⟨A, c, rfl, _, hk⟩ := rw_at stC_len h
  refine ⟨A, c, rfl, fun i hi => ?_⟩
  obtain ⟨g, o, e, _, hg, _, hc⟩ := hk i hi
  exact ⟨g, o, e, hg, (hc 0 (by omega)).1⟩
theorem and31P : ((List.range 21).all fun k => decide (bits .and .i64 (k : Int) 31 = ((k &&& 31 : Nat) : Int))) = true := by kernel_rfl
theorem and31p {k : Nat} (h : k ≤ 20) : bits .and .i64 (k : Int) 31 = ((k &&& 31 : Nat) : Int) := by
  have := List.all_eq_true.1 and31P k (List.mem_range.2 (by omega))
  exact of_decide_eq_true this
theorem strInfoK : (Tryz.prog.info? 9).map (fun i => (i.zero, i.size, i.bytes)) = some (some (.string ⟨#[]⟩), 1, 16) := by kernel_rfl
theorem inC_ones (xs : List Int) : ∀ u ∈ xs.flatMap inC, u.oneCell' = true := by
  intro u hu
  obtain ⟨x, _, h⟩ := List.mem_flatMap.1 hu
  rw [inC, List.mem_singleton] at h
  rw [h]
  rfl
theorem wrapK {x : Int} (h0 : 0 ≤ x) (h1 : x ≤ 4000000000000000) : IntKind.i64.wrap x = x := by
  rw [IntKind.wrap_i64]
  omega
theorem rw_src1 {w : World} {v : Value} {n : Nat} {cs : List Value} {G : Option Nat} {t e : TypeId} (ht : Tryz.prog.underlying t = some (.slice e)) (h : Rw w 1 v n cs G) (h1 : ∀ u ∈ cs, u.oneCell' = true) : Src Tryz.prog 1 t v n cs w := by
  have hl := h.1
  rcases h.2 with ⟨rfl, rfl, _⟩ | ⟨g, o, cap, _, rfl, _, _, _, h4, _⟩
  · have : cs = [] := List.length_eq_zero_iff.1 (by omega)
    subst this
    exact Src.ofNil _ ht 0
  · refine Src.ofSlice _ ht ⟨g, o, none⟩ _ _ cs (by omega) (fun j u hu => ?_) h1
    rw [Go.WideShapes.add_plain]
    exact h4 j u hu
theorem str_boxes {w : World} {A B C x y : Value} {s : Stt} (h : StR w (.agg #[A, B, C, x, y]) s) : RdE 5 BxAt w A s.boxes := by
  obtain ⟨bv, sv, qv, e, k, _, _⟩ := h
  have e2 : (some A : Option Value) = some bv := congrArg (fun v => match v with | .agg a => a[0]? | _ => none) e
  have e3 := Option.some.inj e2
  subst e3
  exact k
theorem z_at (pk : List Bool) (bs : List (List UInt8)) (i k : Nat) (hk : k < bs.length) (hp : pkd pk k = true) (hD : (sel pk 0 bs).drop i = sel pk k (bs.drop k)) : (sel pk 0 bs)[i]? = some (k, bs[k]) ∧ (sel pk 0 bs).drop (i + 1) = sel pk (k + 1) (bs.drop (k + 1)) := by
  rw [sel_drop pk bs k hk, if_pos hp] at hD
  constructor
  · have h := congrArg (fun l => l[0]?) hD
    simpa using h
  · rw [← List.tail_drop, hD]
    rfl
theorem z_msg (pk : List Bool) (bs : List (List UInt8)) (i k : Nat) (b : List UInt8) (hi : i < (rnM 1 (cpO pk bs)).length) (h : (sel pk 0 bs)[i]? = some (k, b)) : (rnM 1 (cpO pk bs))[i] = ⟨(i : Int) + 1, ((k &&& 31 : Nat) : Int), (k : Int), b⟩ := by
  rw [rnM_at]
  obtain ⟨h1, h2⟩ := List.getElem?_eq_some_iff.1 h
  have e : (cpO pk bs)[i]'(by rw [rnM_len] at hi; exact hi) = cpM0 k b := by
    unfold cpO
    simp only [List.getElem_map, h2]
  rw [e, Int.add_comm 1 (i : Int)]
  rfl
theorem z_want (pk : List Bool) (bs : List (List UInt8)) (i k : Nat) (b : List UInt8) (hi : i < (selW pk bs).length) (h : (sel pk 0 bs)[i]? = some (k, b)) : (selW pk bs)[i] = b := by
  obtain ⟨h1, h2⟩ := List.getElem?_eq_some_iff.1 h
  show ((sel pk 0 bs).map fun x => x.2)[i]'(by rw [List.length_map]; exact h1) = b
  rw [List.getElem_map, h2]
set_option maxRecDepth 20000 in
set_option maxHeartbeats 32000000 in
theorem postCopies_walk {w : World} {v0 v1 : Value} {bs : List (List UInt8)} {pk : List Bool} {ea : Nat → Addr} (hE : Errs w ea) (h0 : RdE 1 StrAt w v0 bs) (h1 : RdE 1 BoAt w v1 pk) :
    Calls Tryz.prog 4 #[v0, v1] w fun e w' => e = .returned (.bool true) ∧ Below w.heap.size w w' := by
  obtain ⟨Aa, ca, rfl⟩ := h0.form
  obtain ⟨Ab, cb, rfl⟩ := h1.form
  have HEr := hide hE
  have H0 := hide h0
  have H1 := hide h1
  have HAl := hide (alive15_any hE)
  clear hE h0 h1
  obtain ⟨nb, hnb⟩ : ∃ nb, Hid (bs.length = nb) := ⟨_, hide rfl⟩
  obtain ⟨np, hnp⟩ : ∃ np, Hid (pk.length = np) := ⟨_, hide rfl⟩
  rw [hnb.out, hnp.out]
  rw [hnb.out] at H0
  rw [hnp.out] at H1
  by_cases h20 : 20 < nb
  · have h20z : (20 : Int) < (nb : Int) := by omega
    go_enter Tryz.func4, Tryz.ntmps4
    go_wp2_with (go_at_call 5; refine HAl.out.mono ?_; rintro e w1 ⟨rfl, hb1⟩; replace hb1 := hide hb1)
    go_ret
    exact ⟨rfl, hb1.out⟩
  have h20z : ¬ (20 : Int) < (nb : Int) := by omega
  have HNew : Hid (∀ W, Calls Tryz.prog 6 #[.int .i64 1] W fun e w' => ∃ A1 c1 A2 c2 A3 c3, e = .returned (.tuple #[.agg #[.slice A1 1 c1, .slice A2 0 c2, .slice A3 0 c3, .int .i64 2, .int .i64 1], .nilIface]) ∧ StR w' (.agg #[.slice A1 1 c1, .slice A2 0 c2, .slice A3 0 c3, .int .i64 2, .int .i64 1]) alS0 ∧ Below W.heap.size W w') := fun W => by
    have := pnew_yes 1 (by omega) (by omega) W
    rw [al_new] at this
    refine Calls.mono this ?_
    rintro e w' ⟨v, rfl, hs, hb⟩
    have hs' := hs
    obtain ⟨bv, sv, qv, rfl, k1, k2, k3⟩ := hs
    obtain ⟨A1, c1, rfl⟩ := k1.form
    obtain ⟨A2, c2, rfl⟩ := k2.form
    obtain ⟨A3, c3, rfl⟩ := k3.form
    exact ⟨A1, c1, A2, c2, A3, c3, rfl, hs', hb⟩
  go_enter Tryz.func4, Tryz.ntmps4
  go_upto_region 8 with (first
    | (go_at_call 5; refine HAl.out.mono ?_; rintro e w1 ⟨rfl, hb1⟩; replace hb1 := hide hb1)
    | (go_at_call 6; refine (HNew.out _).mono ?_; rintro e w2 ⟨A1, c1, A2, c2, A3, c3, rfl, hs2, hb2⟩; replace hs2 := hide hs2; replace hb2 := hide hb2))
  have AL : Below w2.heap.size w2 (w2.alloc (.cells #[.slice A1 1 c1, .slice A2 0 c2, .slice A3 0 c3, .int .i64 2, .int .i64 1] 28)) := (Below.refl _ _).alloc (Nat.le_refl _) _
  have HB2 := hide (hb1.out.trans (hb2.out.mono hb1.out.size))
  have HB3 := hide (HB2.out.trans (AL.mono HB2.out.size))
  have HK := hide (Blk.new w2 #[.slice A1 1 c1, .slice A2 0 c2, .slice A3 0 c3, .int .i64 2, .int .i64 1] 28)
  have HS2 := hide (hs2.out.below AL)
  have HX0 : Hid (w.heap.size ≤ w2.heap.size) := HB2.out.size
  have HP1 := hide (ck_create (HEr.out.below HB3.out) HS2.out (show AcR _ (.agg #[.int .i64 1, .int .i64 0, .int .i64 0, .int .i64 0, .int .i64 0, .int .i64 0, .string ⟨#[116, 111]⟩, .string ⟨#[]⟩, .string ⟨#[]⟩, .string ⟨#[]⟩, .slice none 0 0, .slice none 0 0]) ckA0 from ⟨_, _, rfl, RdE.nil _ _ _, RdE.nil _ _ _⟩))
  have HPL : Hid (∀ w', Below (w2.alloc (.cells #[.slice A1 1 c1, .slice A2 0 c2, .slice A3 0 c3, .int .i64 2, .int .i64 1] 28)).heap.size (w2.alloc (.cells #[.slice A1 1 c1, .slice A2 0 c2, .slice A3 0 c3, .int .i64 2, .int .i64 1] 28)) w' → Blk w' w2.heap.size #[.slice A1 1 c1, .slice A2 0 c2, .slice A3 0 c3, .int .i64 2, .int .i64 1] 28) := fun w' hb => HK.out.below hb HK.out.lt
  have HXl : Hid (w2.heap.size < (w2.alloc (.cells #[.slice A1 1 c1, .slice A2 0 c2, .slice A3 0 c3, .int .i64 2, .int .i64 1] 28)).heap.size) := HK.out.lt
  clear hb1 hb2 hs2 HAl HNew HK
  go_upto_region 11 with (first
    | (go_at_call 8; refine HP1.out.mono ?_; rintro e w3 ⟨B1, d1, B2, d2, B3, d3, Au, cu, n3, rfl, hb3, hs3⟩; have HB4 := hide (HB3.out.trans (hb3.mono HB3.out.size)); have HK3 := hide (HPL.out _ hb3); have HT3 := hide hs3; clear hs3 hb3)
    | (refine wpList_store_row rfl 28 (.tmp 5) (.tmp 33) rfl w2.heap.size #[.slice B1 2 d1, .slice B2 0 d2, .slice B3 0 d3, .int .i64 3, .int .i64 1] (by simp [Act.eval, Act.put]) (by simp [Act.eval, Act.put]) 28 #[.slice A1 1 c1, .slice A2 0 c2, .slice A3 0 c3, .int .i64 2, .int .i64 1] HK3.out (by kernel_rfl) rfl (by simp [Value.oneCell']) ?_))
  have HM4 := row_mvs w3 w2.heap.size #[.slice B1 2 d1, .slice B2 0 d2, .slice B3 0 d3, .int .i64 3, .int .i64 1]
  have HK4 := hide (row_blk (cs := #[.slice B1 2 d1, .slice B2 0 d2, .slice B3 0 d3, .int .i64 3, .int .i64 1]) HK3.out)
  have HS4 := hide (HT3.out _ (HM4.mono (fun k _ e => by rw [e]; exact HXl.out)))
  have HB5 := hide (HB4.out.trans (HM4.below (B := w.heap.size) (fun k hk e => by have := HX0.out; omega) HB4.out.size))
  obtain ⟨X, hX⟩ : ∃ X, Hid (w2.heap.size = X) := ⟨_, hide rfl⟩
  obtain ⟨W4, hW4⟩ : ∃ W4, Hid (w3.setRow w2.heap.size #[.slice B1 2 d1, .slice B2 0 d2, .slice B3 0 d3, .int .i64 3, .int .i64 1] = W4) := ⟨_, hide rfl⟩
  clear HM4 HT3 HB4 HB3 HB2 AL HP1 HPL HS2 HXl HK3
  rw [hW4.out] at HK4 HS4 HB5 ⊢
  clear hW4
  rw [hX.out] at HK4 HX0 ⊢
  clear hX
  go_wp2
  have AL4 : Below W4.heap.size W4 ((W4.alloc (.cells #[] 3)).alloc (.cells #[] 9)) := ((Below.refl _ _).alloc (Nat.le_refl _) _).alloc (by simp) _
  have HR7 : Hid (Rw ((W4.alloc (.cells #[] 3)).alloc (.cells #[] 9)) 1 (.slice (some ⟨W4.heap.size, 0, none⟩) 0 0) 0 [] (some W4.heap.size)) := Rw.new (e := 3) (cap := 0) [] [] ((Blk.new W4 #[] 3).alloc _) rfl rfl (Nat.le_refl _) (by simp [maxLen])
  have HR8 : Hid (Rw ((W4.alloc (.cells #[] 3)).alloc (.cells #[] 9)) 1 (.slice (some ⟨W4.heap.size + 1, 0, none⟩) 0 0) 0 [] (some (W4.heap.size + 1))) := Rw.new (e := 9) (cap := 0) [] [] (Blk.new1 W4 _ #[] 9) rfl rfl (Nat.le_refl _) (by simp [maxLen])
  have HXW4 := hide HK4.out.lt
  have HB6 := hide (HB5.out.trans (AL4.mono HB5.out.size))
  have HK6 := hide (HK4.out.below AL4 HK4.out.lt)
  have HS6 := hide (HS4.out.below AL4)
  clear AL4 HB5 HK4 HS4
  go_loopw [42, 7, 8] (fun v42 v7 v8 wr => ∃ j : Nat, v42 = .int .i64 j ∧ j ≤ nb ∧ Hid (∀ x ∈ bs.take j, x.length ≤ 500) ∧ Hid (Below w.heap.size w wr) ∧ (∃ B1 d1 B2 d2 B3 d3, Hid (Blk wr X #[.slice B1 2 d1, .slice B2 0 d2, .slice B3 0 d3, .int .i64 3, .int .i64 1] 28) ∧ Hid (StR wr (.agg #[.slice B1 2 d1, .slice B2 0 d2, .slice B3 0 d3, .int .i64 3, .int .i64 1]) (cpS (bs.take j)))) ∧ ∃ G7 G8, Hid (Rw wr 1 v7 (selU pk (bs.take j)).length ((selU pk (bs.take j)).flatMap inC) G7) ∧ Hid (Rw wr 1 v8 (selW pk (bs.take j)).length ((selW pk (bs.take j)).flatMap stC) G8) ∧ Hid (∀ g, G7 = some g → X < g) ∧ Hid (∀ g, G8 = some g → X < g ∧ G7 ≠ some g)) (fun v42 _ _ _ => nb - (intOf v42).toNat)
  case atStart => exact ⟨0, rfl, Nat.zero_le _, (fun x hx => by simp at hx), HB6.out, ⟨_, _, _, _, _, _, HK6.out, HS6.out⟩, _, _, HR7.out, HR8.out, (fun g e => by cases e; exact HXW4.out), fun g e => by cases e; exact ⟨by have := HXW4.out; omega, by simp⟩⟩
  case round =>
    clear HB6 HK6 HS6 HR7 HR8 HXW4
    obtain ⟨j, rfl, hj, HTk, HB, ⟨B1, d1, B2, d2, B3, d3, HK, HS⟩, G7, G8, HR7, HR8, HG7, HG8⟩ := hrel
    by_cases hlt : j < nb
    · have hltz : (j : Int) < (nb : Int) := by omega
      have hjb : j < bs.length := by rw [hnb.out]; exact hlt
      obtain ⟨gt, ot, eA, hgt, p0⟩ := (show RdE 1 StrAt wr (.slice Aa bs.length ca) bs from by rw [hnb.out]; exact H0.out.below stb_str HB.out).at hjb
      subst eA
      have q0 : wr.cell? ⟨gt, ot + j * 1, none⟩ = some (.string ⟨bs[j].toArray⟩) := p0
      rw [Nat.mul_one] at q0
      have HTj : Hid (bs.take (j + 1) = bs.take j ++ [bs[j]]) := List.take_succ_eq_append_getElem hjb
      have HTl : Hid ((bs.take j).length = j) := by show _ = _; rw [List.length_take]; omega
      have hsz := size_lit bs[j]
      clear p0
      generalize bs[j] = b at *
      by_cases hbl : 500 < b.length
      · have hblz : (500 : Int) < (b.length : Int) := by omega
        go_wp2
        go_ret
        exact ⟨rfl, HB.out⟩
      have hblz : ¬ (500 : Int) < (b.length : Int) := by omega
      have HTk' : Hid (∀ x ∈ bs.take (j + 1), x.length ≤ 500) := fun x hx => by
        rw [HTj.out] at hx
        rcases List.mem_append.1 hx with hx | hx
        · exact HTk.out x hx
        · rw [List.mem_singleton.1 hx]; omega
      have u0 := HK.out.cell 0
      have u1 := HK.out.cell 1
      have u2 := HK.out.cell 2
      have u3 := HK.out.cell 3
      have u4 := HK.out.cell 4
      simp only [List.getElem?_toArray, List.getElem?_cons_zero, List.getElem?_cons_succ] at u0 u1 u2 u3 u4
      have HP : Hid (Calls Tryz.prog 8 #[.agg #[.slice B1 2 d1, .slice B2 0 d2, .slice B3 0 d3, .int .i64 3, .int .i64 1], .agg #[.int .i64 6, .int .i64 0, .int .i64 0, .int .i64 0, .int .i64 (bits .and .i64 (j : Int) 31), .int .i64 j, .string ⟨#[73, 78, 66, 79, 88]⟩, .string ⟨#[]⟩, .string ⟨#[]⟩, .string ⟨b.toArray⟩, .slice none 0 0, .slice none 0 0]] wr fun e w' => ∃ A1 c1 A2 c2 A3 c3 A c n, e = .returned (.tuple #[.agg #[.slice A1 2 c1, .slice A2 0 c2, .slice A3 0 c3, .int .i64 3, .int .i64 1], .agg #[.slice A 1 c, .int .i64 n], .nilIface]) ∧ Below wr.heap.size wr w' ∧ (∀ w2, Mvs (fun k => k < wr.heap.size) w' w2 → StR w2 (.agg #[.slice A1 2 c1, .slice A2 0 c2, .slice A3 0 c3, .int .i64 3, .int .i64 1]) (cpS (bs.take j ++ [b])) ∧ RdE 1 IntAt w2 (.slice A 1 c) [(j : Int) + 1])) := by
        have h := ck_append (b := b) (av := .agg #[.int .i64 6, .int .i64 0, .int .i64 0, .int .i64 0, .int .i64 (bits .and .i64 (j : Int) 31), .int .i64 j, .string ⟨#[73, 78, 66, 79, 88]⟩, .string ⟨#[]⟩, .string ⟨#[]⟩, .string ⟨b.toArray⟩, .slice none 0 0, .slice none 0 0]) (HEr.out.below HB.out) HS.out (by rw [HTl.out, and31p (by omega)]; exact ⟨_, _, rfl, RdE.nil _ _ _, RdE.nil _ _ _⟩) (by rw [HTl.out]; omega) HTk.out (by omega)
        rw [HTl.out] at h
        exact h
      go_upto_region 18 with (first
        | (go_at_call 8; refine HP.out.mono ?_; rintro e w5 ⟨C1, e1, C2, e2, C3, e3, Au, cu, n5, rfl, hb5, hs5⟩; replace hb5 := hide hb5; replace hs5 := hide hs5)
        | (refine wpList_store_row rfl 28 (.tmp 11) (.tmp 58) rfl w5.heap.size #[.slice C1 2 e1, .slice C2 0 e2, .slice C3 0 e3, .int .i64 3, .int .i64 1] (by simp [Act.eval, Act.put]) (by simp [Act.eval, Act.put]) 28 #[.slice none 0 0, .slice none 0 0, .slice none 0 0, .int .i64 0, .int .i64 0] ((Blk.new w5 _ _).alloc _) (by kernel_rfl) rfl (by simp [Value.oneCell']) ?_)
        | (refine wpList_store_row rfl 39 (.tmp 12) (.tmp 59) rfl (w5.heap.size + 1) #[.slice Au 1 cu, .int .i64 n5] (by simp [Act.eval, Act.put]) (by simp [Act.eval, Act.put]) 39 #[.slice none 0 0, .int .i64 0] ((row_mvs _ _ _).blk (Blk.new1 w5 _ _ _) (by omega)) (by kernel_rfl) rfl (by simp [Value.oneCell']) ?_))
      have hT0 : Blk ((w5.alloc (.cells #[.slice none 0 0, .slice none 0 0, .slice none 0 0, .int .i64 0, .int .i64 0] 28)).alloc (.cells #[.slice none 0 0, .int .i64 0] 39)) w5.heap.size #[.slice none 0 0, .slice none 0 0, .slice none 0 0, .int .i64 0, .int .i64 0] 28 := (Blk.new w5 _ _).alloc _
      have hU0 : Blk ((w5.alloc (.cells #[.slice none 0 0, .slice none 0 0, .slice none 0 0, .int .i64 0, .int .i64 0] 28)).alloc (.cells #[.slice none 0 0, .int .i64 0] 39)) (w5.heap.size + 1) #[.slice none 0 0, .int .i64 0] 39 := Blk.new1 w5 _ _ _
      obtain ⟨Wa, hWa⟩ : ∃ Wa, Hid (((w5.alloc (.cells #[.slice none 0 0, .slice none 0 0, .slice none 0 0, .int .i64 0, .int .i64 0] 28)).alloc (.cells #[.slice none 0 0, .int .i64 0] 39)) = Wa) := ⟨_, hide rfl⟩
      have hM0 : Mvs (fun _ => False) w5 ((w5.alloc (.cells #[.slice none 0 0, .slice none 0 0, .slice none 0 0, .int .i64 0, .int .i64 0] 28)).alloc (.cells #[.slice none 0 0, .int .i64 0] 39)) := ((Mvs.refl (fun _ => False) w5).alloc _).alloc _
      rw [hWa.out] at hT0 hU0 hM0 ⊢
      clear hWa
      have hm1 := row_mvs Wa w5.heap.size #[.slice C1 2 e1, .slice C2 0 e2, .slice C3 0 e3, .int .i64 3, .int .i64 1]
      have hT1 := row_blk (cs := #[.slice C1 2 e1, .slice C2 0 e2, .slice C3 0 e3, .int .i64 3, .int .i64 1]) hT0
      have hU1 := hm1.blk hU0 (by omega)
      obtain ⟨Wb, hWb⟩ : ∃ Wb, Hid (Wa.setRow w5.heap.size #[.slice C1 2 e1, .slice C2 0 e2, .slice C3 0 e3, .int .i64 3, .int .i64 1] = Wb) := ⟨_, hide rfl⟩
      rw [hWb.out] at hm1 hT1 hU1 ⊢
      clear hWb hT0 hU0
      have hm2 := row_mvs Wb (w5.heap.size + 1) #[.slice Au 1 cu, .int .i64 n5]
      have hU2 := row_blk (cs := #[.slice Au 1 cu, .int .i64 n5]) hU1
      have hT2 := hm2.blk hT1 (by omega)
      obtain ⟨W6, hW6⟩ : ∃ W6, Hid (Wb.setRow (w5.heap.size + 1) #[.slice Au 1 cu, .int .i64 n5] = W6) := ⟨_, hide rfl⟩
      rw [hW6.out] at hm2 hT2 hU2 ⊢
      clear hW6 hT1 hU1
      have HM6 : Hid (Mvs (fun _ => False) w5 W6) := (hM0.trans' hm1 (fun i hi e => by omega)).trans' hm2 (fun i hi e => by omega)
      have HT6 := hide hT2
      have y0 := hU2.cell 0
      simp only [List.getElem?_toArray, List.getElem?_cons_zero] at y0
      clear hM0 hm1 hm2 hT2 hU2
      clear u0 u1 u2 u3 u4 HP
      have HXw := hide HK.out.lt
      have HB56 := hide (hb5.out.trans (HM6.out.below (B := wr.heap.size) (fun _ _ c => c) hb5.out.size))
      have HB6 := hide (HB.out.trans (HB56.out.mono HB.out.size))
      have HX6 := hide (HK.out.below HB56.out HK.out.lt)
      have H76 := hide (HR7.out.keep (Mvs.of_below (S := fun _ => False) HB56.out) (fun _ _ c => c))
      have H86 := hide (HR8.out.keep (Mvs.of_below (S := fun _ => False) HB56.out) (fun _ _ c => c))
      have HG8w := hide (HR8.out.lt)
      have HG7w := hide (HR7.out.lt)
      have HWs : Hid (wr.heap.size ≤ W6.heap.size) := HB56.out.size
      have AL6 : Below W6.heap.size W6 (W6.alloc (.cells #[.int .i64 ((j : Int) + 1)] 3)) := (Below.refl _ _).alloc (Nat.le_refl _) _
      have HSI : Hid (Calls Tryz.prog 10 #[.slice Au 1 cu, .slice (some ⟨W6.heap.size, 0, none⟩) 1 1] (W6.alloc (.cells #[.int .i64 ((j : Int) + 1)] 3)) fun e w' => e = .returned (.bool true) ∧ Below W6.heap.size W6 w') := by
        have h1 := (hs5.out _ (((HM6.out.mono (fun _ _ c => c.elim)).alloc (.cells #[.int .i64 ((j : Int) + 1)] 3)))).2
        have h2 : RdE 1 IntAt (W6.alloc (.cells #[.int .i64 ((j : Int) + 1)] 3)) (.slice (some ⟨W6.heap.size, 0, none⟩) 1 1) [(j : Int) + 1] := by
          have hk := Blk.new W6 #[.int .i64 ((j : Int) + 1)] 3
          refine ⟨_, _, rfl, fun i hi => ⟨_, 0, rfl, hk.lt, ?_⟩⟩
          have : i = 0 := by simpa using hi
          subst this
          exact hk.cell 0
        refine (rsameInts15_any h1 h2 (by simp)).mono ?_
        rintro e w' ⟨rfl, hb⟩
        exact ⟨by simp [eqL, inEq], AL6.trans (hb.mono AL6.size)⟩
      have hw1 : IntKind.i64.wrap ((j : Int) + 1) = (j : Int) + 1 := wrapK (by omega) (by omega)
      have H5w : Hid (wr.heap.size ≤ w5.heap.size) := hb5.out.size
      clear HK HS HB hb5 HR7 HR8 AL6
      obtain ⟨A7, c7, rfl⟩ := H76.out.form
      obtain ⟨A8, c8, rfl⟩ := H86.out.form
      go_upto_region 20 with (go_at_call 10; refine HSI.out.mono ?_; rintro e w7 ⟨rfl, hb7⟩; replace hb7 := hide hb7)
      clear HSI y0
      have HB7 := hide (HB6.out.trans (hb7.out.mono HB6.out.size))
      have HX7 := hide (HX6.out.below hb7.out HX6.out.lt)
      have HT7 := hide (HT6.out.below hb7.out HT6.out.lt)
      have H77 := hide (H76.out.keep (Mvs.of_below (S := fun _ => False) hb7.out) (fun _ _ c => c))
      have H87 := hide (H86.out.keep (Mvs.of_below (S := fun _ => False) hb7.out) (fun _ _ c => c))
      have HMV7 : Hid (Mvs (fun k => k < wr.heap.size) w5 w7) := (HM6.out.mono (fun _ _ c => c.elim)).then hb7.out
      have HWs7 : Hid (wr.heap.size ≤ w7.heap.size) := Nat.le_trans HWs.out hb7.out.size
      have H57 : Hid (w5.heap.size ≤ w7.heap.size) := Nat.le_trans HM6.out.size hb7.out.size
      clear HB6 HX6 HT6 H76 H86 HM6 HWs hb7 HB56
      have hTl := HTl.out
      by_cases hnp' : j < np
      · have hnpz : (j : Int) < (np : Int) := by omega
        have hpl : j < pk.length := by rw [hnp.out]; exact hnp'
        obtain ⟨gp, op, eP, hgp, p1⟩ := (show RdE 1 BoAt w7 (.slice Ab pk.length cb) pk from by rw [hnp.out]; exact H1.out.below stb_bool HB7.out).at hpl
        subst eP
        have q1 : w7.cell? ⟨gp, op + j * 1, none⟩ = some (.bool pk[j]) := p1
        rw [Nat.mul_one] at q1
        have hpk : pkd pk j = pk[j] := by unfold pkd; rw [List.getElem?_eq_getElem hpl]; rfl
        clear p1
        generalize pk[j] = pb at *
        cases pb
        · have t0 := HT7.out.cell 0
          have t1 := HT7.out.cell 1
          have t2 := HT7.out.cell 2
          have t3 := HT7.out.cell 3
          have t4 := HT7.out.cell 4
          simp only [List.getElem?_toArray, List.getElem?_cons_zero, List.getElem?_cons_succ] at t0 t1 t2 t3 t4
          go_wp2_with (refine wpList_store_row rfl 28 (.tmp 5) (.tmp 91) rfl X #[.slice C1 2 e1, .slice C2 0 e2, .slice C3 0 e3, .int .i64 3, .int .i64 1] (by simp [Act.eval, Act.put]) (by simp [Act.eval, Act.put]) 28 #[.slice B1 2 d1, .slice B2 0 d2, .slice B3 0 d3, .int .i64 3, .int .i64 1] HX7.out (by kernel_rfl) rfl (by simp [Value.oneCell']) ?_)
          have hmv := row_mvs w7 X #[.slice C1 2 e1, .slice C2 0 e2, .slice C3 0 e3, .int .i64 3, .int .i64 1]
          have hbk := row_blk (cs := #[.slice C1 2 e1, .slice C2 0 e2, .slice C3 0 e3, .int .i64 3, .int .i64 1]) HX7.out
          have hsf := (hs5.out _ (HMV7.out.trans' hmv (fun i hi e => by rw [e]; exact HXw.out))).1
          have hbf := HB7.out.trans (hmv.below (B := w.heap.size) (fun k hk e => by have := HX0.out; omega) HB7.out.size)
          have hr7 := H77.out.keep hmv (fun g e hc => by have := HG7.out g e; omega)
          have hr8 := H87.out.keep hmv (fun g e hc => by have := (HG8.out g e).1; omega)
          rw [← HTj.out] at hsf
          go_roundw
          case rel => exact ⟨j + 1, by go_num, by omega, HTk'.out, hbf, ⟨_, _, _, _, _, _, hbk, hsf⟩, _, _, (by show Rw _ _ _ _ _ _; rw [HTj.out, selU_no pk _ b (by rw [hTl]; exact hpk)]; exact hr7), (by show Rw _ _ _ _ _ _; rw [HTj.out, selW_no pk _ b (by rw [hTl]; exact hpk)]; exact hr8), HG7.out, HG8.out⟩
          case measure => simp [intOf]; omega
        · have hul := selU_len pk (bs.take j)
          have hwl : (selW pk (bs.take j)).length ≤ (bs.take j).length := by rw [selW_len]; exact sel_len pk _ 0
          obtain ⟨i1, hj1, hy0, hy1, hy2⟩ := infoP intInfoP
          obtain ⟨i0, hi0, hz0, hz1, hz2⟩ := infoP strInfoK
          have AL7 : Below w7.heap.size w7 (w7.alloc (.cells #[.int .i64 ((j : Int) + 1)] 3)) := (Below.refl _ _).alloc (Nat.le_refl _) _
          have HSr7 : Hid (Src Tryz.prog 1 34 (.slice A7 (selU pk (bs.take j)).length c7) (selU pk (bs.take j)).length ((selU pk (bs.take j)).flatMap inC) (w7.alloc (.cells #[.int .i64 ((j : Int) + 1)] 3))) := rw_src1 Tryz.underlying34 (H77.out.keep (Mvs.of_below (S := fun _ => False) AL7) (fun _ _ c => c)) (inC_ones _)
          go_wp2_with (first
            | (at_builtin; refine wpList_append_rw rfl _ _ 34 34 rfl 3 i1 (.int .i64 0) 1 8 Tryz.underlying34 hj1 hy0 hy1 hy2 rfl rfl (Rw.new (e := 3) [.int .i64 ((j : Int) + 1)] [] (Blk.new _ _ 3) rfl rfl (Nat.le_refl _) (by simp [maxLen])) _ _ _ rfl HSr7.out (by simp only [maxLen]; omega) (by omega) ?_; intro v7 w8 G7' hr7 hm7 hg7; obtain ⟨A7', c7', rfl⟩ := hr7.form
               have HM8 : Hid (Mvs (fun _ => False) w7 w8) := ((Mvs.refl (fun _ => False) w7).alloc _).trans' hm7 (fun i hi e => by have e2 := Option.some.inj e; omega)
               have HG7n : Hid (∀ g, G7' = some g → w7.heap.size ≤ g) := fun g e => by
                 rcases hg7 with h | h
                 · rw [h] at e; have e2 := Option.some.inj e; omega
                 · rw [h] at e; have e2 := Option.some.inj e; simp at e2; omega
               have HG7l : Hid (∀ g, G7' = some g → g < w8.heap.size) := hr7.lt
               replace hr7 := hide hr7
               have H88 := hide (H87.out.keep HM8.out (fun _ _ c => c))
               have HS88 : Hid (w7.heap.size ≤ w8.heap.size) := HM8.out.size
               have AL8 : Below w8.heap.size w8 (w8.alloc (.cells #[.string ⟨b.toArray⟩] 9)) := (Below.refl _ _).alloc (Nat.le_refl _) _
               have H88a := hide (H88.out.keep (Mvs.of_below (S := fun _ => False) AL8) (fun _ _ c => c))
               have HSr8 : Hid (Src Tryz.prog 1 51 (.slice (some ⟨w8.heap.size, 0, none⟩) 1 1) 1 [.string ⟨b.toArray⟩] (w8.alloc (.cells #[.string ⟨b.toArray⟩] 9))) := by
                 have hk := Blk.new w8 #[.string ⟨b.toArray⟩] 9
                 refine Src.ofSlice _ Tryz.underlying51 ⟨w8.heap.size, 0, none⟩ 1 1 _ rfl (fun j u hu => ?_) (fun u hu => by rw [List.mem_singleton.1 hu]; rfl)
                 rw [Go.WideShapes.add_plain, Nat.zero_add]
                 exact (hk.cell j).trans (by rw [← hu]; simp)
               clear hm7 hg7 AL8 H88)
            | (at_builtin; refine wpList_append_rw rfl _ _ 51 51 rfl 9 i0 (.string ⟨#[]⟩) 1 16 Tryz.underlying51 hi0 hz0 hz1 hz2 rfl rfl H88a.out _ 1 _ rfl HSr8.out (by simp only [maxLen]; omega) (by omega) ?_; intro v8 w10 G8' hr8 hm8 hg8; obtain ⟨A8', c8', rfl⟩ := hr8.form
               have HM10 : Hid (Mvs (fun k => some k = G8) w8 w10) := ((Mvs.refl (fun k => some k = G8) w8).alloc _).trans hm8
               have HMw : Hid (Mvs (fun k => some k = G8) w7 w10) := (HM8.out.mono (fun _ _ c => c.elim)).trans HM10.out
               have HX10 : Hid (Blk w10 X #[.slice B1 2 d1, .slice B2 0 d2, .slice B3 0 d3, .int .i64 3, .int .i64 1] 28) := HMw.out.blk HX7.out (fun e => by have := (HG8.out X e.symm).1; omega)
               have HT10 : Hid (Blk w10 w5.heap.size #[.slice C1 2 e1, .slice C2 0 e2, .slice C3 0 e3, .int .i64 3, .int .i64 1] 28) := HMw.out.blk HT7.out (fun e => by have := HG8w.out _ e.symm; have := H5w.out; omega)
               have HB10 : Hid (Below w.heap.size w w10) := HB7.out.trans (HMw.out.below (fun k hk e => by have := (HG8.out k e.symm).1; have := HX0.out; omega) HB7.out.size)
               have HMV10 : Hid (Mvs (fun k => k < wr.heap.size) w5 w10) := HMV7.out.trans' HMw.out (fun i hi e => HG8w.out i e.symm)
               have H710 := hide (hr7.out.keep HM10.out (fun g e hc => by have := HG7n.out g e; have := HG8w.out g hc.symm; have := HWs7.out; omega))
               have HGn7 : Hid (∀ g, G7' = some g → X < g) := fun g e => by have := HG7n.out g e; have := HXw.out; have := HWs7.out; omega
               have HGn8 : Hid (∀ g, G8' = some g → X < g ∧ G7' ≠ some g) := fun g e => by
                 rcases hg8 with h | h
                 · rw [h] at e
                   have h1 := HG8w.out g e
                   exact ⟨(HG8.out g e).1, fun e2 => by have := HG7n.out g e2; have := HWs7.out; omega⟩
                 · rw [h] at e
                   have e2 := Option.some.inj e
                   simp at e2
                   exact ⟨by have := HXw.out; have := HWs7.out; have := HS88.out; omega, fun e3 => by have := HG7l.out g e3; omega⟩
               have HU7 : Hid (Rw w10 1 (.slice A7' (1 + (selU pk (bs.take j)).length) c7') (selU pk (bs.take (j + 1))).length ((selU pk (bs.take (j + 1))).flatMap inC) G7') := by
                 have hU : selU pk (bs.take (j + 1)) = ((j : Int) + 1) :: selU pk (bs.take j) := by rw [HTj.out, selU_yes pk _ b (by rw [hTl]; exact hpk), hTl]
                 have h9 := H710.out
                 rw [Nat.add_comm 1] at h9 ⊢
                 show Rw _ _ _ _ _ _
                 rw [hU, List.length_cons, List.flatMap_cons]
                 exact h9
               have HU8 : Hid (Rw w10 1 (.slice A8' ((selW pk (bs.take j)).length + 1) c8') (selW pk (bs.take (j + 1))).length ((selW pk (bs.take (j + 1))).flatMap stC) G8') := by
                 have hW : selW pk (bs.take (j + 1)) = selW pk (bs.take j) ++ [b] := by rw [HTj.out, selW_yes pk _ b (by rw [hTl]; exact hpk)]
                 show Rw _ _ _ _ _ _
                 rw [hW, List.length_append, List.flatMap_append]
                 exact hr8
               clear hr8 hm8 hg8 HM10 HM8 H710 hr7 HSr8 H88a
               have t0 := HT10.out.cell 0
               have t1 := HT10.out.cell 1
               have t2 := HT10.out.cell 2
               have t3 := HT10.out.cell 3
               have t4 := HT10.out.cell 4
               simp only [List.getElem?_toArray, List.getElem?_cons_zero, List.getElem?_cons_succ] at t0 t1 t2 t3 t4)
            | (refine wpList_store_row rfl 28 (.tmp 5) (.tmp 91) rfl X #[.slice C1 2 e1, .slice C2 0 e2, .slice C3 0 e3, .int .i64 3, .int .i64 1] (by simp [Act.eval, Act.put]) (by simp [Act.eval, Act.put]) 28 #[.slice B1 2 d1, .slice B2 0 d2, .slice B3 0 d3, .int .i64 3, .int .i64 1] HX10.out (by kernel_rfl) rfl (by simp [Value.oneCell']) ?_))
          have hmv := row_mvs w10 X #[.slice C1 2 e1, .slice C2 0 e2, .slice C3 0 e3, .int .i64 3, .int .i64 1]
          have hbk := row_blk (cs := #[.slice C1 2 e1, .slice C2 0 e2, .slice C3 0 e3, .int .i64 3, .int .i64 1]) HX10.out
          have hsf := (hs5.out _ (HMV10.out.trans' hmv (fun i hi e => by rw [e]; exact HXw.out))).1
          have hbf := HB10.out.trans (hmv.below (B := w.heap.size) (fun k hk e => by have := HX0.out; omega) HB10.out.size)
          have hr7 := HU7.out.keep hmv (fun g e hc => by have := HGn7.out g e; omega)
          have hr8 := HU8.out.keep hmv (fun g e hc => by have := (HGn8.out g e).1; omega)
          rw [← HTj.out] at hsf
          go_roundw
          case rel => exact ⟨j + 1, by go_num, by omega, HTk'.out, hbf, ⟨_, _, _, _, _, _, hbk, hsf⟩, _, _, (by show Rw _ _ _ _ _ _; skip; exact hr7), (by show Rw _ _ _ _ _ _; skip; exact hr8), HGn7.out, HGn8.out⟩
          case measure => simp [intOf]; omega
      · have hnpz : ¬ (j : Int) < (np : Int) := by omega
        have hpk : pkd pk j = false := by unfold pkd; rw [List.getElem?_eq_none (by rw [hnp.out]; omega)]; rfl
        have t0 := HT7.out.cell 0
        have t1 := HT7.out.cell 1
        have t2 := HT7.out.cell 2
        have t3 := HT7.out.cell 3
        have t4 := HT7.out.cell 4
        simp only [List.getElem?_toArray, List.getElem?_cons_zero, List.getElem?_cons_succ] at t0 t1 t2 t3 t4
        go_wp2_with (refine wpList_store_row rfl 28 (.tmp 5) (.tmp 91) rfl X #[.slice C1 2 e1, .slice C2 0 e2, .slice C3 0 e3, .int .i64 3, .int .i64 1] (by simp [Act.eval, Act.put]) (by simp [Act.eval, Act.put]) 28 #[.slice B1 2 d1, .slice B2 0 d2, .slice B3 0 d3, .int .i64 3, .int .i64 1] HX7.out (by kernel_rfl) rfl (by simp [Value.oneCell']) ?_)
        have hmv := row_mvs w7 X #[.slice C1 2 e1, .slice C2 0 e2, .slice C3 0 e3, .int .i64 3, .int .i64 1]
        have hbk := row_blk (cs := #[.slice C1 2 e1, .slice C2 0 e2, .slice C3 0 e3, .int .i64 3, .int .i64 1]) HX7.out
        have hsf := (hs5.out _ (HMV7.out.trans' hmv (fun i hi e => by rw [e]; exact HXw.out))).1
        have hbf := HB7.out.trans (hmv.below (B := w.heap.size) (fun k hk e => by have := HX0.out; omega) HB7.out.size)
        have hr7 := H77.out.keep hmv (fun g e hc => by have := HG7.out g e; omega)
        have hr8 := H87.out.keep hmv (fun g e hc => by have := (HG8.out g e).1; omega)
        rw [← HTj.out] at hsf
        go_roundw
        case rel => exact ⟨j + 1, by go_num, by omega, HTk'.out, hbf, ⟨_, _, _, _, _, _, hbk, hsf⟩, _, _, (by show Rw _ _ _ _ _ _; rw [HTj.out, selU_no pk _ b (by rw [hTl]; exact hpk)]; exact hr7), (by show Rw _ _ _ _ _ _; rw [HTj.out, selW_no pk _ b (by rw [hTl]; exact hpk)]; exact hr8), HG7.out, HG8.out⟩
        case measure => simp [intOf]; omega
    · have hltz : ¬ (j : Int) < (nb : Int) := by omega
      have hjn : bs.take j = bs := List.take_of_length_le (by rw [hnb.out]; omega)
      rw [hjn] at HTk HS HR7 HR8
      obtain ⟨A7, c7, rfl⟩ := HR7.out.form
      obtain ⟨A8, c8, rfl⟩ := HR8.out.form
      have hwl : (selW pk bs).length ≤ bs.length := by rw [selW_len]; exact sel_len pk _ 0
      have HPZ := hide (ck_copy (pk := pk) (HEr.out.below HB.out) HS.out (show AcR wr (.agg #[.int .i64 7, .int .i64 0, .int .i64 0, .int .i64 0, .int .i64 0, .int .i64 0, .string ⟨#[105, 110, 98, 111, 120]⟩, .string ⟨#[116, 111]⟩, .string ⟨#[]⟩, .string ⟨#[]⟩, .slice A7 (selU pk bs).length c7, .slice none 0 0]) (ckZ (selU pk bs)) from ⟨_, _, rfl, inC_rd HR7.out, RdE.nil _ _ _⟩) (by rw [hnb.out]; omega) HTk.out)
      have HGX : Hid (∀ g, G8 = some g → X < g) := fun g e => (HG8.out g e).1
      obtain ⟨nw, hnw⟩ : ∃ nw, Hid ((selW pk bs).length = nw) := ⟨_, hide rfl⟩
      rw [hnw.out] at HPZ hwl HR8 ⊢
      have hnw20 : nw ≤ 20 := by have := hnb.out; omega
      have u0 := HK.out.cell 0
      have u1 := HK.out.cell 1
      have u2 := HK.out.cell 2
      have u3 := HK.out.cell 3
      have u4 := HK.out.cell 4
      simp only [List.getElem?_toArray, List.getElem?_cons_zero, List.getElem?_cons_succ] at u0 u1 u2 u3 u4
      clear HTk HR7 HG7 HG8 hjn HS
      go_upto_region 25 with (first
        | (go_at_call 8; refine HPZ.out.mono ?_; rintro e w5 ⟨C1, e1, C2, e2, C3, e3, Au, cu, n5, rfl, hb5, hs5⟩; have HX5 := hide (HK.out.below hb5 HK.out.lt); replace hb5 := hide hb5; replace hs5 := hide hs5; have HX5a := hide (HX5.out.alloc (.cells #[.slice none 0 0, .int .i64 0] 39)); have HU5 := hide (Blk.new w5 #[.slice none 0 0, .int .i64 0] 39))
        | (refine wpList_store_row rfl 28 (.tmp 5) (.tmp 98) rfl X #[.slice C1 2 e1, .slice C2 0 e2, .slice C3 0 e3, .int .i64 3, .int .i64 1] (by simp [Act.eval, Act.put]) (by simp [Act.eval, Act.put]) 28 #[.slice B1 2 d1, .slice B2 0 d2, .slice B3 0 d3, .int .i64 3, .int .i64 1] HX5a.out (by kernel_rfl) rfl (by simp [Value.oneCell']) ?_; have HMx := hide (row_mvs (w5.alloc (.cells #[.slice none 0 0, .int .i64 0] 39)) X #[.slice C1 2 e1, .slice C2 0 e2, .slice C3 0 e3, .int .i64 3, .int .i64 1]); have HKx := hide (row_blk (cs := #[.slice C1 2 e1, .slice C2 0 e2, .slice C3 0 e3, .int .i64 3, .int .i64 1]) HX5a.out); have HUx := hide (HMx.out.blk HU5.out (by have := HX5.out.lt; omega)))
        | (refine wpList_store_row rfl 39 (.tmp 14) (.tmp 99) rfl w5.heap.size #[.slice Au nw cu, .int .i64 n5] (by simp [Act.eval, Act.put]) (by simp [Act.eval, Act.put]) 39 #[.slice none 0 0, .int .i64 0] HUx.out (by kernel_rfl) rfl (by simp [Value.oneCell']) ?_))
      have HM6 : Hid (Mvs (fun k => k = X) w5 (((w5.alloc (.cells #[.slice none 0 0, .int .i64 0] 39)).setRow X #[.slice C1 2 e1, .slice C2 0 e2, .slice C3 0 e3, .int .i64 3, .int .i64 1]).setRow w5.heap.size #[.slice Au nw cu, .int .i64 n5])) := (((Mvs.refl (fun k => k = X) w5).alloc _).trans HMx.out).trans' (row_mvs _ _ _) (fun k hk e => by omega)
      have HX6 : Hid (Blk (((w5.alloc (.cells #[.slice none 0 0, .int .i64 0] 39)).setRow X #[.slice C1 2 e1, .slice C2 0 e2, .slice C3 0 e3, .int .i64 3, .int .i64 1]).setRow w5.heap.size #[.slice Au nw cu, .int .i64 n5]) X #[.slice C1 2 e1, .slice C2 0 e2, .slice C3 0 e3, .int .i64 3, .int .i64 1] 28) := (row_mvs _ _ _).blk HKx.out (by have := HX5.out.lt; omega)
      have HU6 : Hid (Blk (((w5.alloc (.cells #[.slice none 0 0, .int .i64 0] 39)).setRow X #[.slice C1 2 e1, .slice C2 0 e2, .slice C3 0 e3, .int .i64 3, .int .i64 1]).setRow w5.heap.size #[.slice Au nw cu, .int .i64 n5]) w5.heap.size #[.slice Au nw cu, .int .i64 n5] 39) := row_blk HUx.out
      have HXwr := HK.out.lt
      have HS6 := hide (hs5.out _ (HM6.out.mono (fun k _ e => by rw [e]; exact HXwr)))
      have HB5 := hide (HB.out.trans (hb5.out.mono HB.out.size))
      have HB6 := hide (HB5.out.trans (HM6.out.below (B := w.heap.size) (fun k hk e => by have := HX0.out; omega) HB5.out.size))
      have HRW : Hid (RdE 1 StrAt (((w5.alloc (.cells #[.slice none 0 0, .int .i64 0] 39)).setRow X #[.slice C1 2 e1, .slice C2 0 e2, .slice C3 0 e3, .int .i64 3, .int .i64 1]).setRow w5.heap.size #[.slice Au nw cu, .int .i64 n5]) (.slice A8 nw c8) (selW pk bs)) := by
        have h1 := (HR8.out.keep (Mvs.of_below (S := fun _ => False) hb5.out) (fun _ _ c => c)).keep HM6.out (fun g e hc => by have := HGX.out g e; omega)
        show RdE _ _ _ _ _
        rw [← hnw.out] at h1 ⊢
        exact stC_rd h1
      obtain ⟨W6, hW6⟩ : ∃ W6, Hid (((w5.alloc (.cells #[.slice none 0 0, .int .i64 0] 39)).setRow X #[.slice C1 2 e1, .slice C2 0 e2, .slice C3 0 e3, .int .i64 3, .int .i64 1]).setRow w5.heap.size #[.slice Au nw cu, .int .i64 n5] = W6) := ⟨_, hide rfl⟩
      clear HMx HKx HUx HX5a HU5 HX5 hb5 hs5 HB HR8 HK HPZ HGX HM6 HB5
      rw [hW6.out] at HX6 HU6 HS6 HB6 HRW ⊢
      clear hW6
      have y0 := HU6.out.cell 0
      simp only [List.getElem?_toArray, List.getElem?_cons_zero] at y0
      have x0 := HX6.out.cell 0
      have x1 := HX6.out.cell 1
      have x2 := HX6.out.cell 2
      have x3 := HX6.out.cell 3
      have x4 := HX6.out.cell 4
      simp only [List.getElem?_toArray, List.getElem?_cons_zero, List.getElem?_cons_succ] at x0 x1 x2 x3 x4
      obtain ⟨g, o, eC, hg, _, _, _, _, v, hv, hms⟩ := (show RdE 5 BxAt W6 (.slice C1 (cpZ pk bs).boxes.length e1) (cpZ pk bs).boxes from str_boxes HS6.out).at (i := 1) (by show 1 < 2; omega)
      subst eC
      have hv1 : W6.cell? ⟨g, o + 1 * 5 + 4, none⟩ = some v := hv
      have hv2 : W6.cell? ⟨g, o + 5 + 4, none⟩ = some v := by rw [Nat.one_mul] at hv1; exact hv1
      have HMs : Hid (RdE 4 MsgAt W6 v (rnM 1 (cpO pk bs))) := by rw [← cpZ_msgs]; exact hms
      have hml : (rnM 1 (cpO pk bs)).length = nw := by rw [rnM_len, cpO_len, hnw.out]
      obtain ⟨Am, cm, rfl⟩ := HMs.out.form
      rw [hml] at HMs hv1 hv2
      have HFd : Hid (∀ u : Ext W6, Calls Tryz.prog 11 #[.agg #[.slice (some ⟨g, o, none⟩) 2 e1, .slice C2 0 e2, .slice C3 0 e3, .int .i64 3, .int .i64 1], .int .i64 0, .string ⟨#[116, 111]⟩] u.w fun e w' => e = .returned (.int .i64 1) ∧ Below u.w.heap.size u.w w') := fun u => ck_find (HS6.out.below u.ok)
      clear hms hv HS6
      have hX6l : X < W6.heap.size := HX6.out.lt
      have hn0 := ext_some W6
      have hc0 := ext_cell W6
      go_wp2
      refine wp_region_ext (by kernel_rfl) (by kernel_rfl) ?_
      repeat (go_big_quiet_step ((go_at_call 11; exact ext_call (HFd.out _))))
      refine wpQuiet_nil ?_
      rintro w9 ⟨u9, rfl⟩
      have HB9 := hide (HB6.out.trans (u9.ok.mono HB6.out.size))
      have HM9 := hide (HMs.out.below stb_msg u9.ok)
      have HW9 := hide (HRW.out.below stb_str u9.ok)
      generalize u9.w = w9 at *
      clear hn0 hc0 HMs HRW HFd HB6 HX6 HU6 y0 x0 x1 x2 x3 x4 hv1 hv2
      go_wp2
      go_loopw [119, 15] (fun v119 v15 wz => ∃ i k : Nat, v119 = .int .i64 i ∧ v15 = .int .i64 k ∧ i ≤ nw ∧ k ≤ nb ∧ Hid ((sel pk 0 bs).drop i = sel pk k (bs.drop k)) ∧ Hid (Below w9.heap.size w9 wz)) (fun v119 _ _ => nw - (intOf v119).toNat)
      case atStart => exact ⟨0, 0, rfl, rfl, Nat.zero_le _, Nat.zero_le _, rfl, Below.refl _ _⟩
      case round =>
        obtain ⟨wz, hwz⟩ : ∃ wz, wz = wr := ⟨_, rfl⟩
        subst hwz
        obtain ⟨i, k, rfl, rfl, hi, hk, HD, HBz⟩ := hrel
        by_cases hlt2 : i < nw
        · have hltz2 : (i : Int) < (nw : Int) := by omega
          have hix : i < (rnM 1 (cpO pk bs)).length := by omega
          obtain ⟨gM, oM, eM, hgM, p0, p1, p2, p3⟩ := (show RdE 4 MsgAt wz (.slice Am (rnM 1 (cpO pk bs)).length cm) (rnM 1 (cpO pk bs)) from by rw [hml]; exact HM9.out.below stb_msg HBz.out).at hix
          subst eM
          have r0 : wz.cell? ⟨gM, oM + i * 4, none⟩ = some (.int .i64 (rnM 1 (cpO pk bs))[i].uid) := p0
          have r1 : wz.cell? ⟨gM, oM + i * 4 + 1, none⟩ = some (.int .i64 (rnM 1 (cpO pk bs))[i].flags) := p1
          have r2 : wz.cell? ⟨gM, oM + i * 4 + 2, none⟩ = some (.int .i64 (rnM 1 (cpO pk bs))[i].date) := p2
          have r3 : wz.cell? ⟨gM, oM + i * 4 + 3, none⟩ = some (.string ⟨(rnM 1 (cpO pk bs))[i].body.toArray⟩) := p3
          obtain ⟨x, hx⟩ : ∃ x, Hid ((rnM 1 (cpO pk bs))[i] = x) := ⟨_, hide rfl⟩
          rw [hx.out] at r0 r1 r2 r3
          obtain ⟨m0, m1, m2, m3⟩ := x
          dsimp only at r0 r1 r2 r3
          clear p0 p1 p2 p3
          have ALm : Below wz.heap.size wz (wz.alloc (.cells #[.int .i64 m0, .int .i64 m1, .int .i64 m2, .string ⟨m3.toArray⟩] 47)) := (Below.refl _ _).alloc (Nat.le_refl _) _
          have HBm := hide (HBz.out.trans (ALm.mono HBz.out.size))
          have HKm := hide (Blk.new wz #[.int .i64 m0, .int .i64 m1, .int .i64 m2, .string ⟨m3.toArray⟩] 47)
          clear ALm
          go_wp2
          go_loopw [15] (fun v15 wy => ∃ k : Nat, v15 = .int .i64 k ∧ k ≤ nb ∧ Hid ((sel pk 0 bs).drop i = sel pk k (bs.drop k)) ∧ Hid (Below (wz.alloc (.cells #[.int .i64 m0, .int .i64 m1, .int .i64 m2, .string ⟨m3.toArray⟩] 47)).heap.size (wz.alloc (.cells #[.int .i64 m0, .int .i64 m1, .int .i64 m2, .string ⟨m3.toArray⟩] 47)) wy)) (fun v15 _ => nb - (intOf v15).toNat)
          case atStart => exact ⟨k, rfl, hk, HD.out, Below.refl _ _⟩
          case round =>
            clear HD hk
            obtain ⟨wy, hwy⟩ : ∃ wy, wy = wr := ⟨_, rfl⟩
            subst hwy
            obtain ⟨k, rfl, hk, HD, HBy⟩ := hrel
            by_cases hkn : k < nb
            · have hknz : (k : Int) < (nb : Int) := by omega
              have hkb : k < bs.length := by rw [hnb.out]; exact hkn
              have HBw := hide (HBm.out.trans (HBy.out.mono HBm.out.size))
              cases hpk : pkd pk k with
              | false =>
                have HD2 : Hid ((sel pk 0 bs).drop i = sel pk (k + 1) (bs.drop (k + 1))) := by
                  show _ = _
                  rw [HD.out, sel_drop pk bs k hkb, if_neg (by rw [hpk]; exact Bool.false_ne_true)]
                by_cases hkp : k < np
                · have hkpz : ¬ (np : Int) ≤ (k : Int) := by omega
                  have hkl : k < pk.length := by rw [hnp.out]; exact hkp
                  obtain ⟨gp, op, eP, hgp, p1⟩ := (show RdE 1 BoAt wy (.slice Ab pk.length cb) pk from by rw [hnp.out]; exact H1.out.below stb_bool (HB9.out.trans (HBw.out.mono HB9.out.size))).at hkl
                  subst eP
                  have q1 : wy.cell? ⟨gp, op + k * 1, none⟩ = some (.bool pk[k]) := p1
                  have hpb : pk[k] = false := by unfold pkd at hpk; rw [List.getElem?_eq_getElem hkl] at hpk; exact hpk
                  rw [Nat.mul_one, hpb] at q1
                  clear p1
                  go_wp2
                  go_roundw
                  case rel => exact ⟨k + 1, by go_num, by omega, HD2.out, HBy.out⟩
                  case measure => simp [intOf]; omega
                · have hkpz : (np : Int) ≤ (k : Int) := by omega
                  go_wp2
                  go_roundw
                  case rel => exact ⟨k + 1, by go_num, by omega, HD2.out, HBy.out⟩
                  case measure => simp [intOf]; omega
              | true =>
                have hkp : k < np := by
                  rcases Nat.lt_or_ge k np with h | h
                  · exact h
                  · unfold pkd at hpk
                    rw [List.getElem?_eq_none (by rw [hnp.out]; exact h)] at hpk
                    cases hpk
                have hkpz : ¬ (np : Int) ≤ (k : Int) := by omega
                have hkl : k < pk.length := by rw [hnp.out]; exact hkp
                obtain ⟨gp, op, eP, hgp, p1⟩ := (show RdE 1 BoAt wy (.slice Ab pk.length cb) pk from by rw [hnp.out]; exact H1.out.below stb_bool (HB9.out.trans (HBw.out.mono HB9.out.size))).at hkl
                subst eP
                have q1 : wy.cell? ⟨gp, op + k * 1, none⟩ = some (.bool pk[k]) := p1
                have hpb : pk[k] = true := by unfold pkd at hpk; rw [List.getElem?_eq_getElem hkl] at hpk; exact hpk
                rw [Nat.mul_one, hpb] at q1
                obtain ⟨hz1, hz2⟩ := z_at pk bs i k hkb hpk HD.out
                have hxe := hx.out
                rw [z_msg pk bs i k _ hix hz1] at hxe
                simp only [Msg.mk.injEq] at hxe
                obtain ⟨rfl, rfl, rfl, rfl⟩ := hxe
                have hwi : i < (selW pk bs).length := by rw [hnw.out]; exact hlt2
                obtain ⟨gW, oW, eW, hgW, p2⟩ := (show RdE 1 StrAt wy (.slice A8 (selW pk bs).length c8) (selW pk bs) from by rw [hnw.out]; exact HW9.out.below stb_str HBw.out).at hwi
                subst eW
                have q2 : wy.cell? ⟨gW, oW + i * 1, none⟩ = some (.string ⟨(selW pk bs)[i].toArray⟩) := p2
                rw [Nat.mul_one, z_want pk bs i k _ hwi hz1] at q2
                have h31 := and31p (k := k) (by omega)
                have HKy := HKm.out.below HBy.out HKm.out.lt
                rw [← h31] at HKy
                have hly : wz.heap.size < wy.heap.size := HKy.lt
                have y0 := HKy.cell 0
                have y1 := HKy.cell 1
                have y2 := HKy.cell 2
                have y3 := HKy.cell 3
                simp only [List.getElem?_toArray, List.getElem?_cons_zero, List.getElem?_cons_succ] at y0 y1 y2 y3
                have hwr : IntKind.i64.wrap ((i : Int) + 1) = (i : Int) + 1 := wrapK (by omega) (by omega)
                have HD3 := hide hz2
                clear p1 p2 hz1 hz2 HKy h31 hx r0 r1 r2 r3
                generalize bs[k] = bk at *
                have hn0 := ext_some wy
                have hc0 := ext_cell wy
                go_wp2
                refine wp_region_ext (by kernel_rfl) (by kernel_rfl) ?_
                repeat (go_big_quiet_step (fail))
                refine wpQuiet_nil ?_
                rintro wq ⟨uq, rfl⟩
                have HBq := hide (HBw.out.trans (uq.ok.mono HBw.out.size))
                generalize uq.w = wq at *
                clear hn0 hc0
                go_wp2
                go_roundw
                case rel => exact ⟨i + 1, k + 1, by go_num, by go_num, by omega, by omega, HD3.out, HBq.out⟩
                case measure => simp [intOf]; omega
            · exfalso
              have hke : k = bs.length := by rw [hnb.out]; omega
              have h1 := HD.out
              rw [hke, sel_end] at h1
              have h2 := congrArg List.length h1
              rw [List.length_drop, ← selW_len, hnw.out] at h2
              simp at h2
              omega
        · have hltz2 : ¬ (i : Int) < (nw : Int) := by omega
          have HBf := hide (HB9.out.trans (HBz.out.mono HB9.out.size))
          go_wp2
          go_ret
          exact ⟨rfl, HBf.out⟩

end Go.Proofs.YtdbmaobjikjifaaGreatDoorR
