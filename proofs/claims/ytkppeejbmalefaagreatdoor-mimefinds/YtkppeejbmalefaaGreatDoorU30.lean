/- The document's Header of layer 9. -/
import Derived.Test.YtkppeejbmalefaaGreatDoorU29
import Derived.Test.YtkppeejbmalefaaGreatDoorU11
namespace Go.Proofs.YtkppeejbmalefaaGreatDoor
open Go.RowKit Go.Shelf
theorem _root_.Go.Calls.ret {P : Program} {f : FuncId} {args : Array Value} {w : World} {v : Value} {R : Ending → World → Prop} (h : Calls P f args w fun e w' => e = .returned v ∧ w' = w) (hr : R (.returned v) w) : Calls P f args w R :=
  h.mono fun e w' ⟨h1, h2⟩ => by subst h1; subst h2; exact hr
/-- The fields that are told so far, in a row that is not the texts'. -/
structure HdR (w w1 wr : World) (v : Value) (fs : List Fd) (G : Option Nat) : Prop where
  low : Below w.heap.size w wr
  sz : w.heap.size ≤ w1.heap.size
  mv : Mvs (fun k => k = w.heap.size) w1 wr
  row : Rw wr 4 v fs.length (fdC fs) G
  at' : ∀ g, G = some g → g = w.heap.size ∨ w1.heap.size ≤ g
theorem HdR.grow {w w1 wr w3 : World} {v v3 : Value} {fs : List Fd} {G G3 : Option Nat} {f : Fd} (h : HdR w w1 wr v fs G) {k : Nat} (hk : fs.length = k) (hr : Rw w3 4 v3 (k + 1) (fdC fs ++ f.cs) G3) (hm : Mvs (fun k => some k = G) wr w3) (hg : G3 = G ∨ ∃ g, G3 = some g ∧ wr.heap.size ≤ g) : ∃ G, HdR w w1 w3 v3 (fs ++ [f]) G := by
  have hs := h.mv.size
  have hz := h.sz
  refine ⟨G3, ⟨?_, h.sz, ?_, ?_, ?_⟩⟩
  · refine h.low.trans (hm.below (fun k hk e => ?_) h.low.size)
    rcases h.at' k e.symm with e2 | e2 <;> omega
  · refine h.mv.trans' hm (fun i hi e => ?_)
    rcases h.at' i e.symm with e2 | e2
    · exact e2
    · omega
  · rw [fdC_snoc, List.length_append, hk]
    exact hr
  · rintro g rfl
    rcases hg with e | ⟨g2, e, h2⟩
    · exact h.at' g e.symm
    · obtain rfl := Option.some.inj e
      exact .inr (by omega)
theorem HdR.fds {w w1 wr : World} {v : Value} {fs : List Fd} {G : Option Nat} (h : HdR w w1 wr v fs G) : Fds w.heap.size wr v fs := ⟨G, h.row, fun g e => by
  have hz := h.sz
  rcases h.at' g e with e2 | e2 <;> omega⟩
/-- The lines that go on, one by one. -/
structure Inn (X : List (List UInt8)) (i2 a2 : Nat) (v2 : List UInt8) (eF : Nat) (VF : List UInt8) (rF : List (List UInt8)) : Prop where
  a : a2 + ((X.drop i2).takeWhile blB).flatten.length = eF
  v : v2 ++ (((X.drop i2).takeWhile blB).map txt).flatten = VF
  r : (X.drop i2).dropWhile blB = rF
theorem Inn.step {X : List (List UInt8)} {i2 a2 : Nat} {v2 : List UInt8} {eF : Nat} {VF : List UInt8} {rF : List (List UInt8)} {y : List UInt8} (h : Inn X i2 a2 v2 eF VF rF) (hd : X.drop i2 = y :: X.drop (i2 + 1)) (hb : blB y = true) : Inn X (i2 + 1) (a2 + y.length) (v2 ++ txt y) eF VF rF := by
  obtain ⟨h1, h2, h3⟩ := h
  rw [hd, List.takeWhile_cons_of_pos hb] at h1 h2
  rw [hd, List.dropWhile_cons_of_pos hb] at h3
  refine ⟨?_, ?_, h3⟩
  · rw [← h1, List.flatten_cons, List.length_append, Nat.add_assoc]
  · rw [← h2]
    simp
theorem Inn.ends {X : List (List UInt8)} {i2 a2 : Nat} {v2 : List UInt8} {eF : Nat} {VF : List UInt8} {rF : List (List UInt8)} (h : Inn X i2 a2 v2 eF VF rF) (ho : (X.drop i2).takeWhile blB = []) : a2 = eF ∧ v2 = VF ∧ X.drop i2 = rF := by
  obtain ⟨h1, h2, h3⟩ := h
  rw [ho] at h1 h2
  refine ⟨by simpa using h1, by simpa using h2, ?_⟩
  have := List.takeWhile_append_dropWhile (p := blB) (l := X.drop i2)
  rw [ho, List.nil_append] at this
  rw [← h3, this]
theorem take_flat_next {X : List (List UInt8)} {i a : Nat} {y : List UInt8} (hp : (X.take i).flatten.length = a) (hd : X.drop i = y :: X.drop (i + 1)) : (X.take (i + 1)).flatten.length = a + y.length := by
  have h : X[i]? = some y := by
    have := congrArg (fun l => l[0]?) hd
    simpa [List.getElem?_drop] using this
  rw [List.take_add_one, h, List.flatten_append, List.length_append, hp]
  simp
theorem flat_take_le (X : List (List UInt8)) (i : Nat) : (X.take i).flatten.length ≤ X.flatten.length := by
  have := congrArg (fun l : List (List UInt8) => l.flatten.length) (List.take_append_drop i X)
  simp only [List.flatten_append, List.length_append] at this
  omega
theorem flat_at_le {X : List (List UInt8)} {i : Nat} (hi : i < X.length) : X[i].length ≤ X.flatten.length := by
  have h2 := congrArg (fun l : List (List UInt8) => l.flatten.length) (List.take_append_drop i X)
  rw [List.drop_eq_getElem_cons hi] at h2
  simp only [List.flatten_append, List.flatten_cons, List.length_append] at h2
  omega
set_option linter.unusedSimpArgs false in
set_option linter.unusedVariables false in
set_option maxRecDepth 40000 in
set_option maxHeartbeats 8000000 in
theorem rheader_any (m : List UInt8) (w : World) (hm : m.length ≤ 20000) : Calls Tryz.prog 18 #[.string ⟨m.toArray⟩] w fun e w' => Below w.heap.size w w' ∧ ∃ v, e = .returned (.tuple #[v, .int .i64 (((hd (splitS m) 0).2 : Nat) : Int)]) ∧ Fds w.heap.size w' v (hd (splitS m) 0).1 := by
  obtain ⟨i0, hi, hz0, hz1, hz2⟩ := info_three fdInfo
  have HSp := hide (fun w => rsplit_any m w hm)
  obtain ⟨X, hX⟩ : ∃ X, splitS m = X := ⟨_, rfl⟩
  have HMx : Hid (∀ i, (X.take i).flatten.length ≤ 20000) := fun i => by
    have h1 := flat_take_le X i
    have h2 := splitS_flat m
    rw [hX] at h2
    rw [h2] at h1
    omega
  have HYl0 : Hid (∀ i (h : i < X.length), X[i].length ≤ 20000) := fun i h => by
    have h1 := flat_at_le h
    have h2 := splitS_flat m
    rw [hX] at h2
    rw [h2] at h1
    omega
  have hNl : X.length ≤ 20000 := by
    have := splitS_len m
    rw [hX] at this
    omega
  have HCt : Hid ((hd X 0).1.length ≤ X.length) := hd_count X.length X 0 (Nat.le_refl _)
  rw [hX] at HSp ⊢
  clear hX
  obtain ⟨N, hN⟩ : ∃ N, X.length = N := ⟨_, rfl⟩
  have HN := hide hN
  rw [hN] at hNl HCt
  have HYl : Hid (∀ i (h : i < N), (X[i]'(by rw [HN.out]; exact h)).length ≤ 20000) := fun i h => HYl0.out i (by rw [HN.out]; exact h)
  clear HYl0
  go_enter Tryz.func18, Tryz.ntmps18
  go_wp2_with (first
    | (go_at_call 38; refine (HSp.out _).mono ?_; rintro e w1 ⟨v5, rfl, hb5, G5, hr5, hg5⟩; obtain ⟨A5, c5, rfl⟩ := hr5.form; rw [hN] at hr5 ⊢; replace hb5 := hide hb5; replace hr5 := hide hr5; replace hg5 := hide hg5))
  clear hN HSp
  have hw1 : w.heap.size + 1 ≤ w1.heap.size := by
    have := hb5.out.size
    rw [World.size_alloc] at this
    exact this
  have HC0 : Hid (0 < N → ∃ g o, A5 = some ⟨g, o, none⟩ ∧ Hid (∀ wr, Mvs (fun k => k = w.heap.size) w1 wr → ∀ k (hk : k < N), wr.cell? ⟨g, o + k, none⟩ = some (.string ⟨(X[k]'(by rw [HN.out]; exact hk)).toArray⟩))) := fun h0 => by
    rcases hr5.out.2 with ⟨_, h1, _⟩ | ⟨g, o, cap, h1, h2, _, _, h3, h4, _⟩
    · omega
    · obtain rfl : A5 = some ⟨g, o, none⟩ := by
        simp at h2
        exact h2.1
      refine ⟨g, o, rfl, fun wr hm k hk => ?_⟩
      have hg := hg5.out g h1
      rw [World.size_alloc] at hg
      rw [hm.cell (a := ⟨g, o + k, none⟩) h3 (by dsimp only; omega)]
      exact h4 k _ (by rw [List.getElem?_map, List.getElem?_eq_getElem (by rw [HN.out]; exact hk)]; rfl)
  have HS0 : Hid (∃ G, HdR w w1 w1 (.slice (some ⟨w.heap.size, 0, none⟩) 0 0) [] G) := by
    refine ⟨some w.heap.size, ⟨?_, by omega, Mvs.refl _ _, ?_, fun g e => .inl (Option.some.inj e).symm⟩⟩
    · exact ((Below.refl _ _).alloc (Nat.le_refl _) _).trans (hb5.out.mono (by simp))
    · have h1 := hb5.out.block w.heap.size (by simp)
      refine Rw.new (e := 71) [] [] (h1.trans (Blk.new w _ _)) rfl rfl (Nat.le_refl _) (Nat.zero_le _)
  clear hr5 hg5 hb5
  go_loopw [4, 6, 7] (fun v4 v6 v7 wr => ∃ (i j : Nat) (fs : List Fd), v6 = .int .i64 j ∧ v7 = .int .i64 i ∧ i ≤ N ∧ Hid (∃ G, HdR w w1 wr v4 fs G) ∧ Hid ((X.take i).flatten.length = j) ∧ Hid (fs ++ (hd (X.drop i) j).1 = (hd X 0).1 ∧ (hd (X.drop i) j).2 = (hd X 0).2)) (fun _ _ v7 _ => N - (intOf v7).toNat)
  case atStart => exact ⟨0, 0, [], rfl, rfl, Nat.zero_le _, HS0, rfl, rfl, rfl⟩
  case round =>
    obtain ⟨i, j, fs, rfl, rfl, hiN, HSt, HP, HE⟩ := hrel
    clear HS0
    obtain ⟨G, hR⟩ := HSt.out
    have HR := hide hR
    obtain ⟨A, c, rfl⟩ := hR.row.form
    clear HSt hR
    have hfl : fs.length ≤ 20000 := by
      have h1 := congrArg List.length HE.out.1
      have h2 := HCt.out
      rw [List.length_append] at h1
      omega
    have hj2 : j ≤ 20000 := by rw [← HP.out]; exact HMx.out i
    generalize hk : fs.length = k at *
    have HKL := hide hk
    clear hk
    by_cases hlt : i < N
    · obtain ⟨g, o, rfl, HC⟩ := HC0.out (by omega)
      clear HC0
      have hlt' : (i : Int) < N := by omega
      have hcx := HC.out _ HR.out.mv i hlt
      obtain ⟨x, hx⟩ : ∃ x, X[i]'(by rw [HN.out]; exact hlt) = x := ⟨_, rfl⟩
      rw [hx] at hcx
      have HD : Hid (X.drop i = x :: X.drop (i + 1)) := by
        show _ = _
        rw [List.drop_eq_getElem_cons (by rw [HN.out]; exact hlt), hx]
      have hxl : x.length ≤ 20000 := by rw [← hx]; exact HYl.out i hlt
      have HTxx := hide (fun w => rtext_any x w (by omega))
      have hxsz := size_lit x
      clear hx
      have HP1 := hide (take_flat_next HP.out HD.out)
      by_cases ht : txt x = []
      · have HV : Hid (fs = (hd X 0).1 ∧ j + x.length = (hd X 0).2) := by
          have := HE.out
          rw [HD.out, hd_stop ht] at this
          exact ⟨by simpa using this.1, this.2⟩
        rw [ht] at HTxx
        obtain ⟨nx, hnx⟩ : ∃ nx, x.length = nx := ⟨_, rfl⟩
        rw [hnx] at HV hxsz hxl
        clear hnx ht HP1 HD HE HP
        go_wp2_with (first
          | (go_at_call 39; refine (HTxx.out _).ret ?_))
        refine bodyPost_ret (v := .tuple #[.slice A k c, .int .i64 ((j : Int) + nx)]) (by simp [results, Tryz.results18, go_sem]) rfl ?_
        refine ⟨HR.out.low, _, ?_, by rw [← HV.out.1]; exact HR.out.fds⟩
        rw [← HV.out.2]
        simp
      · have htE : (txt x).isEmpty = false := by simpa using ht
        have HCo := hide (fun w => rcolon_any (txt x) w (by have := txt_len x; omega))
        have HE2 : Hid (fs ++ ((fdOf x ((X.drop (i + 1)).takeWhile blB) j).toList ++ (hd ((X.drop (i + 1)).dropWhile blB) (j + x.length + ((X.drop (i + 1)).takeWhile blB).flatten.length)).1) = (hd X 0).1 ∧ (hd ((X.drop (i + 1)).dropWhile blB) (j + x.length + ((X.drop (i + 1)).takeWhile blB).flatten.length)).2 = (hd X 0).2) := by
          have := HE.out
          rw [HD.out, hd_cons ht] at this
          exact this
        have hFd : fdOf x ((X.drop (i + 1)).takeWhile blB) j = (nameO (txt x)).map fun p => ⟨p, Lib.trimS ((txt x).drop (p.length + 1) ++ (((X.drop (i + 1)).takeWhile blB).map txt).flatten) [32, 9], j, j + x.length + ((X.drop (i + 1)).takeWhile blB).flatten.length⟩ := rfl
        rw [hFd] at HE2
        have htl := txt_len x
        clear hFd HE HD HP
        cases hnm : nameO (txt x) with
        | none =>
          rw [hnm] at HE2
          rw [colN_none hnm] at HCo
          obtain ⟨VF, hVF⟩ : ∃ VF, (([] : List UInt8) ++ (((X.drop (i + 1)).takeWhile blB).map txt).flatten) = VF := ⟨_, rfl⟩
          obtain ⟨eF, heF⟩ : ∃ eF, j + x.length + ((X.drop (i + 1)).takeWhile blB).flatten.length = eF := ⟨_, rfl⟩
          obtain ⟨rF, hrF⟩ : ∃ rF, (X.drop (i + 1)).dropWhile blB = rF := ⟨_, rfl⟩
          have HIn0 := hide (Inn.mk heF hVF hrF)
          have HFin : Hid (fs ++ (hd rF eF).1 = (hd X 0).1 ∧ (hd rF eF).2 = (hd X 0).2) := by
            have := HE2.out
            rw [heF, hrF] at this
            exact this
          have HV0 : Hid (([] : List UInt8).length ≤ j + x.length) := by
            show _ ≤ _
            simp
          obtain ⟨nx, hnx⟩ : ∃ nx, x.length = nx := ⟨_, rfl⟩
          rw [hnx] at HIn0 HV0 HP1 hxsz hxl
          generalize txt x = t at *
          clear hnm HE2 heF hVF hrF hnx ht htl
          go_wp2_with (first
            | (go_at_call 39; refine (HTxx.out _).ret ?_)
            | (go_at_call 40; refine (HCo.out _).ret ?_))
          clear HTxx HCo hcx
          go_loopw [6, 7, 10] (fun v6 v7 v10 wq => wr = wq ∧ ∃ (i2 a2 : Nat) (v2 : List UInt8), v6 = .int .i64 a2 ∧ v7 = .int .i64 i2 ∧ v10 = .string ⟨v2.toArray⟩ ∧ i + 1 ≤ i2 ∧ i2 ≤ N ∧ v2.length ≤ a2 ∧ Hid (Inn X i2 a2 v2 eF VF rF) ∧ Hid ((X.take i2).flatten.length = a2)) (fun _ v7 _ _ => N - (intOf v7).toNat)
          case atStart => exact ⟨rfl, i + 1, j + nx, [], rfl, rfl, rfl, Nat.le_refl _, by omega, HV0.out, HIn0, HP1⟩
          case round =>
            obtain ⟨hwq, i2, a2, v2, rfl, rfl, rfl, hi2, hi2N, hv2, HIn, HP2⟩ := hrel
            subst hwq
            have ha2 : a2 ≤ 20000 := by rw [← HP2.out]; exact HMx.out i2
            by_cases hlt2 : i2 < N
            · have hlt2' : (i2 : Int) < N := by omega
              have hcy := HC.out _ HR.out.mv i2 hlt2
              obtain ⟨y, hy⟩ : ∃ y, X[i2]'(by rw [HN.out]; exact hlt2) = y := ⟨_, rfl⟩
              rw [hy] at hcy
              have HD : Hid (X.drop i2 = y :: X.drop (i2 + 1)) := by
                show _ = _
                rw [List.drop_eq_getElem_cons (by rw [HN.out]; exact hlt2), hy]
              have hyl : y.length ≤ 20000 := by rw [← hy]; exact HYl.out i2 hlt2
              have HTx := hide (fun w => rtext_any y w (by omega))
              have hysz := size_lit y
              clear hy
              cases hb : blB y with
              | true =>
                obtain ⟨c1, y1, rfl⟩ : ∃ c1 y1, y = c1 :: y1 := by
                  cases y with
                  | nil => cases hb
                  | cons c1 y1 => exact ⟨c1, y1, rfl⟩
                have HBk := hide (rblank_any c1)
                rw [show bkB c1 = true from hb] at HBk
                have hat1 : ∀ h, (⟨(c1 :: y1).toArray⟩ : ByteArray)[0]'h = c1 := fun _ => rfl
                have hpos : (0 : Int) < (c1 :: y1).length := by rw [List.length_cons]; omega
                have hE : (txt (c1 :: y1)).isEmpty = false := by simpa using blB_txt hb
                have HIn2 := hide (HIn.out.step HD.out hb)
                have HP3 := hide (take_flat_next HP2.out HD.out)
                have htl := txt_len (c1 :: y1)
                have eC := cat_lit v2 (txt (c1 :: y1))
                have HVl : Hid ((v2 ++ txt (c1 :: y1)).length ≤ a2 + (c1 :: y1).length) := by
                  show _ ≤ _
                  rw [List.length_append]
                  omega
                generalize txt (c1 :: y1) = ty at *
                generalize c1 :: y1 = y at *
                obtain ⟨ny, hny⟩ : ∃ ny, y.length = ny := ⟨_, rfl⟩
                rw [hny] at hysz hpos HIn2 HP3 HVl hyl htl
                have hv2z := size_lit v2
                have htyz := size_lit ty
                clear hny HIn HP2 HD hb
                go_wp2_with (first
                    | (go_at_call 39; refine (HTx.out _).ret ?_)
                    | (go_at_call 41; refine (HBk.out _).ret ?_))
                go_roundw
                case rel => exact ⟨by trivial, i2 + 1, a2 + ny, v2 ++ ty, rfl, by go_num, rfl, by omega, by omega, HVl.out, HIn2, HP3⟩
                case measure => simp [intOf]; omega
              | false =>
                have HOut : Hid ((X.drop i2).takeWhile blB = []) := by
                  show _ = _
                  rw [HD.out, List.takeWhile_cons_of_neg (by rw [hb]; simp)]
                by_cases hE : txt y = []
                · rw [hE] at HTx
                  clear hE hb HD
                  have HEx := hide (HIn.out.ends HOut.out)
                  obtain ⟨rfl, rfl⟩ : a2 = eF ∧ v2 = VF := ⟨HEx.out.1, HEx.out.2.1⟩
                  clear HIn HOut
                  go_wp2_with (first
                      | (go_at_call 39; refine (HTx.out _).ret ?_))
                  go_roundw
                  case rel => exact ⟨i2, a2, fs, rfl, rfl, by omega, ⟨G, HR.out⟩, HP2, by rw [HEx.out.2.2]; exact HFin⟩
                  case measure => simp [intOf]; omega
                · have hE' : (txt y).isEmpty = false := by simpa using hE
                  obtain ⟨c1, y1, rfl⟩ : ∃ c1 y1, y = c1 :: y1 := by
                    cases y with
                    | nil => exact (hE rfl).elim
                    | cons c1 y1 => exact ⟨c1, y1, rfl⟩
                  have HBk := hide (rblank_any c1)
                  rw [show bkB c1 = false from hb] at HBk
                  have hat1 : ∀ h, (⟨(c1 :: y1).toArray⟩ : ByteArray)[0]'h = c1 := fun _ => rfl
                  have hpos : (0 : Int) < (c1 :: y1).length := by rw [List.length_cons]; omega
                  generalize txt (c1 :: y1) = ty at *
                  generalize c1 :: y1 = y at *
                  clear hE hb HD
                  have HEx := hide (HIn.out.ends HOut.out)
                  obtain ⟨rfl, rfl⟩ : a2 = eF ∧ v2 = VF := ⟨HEx.out.1, HEx.out.2.1⟩
                  clear HIn HOut
                  go_wp2_with fail
                  refine (HTx.out _).ret ?_
                  go_wp2_with fail
                  refine (HBk.out _).ret ?_
                  go_wp2
                  go_roundw
                  case rel => exact ⟨i2, a2, fs, rfl, rfl, by omega, ⟨G, HR.out⟩, HP2, by rw [HEx.out.2.2]; exact HFin⟩
                  case measure => simp [intOf]; omega
            · have hiE : i2 = N := by omega
              have hlt2n : ¬ (i2 : Int) < N := by omega
              have HOut : Hid ((X.drop i2).takeWhile blB = []) := by
                show _ = _
                rw [List.drop_of_length_le (by rw [HN.out, hiE]; exact Nat.le_refl _)]
                rfl
              clear hiE
              have HEx := hide (HIn.out.ends HOut.out)
              obtain ⟨rfl, rfl⟩ : a2 = eF ∧ v2 = VF := ⟨HEx.out.1, HEx.out.2.1⟩
              clear HIn HOut
              go_wp2
              go_roundw
              case rel => exact ⟨i2, a2, fs, rfl, rfl, by omega, ⟨G, HR.out⟩, HP2, by rw [HEx.out.2.2]; exact HFin⟩
              case measure => simp [intOf]; omega
        | some p =>
          rw [hnm] at HE2
          obtain ⟨q, hq, h58, hpne, hpall⟩ := nameO_some hnm
          rw [colN_some hnm] at HCo
          obtain ⟨VF, hVF⟩ : ∃ VF, ((txt x).drop (p.length + 1) ++ (((X.drop (i + 1)).takeWhile blB).map txt).flatten) = VF := ⟨_, rfl⟩
          obtain ⟨eF, heF⟩ : ∃ eF, j + x.length + ((X.drop (i + 1)).takeWhile blB).flatten.length = eF := ⟨_, rfl⟩
          obtain ⟨rF, hrF⟩ : ∃ rF, (X.drop (i + 1)).dropWhile blB = rF := ⟨_, rfl⟩
          obtain ⟨TV, hTV⟩ : ∃ TV, Lib.trimS VF [32, 9] = TV := ⟨_, rfl⟩
          have HIn0 := hide (Inn.mk heF hVF hrF)
          have HFin : Hid ((fs ++ [⟨p, TV, j, eF⟩]) ++ (hd rF eF).1 = (hd X 0).1 ∧ (hd rF eF).2 = (hd X 0).2) := by
            have := HE2.out
            rw [heF, hrF] at this
            simp only [Option.map_some, Option.toList_some, hVF, hTV] at this
            exact ⟨by rw [← this.1]; simp, this.2⟩
          have hpl : p.length + 1 ≤ (txt x).length := by
            rw [hq]
            simp
          have eP : (⟨(txt x).toArray⟩ : ByteArray).extract 0 p.length = ⟨p.toArray⟩ := by
            rw [ext_take, hq, List.take_left' rfl]
          have eV := ext_drop (txt x) (p.length + 1)
          obtain ⟨V0, hV0⟩ : ∃ V0 : List UInt8, (txt x).drop (p.length + 1) = V0 := ⟨_, rfl⟩
          have HV0 : Hid (V0.length ≤ j + x.length) := by
            show _ ≤ _
            rw [← hV0, List.length_drop]
            omega
          rw [hV0] at HIn0 eV
          have HVl : Hid (VF.length ≤ 40000) := by
            show _ ≤ _
            rw [← hVF, List.length_append, List.length_drop]
            have h1 := txts_len ((X.drop (i + 1)).takeWhile blB)
            have h2 := congrArg (fun l : List (List UInt8) => l.flatten.length) (List.takeWhile_append_dropWhile (p := blB) (l := X.drop (i + 1)))
            have h3 := congrArg (fun l : List (List UInt8) => l.flatten.length) (List.take_append_drop (i + 1) X)
            have h4 := HMx.out N
            rw [List.take_of_length_le (by rw [HN.out]; exact Nat.le_refl _)] at h4
            simp only [List.flatten_append, List.length_append] at h2 h3
            omega
          have HTr := hide (fun w => rtrim_any VF w (by have := HVl.out; omega))
          rw [hTV] at HTr
          obtain ⟨c0, p0, rfl⟩ : ∃ c0 p0, p = c0 :: p0 := by
            cases p with
            | nil => exact (hpne rfl).elim
            | cons c0 p0 => exact ⟨c0, p0, rfl⟩
          have hbk0 : bkB c0 = false := by
            have h1 : nbB c0 = true := by
              rw [List.all_eq_true] at hpall
              exact hpall c0 (by simp)
            have h2 := nbB_lo h1
            unfold bkB
            rw [Bool.eq_false_iff]
            intro h
            simp at h
            rcases h with rfl | rfl <;> simp at h2
          have HB0 := hide (rblank_any c0)
          rw [hbk0] at HB0
          have hat0 : ∀ h, (⟨(txt x).toArray⟩ : ByteArray)[0]'h = c0 := by
            rw [hq]
            exact fun _ => rfl
          have htsz := size_lit (txt x)
          generalize c0 :: p0 = p at *
          obtain ⟨nx, hnx⟩ : ∃ nx, x.length = nx := ⟨_, rfl⟩
          rw [hnx] at HIn0 HV0 HP1 hxsz hxl htl
          obtain ⟨np, hnp⟩ : ∃ np, p.length = np := ⟨_, rfl⟩
          rw [hnp] at eP eV HCo hpl
          generalize txt x = t at *
          have hb1 : (np : Int) + 1 ≤ t.length := by omega
          have hb2 : (np : Int) ≤ t.length := by omega
          have hb3 : (0 : Int) < t.length := by omega
          have hb4 : (np : Int) ≥ 0 := by omega
          have hb5 : ((np : Int) + 1).toNat = np + 1 := by omega
          clear hnm HE2 heF hVF hrF hnx hV0 ht hTV hnp hq h58 hpne hpall hbk0 HVl
          go_wp2_with (first
            | (go_at_call 39; refine (HTxx.out _).ret ?_)
            | (go_at_call 40; refine (HCo.out _).ret ?_))
          clear HTxx HCo hcx eV
          go_loopw [6, 7, 10] (fun v6 v7 v10 wq => wr = wq ∧ ∃ (i2 a2 : Nat) (v2 : List UInt8), v6 = .int .i64 a2 ∧ v7 = .int .i64 i2 ∧ v10 = .string ⟨v2.toArray⟩ ∧ i + 1 ≤ i2 ∧ i2 ≤ N ∧ v2.length ≤ a2 ∧ Hid (Inn X i2 a2 v2 eF VF rF) ∧ Hid ((X.take i2).flatten.length = a2)) (fun _ v7 _ _ => N - (intOf v7).toNat)
          case atStart => exact ⟨rfl, i + 1, j + nx, V0, rfl, rfl, rfl, Nat.le_refl _, by omega, HV0.out, HIn0, HP1⟩
          case round =>
            obtain ⟨hwq, i2, a2, v2, rfl, rfl, rfl, hi2, hi2N, hv2, HIn, HP2⟩ := hrel
            subst hwq
            have ha2 : a2 ≤ 20000 := by rw [← HP2.out]; exact HMx.out i2
            by_cases hlt2 : i2 < N
            · have hlt2' : (i2 : Int) < N := by omega
              have hcy := HC.out _ HR.out.mv i2 hlt2
              obtain ⟨y, hy⟩ : ∃ y, X[i2]'(by rw [HN.out]; exact hlt2) = y := ⟨_, rfl⟩
              rw [hy] at hcy
              have HD : Hid (X.drop i2 = y :: X.drop (i2 + 1)) := by
                show _ = _
                rw [List.drop_eq_getElem_cons (by rw [HN.out]; exact hlt2), hy]
              have hyl : y.length ≤ 20000 := by rw [← hy]; exact HYl.out i2 hlt2
              have HTx := hide (fun w => rtext_any y w (by omega))
              have hysz := size_lit y
              clear hy
              cases hb : blB y with
              | true =>
                obtain ⟨c1, y1, rfl⟩ : ∃ c1 y1, y = c1 :: y1 := by
                  cases y with
                  | nil => cases hb
                  | cons c1 y1 => exact ⟨c1, y1, rfl⟩
                have HBk := hide (rblank_any c1)
                rw [show bkB c1 = true from hb] at HBk
                have hat1 : ∀ h, (⟨(c1 :: y1).toArray⟩ : ByteArray)[0]'h = c1 := fun _ => rfl
                have hpos : (0 : Int) < (c1 :: y1).length := by rw [List.length_cons]; omega
                have hE : (txt (c1 :: y1)).isEmpty = false := by simpa using blB_txt hb
                have HIn2 := hide (HIn.out.step HD.out hb)
                have HP3 := hide (take_flat_next HP2.out HD.out)
                have htl := txt_len (c1 :: y1)
                have eC := cat_lit v2 (txt (c1 :: y1))
                have HVl : Hid ((v2 ++ txt (c1 :: y1)).length ≤ a2 + (c1 :: y1).length) := by
                  show _ ≤ _
                  rw [List.length_append]
                  omega
                generalize txt (c1 :: y1) = ty at *
                generalize c1 :: y1 = y at *
                obtain ⟨ny, hny⟩ : ∃ ny, y.length = ny := ⟨_, rfl⟩
                rw [hny] at hysz hpos HIn2 HP3 HVl hyl htl
                have hv2z := size_lit v2
                have htyz := size_lit ty
                clear hny HIn HP2 HD hb
                go_wp2_with (first
                    | (go_at_call 39; refine (HTx.out _).ret ?_)
                    | (go_at_call 41; refine (HBk.out _).ret ?_))
                go_roundw
                case rel => exact ⟨by trivial, i2 + 1, a2 + ny, v2 ++ ty, rfl, by go_num, rfl, by omega, by omega, HVl.out, HIn2, HP3⟩
                case measure => simp [intOf]; omega
              | false =>
                have HOut : Hid ((X.drop i2).takeWhile blB = []) := by
                  show _ = _
                  rw [HD.out, List.takeWhile_cons_of_neg (by rw [hb]; simp)]
                by_cases hE : txt y = []
                · rw [hE] at HTx
                  clear hE hb HD
                  have HEx := hide (HIn.out.ends HOut.out)
                  obtain ⟨rfl, rfl⟩ : a2 = eF ∧ v2 = VF := ⟨HEx.out.1, HEx.out.2.1⟩
                  clear HIn HOut
                  go_wp2_with (first
                      | (go_at_call 39; refine (HTx.out _).ret ?_)
                      | (go_at_call 41; refine (HB0.out _).ret ?_))
                  refine regionL 11 (fun _ => True) (by kernel_rfl) ?_
                  refine takeW (i := 0) (v := (.slice A k c)) rfl (by kernel_rfl) (by kernel_rfl) (by kernel_rfl) rfl (fun _ _ _ h => h) (fun _ => trivial) (Or.inl ⟨by rfl, fun W _ => by go_simp⟩) ?_
                  simp only [Act.put, List.getElem_toArray, List.getElem_cons_succ, List.getElem_cons_zero, List.setIfInBounds_toArray, List.set_cons_zero, List.set_cons_succ]
                  refine takeW (i := 1) (v := (.string ⟨t.toArray⟩)) rfl (by kernel_rfl) (by kernel_rfl) (by kernel_rfl) rfl (fun _ _ _ h => h) (fun _ => trivial) (Or.inl ⟨by rfl, fun W _ => by go_simp⟩) ?_
                  simp only [Act.put, List.getElem_toArray, List.getElem_cons_succ, List.getElem_cons_zero, List.setIfInBounds_toArray, List.set_cons_zero, List.set_cons_succ]
                  refine takeW (i := 2) (v := (.int .i64 (np : Nat))) rfl (by kernel_rfl) (by kernel_rfl) (by kernel_rfl) rfl (fun _ _ _ h => h) (fun _ => trivial) (Or.inl ⟨by rfl, fun W _ => by go_simp⟩) ?_
                  simp only [Act.put, List.getElem_toArray, List.getElem_cons_succ, List.getElem_cons_zero, List.setIfInBounds_toArray, List.set_cons_zero, List.set_cons_succ]
                  refine takeW (i := 3) (v := (.string ⟨p.toArray⟩)) rfl (by kernel_rfl) (by kernel_rfl) (by kernel_rfl) rfl (fun _ _ _ h => h) (fun _ => trivial) (Or.inl ⟨by rfl, fun W _ => by go_simp⟩) ?_
                  simp only [Act.put, List.getElem_toArray, List.getElem_cons_succ, List.getElem_cons_zero, List.setIfInBounds_toArray, List.set_cons_zero, List.set_cons_succ]
                  refine takeW (i := 4) (v := (.string ⟨v2.toArray⟩)) rfl (by kernel_rfl) (by kernel_rfl) (by kernel_rfl) rfl (fun _ _ _ h => h) (fun _ => trivial) (Or.inl ⟨by rfl, fun W _ => by go_simp⟩) ?_
                  simp only [Act.put, List.getElem_toArray, List.getElem_cons_succ, List.getElem_cons_zero, List.setIfInBounds_toArray, List.set_cons_zero, List.set_cons_succ]
                  refine takeW (i := 6) (v := (.int .i64 (j : Nat))) rfl (by kernel_rfl) (by kernel_rfl) (by kernel_rfl) rfl (fun _ _ _ h => h) (fun _ => trivial) (Or.inl ⟨by rfl, fun W _ => by go_simp⟩) ?_
                  simp only [Act.put, List.getElem_toArray, List.getElem_cons_succ, List.getElem_cons_zero, List.setIfInBounds_toArray, List.set_cons_zero, List.set_cons_succ]
                  refine takeW (i := 7) (v := (.int .i64 (a2 : Nat))) rfl (by kernel_rfl) (by kernel_rfl) (by kernel_rfl) rfl (fun _ _ _ h => h) (fun _ => trivial) (Or.inl ⟨by rfl, fun W _ => by go_simp⟩) ?_
                  simp only [Act.put, List.getElem_toArray, List.getElem_cons_succ, List.getElem_cons_zero, List.setIfInBounds_toArray, List.set_cons_zero, List.set_cons_succ]
                  refine readyL (rs := [5]) (by kernel_rfl) (by simp) ?_
                  refine AllL.cons rfl (fun K hK => ?_) AllL.nil
                  try simp only [List.getElem_toArray, List.getElem_cons_succ, List.getElem_cons_zero]
                  go_simp
                  refine (HTr.out _).ret ?_
                  refine hK.out _ _ (fun _ => trivial) (fun _ => ?_)
                  clear hK K
                  try simp only [Act.put, List.getElem_toArray, List.getElem_cons_succ, List.getElem_cons_zero, List.setIfInBounds_toArray, List.set_cons_zero, List.set_cons_succ]
                  refine takeW (i := 8) (v := (.agg #[.string ⟨p.toArray⟩, .string ⟨TV.toArray⟩, .int .i64 (j : Nat), .int .i64 (a2 : Nat)])) rfl (by kernel_rfl) (by kernel_rfl) (by kernel_rfl) rfl (fun _ _ _ h => h) (fun _ => trivial) (Or.inl ⟨by rfl, fun W _ => by go_simp⟩) ?_
                  simp only [Act.put, List.getElem_toArray, List.getElem_cons_succ, List.getElem_cons_zero, List.setIfInBounds_toArray, List.set_cons_zero, List.set_cons_succ]
                  refine readyL (rs := [9]) (by kernel_rfl) (by simp) ?_
                  refine AllL.cons rfl (fun K hK => ?_) AllL.nil
                  try simp only [List.getElem_toArray, List.getElem_cons_succ, List.getElem_cons_zero]
                  go_simp
                  refine hK.out _ _ (fun _ => trivial) (fun _ => ?_)
                  clear hK K
                  try simp only [Act.put, List.getElem_toArray, List.getElem_cons_succ, List.getElem_cons_zero, List.setIfInBounds_toArray, List.set_cons_zero, List.set_cons_succ]
                  refine readyL (rs := [10]) (by kernel_rfl) (by simp) ?_
                  refine AllL.cons rfl (fun K hK => ?_) AllL.nil
                  refine step_append_rw (by rfl) (.tmp 90) (.tmp 99) 40 40 (by rfl) 71 i0 (.agg #[.string ⟨#[]⟩, .string ⟨#[]⟩, .int .i64 0, .int .i64 0]) 4 48 Tryz.underlying40 hi hz0 hz1 hz2 (by rfl) (by simp [Act.eval, Act.put]) ((HKL.out ▸ HR.out.row : Rw wr 4 (.slice A k c) k (fdC fs) G).keep (S := fun _ => False) (((Mvs.refl _ _).drew).alloc _) (fun _ _ c => c)) (.slice (some ⟨wr.drew.heap.size, 0, none⟩) 1 1) 1 (Fd.cs ⟨p, TV, j, a2⟩) (by simp [Act.eval, Act.put]) (src_fd ⟨p, TV, j, a2⟩) (by simp only [maxLen]; omega) (by omega) ?_
                  intro v3 w3 G3 hr3 hm3 hg3
                  obtain ⟨A3, c3, rfl⟩ := hr3.form
                  have hmw : Mvs (fun k => some k = G) wr w3 := (((Mvs.refl _ _).drew).alloc _).trans' hm3 (fun _ _ h => h)
                  have HST := hide (HR.out.grow (f := ⟨p, TV, j, a2⟩) HKL.out hr3 hmw (hg3.imp id (fun h => ⟨_, h, by simp⟩)))
                  clear hr3 hm3 hg3 hmw
                  refine hK.out _ _ (fun _ => trivial) (fun _ => ?_)
                  clear hK K
                  try simp only [Act.put, List.getElem_toArray, List.getElem_cons_succ, List.getElem_cons_zero, List.setIfInBounds_toArray, List.set_cons_zero, List.set_cons_succ]
                  refine readyL (rs := [11]) (by kernel_rfl) (by simp) ?_
                  refine AllL.cons rfl (fun K hK => ?_) AllL.nil
                  try simp only [List.getElem_toArray, List.getElem_cons_succ, List.getElem_cons_zero]
                  go_simp
                  refine hK.out _ _ (fun _ => trivial) (fun _ => ?_)
                  clear hK K
                  try simp only [Act.put, List.getElem_toArray, List.getElem_cons_succ, List.getElem_cons_zero, List.setIfInBounds_toArray, List.set_cons_zero, List.set_cons_succ]
                  refine doneL (by kernel_rfl) ?_ _
                  go_wp2
                  go_roundw
                  case rel => exact ⟨i2, a2, fs ++ [⟨p, TV, j, a2⟩], rfl, rfl, by omega, HST, HP2, by rw [HEx.out.2.2]; exact HFin⟩
                  case measure => simp [intOf]; omega
                · have hE' : (txt y).isEmpty = false := by simpa using hE
                  obtain ⟨c1, y1, rfl⟩ : ∃ c1 y1, y = c1 :: y1 := by
                    cases y with
                    | nil => exact (hE rfl).elim
                    | cons c1 y1 => exact ⟨c1, y1, rfl⟩
                  have HBk := hide (rblank_any c1)
                  rw [show bkB c1 = false from hb] at HBk
                  have hat1 : ∀ h, (⟨(c1 :: y1).toArray⟩ : ByteArray)[0]'h = c1 := fun _ => rfl
                  have hpos : (0 : Int) < (c1 :: y1).length := by rw [List.length_cons]; omega
                  generalize txt (c1 :: y1) = ty at *
                  generalize c1 :: y1 = y at *
                  clear hE hb HD
                  have HEx := hide (HIn.out.ends HOut.out)
                  obtain ⟨rfl, rfl⟩ : a2 = eF ∧ v2 = VF := ⟨HEx.out.1, HEx.out.2.1⟩
                  clear HIn HOut
                  go_wp2_with fail
                  refine (HTx.out _).ret ?_
                  go_wp2_with fail
                  refine (HBk.out _).ret ?_
                  go_wp2_with fail
                  refine (HB0.out _).ret ?_
                  go_wp2
                  refine regionL 11 (fun _ => True) (by kernel_rfl) ?_
                  refine takeW (i := 0) (v := (.slice A k c)) rfl (by kernel_rfl) (by kernel_rfl) (by kernel_rfl) rfl (fun _ _ _ h => h) (fun _ => trivial) (Or.inl ⟨by rfl, fun W _ => by go_simp⟩) ?_
                  simp only [Act.put, List.getElem_toArray, List.getElem_cons_succ, List.getElem_cons_zero, List.setIfInBounds_toArray, List.set_cons_zero, List.set_cons_succ]
                  refine takeW (i := 1) (v := (.string ⟨t.toArray⟩)) rfl (by kernel_rfl) (by kernel_rfl) (by kernel_rfl) rfl (fun _ _ _ h => h) (fun _ => trivial) (Or.inl ⟨by rfl, fun W _ => by go_simp⟩) ?_
                  simp only [Act.put, List.getElem_toArray, List.getElem_cons_succ, List.getElem_cons_zero, List.setIfInBounds_toArray, List.set_cons_zero, List.set_cons_succ]
                  refine takeW (i := 2) (v := (.int .i64 (np : Nat))) rfl (by kernel_rfl) (by kernel_rfl) (by kernel_rfl) rfl (fun _ _ _ h => h) (fun _ => trivial) (Or.inl ⟨by rfl, fun W _ => by go_simp⟩) ?_
                  simp only [Act.put, List.getElem_toArray, List.getElem_cons_succ, List.getElem_cons_zero, List.setIfInBounds_toArray, List.set_cons_zero, List.set_cons_succ]
                  refine takeW (i := 3) (v := (.string ⟨p.toArray⟩)) rfl (by kernel_rfl) (by kernel_rfl) (by kernel_rfl) rfl (fun _ _ _ h => h) (fun _ => trivial) (Or.inl ⟨by rfl, fun W _ => by go_simp⟩) ?_
                  simp only [Act.put, List.getElem_toArray, List.getElem_cons_succ, List.getElem_cons_zero, List.setIfInBounds_toArray, List.set_cons_zero, List.set_cons_succ]
                  refine takeW (i := 4) (v := (.string ⟨v2.toArray⟩)) rfl (by kernel_rfl) (by kernel_rfl) (by kernel_rfl) rfl (fun _ _ _ h => h) (fun _ => trivial) (Or.inl ⟨by rfl, fun W _ => by go_simp⟩) ?_
                  simp only [Act.put, List.getElem_toArray, List.getElem_cons_succ, List.getElem_cons_zero, List.setIfInBounds_toArray, List.set_cons_zero, List.set_cons_succ]
                  refine takeW (i := 6) (v := (.int .i64 (j : Nat))) rfl (by kernel_rfl) (by kernel_rfl) (by kernel_rfl) rfl (fun _ _ _ h => h) (fun _ => trivial) (Or.inl ⟨by rfl, fun W _ => by go_simp⟩) ?_
                  simp only [Act.put, List.getElem_toArray, List.getElem_cons_succ, List.getElem_cons_zero, List.setIfInBounds_toArray, List.set_cons_zero, List.set_cons_succ]
                  refine takeW (i := 7) (v := (.int .i64 (a2 : Nat))) rfl (by kernel_rfl) (by kernel_rfl) (by kernel_rfl) rfl (fun _ _ _ h => h) (fun _ => trivial) (Or.inl ⟨by rfl, fun W _ => by go_simp⟩) ?_
                  simp only [Act.put, List.getElem_toArray, List.getElem_cons_succ, List.getElem_cons_zero, List.setIfInBounds_toArray, List.set_cons_zero, List.set_cons_succ]
                  refine readyL (rs := [5]) (by kernel_rfl) (by simp) ?_
                  refine AllL.cons rfl (fun K hK => ?_) AllL.nil
                  try simp only [List.getElem_toArray, List.getElem_cons_succ, List.getElem_cons_zero]
                  go_simp
                  refine (HTr.out _).ret ?_
                  refine hK.out _ _ (fun _ => trivial) (fun _ => ?_)
                  clear hK K
                  try simp only [Act.put, List.getElem_toArray, List.getElem_cons_succ, List.getElem_cons_zero, List.setIfInBounds_toArray, List.set_cons_zero, List.set_cons_succ]
                  refine takeW (i := 8) (v := (.agg #[.string ⟨p.toArray⟩, .string ⟨TV.toArray⟩, .int .i64 (j : Nat), .int .i64 (a2 : Nat)])) rfl (by kernel_rfl) (by kernel_rfl) (by kernel_rfl) rfl (fun _ _ _ h => h) (fun _ => trivial) (Or.inl ⟨by rfl, fun W _ => by go_simp⟩) ?_
                  simp only [Act.put, List.getElem_toArray, List.getElem_cons_succ, List.getElem_cons_zero, List.setIfInBounds_toArray, List.set_cons_zero, List.set_cons_succ]
                  refine readyL (rs := [9]) (by kernel_rfl) (by simp) ?_
                  refine AllL.cons rfl (fun K hK => ?_) AllL.nil
                  try simp only [List.getElem_toArray, List.getElem_cons_succ, List.getElem_cons_zero]
                  go_simp
                  refine hK.out _ _ (fun _ => trivial) (fun _ => ?_)
                  clear hK K
                  try simp only [Act.put, List.getElem_toArray, List.getElem_cons_succ, List.getElem_cons_zero, List.setIfInBounds_toArray, List.set_cons_zero, List.set_cons_succ]
                  refine readyL (rs := [10]) (by kernel_rfl) (by simp) ?_
                  refine AllL.cons rfl (fun K hK => ?_) AllL.nil
                  refine step_append_rw (by rfl) (.tmp 90) (.tmp 99) 40 40 (by rfl) 71 i0 (.agg #[.string ⟨#[]⟩, .string ⟨#[]⟩, .int .i64 0, .int .i64 0]) 4 48 Tryz.underlying40 hi hz0 hz1 hz2 (by rfl) (by simp [Act.eval, Act.put]) ((HKL.out ▸ HR.out.row : Rw wr 4 (.slice A k c) k (fdC fs) G).keep (S := fun _ => False) (((Mvs.refl _ _).drew).alloc _) (fun _ _ c => c)) (.slice (some ⟨wr.drew.heap.size, 0, none⟩) 1 1) 1 (Fd.cs ⟨p, TV, j, a2⟩) (by simp [Act.eval, Act.put]) (src_fd ⟨p, TV, j, a2⟩) (by simp only [maxLen]; omega) (by omega) ?_
                  intro v3 w3 G3 hr3 hm3 hg3
                  obtain ⟨A3, c3, rfl⟩ := hr3.form
                  have hmw : Mvs (fun k => some k = G) wr w3 := (((Mvs.refl _ _).drew).alloc _).trans' hm3 (fun _ _ h => h)
                  have HST := hide (HR.out.grow (f := ⟨p, TV, j, a2⟩) HKL.out hr3 hmw (hg3.imp id (fun h => ⟨_, h, by simp⟩)))
                  clear hr3 hm3 hg3 hmw
                  refine hK.out _ _ (fun _ => trivial) (fun _ => ?_)
                  clear hK K
                  try simp only [Act.put, List.getElem_toArray, List.getElem_cons_succ, List.getElem_cons_zero, List.setIfInBounds_toArray, List.set_cons_zero, List.set_cons_succ]
                  refine readyL (rs := [11]) (by kernel_rfl) (by simp) ?_
                  refine AllL.cons rfl (fun K hK => ?_) AllL.nil
                  try simp only [List.getElem_toArray, List.getElem_cons_succ, List.getElem_cons_zero]
                  go_simp
                  refine hK.out _ _ (fun _ => trivial) (fun _ => ?_)
                  clear hK K
                  try simp only [Act.put, List.getElem_toArray, List.getElem_cons_succ, List.getElem_cons_zero, List.setIfInBounds_toArray, List.set_cons_zero, List.set_cons_succ]
                  refine doneL (by kernel_rfl) ?_ _
                  go_wp2
                  go_roundw
                  case rel => exact ⟨i2, a2, fs ++ [⟨p, TV, j, a2⟩], rfl, rfl, by omega, HST, HP2, by rw [HEx.out.2.2]; exact HFin⟩
                  case measure => simp [intOf]; omega
            · have hiE : i2 = N := by omega
              have hlt2n : ¬ (i2 : Int) < N := by omega
              have HOut : Hid ((X.drop i2).takeWhile blB = []) := by
                show _ = _
                rw [List.drop_of_length_le (by rw [HN.out, hiE]; exact Nat.le_refl _)]
                rfl
              clear hiE
              have HEx := hide (HIn.out.ends HOut.out)
              obtain ⟨rfl, rfl⟩ : a2 = eF ∧ v2 = VF := ⟨HEx.out.1, HEx.out.2.1⟩
              clear HIn HOut
              go_wp2_with (first
                  | (go_at_call 41; refine (HB0.out _).ret ?_))
              refine regionL 11 (fun _ => True) (by kernel_rfl) ?_
              refine takeW (i := 0) (v := (.slice A k c)) rfl (by kernel_rfl) (by kernel_rfl) (by kernel_rfl) rfl (fun _ _ _ h => h) (fun _ => trivial) (Or.inl ⟨by rfl, fun W _ => by go_simp⟩) ?_
              simp only [Act.put, List.getElem_toArray, List.getElem_cons_succ, List.getElem_cons_zero, List.setIfInBounds_toArray, List.set_cons_zero, List.set_cons_succ]
              refine takeW (i := 1) (v := (.string ⟨t.toArray⟩)) rfl (by kernel_rfl) (by kernel_rfl) (by kernel_rfl) rfl (fun _ _ _ h => h) (fun _ => trivial) (Or.inl ⟨by rfl, fun W _ => by go_simp⟩) ?_
              simp only [Act.put, List.getElem_toArray, List.getElem_cons_succ, List.getElem_cons_zero, List.setIfInBounds_toArray, List.set_cons_zero, List.set_cons_succ]
              refine takeW (i := 2) (v := (.int .i64 (np : Nat))) rfl (by kernel_rfl) (by kernel_rfl) (by kernel_rfl) rfl (fun _ _ _ h => h) (fun _ => trivial) (Or.inl ⟨by rfl, fun W _ => by go_simp⟩) ?_
              simp only [Act.put, List.getElem_toArray, List.getElem_cons_succ, List.getElem_cons_zero, List.setIfInBounds_toArray, List.set_cons_zero, List.set_cons_succ]
              refine takeW (i := 3) (v := (.string ⟨p.toArray⟩)) rfl (by kernel_rfl) (by kernel_rfl) (by kernel_rfl) rfl (fun _ _ _ h => h) (fun _ => trivial) (Or.inl ⟨by rfl, fun W _ => by go_simp⟩) ?_
              simp only [Act.put, List.getElem_toArray, List.getElem_cons_succ, List.getElem_cons_zero, List.setIfInBounds_toArray, List.set_cons_zero, List.set_cons_succ]
              refine takeW (i := 4) (v := (.string ⟨v2.toArray⟩)) rfl (by kernel_rfl) (by kernel_rfl) (by kernel_rfl) rfl (fun _ _ _ h => h) (fun _ => trivial) (Or.inl ⟨by rfl, fun W _ => by go_simp⟩) ?_
              simp only [Act.put, List.getElem_toArray, List.getElem_cons_succ, List.getElem_cons_zero, List.setIfInBounds_toArray, List.set_cons_zero, List.set_cons_succ]
              refine takeW (i := 6) (v := (.int .i64 (j : Nat))) rfl (by kernel_rfl) (by kernel_rfl) (by kernel_rfl) rfl (fun _ _ _ h => h) (fun _ => trivial) (Or.inl ⟨by rfl, fun W _ => by go_simp⟩) ?_
              simp only [Act.put, List.getElem_toArray, List.getElem_cons_succ, List.getElem_cons_zero, List.setIfInBounds_toArray, List.set_cons_zero, List.set_cons_succ]
              refine takeW (i := 7) (v := (.int .i64 (a2 : Nat))) rfl (by kernel_rfl) (by kernel_rfl) (by kernel_rfl) rfl (fun _ _ _ h => h) (fun _ => trivial) (Or.inl ⟨by rfl, fun W _ => by go_simp⟩) ?_
              simp only [Act.put, List.getElem_toArray, List.getElem_cons_succ, List.getElem_cons_zero, List.setIfInBounds_toArray, List.set_cons_zero, List.set_cons_succ]
              refine readyL (rs := [5]) (by kernel_rfl) (by simp) ?_
              refine AllL.cons rfl (fun K hK => ?_) AllL.nil
              try simp only [List.getElem_toArray, List.getElem_cons_succ, List.getElem_cons_zero]
              go_simp
              refine (HTr.out _).ret ?_
              refine hK.out _ _ (fun _ => trivial) (fun _ => ?_)
              clear hK K
              try simp only [Act.put, List.getElem_toArray, List.getElem_cons_succ, List.getElem_cons_zero, List.setIfInBounds_toArray, List.set_cons_zero, List.set_cons_succ]
              refine takeW (i := 8) (v := (.agg #[.string ⟨p.toArray⟩, .string ⟨TV.toArray⟩, .int .i64 (j : Nat), .int .i64 (a2 : Nat)])) rfl (by kernel_rfl) (by kernel_rfl) (by kernel_rfl) rfl (fun _ _ _ h => h) (fun _ => trivial) (Or.inl ⟨by rfl, fun W _ => by go_simp⟩) ?_
              simp only [Act.put, List.getElem_toArray, List.getElem_cons_succ, List.getElem_cons_zero, List.setIfInBounds_toArray, List.set_cons_zero, List.set_cons_succ]
              refine readyL (rs := [9]) (by kernel_rfl) (by simp) ?_
              refine AllL.cons rfl (fun K hK => ?_) AllL.nil
              try simp only [List.getElem_toArray, List.getElem_cons_succ, List.getElem_cons_zero]
              go_simp
              refine hK.out _ _ (fun _ => trivial) (fun _ => ?_)
              clear hK K
              try simp only [Act.put, List.getElem_toArray, List.getElem_cons_succ, List.getElem_cons_zero, List.setIfInBounds_toArray, List.set_cons_zero, List.set_cons_succ]
              refine readyL (rs := [10]) (by kernel_rfl) (by simp) ?_
              refine AllL.cons rfl (fun K hK => ?_) AllL.nil
              refine step_append_rw (by rfl) (.tmp 90) (.tmp 99) 40 40 (by rfl) 71 i0 (.agg #[.string ⟨#[]⟩, .string ⟨#[]⟩, .int .i64 0, .int .i64 0]) 4 48 Tryz.underlying40 hi hz0 hz1 hz2 (by rfl) (by simp [Act.eval, Act.put]) ((HKL.out ▸ HR.out.row : Rw wr 4 (.slice A k c) k (fdC fs) G).keep (S := fun _ => False) (((Mvs.refl _ _).drew).alloc _) (fun _ _ c => c)) (.slice (some ⟨wr.drew.heap.size, 0, none⟩) 1 1) 1 (Fd.cs ⟨p, TV, j, a2⟩) (by simp [Act.eval, Act.put]) (src_fd ⟨p, TV, j, a2⟩) (by simp only [maxLen]; omega) (by omega) ?_
              intro v3 w3 G3 hr3 hm3 hg3
              obtain ⟨A3, c3, rfl⟩ := hr3.form
              have hmw : Mvs (fun k => some k = G) wr w3 := (((Mvs.refl _ _).drew).alloc _).trans' hm3 (fun _ _ h => h)
              have HST := hide (HR.out.grow (f := ⟨p, TV, j, a2⟩) HKL.out hr3 hmw (hg3.imp id (fun h => ⟨_, h, by simp⟩)))
              clear hr3 hm3 hg3 hmw
              refine hK.out _ _ (fun _ => trivial) (fun _ => ?_)
              clear hK K
              try simp only [Act.put, List.getElem_toArray, List.getElem_cons_succ, List.getElem_cons_zero, List.setIfInBounds_toArray, List.set_cons_zero, List.set_cons_succ]
              refine readyL (rs := [11]) (by kernel_rfl) (by simp) ?_
              refine AllL.cons rfl (fun K hK => ?_) AllL.nil
              try simp only [List.getElem_toArray, List.getElem_cons_succ, List.getElem_cons_zero]
              go_simp
              refine hK.out _ _ (fun _ => trivial) (fun _ => ?_)
              clear hK K
              try simp only [Act.put, List.getElem_toArray, List.getElem_cons_succ, List.getElem_cons_zero, List.setIfInBounds_toArray, List.set_cons_zero, List.set_cons_succ]
              refine doneL (by kernel_rfl) ?_ _
              go_wp2
              go_roundw
              case rel => exact ⟨i2, a2, fs ++ [⟨p, TV, j, a2⟩], rfl, rfl, by omega, HST, HP2, by rw [HEx.out.2.2]; exact HFin⟩
              case measure => simp [intOf]; omega
    · obtain rfl : i = N := by omega
      have HV : Hid (fs = (hd X 0).1 ∧ j = (hd X 0).2) := by
        have := HE.out
        rw [List.drop_of_length_le (by rw [HN.out]; exact Nat.le_refl _), hd_nil] at this
        exact ⟨by simpa using this.1, this.2⟩
      clear HE HP
      go_wp2
      refine bodyPost_ret (v := .tuple #[.slice A k c, .int .i64 (j : Int)]) (by simp [results, Tryz.results18, go_sem]) rfl ?_
      exact ⟨HR.out.low, _, by rw [← HV.out.2], by rw [← HV.out.1]; exact HR.out.fds⟩
end Go.Proofs.YtkppeejbmalefaaGreatDoor
