/- The law LinesPlays. -/
import Derived.Test.YtkcailfpanmhdaaDoorLPl2
import Derived.Deep.RegionWith
import Derived.Deep.DeepCutAuto
namespace Go.Proofs.YtkcailfpanmhdaaDoor
open Go.RowKit
theorem maxLen_le : maxLen ≤ 9223372036854775807 := by decide
theorem over_neg {x : Int} (h : x < 0) : ¬ 20000 < x := by omega
theorem size_over (sz n : Nat) (h1 : sz ≤ 20000) (h2 : n ≤ 9223372036854775807) (h : 20000 < sz + n) : 20000 < wrap64 ((sz : Int) + n) ∨ wrap64 ((sz : Int) + n) < 0 := by
  unfold wrap64
  omega
theorem left_drawn {w wr : World} {br bm : Nat} {Gr Gm : Option Nat} {l L : List UInt8} {a p a2 : Nat} (h : PS w wr br Gr l a bm Gm L p a2) (hd : l = L.drop p) (n : Nat) :
    Calls Tryd.prog 19 #[.pointer (some ⟨br, 0, none⟩)] (wr.drewN n) fun e w' => e = .returned (.int .i64 ((L.length : Int) - p)) ∧ w' = wr.drewN n := by
  have ht : p ≤ L.length := by
    obtain ⟨v, hv⟩ := h.rf
    exact hv.told
  have := left_any _ _ _ _ _ (h.drewN n).rd
  have e : (l.length : Int) = (L.length : Int) - p := by
    rw [hd, List.length_drop]
    omega
  rw [e] at this
  exact this
theorem wrap_small (x : Int) (h0 : 0 ≤ x) (h1 : x ≤ 20000) : IntKind.i64.wrap x = x := by
  simp [IntKind.wrap, IntKind.signed, IntKind.bits]
  split <;> omega
theorem lineOut_form (l : List UInt8) (a : Nat) : ∃ t g, (lineOut l a).1 = .agg #[.string t, .bool g] := by
  unfold lineOut
  split
  · exact ⟨_, _, rfl⟩
  · split
    · exact ⟨_, _, rfl⟩
    · exact lineT_form _
/-- Room that can be written. -/
def Room (w : World) (g o n : Nat) : Prop := g < w.heap.size ∧ ∀ j, j < n → (w.cell? ⟨g, o + j, none⟩).isSome = true ∧ w.frozen? ⟨g, o + j, none⟩ = false
theorem room_of {w : World} {g o n cap : Nat} {cs : List Value} (h : Rw w 1 (.slice (some ⟨g, o, none⟩) n cap) n cs (some g)) : Room w g o n := by
  rcases h.2 with ⟨h, _⟩ | ⟨g', o', cap', k1, k2, k3, _, k5, _, k7⟩
  · cases h
  · cases k1
    simp only [Value.slice.injEq, Option.some.injEq, Addr.mk.injEq] at k2
    obtain ⟨⟨_, rfl, _⟩, _, rfl⟩ := k2
    exact ⟨k5, fun j hj => k7 j (by omega)⟩
theorem Room.set {w : World} {g o n : Nat} (h : Room w g o n) (i : Nat) (x : Value) : Room (w.setCell ⟨g, o + i, none⟩ x) g o n := by
  have h1 : w.setCells g (o + i) [x] = w.setCell ⟨g, o + i, none⟩ x := rfl
  rw [← h1]
  refine ⟨Nat.lt_of_lt_of_le h.1 (Mvs.setCells w g _ [x]).size, fun j hj => ⟨World.isSome_setCells g [x] _ w _ (h.2 j hj).1, ?_⟩⟩
  rw [World.frozen?_setCells]
  exact (h.2 j hj).2
set_option maxRecDepth 20000 in
set_option maxHeartbeats 8000000 in
theorem plays_walk (ss : List Step) (v : Value) (w : World) (ea : Nat → Addr) (hE : Errs w ea) (h : Scr w v ss) :
    Calls Tryd.prog 3 #[v] w fun e w' => e = .returned (.bool true) ∧ Below w.heap.size w w' := by
  obtain ⟨A, cap, rfl, hl, hmx, hr⟩ := h
  replace hr := hide hr
  replace hE := hide hE
  go_enter Tryd.func3, Tryd.ntmps3
  go_wp2_with (go_at_call 7; refine (alive_yes _).mono ?_; rintro e w1 ⟨rfl, hbw1⟩; replace hbw1 := hide hbw1)
  refine (new_any _).mono ?_
  rintro e w2 ⟨rfl, hbw2, hk2⟩
  have hPS : Hid (PS w (w2.alloc (.cells #[.slice none 0 0, .int .i64 0, .int .i64 0] 29)) w1.heap.size none [] 0 w2.heap.size none [] 0 0) := by
    have e1 := hbw1.out.size
    have e2 := hbw2.size
    have hlt := hk2.lt _ (.inl rfl)
    refine ⟨hk2.keep (S := fun _ => False) ((Mvs.refl _ _).alloc _) (fun _ _ c => c), ⟨.slice none 0 0, Blk.new _ _ _, Rw.nil _ _, by simp, Nat.le_refl _⟩, ?_, ?_, ?_, (hbw1.out.trans (hbw2.mono e1)).alloc (by omega) _⟩
    · rintro k (rfl | hk) (e | e)
      · omega
      · cases e
      · cases hk
      · cases hk
    · rintro k (rfl | hk)
      · exact e1
      · cases hk
    · rintro k (rfl | hk)
      · omega
      · cases hk
  clear hbw2 hk2
  go_wp2_with fail
  go_loopw [5, 26] (fun s c wr => ∃ (i sz : Nat) (Gr : Option Nat) (l : List UInt8) (a : Nat) (Gm : Option Nat) (L : List UInt8) (p : Nat), c = .int .i64 i ∧ i ≤ ss.length ∧ s = .int .i64 sz ∧ sz ≤ 20000 ∧ L.length ≤ sz ∧ Hid (PS w wr w1.heap.size Gr l a w2.heap.size Gm L p a) ∧ Hid (l = L.drop p)) (fun _ c _ => ss.length - (intOf c).toNat)
  case atStart => exact ⟨0, 0, none, [], 0, none, [], 0, rfl, Nat.zero_le _, rfl, by omega, Nat.le_refl _, hPS, rfl⟩
  case round =>
    obtain ⟨i, sz, Gr, l, a, Gm, L, p, rfl, hi, rfl, hsz, hL, HP, HD⟩ := hrel
    by_cases hlt : i < ss.length
    · have hlt' : (i : Int) < ss.length := by omega
      obtain ⟨g, o, rfl, hg, hcs⟩ := hr.out (fun e => by rw [e] at hlt; simp at hlt)
      obtain ⟨q0, q1, q2, qA⟩ := hcs i hlt
      have hBw := HP.out.below
      replace q0 := (hBw.cell (p := ⟨g, o + i * 3, none⟩) hg).trans q0
      replace q1 := (hBw.cell (p := ⟨g, o + i * 3 + 1, none⟩) hg).trans q1
      replace q2 := (hBw.cell (p := ⟨g, o + i * 3 + 2, none⟩) hg).trans q2
      replace qA := hide qA
      generalize ss[i] = st at q0 q1 q2 qA
      obtain ⟨kd, n, vb, bs⟩ := st
      simp only at q0 q1 q2 qA
      obtain ⟨Ab, cb, hvb, hlb, hmb, _, _⟩ := qA.out
      rw [List.length_map] at hvb hlb
      subst hvb
      have hbb : bs.length ≤ 9223372036854775807 := Nat.le_trans hlb (Nat.le_trans hmb maxLen_le)
      clear hmb
      clear hcs hBw
      by_cases hi2 : 200 < i
      · have hi3 : (200 : Int) < i := by omega
        go_wp2
        go_ret
        exact ⟨rfl, (HP.out.alloc _).below⟩
      · have hi3 : ¬ (200 : Int) < i := by omega
        by_cases hov : sz + bs.length ≤ 20000
        · have hov1 : ¬ (20000 : Int) < (sz : Int) + bs.length := by omega
          have hov2 : ¬ (sz : Int) + bs.length < 0 := by omega
          have hkd : kd = 1 ∨ kd = 2 ∨ kd = 3 ∨ kd = 4 ∨ (kd ≠ 1 ∧ kd ≠ 2 ∧ kd ≠ 3 ∧ kd ≠ 4) := by omega
          rcases hkd with rfl | rfl | rfl | rfl | ⟨hk1', hk2', hk3', hk4'⟩
          · skip
            have hOwnR := hide (fun k hk => HP.out.rd.lt k hk)
            have hOwnM := hide (fun k hk => HP.out.rf.lt k hk)
            have hLl : Hid (l.length ≤ L.length) := by
              show _ ≤ _
              rw [HD.out, List.length_drop]
              omega
            have htold : Hid (p ≤ L.length) := by
              obtain ⟨_, h⟩ := HP.out.rf
              exact h.told
            have hP1 := hide (HP.out.alloc (.cells #[.int .i64 1, .int .i64 n, .slice Ab bs.length cb] 31))
            have hO1 := hide (Blk.new wr #[.int .i64 1, .int .i64 n, .slice Ab bs.length cb] 31)
            go_wp2_with fail
            refine (bytes_any _ bs _ (qA.out.below hP1.out.below) (by omega)).mono ?_
            rintro e w3 ⟨g1, o1, cap1, rfl, hC3, hg1, hb3⟩
            have hP3 := hide (hP1.out.then hb3)
            have hO3 := hide (hO1.out.below hb3 hO1.out.lt)
            have hg1' : wr.heap.size < g1 := by simp at hg1; omega
            replace hC3 := hide hC3
            clear hb3 hg1 hP1 hO1
            go_wp2_with fail
            refine (put_any _ _ _ _ _ hP3.out.rd _ bs (src_rw hC3.out.row) (by have := hLl.out; omega)).mono ?_
            rintro e w4 ⟨rfl, Gr4, hk4, hm4, hg4⟩
            have hP4 := hide (hP3.out.reads hk4 hm4 (fun k hk => own_put hg4 hk))
            have hC4 : Hid (Copied w4 g1 o1 cap1 bs) := hC3.out.keep hm4 (fun g hg c => by cases hg; have := hOwnR.out _ c; omega)
            have hO4 := hide (hm4.blk hO3.out (fun c => by have := hOwnR.out _ c; omega))
            have hCr : Hid (∀ j, own w1.heap.size Gr4 j → j ≠ g1) := by
              intro j hj e
              have h3 := hC3.out.row.lt g1 rfl
              rcases own_put hg4 hj with h | h
              · have := hOwnR.out _ h
                omega
              · omega
            clear hk4 hm4 hg4 hC3 hO3 hP3
            obtain ⟨vm4, hvm4⟩ := hP4.out.rf
            obtain ⟨Am4, cm4, rfl⟩ := hvm4.row.form
            have hcm4 := hvm4.blk.cell
            have hfm4 := hvm4.blk.frozen
            have hOc4 := hO4.out.cell
            replace hvm4 := hide hvm4
            obtain ⟨i0, hi0, hz0, hz1, hz2⟩ := info_parts byteInfo
            have hR4 : Hid (Rw w4.drew 1 (.slice Am4 L.length cm4) L.length (L.map bv) Gm) := hvm4.out.row.keep (S := fun _ => False) (Mvs.refl _ _).drew (fun _ _ c => c)
            have hS4 : Hid (Src Tryd.prog 1 27 (.slice Ab bs.length cb) bs.length (bs.map bv) w4.drew) := by
              have := ((qA.out.below hP4.out.below).keep (S := fun _ => False) (Mvs.refl _ _).drew (fun _ _ _ _ c => c)).src (P := Tryd.prog) Tryd.underlying27 (bv_oneCell bs)
              rw [List.length_map] at this
              exact this
            have NEW5 : Hid (∀ G5 : Option Nat, (G5 = Gm ∨ G5 = some w4.drew.heap.size) → ∀ j, own w2.heap.size G5 j → j ≠ g1) := by
              intro G5 hg5 j hj e
              have h3 := hC4.out.row.lt g1 rfl
              rcases own_put (n := w4.heap.size) hg5 hj with h | h
              · have := hOwnM.out _ h
                omega
              · omega
            have AFT : Hid (∀ (v5 : Value) (w5 : World) (G5 : Option Nat), Rw w5 1 v5 (L.length + bs.length) (L.map bv ++ bs.map bv) G5 → Mvs (fun k => some k = Gm) w4.drew w5 → (G5 = Gm ∨ G5 = some w4.drew.heap.size) →
                Blk w5 w2.heap.size #[.slice Am4 L.length cm4, .int .i64 p, .int .i64 a] 29 ∧ PS w (w5.setCell ⟨w2.heap.size, 0, none⟩ v5) w1.heap.size Gr4 (l ++ bs) a w2.heap.size G5 (L ++ bs) p a ∧
                Copied (w5.setCell ⟨w2.heap.size, 0, none⟩ v5) g1 o1 cap1 bs ∧ Blk (w5.setCell ⟨w2.heap.size, 0, none⟩ v5) wr.heap.size #[.int .i64 1, .int .i64 n, .slice Ab bs.length cb] 31) := by
              intro v5 w5 G5 hr5 hm5 hg5
              have hm5' : Mvs (own w2.heap.size Gm) w4 w5 := ((Mvs.refl _ _).drew : Mvs (own w2.heap.size Gm) w4 w4.drew).trans (hm5.mono (fun k _ e => .inr e))
              have hm6 : Mvs (own w2.heap.size Gm) w4 (w5.setCell ⟨w2.heap.size, 0, none⟩ v5) := hm5'.setCell _ _ (fun _ => .inl rfl)
              have hb5 : Blk w5 w2.heap.size #[.slice Am4 L.length cm4, .int .i64 p, .int .i64 a] 29 := hm5.blk hvm4.out.blk (fun e => hvm4.out.apart e.symm)
              have hne5 : G5 ≠ some w2.heap.size := by
                rcases hg5 with rfl | rfl
                · exact hvm4.out.apart
                · intro e
                  have hlt := hvm4.out.blk.lt
                  have h2 : w4.heap.size = w2.heap.size := Option.some.inj e
                  omega
              refine ⟨hb5, hP4.out.refs ⟨v5, hb5.set 0 v5, ?_, hne5, ?_⟩ hm6 ?_, hC4.out.keep hm6 (fun g hg c => by cases hg; have := hOwnM.out _ c; omega), hm6.blk hO4.out (fun c => by have := hOwnM.out _ c; omega)⟩
              · have := hr5.set_b hne5 0 v5
                rw [List.length_append, List.map_append]
                exact this
              · have := htold.out
                rw [List.length_append]
                omega
              · intro k hk
                rcases own_put (n := w4.heap.size) hg5 hk with h | h
                · exact .inl h
                · exact .inr h
            go_wp2_with fail
            go_region_law (refine step_append_rw rfl (.tmp 60) (.tmp 62) 27 27 rfl 5 i0 (.int .u8 0) 1 1 Tryd.underlying27 hi0 hz0 hz1 hz2 rfl (by simp [Act.eval]) hR4.out _ bs.length (bs.map bv) (by simp [Act.eval]) hS4.out (by simp only [maxLen]; omega) (by omega) ?_; intro v5 w5 G5 hr5 hm5 hg5; obtain ⟨A5, c5, rfl⟩ := hr5.form; obtain ⟨hb5, hP6, hC6, hO6⟩ := AFT.out _ _ _ hr5 hm5 hg5; have hG5 := hide (NEW5.out _ hg5); have hcm5 := hb5.cell; have hfm5 := hb5.frozen; replace hP6 := hide hP6; replace hC6 := hide hC6; replace hO6 := hide hO6; clear hr5 hm5 hg5 hb5)
            all_goals (
              have hAR6 := hide (qA.out.below hP6.out.below)
              have HDn : Hid (l ++ bs = (L ++ bs).drop p) := by
                show _ = _
                rw [HD.out, List.drop_append_of_le_length htold.out]
              have HLn := hide (show (L ++ bs).length ≤ sz + bs.length by rw [List.length_append]; omega)
              have hOc6 := hO6.out.cell
              clear hcm4 hfm4 hOc4 hcm5 hfm5 AFT hS4 hR4 hi0 hz0 hz1 hz2 hvm4
              go_wp2_with fail
              refine (kept_any g1 o1 cap1 bs _ _ hC6.out hAR6.out (by omega)).mono ?_
              rintro e w7 ⟨rfl, hb7⟩
              have hP7 := hide (hP6.out.then hb7)
              have hRm7 : Hid (Room w7 g1 o1 bs.length) := room_of (hC6.out.row.keep (S := fun _ => False) (Mvs.of_below hb7) (fun _ _ c => c))
              have hNr : Hid (∀ j, own w1.heap.size Gr4 j → j ≠ g1) := fun j hj e => hCr.out j hj e
              have hNm : Hid (∀ j, own w2.heap.size G5 j → j ≠ g1) := fun j hj e => hG5.out j hj e
              have hNw : Hid (w.heap.size ≤ g1) := by
                have := HP.out.below.size
                show _ ≤ _
                omega
              clear hb7 hP6 hC6 hO6 hOc6 hAR6
              go_wp2_with fail
              go_loopw [72] (fun c wq => ∃ k : Nat, k ≤ bs.length ∧ c = .int .i64 k ∧ Hid (PS w wq w1.heap.size Gr4 (l ++ bs) a w2.heap.size G5 (L ++ bs) p a) ∧ Hid (Room wq g1 o1 bs.length)) (fun c _ => bs.length - (intOf c).toNat)
              case atStart => exact ⟨0, Nat.zero_le _, rfl, hP7, hRm7⟩
              case round =>
                obtain ⟨k, hkb, rfl, HPq, HRq⟩ := hrel
                by_cases hkl : k < bs.length
                · have hkl' : (k : Int) < bs.length := by omega
                  obtain ⟨xk, hxk⟩ := Option.isSome_iff_exists.1 (HRq.out.2 k hkl).1
                  have hfk := (HRq.out.2 k hkl).2
                  go_wp2
                  go_roundw
                  case rel => exact ⟨k + 1, by omega, by go_num, HPq.out.keep (S := fun j => j = g1) ((Mvs.refl (fun j => j = g1) _).setCell _ _ (fun _ => rfl)) (fun j hj e => hNr.out j hj e) (fun j hj e => hNm.out j hj e) (fun j hj e => by have := hNw.out; omega), HRq.out.set k _⟩
                  case measure => simp [intOf]; omega
                · have hnk : ¬ (k : Int) < bs.length := by omega
                  have hF := HPq
                  obtain ⟨vm, hvm⟩ := hF.out.rf
                  obtain ⟨Am, cm, rfl⟩ := hvm.row.form
                  have hcm := hvm.blk.cell
                  have htm := hvm.told
                  have hwl := wrap_small ((L.length : Int) + bs.length - p) (by have := htold.out; omega) (by omega)
                  have HQ := hide (left_drawn hF.out HDn.out)
                  clear hvm
                  go_wp2_with fail
                  go_quiet ((go_at_call 19; exact Calls.quiet_of_same (HQ.out _)))
                  go_wp2
                  go_roundw
                  case rel => exact ⟨i + 1, sz + bs.length, _, _, _, _, _, _, by go_num, by omega, by go_num, by omega, HLn.out, hF.out.drewN _, HDn⟩
                  case measure => simp [intOf]; omega)
          · skip
            obtain ⟨t, gb, hV⟩ := lineOut_form l a
            go_wp2_with fail
            refine (line_any _ _ _ _ _ (HP.out.alloc _).rd).mono ?_
            rw [hV]
            rintro e wa ⟨rfl, hla⟩
            obtain ⟨Gr1, hP1⟩ := (HP.out.alloc _).lined hla
            replace hP1 := hide hP1
            clear hla
            go_wp2_with fail
            have hcall := rline_any _ _ _ _ _ _ (hP1.out.alloc (.cells #[.string t, .bool gb] 36)).rf (by omega)
            rw [← HD.out, hV] at hcall
            refine hcall.mono ?_
            rintro e wb ⟨rfl, hlb⟩
            obtain ⟨p1, hd1, hP2⟩ := (hP1.out.alloc (.cells #[.string t, .bool gb] 36)).told hlb
            have hB1 : Blk wb wa.heap.size #[.string t, .bool gb] 36 := by
              obtain ⟨_, _, _, hm⟩ := hlb
              exact hm.blk (Blk.new _ _ _) (by have := hP1.out.rf.lt _ (.inl rfl); omega)
            have hb1 := hB1.cell
            have hb2 := hB1.lt
            have hbne : wb.heap.size ≠ wa.heap.size := by omega
            have hF := hide (hP2.alloc (.cells #[.string t, .bool gb] 36))
            have HDn := hide hd1.symm
            have HLn := hide (show L.length ≤ sz + bs.length by omega)
            clear hcall hlb hP2 hB1 hd1 hV
            obtain ⟨vm, hvm⟩ := hF.out.rf
            obtain ⟨Am, cm, rfl⟩ := hvm.row.form
            have hcm := hvm.blk.cell
            have htm := hvm.told
            have HQ := hide (left_drawn hF.out HDn.out)
            clear hvm
            go_wp2_with fail
            go_quiet ((go_at_call 19; exact Calls.quiet_of_same (HQ.out _)))
            go_wp2
            go_roundw
            case rel => exact ⟨i + 1, sz + bs.length, _, _, _, _, _, _, by go_num, by omega, by go_num, by omega, HLn.out, hF.out.drewN _, HDn⟩
            case measure => simp [intOf]; omega
          · skip
            have hS : Hid (PS w (wr.alloc (.cells #[.int .i64 3, .int .i64 n, .slice Ab bs.length cb] 31)).drew w1.heap.size Gr l a w2.heap.size Gm L p a) := (HP.out.alloc _).drewN 1
            have hO : Hid (Blk (wr.alloc (.cells #[.int .i64 3, .int .i64 n, .slice Ab bs.length cb] 31)).drew wr.heap.size #[.int .i64 3, .int .i64 n, .slice Ab bs.length cb] 31) := Blk.new wr _ _
            have hOc := hO.out.cell
            have hrne : wr.heap.size ≠ w1.heap.size := by have := HP.out.rd.lt _ (.inl rfl); omega
            have hmne : wr.heap.size ≠ w2.heap.size := by have := HP.out.rf.lt _ (.inl rfl); omega
            go_wp2_with fail
            go_region_with (first
              | (go_at_call 15; refine (expect_any _ _ _ _ _ ea n hS.out.rd (hE.out.below hS.out.below)).mono ?_; rintro e wx ⟨rfl, hkx, hmx⟩; replace hO := hide (hmx.blk hO.out hrne); replace hOc := hO.out.cell; replace hS := hide (hS.out.reads hkx (hmx.mono (fun k _ e => .inl e)) (fun k hk => .inl hk)); clear hkx hmx)
              | (go_at_call 16; refine (rexpect_any _ _ _ _ _ _ n hS.out.rf).mono ?_; rintro e wy ⟨rfl, hkx, hmx⟩; replace hO := hide (hmx.blk hO.out hmne); replace hOc := hO.out.cell; replace hS := hide (hS.out.refs hkx (hmx.mono (fun k _ e => .inl e)) (fun k hk => .inl hk)); clear hkx hmx)
              | (go_at_call 14; refine (num_expect a ea n _ (hE.out.below hS.out.below)).mono ?_; rintro e wz ⟨rfl, hbx⟩; replace hO := hide (hO.out.below hbx hO.out.lt); replace hOc := hO.out.cell; replace hS := hide (hS.out.then hbx); clear hbx))
            all_goals (
              have hF := hS
              have HDn := HD
              have HLn := hide (show L.length ≤ sz + bs.length by omega)
              obtain ⟨vm, hvm⟩ := hF.out.rf
              obtain ⟨Am, cm, rfl⟩ := hvm.row.form
              have hcm := hvm.blk.cell
              have htm := hvm.told
              have hwl := wrap_small ((L.length : Int) - p) (by omega) (by omega)
              have HQ := hide (left_drawn hF.out HDn.out)
              clear hvm
              go_wp2_with fail
              go_quiet ((go_at_call 19; exact Calls.quiet_of_same (HQ.out _)))
              go_wp2
              go_roundw
              case rel => exact ⟨i + 1, sz + bs.length, _, _, _, _, _, _, by go_num, by omega, by go_num, by omega, HLn.out, hF.out.drewN _, HDn⟩
              case measure => simp [intOf]; omega)
          · skip
            go_wp2_with fail
            refine (stretch_any _ _ _ _ _ (HP.out.alloc _).rd).mono ?_
            rintro e wa ⟨rfl, hla⟩
            obtain ⟨Gr1, hP1⟩ := (HP.out.alloc _).lined hla
            replace hP1 := hide hP1
            clear hla
            go_wp2_with fail
            have hcall := rstretch_any _ _ _ _ _ _ hP1.out.rf (by omega)
            rw [← HD.out] at hcall
            refine hcall.mono ?_
            rintro e wb ⟨rfl, hlb⟩
            obtain ⟨p1, hd1, hP2⟩ := hP1.out.told hlb
            have hF := hide hP2
            have HDn := hide hd1.symm
            have HLn := hide (show L.length ≤ sz + bs.length by omega)
            clear hcall hlb hP2 hd1
            obtain ⟨vm, hvm⟩ := hF.out.rf
            obtain ⟨Am, cm, rfl⟩ := hvm.row.form
            have hcm := hvm.blk.cell
            have htm := hvm.told
            have HQ := hide (left_drawn hF.out HDn.out)
            clear hvm
            go_wp2_with fail
            go_quiet ((go_at_call 19; exact Calls.quiet_of_same (HQ.out _)))
            go_wp2
            go_roundw
            case rel => exact ⟨i + 1, sz + bs.length, _, _, _, _, _, _, by go_num, by omega, by go_num, by omega, HLn.out, hF.out.drewN _, HDn⟩
            case measure => simp [intOf]; omega
          · skip
            have hk1 : ¬ kd = 1 := by omega
            have hk2 : ¬ kd = 2 := by omega
            have hk3 : ¬ kd = 3 := by omega
            have hk4 : ¬ kd = 4 := by omega
            have hF := hide (HP.out.alloc (.cells #[.int .i64 kd, .int .i64 n, .slice Ab bs.length cb] 31))
            have HDn := HD
            have HLn := hide (show L.length ≤ sz + bs.length by omega)
            obtain ⟨vm, hvm⟩ := hF.out.rf
            obtain ⟨Am, cm, rfl⟩ := hvm.row.form
            have hcm := hvm.blk.cell
            have htm := hvm.told
            have HQ := hide (left_drawn hF.out HDn.out)
            clear hvm
            go_wp2_with fail
            go_quiet ((go_at_call 19; exact Calls.quiet_of_same (HQ.out _)))
            go_wp2
            go_roundw
            case rel => exact ⟨i + 1, sz + bs.length, _, _, _, _, _, _, by go_num, by omega, by go_num, by omega, HLn.out, hF.out.drewN _, HDn⟩
            case measure => simp [intOf]; omega
        · rcases size_over sz bs.length hsz hbb (by omega) with ho | ho
          · go_wp2
            go_ret
            exact ⟨rfl, (HP.out.alloc _).below⟩
          · have ho2 : ¬ 20000 < wrap64 ((sz : Int) + bs.length) := over_neg ho
            go_wp2
            go_ret
            exact ⟨rfl, (HP.out.alloc _).below⟩
    · have hnlt : ¬ (i : Int) < ss.length := by omega
      go_wp2
      go_ret
      exact ⟨rfl, HP.out.below⟩
end Go.Proofs.YtkcailfpanmhdaaDoor
