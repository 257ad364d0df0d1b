/- Ops: which bytes are a change's, by the document. -/
import Derived.Test.YtcbkmcagnmpifaaGreatDoorU43
import Derived.BigQuiet
import Derived.Deep.RegionHeld3
namespace Go.Proofs.YtcbkmcagnmpifaaGreatDoor
open Go.RowKit
theorem ret_two {a : Value} {p q : Bool} (h : p = q) : Ending.returned (.tuple #[a, .bool p]) = .returned (.tuple #[a, .bool q]) := by rw [h]
theorem split_goal {p q : Prop} (h : p → q) (hp : p) : q := h hp
set_option maxRecDepth 20000 in
set_option maxHeartbeats 8000000 in
theorem rops_any (b : List UInt8) (v : Value) (w : World) (h : BR w v b) (hl : b.length ≤ 20000) :
    Calls Tryz.prog 15 #[v] w fun e w' => (∃ u, e = .returned (.tuple #[u, .bool (opsOf b).isSome])) ∧ Below w.heap.size w w' := by
  obtain ⟨i0, hi, hz0, hz1, hz2⟩ := info_parts opInfo
  obtain ⟨i1, hi1, hb0, hb1, hb2⟩ := info_parts byteInfo
  have HV := hide (fun w' (hb : Below w.heap.size w w') => h.below hb)
  obtain ⟨A, c, rfl, hlc, hmc, _⟩ := BR.form h
  have hmx : c ≤ 9223372036854775807 := by simp only [maxLen] at hmc; omega
  obtain ⟨R, hR⟩ : ∃ R, Hid (R = (opsOf b).isSome) := ⟨_, rfl⟩
  rw [← hR.out]
  have T0 := hide (OW.new w)
  have hB0 : Hid (Below w.heap.size w (w.alloc (.cells #[] 35))) := (Below.refl _ _).alloc (Nat.le_refl _) _
  clear h hmc
  go_enter Tryz.func15, Tryz.ntmps15
  go_wp2_with fail
  go_loopw [4, 5, 6, 7, 8, 9] (fun ov av _ _ _ _ wr => ∃ (p k : Nat) (xs : List OpA) (G : Option Nat) (Ao : Option Addr) (co : Nat), (p ≤ b.length ∨ p = 1) ∧ 1 ≤ p ∧ av = .int .i64 p ∧ ov = .slice Ao xs.length co ∧ Hid (xs.length ≤ p) ∧ Hid (restOps k (b.drop 1) false = (b.drop p, false)) ∧ Hid (xs.map OpA.erase = readOps k (b.drop 1) false) ∧ Hid (OW w wr (.slice Ao xs.length co) xs G) ∧ Hid (Below w.heap.size w wr)) (fun _ av _ _ _ _ _ => b.length - (intOf av).toNat)
  case atStart => exact ⟨1, 0, [], _, _, _, .inr rfl, Nat.le_refl _, rfl, rfl, (show 0 ≤ 1 by decide), rfl, rfl, T0, hB0⟩
  case round =>
    obtain ⟨p, k, xs, G, Ao, co, hpl, hp1, rfl, rfl, hxp, hrs, hre, HW, hB⟩ := hrel
    by_cases hlt : p < b.length
    · have hltz : (p : Int) < (b.length : Int) := by omega
      obtain ⟨g, o, rfl, hg, _, kb⟩ := (HV.out wr hB.out).at (List.ne_nil_of_length_pos (by omega))
      have hdn : Hid (b.drop p ≠ []) := fun e => by
        have := congrArg List.length e
        rw [List.length_drop, List.length_nil] at this
        omega
      clear hpl
      by_cases h2 : b.length < p + 2
      · have h2z : (b.length : Int) - p < 2 := by omega
        have hr : Hid (R = false) := by
          show _ = _
          rw [hR.out, doc_fail hrs.out hdn.out (doc_short1 hlt h2)]
          rfl
        go_wp2
        go_ret2
        exact ⟨⟨_, ret_two hr.out.symm⟩, hB.out⟩
      · have h2z : ¬ ((b.length : Int) - p < 2) := by omega
        have hn256 := UInt8.toNat_lt b[p + 1]
        have c1 := kb (p + 1) (by omega)
        obtain ⟨n, hn⟩ : ∃ n, n = b[p + 1].toNat := ⟨_, rfl⟩
        rw [← hn] at c1 hn256
        by_cases h3 : b.length < p + 10 + n
        · have h3z : (b.length : Int) - p < 10 + n := by omega
          have hr : Hid (R = false) := by
            show _ = _
            rw [hR.out, doc_fail hrs.out hdn.out (doc_short2 (by omega) hn h3)]
            rfl
          clear hn
          have hlt1 : (p : Int) + 1 < b.length := by omega
          go_wp2
          go_ret2
          exact ⟨⟨_, ret_two hr.out.symm⟩, hB.out⟩
        · have h3z : ¬ (b.length : Int) - p < 10 + n := by omega
          have hlt1 : (p : Int) + 1 < b.length := by omega
          replace hn := hide hn
          have c0 := kb p hlt
          have hx256 := UInt8.toNat_lt b[p]
          obtain ⟨x, hx⟩ : ∃ x, Hid (x = b[p].toNat) := ⟨_, hide rfl⟩
          rw [← hx.out] at c0 hx256
          obtain ⟨nm, hnm⟩ : ∃ nm, Hid (nm = (b.drop (p + 2)).take n) := ⟨_, rfl⟩
          have hcne : ¬ c = p + 2 := by omega
          have BN : Hid (∀ W, Below wr.heap.size wr W → BR W (.slice (some ⟨g, o + (p + 2), none⟩) (p + 2 + n - (p + 2)) (c - (p + 2))) nm) := fun W hW => by
            have := ((HV.out W (hB.out.trans (hW.mono hB.out.size))).mid (i := p + 2) (k := p + 2 + n) (by omega) (by omega)).2 hcne
            have e : p + 2 + n - (p + 2) = n := by omega
            rw [hnm.out]
            rw [show ((b.drop (p + 2)).take (p + 2 + n - (p + 2))) = (b.drop (p + 2)).take n by rw [e]] at this
            exact this
          have hcv1 := (BN.out wr.drew (Below.refl _ _).drew).convert
          have hcv2 := (BN.out (wr.alloc (.cells #[.int .i64 0, .string ⟨#[]⟩, .int .i64 0, .slice none 0 0] 35)).drew ((Below.refl _ _).alloc (Nat.le_refl _) _).drew).convert
          have e2n : p + 2 + n - (p + 2) = n := by omega
          have hcv3 := hcv1
          have hcv4 := hcv2
          rw [e2n] at hcv3 hcv4
          clear kb e2n
          go_wp2_with fail
          apply split_goal
          · intro key
            go_region
            all_goals exact key
          obtain ⟨W1, hW1⟩ : ∃ W, Hid (W = (wr.alloc (.cells #[.int .i64 x, .string ⟨nm.toArray⟩, .int .i64 0, .slice none 0 0] 35)).drew) := ⟨_, hide rfl⟩
          rw [← hW1.out]
          have bW1 : Hid (Below wr.heap.size wr W1) := by
            show Below _ _ _
            rw [hW1.out]
            exact ((Below.refl _ _).alloc (Nat.le_refl _) _).drew
          have kW1 : Hid (Blk W1 wr.heap.size #[.int .i64 x, .string ⟨nm.toArray⟩, .int .i64 0, .slice none 0 0] 35) := by
            show Blk _ _ _ _
            rw [hW1.out]
            exact Blk.new wr _ _
          clear hcv1 hcv2 hcv3 hcv4 BN c0 c1
          have hcell := kW1.out.cell
          have hfroz := kW1.out.frozen
          have hcne2 : ¬ c = p + 2 + n := by omega
          have KB : Hid (∀ W, Below wr.heap.size wr W → ∀ i (hi : i < b.length), W.cell? ⟨g, o + i, none⟩ = some (.int .u8 (b[i].toNat : Int))) := by
            intro W hW i hi
            obtain ⟨g', o', e, _, _, kb⟩ := (HV.out W (hB.out.trans (hW.mono hB.out.size))).at (List.ne_nil_of_length_pos (by omega))
            cases e
            exact kb i hi
          have y0 := KB.out W1 bW1.out (p + 2 + n) (by omega)
          have y1 := KB.out W1 bW1.out (p + 2 + n + 1) (by omega)
          have y2 := KB.out W1 bW1.out (p + 2 + n + 2) (by omega)
          have y3 := KB.out W1 bW1.out (p + 2 + n + 3) (by omega)
          have ey := hide (four_num (b := b) (i := p + 2 + n) (by omega))
          have z0 := UInt8.toNat_lt b[p + 2 + n]
          have z1 := UInt8.toNat_lt b[p + 2 + n + 1]
          have z2 := UInt8.toNat_lt b[p + 2 + n + 2]
          have z3 := UInt8.toNat_lt b[p + 2 + n + 3]
          generalize b[p + 2 + n].toNat = a0 at y0 ey z0
          generalize b[p + 2 + n + 1].toNat = a1 at y1 ey z1
          generalize b[p + 2 + n + 2].toNat = a2 at y2 ey z2
          generalize b[p + 2 + n + 3].toNat = a3 at y3 ey z3
          rw [← Nat.add_assoc] at y1 y2 y3
          go_wp2_with fail
          rw [show p + 10 + n - (p + 2 + n) = 8 by omega]
          apply split_goal
          · intro key
            go_region
            all_goals exact key
          obtain ⟨a4, ha4⟩ : ∃ q : Nat, Hid (q = a0 * 16777216 + a1 * 65536 + a2 * 256 + a3) := ⟨_, hide rfl⟩
          have e4 : ((a0 : Int) * 16777216 + a1 * 65536 + a2 * 256 + a3) = (a4 : Int) := by
            rw [ha4.out]
            omega
          rw [e4]
          replace ey := hide (ey.out.trans ha4.out.symm)
          clear e4 ha4 y0 y1 y2 y3
          obtain ⟨W2, hW2⟩ : ∃ W, Hid (W = (W1.setCell ⟨wr.heap.size, 2, none⟩ (.int .i64 a4)).drew) := ⟨_, hide rfl⟩
          rw [← hW2.out]
          have bW2 : Hid (Below wr.heap.size wr W2) := by
            show Below _ _ _
            rw [hW2.out]
            exact (below_mvs bW1.out ((Mvs.refl (fun k => k = wr.heap.size) W1).setCell ⟨wr.heap.size, 2, none⟩ (.int .i64 a4) (fun _ => rfl)) (fun k hk e => by omega) (Nat.le_refl _)).drew
          have kW2 : Hid (Blk W2 wr.heap.size #[.int .i64 x, .string ⟨nm.toArray⟩, .int .i64 a4, .slice none 0 0] 35) := by
            show Blk _ _ _ _
            rw [hW2.out]
            exact kW1.out.set 2 (.int .i64 a4)
          clear hcell hfroz kW1 bW1 hW1 hW2
          have y4 := KB.out W2 bW2.out (p + 2 + n + 4) (by omega)
          have y5 := KB.out W2 bW2.out (p + 2 + n + 5) (by omega)
          have y6 := KB.out W2 bW2.out (p + 2 + n + 6) (by omega)
          have y7 := KB.out W2 bW2.out (p + 2 + n + 7) (by omega)
          have em := hide (four_num (b := b) (i := p + 6 + n) (by omega))
          simp only [show p + 6 + n = p + 2 + n + 4 by omega] at em
          have z4 := UInt8.toNat_lt b[p + 2 + n + 4]
          have z5 := UInt8.toNat_lt b[p + 2 + n + 5]
          have z6 := UInt8.toNat_lt b[p + 2 + n + 6]
          have z7 := UInt8.toNat_lt b[p + 2 + n + 7]
          have em' : Hid (numR ((b.drop (p + 6 + n)).take 4) = b[p + 2 + n + 4].toNat * 16777216 + b[p + 2 + n + 5].toNat * 65536 + b[p + 2 + n + 6].toNat * 256 + b[p + 2 + n + 7].toNat) := by
            show _ = _
            rw [show p + 6 + n = p + 2 + n + 4 by omega]
            exact em.out
          clear em
          generalize b[p + 2 + n + 4].toNat = q4 at y4 em' z4
          generalize b[p + 2 + n + 5].toNat = q5 at y5 em' z5
          generalize b[p + 2 + n + 6].toNat = q6 at y6 em' z6
          generalize b[p + 2 + n + 7].toNat = q7 at y7 em' z7
          rw [← Nat.add_assoc] at y4 y5 y6 y7
          go_wp2_with fail
          go_quiet (fail)
          obtain ⟨m, hm⟩ : ∃ q : Nat, Hid (q = q4 * 16777216 + q5 * 65536 + q6 * 256 + q7) := ⟨_, hide rfl⟩
          have em4 : ((q4 : Int) * 16777216 + q5 * 65536 + q6 * 256 + q7) = (m : Int) := by
            rw [hm.out]
            omega
          have hmb : m < 4294967296 := by
            rw [hm.out]
            omega
          rw [em4]
          replace em' := hide (em'.out.trans hm.out.symm)
          clear em4 hm y4 y5 y6 y7 z4 z5 z6 z7 z0 z1 z2 z3
          obtain ⟨W3, hW3⟩ : ∃ W, Hid (W = W2.drewN nq) := ⟨_, hide rfl⟩
          rw [← hW3.out]
          have bW3 : Hid (Below wr.heap.size wr W3) := by
            show Below _ _ _
            rw [hW3.out]
            exact bW2.out.trans ((below_drewN _ _).mono bW2.out.size)
          have kW3 : Hid (Blk W3 wr.heap.size #[.int .i64 x, .string ⟨nm.toArray⟩, .int .i64 a4, .slice none 0 0] 35) := by
            show Blk _ _ _ _
            rw [hW3.out]
            exact kW2.out.below (below_drewN _ _) kW2.out.lt
          have HF := hide (doc_full (b := b) (p := p) (n := n) (by omega) hn.out (by omega) em'.out.symm)
          clear kW2 bW2 hW3 KB
          by_cases h4 : b.length < p + 10 + n + m
          · have h4z : (b.length : Int) - (p + (10 + n)) < m := by omega
            have hr : Hid (R = false) := by
              show _ = _
              rw [hR.out, doc_fail hrs.out hdn.out (by rw [HF.out]; exact tk_short h4 (by omega) false)]
              rfl
            go_wp2
            go_ret2
            exact ⟨⟨_, ret_two hr.out.symm⟩, hB.out.trans (bW3.out.mono hB.out.size)⟩
          · have h4z : ¬ ((b.length : Int) - (p + (10 + n)) < m) := by omega
            obtain ⟨bs, hbs⟩ : ∃ l, Hid (l = (b.drop (p + 10 + n)).take m) := ⟨_, hide rfl⟩
            have hbl : Hid (bs.length = m) := by
              show _ = _
              rw [hbs.out, List.length_take, List.length_drop]
              omega
            have hmm : m ≤ 20000 := by omega
            have hSB : Hid (Below w.heap.size w (W3.alloc (.cells #[] 5))) := (hB.out.trans (bW3.out.mono hB.out.size)).alloc (Nat.le_trans hB.out.size bW3.out.size) _
            have hxl : Hid (xs.length ≤ 20000) := by
              show _ ≤ _
              have := hxp.out
              omega
            have hxn : Hid (p + 10 + n + m ≤ b.length) := by
              show _ ≤ _
              omega
            by_cases hcq : c = p + (10 + n)
            · obtain rfl : m = 0 := by omega
              obtain rfl : bs = [] := List.length_eq_zero_iff.1 hbl.out
              subst hcq
              have hcW := kW3.out.cell
              have hfW := kW3.out.frozen
              have hlW := kW3.out.lt
              have s3 : Hid (wr.heap.size < W3.heap.size) := kW3.out.lt
              have T5p : Hid (∀ A m c, Value.slice (some ⟨W3.heap.size, 0, none⟩) 0 0 = .slice (some A) m c → W3.heap.size ≤ A.block ∧ A.block < W3.heap.size + 1) := fun A m c e => by
                cases e
                exact ⟨Nat.le_refl _, Nat.lt_succ_self _⟩
              have V6 : Hid (BR ((W3.setCell ⟨wr.heap.size, 3, none⟩ (.slice (some ⟨W3.heap.size, 0, none⟩) 0 0)).alloc (.cells #[] 5)) (.slice (some ⟨W3.heap.size, 0, none⟩) 0 0) []) := ⟨_, 0, rfl, Nat.le_refl _, Nat.zero_le _, (fun h => by cases h), fun h => absurd rfl h⟩
              have m5 : Mvs (fun k => k = wr.heap.size) W3 (W3.setCell ⟨wr.heap.size, 3, none⟩ (.slice (some ⟨W3.heap.size, 0, none⟩) 0 0)) := (Mvs.refl (fun k => k = wr.heap.size) W3).setCell ⟨wr.heap.size, 3, none⟩ _ (fun _ => rfl)
              have b50 := below_mvs bW3.out m5 (fun k hk e => by omega) (Nat.le_refl _)
              have b6 := hide (b50.alloc b50.size (.cells #[] 5))
              clear m5 b50 hSB
              have e5 : ((W3.setCell ⟨wr.heap.size, 3, none⟩ (.slice (some ⟨W3.heap.size, 0, none⟩) 0 0)).alloc (.cells #[] 5)).heap.size = (W3.heap.size + 1) := by simp [World.setCell, World.size_alloc]
              have H6 := hide (HW.out.below (w' := ((W3.setCell ⟨wr.heap.size, 3, none⟩ (.slice (some ⟨W3.heap.size, 0, none⟩) 0 0)).alloc (.cells #[] 5)).alloc (.cells #[.int .i64 x, .string ⟨nm.toArray⟩, .int .i64 a4, .slice (some ⟨W3.heap.size, 0, none⟩) 0 0] 35)) (b6.out.alloc b6.out.size _))
              have S6 : Hid (Src Tryz.prog 4 22 (.slice (some ⟨(W3.heap.size + 1), 0, none⟩) 1 1) 1 [.int .i64 x, .string ⟨nm.toArray⟩, .int .i64 a4, .slice (some ⟨W3.heap.size, 0, none⟩) 0 0] (((W3.setCell ⟨wr.heap.size, 3, none⟩ (.slice (some ⟨W3.heap.size, 0, none⟩) 0 0)).alloc (.cells #[] 5)).alloc (.cells #[.int .i64 x, .string ⟨nm.toArray⟩, .int .i64 a4, .slice (some ⟨W3.heap.size, 0, none⟩) 0 0] 35))) := by
                have := src_op (w := ((W3.setCell ⟨wr.heap.size, 3, none⟩ (.slice (some ⟨W3.heap.size, 0, none⟩) 0 0)).alloc (.cells #[] 5))) x a4 nm (some ⟨W3.heap.size, 0, none⟩) 0 0 (c := 1)
                rw [e5] at this
                exact this
              replace e5 := hide e5
              go_wp2_with (at_builtin; refine wpList_append_rw rfl _ _ 22 22 rfl 35 i0 _ 4 56 Tryz.underlying22 hi hz0 hz1 hz2 rfl rfl H6.out.row _ 1 _ rfl S6.out (by have := hxl.out; simp only [maxLen]; omega) (by have := hxl.out; omega) ?_)
              intro v7 w7 G7 hr7 hm7 hg7
              have hBW := hide ((hB.out.trans (b6.out.mono hB.out.size)).alloc (Nat.le_trans hB.out.size b6.out.size) (.cells #[.int .i64 x, .string ⟨nm.toArray⟩, .int .i64 a4, .slice (some ⟨W3.heap.size, 0, none⟩) 0 0] 35))
              have O7 : OW w w7 v7 (xs ++ [⟨x, nm, a4, .slice (some ⟨W3.heap.size, 0, none⟩) 0 0, []⟩]) G7 := H6.out.snoc ⟨x, nm, a4, .slice (some ⟨W3.heap.size, 0, none⟩) 0 0, []⟩ hr7 hm7 (by rw [World.size_alloc, e5.out]; exact hg7) hBW.out.size (V6.out.below ((Below.refl _ _).alloc (Nat.le_refl _) _)) (fun A m c e => by
                obtain ⟨h1, h2⟩ := T5p.out A m c e
                have q1 := s3.out
                have q2 := hB.out.size
                have q3 := e5.out
                refine ⟨by omega, by rw [World.size_alloc]; omega, fun hg => ?_⟩
                have := HW.out.row.lt _ hg
                omega)
              obtain ⟨A7, c7, rfl⟩ := hr7.form
              have b7 : Hid (Below w.heap.size w w7) := below_mvs hBW.out hm7 (fun k hk e => by have := HW.out.low k e.symm; omega) (Nat.le_refl _)
              replace O7 := hide O7
              clear hr7 hm7 hg7 hBW H6 S6 hcW hfW hlW V6 b6 T5p s3
              go_wp2_with fail
              go_round
              case rel =>
                obtain ⟨t1, t2, t3⟩ := tk (b := b) (i := p + 10 + n) (n := 0) hxn.out
                refine ⟨p + 10 + n + 0, k + 1, xs ++ [⟨x, nm, a4, .slice (some ⟨W3.heap.size, 0, none⟩) 0 0, []⟩], G7, A7, c7, .inl hxn.out, by omega, ?_, ?_, ?_, ?_, ?_, ?_, b7⟩
                · rw [show ((p + 10 + n + 0 : Nat) : Int) = (p : Int) + (10 + n) by omega]
                · rw [List.length_append]
                  rfl
                · show _ ≤ _
                  have := hxp.out
                  rw [List.length_append, List.length_singleton]
                  omega
                · show _ = _
                  rw [restOps_snoc, hrs.out]
                  show ((readOp (b.drop p) false).rest, (readOp (b.drop p) false).short) = _
                  rw [HF.out]
                  show (takeB 0 (b.drop (p + 10 + n)), takeS 0 (b.drop (p + 10 + n)) false) = _
                  rw [t2, t3]
                · show _ = _
                  rw [readOps_snoc, List.map_append, hre.out, hrs.out]
                  show _ ++ [OpA.mk x nm a4 (.slice none 0 0) []] = _ ++ [(readOp (b.drop p) false).bare]
                  rw [HF.out]
                  unfold Rdd.bare
                  simp only
                  rw [ey.out, t1, ← hbs.out, ← hnm.out, ← hx.out]
                · show OW _ _ _ _ _
                  rw [List.length_append]
                  exact O7.out
              case measure => simp [intOf]; omega
            · have hS : Hid (Src Tryz.prog 1 25 (.slice (some ⟨g, o + (p + (10 + n)), none⟩) (p + (10 + n) + m - (p + (10 + n))) (c - (p + (10 + n)))) m (bs.map bv) (W3.alloc (.cells #[] 5))) := by
                have := ((HV.out _ hSB.out).mid (i := p + (10 + n)) (k := p + (10 + n) + m) (by omega) (by omega)).2 hcq
                simp only [Option.map_some, Go.WideShapes.add_plain] at this
                have h2 := BR.src (bs := bs) (by
                  rw [hbs.out]
                  have e : (b.drop (p + (10 + n))).take (p + (10 + n) + m - (p + (10 + n))) = (b.drop (p + 10 + n)).take m := by rw [Nat.add_sub_cancel_left, ← Nat.add_assoc]
                  rw [e] at this
                  exact this)
                rw [hbl.out] at h2
                exact h2
              have hsrc := hS.out
              rw [Nat.add_sub_cancel_left] at hsrc
              replace hsrc := hide hsrc
              go_wp2_with (at_builtin; refine wpList_append_rw rfl _ _ 25 25 rfl 5 i1 (.int .u8 0) 1 1 Tryz.underlying25 hi1 hb0 hb1 hb2 rfl rfl (Rw.new (e := 5) [] [] (Blk.new _ _ _) rfl rfl (Nat.le_refl _) (Nat.zero_le _)) _ m (bs.map bv) rfl (by first | exact hS.out | exact hsrc.out | simpa using hsrc.out) (by simp only [maxLen]; omega) (by omega) ?_)
              intro v5 w5 G5 hr5 hm5 hg5
              have T5 : Bts W3 w5 v5 bs := Bts.first (Below.refl _ W3) (by rw [hbl.out]; simpa using hr5) (by simpa using hm5) (by simpa using hg5)
              have T5p := hide T5.place
              have k5 : Blk w5 wr.heap.size #[.int .i64 x, .string ⟨nm.toArray⟩, .int .i64 a4, .slice none 0 0] 35 := kW3.out.below T5.1 kW3.out.lt
              have V5 := T5.br
              have b5 := hide (bW3.out.trans (T5.1.mono bW3.out.size))
              have s3 : Hid (wr.heap.size < W3.heap.size) := kW3.out.lt
              obtain ⟨A5, c5, rfl, _⟩ := BR.form V5
              have m5 : Mvs (fun k => k = wr.heap.size) w5 (w5.setCell ⟨wr.heap.size, 3, none⟩ (.slice A5 bs.length c5)) := (Mvs.refl (fun k => k = wr.heap.size) w5).setCell ⟨wr.heap.size, 3, none⟩ _ (fun _ => rfl)
              have V6 := hide (AR.keep V5 m5 (fun A m c e => by have := (T5p.out A m c e).1; have := s3.out; show A.block ≠ _; omega))
              have k6 : Hid (Blk (w5.setCell ⟨wr.heap.size, 3, none⟩ (.slice A5 bs.length c5)) wr.heap.size #[.int .i64 x, .string ⟨nm.toArray⟩, .int .i64 a4, .slice A5 bs.length c5] 35) := k5.set 3 _
              have b6 := hide (below_mvs b5.out m5 (fun k hk e => by omega) (Nat.le_refl _))
              have hc5 := k5.cell
              have hf5 := k5.frozen
              have hl5 := k5.lt
              clear T5 hr5 hm5 hg5 V5 k5 m5 hS hsrc hSB kW3 bW3 b5
              have e5 : (w5.setCell ⟨wr.heap.size, 3, none⟩ (.slice A5 bs.length c5)).heap.size = w5.heap.size := by simp [World.setCell]
              have H6 := hide (HW.out.below (w' := (w5.setCell ⟨wr.heap.size, 3, none⟩ (.slice A5 bs.length c5)).alloc (.cells #[.int .i64 x, .string ⟨nm.toArray⟩, .int .i64 a4, .slice A5 bs.length c5] 35)) (b6.out.alloc b6.out.size _))
              have S6 : Hid (Src Tryz.prog 4 22 (.slice (some ⟨w5.heap.size, 0, none⟩) 1 1) 1 [.int .i64 x, .string ⟨nm.toArray⟩, .int .i64 a4, .slice A5 bs.length c5] ((w5.setCell ⟨wr.heap.size, 3, none⟩ (.slice A5 bs.length c5)).alloc (.cells #[.int .i64 x, .string ⟨nm.toArray⟩, .int .i64 a4, .slice A5 bs.length c5] 35))) := by
                have := src_op (w := w5.setCell ⟨wr.heap.size, 3, none⟩ (.slice A5 bs.length c5)) x a4 nm A5 bs.length c5 (c := 1)
                rw [e5] at this
                exact this
              replace e5 := hide e5
              go_wp2_with (at_builtin; refine wpList_append_rw rfl _ _ 22 22 rfl 35 i0 _ 4 56 Tryz.underlying22 hi hz0 hz1 hz2 rfl rfl H6.out.row _ 1 _ rfl S6.out (by have := hxl.out; simp only [maxLen]; omega) (by have := hxl.out; omega) ?_)
              intro v7 w7 G7 hr7 hm7 hg7
              have hBW := hide ((hB.out.trans (b6.out.mono hB.out.size)).alloc (Nat.le_trans hB.out.size b6.out.size) (.cells #[.int .i64 x, .string ⟨nm.toArray⟩, .int .i64 a4, .slice A5 bs.length c5] 35))
              have O7 : OW w w7 v7 (xs ++ [⟨x, nm, a4, .slice A5 bs.length c5, bs⟩]) G7 := H6.out.snoc ⟨x, nm, a4, .slice A5 bs.length c5, bs⟩ hr7 hm7 (by rw [World.size_alloc, e5.out]; exact hg7) hBW.out.size (V6.out.below ((Below.refl _ _).alloc (Nat.le_refl _) _)) (fun A m c e => by
                obtain ⟨h1, h2⟩ := T5p.out A m c e
                have q1 := s3.out
                have q2 := hB.out.size
                have q3 := e5.out
                refine ⟨by omega, by rw [World.size_alloc]; omega, fun hg => ?_⟩
                have := HW.out.row.lt _ hg
                omega)
              obtain ⟨A7, c7, rfl⟩ := hr7.form
              have b7 : Hid (Below w.heap.size w w7) := below_mvs hBW.out hm7 (fun k hk e => by have := HW.out.low k e.symm; omega) (Nat.le_refl _)
              replace O7 := hide O7
              clear hr7 hm7 hg7 hBW H6 S6 hc5 hf5 k6 V6 b6 T5p s3
              go_wp2_with fail
              go_round
              case rel =>
                obtain ⟨t1, t2, t3⟩ := tk (b := b) (i := p + 10 + n) (n := m) hxn.out
                refine ⟨p + 10 + n + m, k + 1, xs ++ [⟨x, nm, a4, .slice A5 bs.length c5, bs⟩], G7, A7, c7, .inl hxn.out, by omega, ?_, ?_, ?_, ?_, ?_, ?_, b7⟩
                · rw [show ((p + 10 + n + m : Nat) : Int) = (p : Int) + (10 + n) + m by omega]
                · rw [List.length_append]
                  rfl
                · show _ ≤ _
                  have := hxp.out
                  rw [List.length_append, List.length_singleton]
                  omega
                · show _ = _
                  rw [restOps_snoc, hrs.out]
                  show ((readOp (b.drop p) false).rest, (readOp (b.drop p) false).short) = _
                  rw [HF.out]
                  show (takeB m (b.drop (p + 10 + n)), takeS m (b.drop (p + 10 + n)) false) = _
                  rw [t2, t3]
                · show _ = _
                  rw [readOps_snoc, List.map_append, hre.out, hrs.out]
                  show _ ++ [OpA.mk x nm a4 (.slice none 0 0) bs] = _ ++ [(readOp (b.drop p) false).bare]
                  rw [HF.out]
                  unfold Rdd.bare
                  simp only
                  rw [ey.out, t1, ← hbs.out, ← hnm.out, ← hx.out]
                · show OW _ _ _ _ _
                  rw [List.length_append]
                  exact O7.out
              case measure => simp [intOf]; omega
    · have hltz : ¬ (p : Int) < (b.length : Int) := by omega
      have hd : b.drop p = [] := List.drop_eq_nil_of_le (by omega)
      have hDone := hide (doc_done (by rw [← hd]; exact hrs.out) hre.out)
      have hsz : sizeOps xs ≤ 400000 := by
        have h1 := (readOps_size k (b.drop 1) false (by rw [hrs.out])).2
        rw [← hre.out, size_erase, List.length_drop] at h1
        omega
      have hOP := hide HW.out.ops
      cases hf : formB xs with
      | false =>
        have hr : Hid (R = false) := by
          show _ = _
          rw [hR.out, hDone.out, hf]
          rfl
        have HFm : Hid (∀ u : Ext wr, Calls Tryz.prog 9 #[.slice Ao xs.length co] u.w fun e w' => e = .returned (.bool false) ∧ Below u.w.heap.size u.w w') := fun u => by
          have := rform_any xs _ u.w (hOP.out.below u.ok) hsz
          rw [hf] at this
          exact this
        have hes := ext_some wr
        have hec := ext_cell wr
        go_wp2_with fail
        refine wp_region_ext (by kernel_rfl) (by kernel_rfl) ?_
        repeat (go_big_quiet_step (first | (go_at_call 9; exact ext_call (HFm.out _))))
        refine wpQuiet_nil ?_
        rintro w9 ⟨⟨_, hb9⟩, rfl⟩
        replace hb9 := hide hb9
        clear hes hec HFm
        go_wp2
        go_ret2
        exact ⟨⟨_, ret_two hr.out.symm⟩, hB.out.trans (hb9.out.mono hB.out.size)⟩
      | true =>
        have hr : Hid (R = decide (opsB xs = b)) := by
          show _ = _
          rw [hR.out, hDone.out, hf]
          rfl
        have HRb := rbytes_any xs
        obtain ⟨B, hBs⟩ : ∃ B, Hid (B = opsB xs) := ⟨_, hide rfl⟩
        rw [← hBs.out] at HRb hr
        replace HRb := hide HRb
        have HFm := rform_any xs _ wr.drew (hOP.out.below (Below.refl _ _).drew) hsz
        rw [hf] at HFm
        replace HFm := hide HFm
        have hcA0 : (convert 25 9 (.slice A b.length c)).run Tryz.prog wr.drew = .ok (.string ⟨b.toArray⟩) wr.drew := (HV.out _ hB.out.drew).convert
        by_cases hbe : B = b
        · have hr2 : Hid (R = true) := by
            show _ = _
            rw [hr.out, decide_eq_true hbe]
          rw [hbe] at HRb
          clear hbe hr hBs
          go_wp2_with fail
          refine wp_region_held_drew (S := fun w' => (convert 25 9 (.slice A b.length c)).run Tryz.prog w' = .ok (.string ⟨b.toArray⟩) w') (by kernel_rfl) hcA0 (fun hHeld => ?_)
          refine wpAnyH_take (i := 0) (oi := { dst := some 129, op := Op.move (Operand.tmp 4), type := _, pos := _, after := _, guard := _ }) (v := ?_) rfl (by kernel_rfl) (by kernel_rfl) (by kernel_rfl) (fun _ _ _ h => h) (Or.inl ⟨by rfl, ?_⟩) (by assumption) ?_
          rotate_left 1
          · (intro w hSw; (try dsimp only at hSw); go_simp; (try with_reducible rfl))
          (try simp only [Act.put, List.setIfInBounds_toArray, List.set_cons_zero, List.set_cons_succ])
          refine wpAnyH_ready (rs := [1]) (by kernel_rfl) (by simp) ?_
          refine AllReadyH.cons (o := { dst := some 130, op := Op.call { callee := Callee.value (Operand.func 9), args := #[Operand.tmp 129], argTypes := #[22] }, type := _, pos := _, after := _, guard := _ }) rfl (fun K hK => ?_) AllReadyH.nil
          go_simp
          refine HFm.out.mono ?_
          rintro e w6 ⟨rfl, hb6⟩
          have B6 := hide (hB.out.drew.trans (hb6.mono hB.out.size))
          have O6 := hide (hOP.out.below ((Below.refl _ _).drew.trans (hb6.mono (Nat.le_refl _))))
          have HRb6 := hide (HRb.out _ w6 O6.out hf)
          have hcA6 := (HV.out w6 B6.out).convert
          clear hb6
          refine hK.out _ _ (hcA6) (fun hHeld => ?_)
          clear hK K
          (try simp only [Act.put, List.setIfInBounds_toArray, List.set_cons_zero, List.set_cons_succ])
          refine wpAnyH_take (i := 2) (oi := { dst := some 131, op := Op.unOp UnOp.not 4 (Operand.tmp 130), type := _, pos := _, after := _, guard := _ }) (v := ?_) rfl (by kernel_rfl) (by kernel_rfl) (by kernel_rfl) (fun _ _ _ h => h) (Or.inl ⟨by rfl, ?_⟩) (by assumption) ?_
          rotate_left 1
          · (intro w hSw; (try dsimp only at hSw); go_simp; (try with_reducible rfl))
          (try simp only [Act.put, List.setIfInBounds_toArray, List.set_cons_zero, List.set_cons_succ])
          refine wpAnyH_take (i := 3) (oi := { dst := some 132, op := Op.move (Operand.tmp 131), type := _, pos := _, after := _, guard := _ }) (v := ?_) rfl (by kernel_rfl) (by kernel_rfl) (by kernel_rfl) (fun _ _ _ h => h) (Or.inl ⟨by rfl, ?_⟩) (by assumption) ?_
          rotate_left 1
          · (intro w hSw; (try dsimp only at hSw); go_simp; (try with_reducible rfl))
          (try simp only [Act.put, List.setIfInBounds_toArray, List.set_cons_zero, List.set_cons_succ])
          refine wpAnyH_take (i := 4) (oi := { dst := some 133, op := Op.move (Operand.tmp 4), type := _, pos := _, after := _, guard := _ }) (v := ?_) rfl (by kernel_rfl) (by kernel_rfl) (by kernel_rfl) (fun _ _ _ h => h) (Or.inl ⟨by rfl, ?_⟩) (by assumption) ?_
          rotate_left 1
          · (intro w hSw; (try dsimp only at hSw); go_simp; (try with_reducible rfl))
          (try simp only [Act.put, List.setIfInBounds_toArray, List.set_cons_zero, List.set_cons_succ])
          refine wpAnyH_take (i := 7) (oi := { dst := some 136, op := Op.move (Operand.tmp 0), type := _, pos := _, after := _, guard := _ }) (v := ?_) rfl (by kernel_rfl) (by kernel_rfl) (by kernel_rfl) (fun _ _ _ h => h) (Or.inl ⟨by rfl, ?_⟩) (by assumption) ?_
          rotate_left 1
          · (intro w hSw; (try dsimp only at hSw); go_simp; (try with_reducible rfl))
          (try simp only [Act.put, List.setIfInBounds_toArray, List.set_cons_zero, List.set_cons_succ])
          refine wpAnyH_take (i := 8) (oi := { dst := some 137, op := Op.convert 25 9 (Operand.tmp 136), type := _, pos := _, after := _, guard := _ }) (v := ?_) rfl (by kernel_rfl) (by kernel_rfl) (by kernel_rfl) (fun _ _ _ h => h) (Or.inl ⟨by rfl, ?_⟩) (by assumption) ?_
          rotate_left 1
          · (intro w hSw; (try dsimp only at hSw); go_simp; (try with_reducible rfl))
          (try simp only [Act.put, List.setIfInBounds_toArray, List.set_cons_zero, List.set_cons_succ])
          refine wpAnyH_ready (rs := [5]) (by kernel_rfl) (by simp) ?_
          refine AllReadyH.cons (o := { dst := some 134, op := Op.call { callee := Callee.value (Operand.func 12), args := #[Operand.tmp 133], argTypes := #[22] }, type := _, pos := _, after := _, guard := _ }) rfl (fun K hK => ?_) AllReadyH.nil
          go_simp
          refine HRb6.out.mono ?_
          rintro e w7 ⟨v7, rfl, T7⟩
          obtain ⟨A7, c7, rfl, _⟩ := BR.form T7.br
          have B7 := hide (B6.out.trans (T7.1.mono B6.out.size))
          have hcA7 := (HV.out w7 B7.out).convert
          have hcB7 := T7.br.convert
          clear T7
          refine hK.out _ _ (hcA7) (fun hHeld => ?_)
          clear hK K
          (try simp only [Act.put, List.setIfInBounds_toArray, List.set_cons_zero, List.set_cons_succ])
          refine wpAnyH_ready (rs := [6]) (by kernel_rfl) (by simp) ?_
          refine AllReadyH.cons (o := { dst := some 135, op := Op.convert 25 9 (Operand.tmp 134), type := _, pos := _, after := _, guard := _ }) rfl (fun K hK => ?_) AllReadyH.nil
          go_simp
          refine hK.out _ _ (hcA7) (fun hHeld => ?_)
          clear hK K
          (try simp only [Act.put, List.setIfInBounds_toArray, List.set_cons_zero, List.set_cons_succ])
          refine wpAnyH_take (i := 9) (oi := { dst := some 138, op := Op.binOp BinOp.neq 9 (Operand.tmp 135) (Operand.tmp 137) 9, type := _, pos := _, after := _, guard := _ }) (v := ?_) rfl (by kernel_rfl) (by kernel_rfl) (by kernel_rfl) (fun _ _ _ h => h) (Or.inl ⟨by rfl, ?_⟩) (by assumption) ?_
          rotate_left 1
          · (intro w hSw; (try dsimp only at hSw); go_simp; (try with_reducible rfl))
          (try simp only [Act.put, List.setIfInBounds_toArray, List.set_cons_zero, List.set_cons_succ])
          refine wpAnyH_take (i := 10) (oi := { dst := some 139, op := Op.pick (Operand.tmp 132) (Operand.const (Value.bool true)) (Operand.tmp 138), type := _, pos := _, after := _, guard := _ }) (v := ?_) rfl (by kernel_rfl) (by kernel_rfl) (by kernel_rfl) (fun _ _ _ h => h) (Or.inl ⟨by rfl, ?_⟩) (by assumption) ?_
          rotate_left 1
          · (intro w hSw; (try dsimp only at hSw); go_simp; (try with_reducible rfl))
          (try simp only [Act.put, List.setIfInBounds_toArray, List.set_cons_zero, List.set_cons_succ])
          refine wpAnyH_done (by kernel_rfl) ?_ _
          clear hHeld hcA7 hcB7 HRb6
          go_wp2_with fail
          go_ret2
          exact ⟨⟨_, ret_two hr2.out.symm⟩, B7.out⟩
        · have hr2 : Hid (R = false) := by
            show _ = _
            rw [hr.out, decide_eq_false hbe]
          have hne1 : ¬ B.toArray = b.toArray := fun e => hbe (by simpa using e)
          have hne2 : ¬ (ByteArray.mk B.toArray) = ByteArray.mk b.toArray := fun e => hne1 (congrArg ByteArray.data e)
          have hne3 : (B == b) = false := by simpa using hbe
          clear hr hBs
          go_wp2_with fail
          refine wp_region_held_drew (S := fun w' => (convert 25 9 (.slice A b.length c)).run Tryz.prog w' = .ok (.string ⟨b.toArray⟩) w') (by kernel_rfl) hcA0 (fun hHeld => ?_)
          refine wpAnyH_take (i := 0) (oi := { dst := some 129, op := Op.move (Operand.tmp 4), type := _, pos := _, after := _, guard := _ }) (v := ?_) rfl (by kernel_rfl) (by kernel_rfl) (by kernel_rfl) (fun _ _ _ h => h) (Or.inl ⟨by rfl, ?_⟩) (by assumption) ?_
          rotate_left 1
          · (intro w hSw; (try dsimp only at hSw); go_simp; (try with_reducible rfl))
          (try simp only [Act.put, List.setIfInBounds_toArray, List.set_cons_zero, List.set_cons_succ])
          refine wpAnyH_ready (rs := [1]) (by kernel_rfl) (by simp) ?_
          refine AllReadyH.cons (o := { dst := some 130, op := Op.call { callee := Callee.value (Operand.func 9), args := #[Operand.tmp 129], argTypes := #[22] }, type := _, pos := _, after := _, guard := _ }) rfl (fun K hK => ?_) AllReadyH.nil
          go_simp
          refine HFm.out.mono ?_
          rintro e w6 ⟨rfl, hb6⟩
          have B6 := hide (hB.out.drew.trans (hb6.mono hB.out.size))
          have O6 := hide (hOP.out.below ((Below.refl _ _).drew.trans (hb6.mono (Nat.le_refl _))))
          have HRb6 := hide (HRb.out _ w6 O6.out hf)
          have hcA6 := (HV.out w6 B6.out).convert
          clear hb6
          refine hK.out _ _ (hcA6) (fun hHeld => ?_)
          clear hK K
          (try simp only [Act.put, List.setIfInBounds_toArray, List.set_cons_zero, List.set_cons_succ])
          refine wpAnyH_take (i := 2) (oi := { dst := some 131, op := Op.unOp UnOp.not 4 (Operand.tmp 130), type := _, pos := _, after := _, guard := _ }) (v := ?_) rfl (by kernel_rfl) (by kernel_rfl) (by kernel_rfl) (fun _ _ _ h => h) (Or.inl ⟨by rfl, ?_⟩) (by assumption) ?_
          rotate_left 1
          · (intro w hSw; (try dsimp only at hSw); go_simp; (try with_reducible rfl))
          (try simp only [Act.put, List.setIfInBounds_toArray, List.set_cons_zero, List.set_cons_succ])
          refine wpAnyH_take (i := 3) (oi := { dst := some 132, op := Op.move (Operand.tmp 131), type := _, pos := _, after := _, guard := _ }) (v := ?_) rfl (by kernel_rfl) (by kernel_rfl) (by kernel_rfl) (fun _ _ _ h => h) (Or.inl ⟨by rfl, ?_⟩) (by assumption) ?_
          rotate_left 1
          · (intro w hSw; (try dsimp only at hSw); go_simp; (try with_reducible rfl))
          (try simp only [Act.put, List.setIfInBounds_toArray, List.set_cons_zero, List.set_cons_succ])
          refine wpAnyH_take (i := 4) (oi := { dst := some 133, op := Op.move (Operand.tmp 4), type := _, pos := _, after := _, guard := _ }) (v := ?_) rfl (by kernel_rfl) (by kernel_rfl) (by kernel_rfl) (fun _ _ _ h => h) (Or.inl ⟨by rfl, ?_⟩) (by assumption) ?_
          rotate_left 1
          · (intro w hSw; (try dsimp only at hSw); go_simp; (try with_reducible rfl))
          (try simp only [Act.put, List.setIfInBounds_toArray, List.set_cons_zero, List.set_cons_succ])
          refine wpAnyH_take (i := 7) (oi := { dst := some 136, op := Op.move (Operand.tmp 0), type := _, pos := _, after := _, guard := _ }) (v := ?_) rfl (by kernel_rfl) (by kernel_rfl) (by kernel_rfl) (fun _ _ _ h => h) (Or.inl ⟨by rfl, ?_⟩) (by assumption) ?_
          rotate_left 1
          · (intro w hSw; (try dsimp only at hSw); go_simp; (try with_reducible rfl))
          (try simp only [Act.put, List.setIfInBounds_toArray, List.set_cons_zero, List.set_cons_succ])
          refine wpAnyH_take (i := 8) (oi := { dst := some 137, op := Op.convert 25 9 (Operand.tmp 136), type := _, pos := _, after := _, guard := _ }) (v := ?_) rfl (by kernel_rfl) (by kernel_rfl) (by kernel_rfl) (fun _ _ _ h => h) (Or.inl ⟨by rfl, ?_⟩) (by assumption) ?_
          rotate_left 1
          · (intro w hSw; (try dsimp only at hSw); go_simp; (try with_reducible rfl))
          (try simp only [Act.put, List.setIfInBounds_toArray, List.set_cons_zero, List.set_cons_succ])
          refine wpAnyH_ready (rs := [5]) (by kernel_rfl) (by simp) ?_
          refine AllReadyH.cons (o := { dst := some 134, op := Op.call { callee := Callee.value (Operand.func 12), args := #[Operand.tmp 133], argTypes := #[22] }, type := _, pos := _, after := _, guard := _ }) rfl (fun K hK => ?_) AllReadyH.nil
          go_simp
          refine HRb6.out.mono ?_
          rintro e w7 ⟨v7, rfl, T7⟩
          obtain ⟨A7, c7, rfl, _⟩ := BR.form T7.br
          have B7 := hide (B6.out.trans (T7.1.mono B6.out.size))
          have hcA7 := (HV.out w7 B7.out).convert
          have hcB7 := T7.br.convert
          clear T7
          refine hK.out _ _ (hcA7) (fun hHeld => ?_)
          clear hK K
          (try simp only [Act.put, List.setIfInBounds_toArray, List.set_cons_zero, List.set_cons_succ])
          refine wpAnyH_ready (rs := [6]) (by kernel_rfl) (by simp) ?_
          refine AllReadyH.cons (o := { dst := some 135, op := Op.convert 25 9 (Operand.tmp 134), type := _, pos := _, after := _, guard := _ }) rfl (fun K hK => ?_) AllReadyH.nil
          go_simp
          refine hK.out _ _ (hcA7) (fun hHeld => ?_)
          clear hK K
          (try simp only [Act.put, List.setIfInBounds_toArray, List.set_cons_zero, List.set_cons_succ])
          refine wpAnyH_take (i := 9) (oi := { dst := some 138, op := Op.binOp BinOp.neq 9 (Operand.tmp 135) (Operand.tmp 137) 9, type := _, pos := _, after := _, guard := _ }) (v := ?_) rfl (by kernel_rfl) (by kernel_rfl) (by kernel_rfl) (fun _ _ _ h => h) (Or.inl ⟨by rfl, ?_⟩) (by assumption) ?_
          rotate_left 1
          · (intro w hSw; (try dsimp only at hSw); go_simp; (try with_reducible rfl))
          (try simp only [Act.put, List.setIfInBounds_toArray, List.set_cons_zero, List.set_cons_succ])
          refine wpAnyH_take (i := 10) (oi := { dst := some 139, op := Op.pick (Operand.tmp 132) (Operand.const (Value.bool true)) (Operand.tmp 138), type := _, pos := _, after := _, guard := _ }) (v := ?_) rfl (by kernel_rfl) (by kernel_rfl) (by kernel_rfl) (fun _ _ _ h => h) (Or.inl ⟨by rfl, ?_⟩) (by assumption) ?_
          rotate_left 1
          · (intro w hSw; (try dsimp only at hSw); go_simp; (try with_reducible rfl))
          (try simp only [Act.put, List.setIfInBounds_toArray, List.set_cons_zero, List.set_cons_succ])
          refine wpAnyH_done (by kernel_rfl) ?_ _
          clear hHeld hcA7 hcB7 HRb6
          go_wp2_with fail
          go_ret2
          exact ⟨⟨_, ret_two hr2.out.symm⟩, B7.out⟩
end Go.Proofs.YtcbkmcagnmpifaaGreatDoor
