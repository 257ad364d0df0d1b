/- The document's size and Big: they answer, whatever the part; they turn nothing but the count. -/
import Derived.Test.YtkppeejbmalefaaGreatDoorU24
import Derived.BigRegion
import Derived.Deep.Cut
set_option linter.unusedSimpArgs false
set_option linter.unusedVariables false
namespace Go.Proofs.YtkppeejbmalefaaGreatDoor
open Go.RowKit Go.Shelf
theorem MvsD (w : World) (b : Nat) (v : Value) : Mvs (fun k => k = b) w (w.setCell ⟨b, 0, none⟩ v).drew := ((Mvs.refl (fun k => k = b) w).setCell ⟨b, 0, none⟩ v (fun _ => rfl)).drew
/-- The counter, behind a call. -/
def SzOut (b : Nat) (w : World) (e : Ending) (w' : World) : Prop := ∃ z : Int, e = .returned (.int .i64 z) ∧ Blk w' b #[.int .i64 z] 3 ∧ Mvs (fun k => k = b) w w'
/-- All lists and texts of a part are of lengths that memory can hold. -/
inductive CntB : Part → Prop
  | mk (h : PH) (ks : List Part) : h.params.length ≤ maxLen → ks.length ≤ maxLen → h.type.length ≤ maxLen → h.sub.length ≤ maxLen → h.id.length ≤ maxLen → h.desc.length ≤ maxLen → h.enc.length ≤ maxLen → (∀ p ∈ h.params, p.name.length ≤ maxLen ∧ p.value.length ≤ maxLen) → (∀ k ∈ ks, CntB k) → CntB (.mk h ks)
def SzCall (n : Nat) : Prop := ∀ (p : Part) (v : Value) (b : Nat) (z d : Int) (w : World), PA n (fun g => g ≠ b) w v p → CntB p → Blk w b #[.int .i64 z] 3 →
  Calls Tryz.prog 26 #[v, .pointer (some ⟨b, 0, none⟩), .int .i64 d] w (SzOut b w)
def seqR : Code → Code
  | .seq _ b => b
  | c => c
set_option maxRecDepth 20000 in
set_option maxHeartbeats 4000000 in
/-- What follows the look at the numbers: the kids. -/
theorem size_tail (n : Nat) (IH : SzCall n) (h : PH) (vp : Value) (ks : List Part) (A : Option Addr) (nk c : Nat) (b R : Nat) (d z3 : Int) (w W3 : World) (u0 u4 u5 u7 u8 u9 u10 u11 u12 u13 u14 u15 u16 u17 u18 u19 u20 u21 u22 u23 u24 u25 u26 u27 u28 u29 u30 u31 u32 u33 u34 u35 u36 u37 u38 u39 u40 u41 u42 u43 u44 u45 u46 u47 u48 u49 u50 u51 u52 u53 u54 u55 u56 u57 u58 u59 u60 u61 u62 u63 u64 u65 u66 u67 u68 u69 u70 u71 u72 u73 u74 u75 u76 u77 u78 u79 u80 u81 u82 u83 u84 u85 u86 u87 u88 u89 u90 u91 u92 u93 u94 u95 u96 u97 u98 u99 u100 u101 u102 u103 u104 u105 : Value)
    (hK : Blk W3 R (phA h vp (.slice A nk c)) 28) (hnk : ks.length = nk) (l2 : nk ≤ maxLen) (hk : ∀ i (hi : i < ks.length), ∃ g o vs, A = some ⟨g, o, none⟩ ∧ g ≠ b ∧ g < W3.heap.size ∧ vs.size = 11 ∧ (∀ j, j < 11 → W3.cell? ⟨g, o + i * 11 + j, none⟩ = vs[j]?) ∧ PA n (fun g => g ≠ b) W3 (.agg vs) ks[i])
    (hck : ∀ k ∈ ks, CntB k) (hb : Blk W3 b #[.int .i64 z3] 3) (hm : Mvs (fun k => k = b) w W3) :
    (seqR (seqR (seqR (seqR (Tryz.f26.body.getD .skip))))).wp Tryz.prog (bodyPost Tryz.prog Tryz.f26 (SzOut b w)) { tmps := #[u0, .pointer (some ⟨b, 0, none⟩), .int .i64 d, .pointer (some ⟨R, 0, none⟩), u4, u5, .int .i64 0, u7, u8, u9, u10, u11, u12, u13, u14, u15, u16, u17, u18, u19, u20, u21, u22, u23, u24, u25, u26, u27, u28, u29, u30, u31, u32, u33, u34, u35, u36, u37, u38, u39, u40, u41, u42, u43, u44, u45, u46, u47, u48, u49, u50, u51, u52, u53, u54, u55, u56, u57, u58, u59, u60, u61, u62, u63, u64, u65, u66, u67, u68, u69, u70, u71, u72, u73, u74, u75, u76, u77, u78, u79, u80, u81, u82, u83, u84, u85, u86, u87, u88, u89, u90, u91, u92, u93, u94, u95, u96, u97, u98, u99, u100, u101, u102, u103, u104, u105], defers := [] } W3 := by
  have HNk := hide hnk
  have HK := hide hk
  have HCk := hide hck
  have HB3 := hide hb
  have HM0 := hide hm
  have HK3 := hide hK
  have HIH := hide IH
  obtain ⟨c0, c1, c2, c3, c4, c5, c6, c7, c8, c9, c10⟩ := blk11 hK
  unfold maxLen at l2
  clear hnk hk hck hb hm hK IH
  dsimp only [seqR, Tryz.f26, Option.getD_some]
  go_wp2
  clear c0 c1 c2 c3 c4 c5 c6 c7 c8 c9 c10
  go_loopw [89] (fun v89 wx => ∃ (i : Nat) (z4 : Int), v89 = .int .i64 i ∧ i ≤ nk ∧ Hid (Blk wx b #[.int .i64 z4] 3) ∧ Hid (Mvs (fun k => k = b) W3 wx)) (fun v _ => nk - (intOf v).toNat)
  case atStart => exact ⟨0, z3, rfl, Nat.zero_le _, HB3, Mvs.refl _ _⟩
  case round =>
    clear HB3 HK3
    obtain ⟨i, z4, rfl, hin2, HBx, HMx⟩ := hrel
    have hsx2 := HMx.out.size
    by_cases hlt2 : i < nk
    · have hlt3 : (i : Int) < nk := by omega
      have hik : i < ks.length := by rw [HNk.out]; exact hlt2
      obtain ⟨g, o, vs, rfl, hgb, hgw, hvs, hcs, hpa⟩ := HK.out i hik
      have HCi := hide (HCk.out _ (List.getElem_mem hik))
      generalize ks[i] = kid at *
      obtain ⟨A1, q1, A2, q2, hvs2⟩ := hpa.form
      injection hvs2 with hvs2
      subst hvs2
      obtain ⟨n1, hn1⟩ : ∃ n, kid.h.params.length = n := ⟨_, rfl⟩
      obtain ⟨n2, hn2⟩ : ∃ n, kid.kids.length = n := ⟨_, rfl⟩
      rw [hn1, hn2] at hcs hpa
      obtain ⟨H2, hH2⟩ : ∃ H, kid.h = H := ⟨_, rfl⟩
      rw [hH2] at hcs hpa
      obtain ⟨c0, c1, c2, c3, c4, c5, c6, c7, c8, c9, c10⟩ := row11 (fun j hj => (HMx.out.cell (a := ⟨g, o + i * 11 + j, none⟩) hgw hgb).trans (hcs j hj))
      have hMa := HMx.out.alloc (.cells (phA H2 (.slice A1 n1 q1) (.slice A2 n2 q2)) 28)
      have hBa := HBx.out.alloc (.cells (phA H2 (.slice A1 n1 q1) (.slice A2 n2 q2)) 28)
      have hKa := Blk.new wr (phA H2 (.slice A1 n1 q1) (.slice A2 n2 q2)) 28
      obtain ⟨Wa, hWa⟩ : ∃ Wa, wr.alloc (.cells (phA H2 (.slice A1 n1 q1) (.slice A2 n2 q2)) 28) = Wa := ⟨_, rfl⟩
      rw [hWa] at hMa hBa hKa
      have HCs := hide (fun D : Int => HIH.out kid _ b z4 D Wa (hpa.keep hMa (fun g hg => hg)) HCi.out hBa)
      have cb : Wa.cell? ⟨b, 0, none⟩ = some (.int .i64 z4) := hBa.cell 0
      have lb := hBa.lt
      obtain ⟨d0, d1, d2, d3, d4, d5, d6, d7, d8, d9, d10⟩ := blk11 hKa
      have HMa := hide hMa
      have HBa := hide hBa
      unfold phA at hWa HCs
      clear hcs hpa hvs hn1 hn2 hH2 hMa hBa hKa
      by_cases hz : z4 ≤ 2000
      · obtain ⟨dd, hdd⟩ : ∃ dd, IntKind.i64.wrap (d + 1) = dd := ⟨_, rfl⟩
        go_wp2_with fail
        clear hdd
        refine (HCs.out _).mono ?_
        rintro e w6 ⟨z5, rfl, hb6, hm6⟩
        have HB6 := hide hb6
        have HM6 := hide (HMa.out.trans hm6)
        clear hb6 hm6 c0 c1 c2 c3 c4 c5 c6 c7 c8 c9 c10 d0 d1 d2 d3 d4 d5 d6 d7 d8 d9 d10 hWa HCs cb
        go_wp2
        go_roundw
        case rel => exact ⟨i + 1, z5, by go_num, Nat.succ_le_of_lt hlt2, HB6, HM6⟩
        case measure => simp [intOf]; omega
      · clear HCs
        go_wp2
        go_roundw
        case rel => exact ⟨i + 1, z4, by go_num, Nat.succ_le_of_lt hlt2, HBa, HMa⟩
        case measure => simp [intOf]; omega
    · obtain rfl : nk = i := by omega
      have cb : wr.cell? ⟨b, 0, none⟩ = some (.int .i64 z4) := HBx.out.cell 0
      have lb := HBx.out.lt
      have HMf := hide (HM0.out.trans HMx.out)
      go_wp2
      go_ret
      exact ⟨z4, rfl, HBx.out, HMf.out⟩
set_option maxRecDepth 20000 in
set_option maxHeartbeats 8000000 in
theorem size_step (n : Nat) (IH : SzCall n) (h : PH) (ks : List Part) (Ap A : Option Addr) (cp c : Nat) (b : Nat) (z d : Int) (w : World)
    (hr : ReadS (fun g => g ≠ b) Pm.cs 2 w (.slice Ap h.params.length cp) h.params) (hk : ∀ i (hi : i < ks.length), ∃ g o vs, A = some ⟨g, o, none⟩ ∧ g ≠ b ∧ g < w.heap.size ∧ vs.size = 11 ∧ (∀ j, j < 11 → w.cell? ⟨g, o + i * 11 + j, none⟩ = vs[j]?) ∧ PA n (fun g => g ≠ b) w (.agg vs) ks[i]) (hc : CntB (.mk h ks)) (hb : Blk w b #[.int .i64 z] 3) :
    Calls Tryz.prog 26 #[.agg (phA h (.slice Ap h.params.length cp) (.slice A ks.length c)), .pointer (some ⟨b, 0, none⟩), .int .i64 d] w (SzOut b w) := by
  cases hc with
  | mk _ _ l1 l2 l3 l4 l5 l6 l7 l8 l9 =>
    have HEa := hide l8
    have HCk := hide l9
    clear l8 l9
    obtain ⟨np, hnp⟩ : ∃ np, h.params.length = np := ⟨_, rfl⟩
    have HNp := hide hnp
    obtain ⟨nk, hnk⟩ : ∃ nk, ks.length = nk := ⟨_, rfl⟩
    have HNk := hide hnk
    rw [hnp] at hr l1 ⊢
    rw [hnk] at l2 ⊢
    have HR := hide hr
    have HK := hide hk
    have HIH := hide IH
    have hbl : b < w.heap.size := hb.lt
    have hA := (Below.refl w.heap.size w).alloc (Nat.le_refl _) (.cells (phA h (.slice Ap np cp) (.slice A nk c)) 28)
    have hK1 := Blk.new w (phA h (.slice Ap np cp) (.slice A nk c)) 28
    have hb1 := hb.alloc (.cells (phA h (.slice Ap np cp) (.slice A nk c)) 28)
    obtain ⟨W1, hW1⟩ : ∃ W1, w.alloc (.cells (phA h (.slice Ap np cp) (.slice A nk c)) 28) = W1 := ⟨_, rfl⟩
    rw [hW1] at hA hK1 hb1
    obtain ⟨c0, c1, c2, c3, c4, c5, c6, c7, c8, c9, c10⟩ := blk11 hK1
    have HK1 := hide hK1
    have HA := hide hA
    have HB1 := hide hb1
    have cb := hb1.cell 0
    have fb := hb1.frozen 0
    have lb := hb1.lt
    have hs1 := hK1.lt
    unfold phA at hW1
    have z1 := size_lit h.type
    have z2 := size_lit h.sub
    have z3 := size_lit h.id
    have z4 := size_lit h.desc
    have z5 := size_lit h.enc
    unfold maxLen at l1 l2 l3 l4 l5 l6 l7
    clear hr hk IH hnp hnk hb hA hK1 hb1
    go_enter Tryz.func26, Tryz.ntmps26
    unfold phA
    go_upto_region 1 with fail
    clear hW1
    go_cut [6] from 11 (fun v6 wq => v6 = .int .i64 0 ∧ ∃ z1 : Int, Hid (Blk wq b #[.int .i64 z1] 3) ∧ Hid (Mvs (fun k => k = b) W1 wq))
    case first =>
      go_region
      go_wp2
      go_meet
      case rel => exact ⟨rfl, _, HB1.out.set 0 _, MvsD _ _ _⟩
    case rest =>
      obtain ⟨rfl, z1, HB2, HM2⟩ := hcut
      have hW2 : ∃ W2, W2 = wc := ⟨_, rfl⟩
      obtain ⟨W2, rfl⟩ := hW2
      clear c0 c1 c2 c3 c4 c5 c6 c7 c8 c9 c10 cb fb lb HB1
      have hs2 := HM2.out.size
      have HK2 := hide (HM2.out.blk HK1.out (by omega))
      obtain ⟨c0, c1, c2, c3, c4, c5, c6, c7, c8, c9, c10⟩ := blk11 HK2.out
      go_wp2
      clear c0 c1 c2 c3 c4 c5 c6 c7 c8 c9 c10
      go_loopw [44] (fun v44 wx => ∃ (i : Nat) (z2 : Int), v44 = .int .i64 i ∧ i ≤ np ∧ Hid (Blk wx b #[.int .i64 z2] 3) ∧ Hid (Mvs (fun k => k = b) W1 wx)) (fun v _ => np - (intOf v).toNat)
      case atStart => exact ⟨0, z1, rfl, Nat.zero_le _, HB2, HM2⟩
      case round =>
        obtain ⟨i, z2, rfl, hin, HBx, HMx⟩ := hrel
        clear HB2 HM2 HK2
        have hsx := HMx.out.size
        by_cases hlt : i < np
        · have hlt' : (i : Int) < np := by omega
          have hip : i < h.params.length := by rw [HNp.out]; exact hlt
          obtain ⟨B, bb, e2, hc2⟩ := HR.out
          obtain ⟨g2, o2, rfl, hS2, hg2, k2⟩ := hc2 i hip
          injection e2 with e2a e2b e2c
          subst e2a
          subst e2c
          clear e2b
          obtain ⟨x, y, hab⟩ : ∃ a b, h.params[i] = ⟨a, b⟩ := ⟨_, _, rfl⟩
          have hel := HEa.out _ (List.getElem_mem hip)
          rw [hab] at k2 hel
          have hAs := HA.out.size
          have q0 : wr.cell? ⟨g2, o2 + i * 2, none⟩ = some (.string ⟨x.toArray⟩) := (HMx.out.cell (a := ⟨g2, _, none⟩) (by show g2 < _; omega) hS2).trans ((HA.out.cell (p := ⟨g2, _, none⟩) hg2).trans (k2 0 (by omega)))
          have q1 : wr.cell? ⟨g2, o2 + i * 2 + 1, none⟩ = some (.string ⟨y.toArray⟩) := (HMx.out.cell (a := ⟨g2, _, none⟩) (by show g2 < _; omega) hS2).trans ((HA.out.cell (p := ⟨g2, _, none⟩) hg2).trans (k2 1 (by omega)))
          have hXa := Blk.new wr #[.string ⟨x.toArray⟩, .string ⟨y.toArray⟩] 56
          have hBa := HBx.out.alloc (.cells #[.string ⟨x.toArray⟩, .string ⟨y.toArray⟩] 56)
          have HMa := hide (HMx.out.alloc (.cells #[.string ⟨x.toArray⟩, .string ⟨y.toArray⟩] 56))
          have zx := size_lit x
          have zy := size_lit y
          have hbx := HBx.out.lt
          clear k2 hc2 hab hip hel
          go_wp2_with fail
          clear q0 q1
          obtain ⟨Wa, hWa⟩ : ∃ Wa, wr.alloc (.cells #[.string ⟨x.toArray⟩, .string ⟨y.toArray⟩] 56) = Wa := ⟨_, rfl⟩
          rw [hWa] at hXa hBa HMa ⊢
          clear hWa
          have cx0 : Wa.cell? ⟨wr.heap.size, 0, none⟩ = some (.string ⟨x.toArray⟩) := hXa.cell 0
          have cx1 : Wa.cell? ⟨wr.heap.size, 1, none⟩ = some (.string ⟨y.toArray⟩) := hXa.cell 1
          have cb : Wa.cell? ⟨b, 0, none⟩ = some (.int .i64 z2) := hBa.cell 0
          have fb := hBa.frozen 0
          have lb := hBa.lt
          have HBa := hide hBa
          clear hXa hBa
          go_region
          go_wp2
          go_roundw
          case rel => exact ⟨i + 1, _, by go_num, by omega, HBa.out.set 0 _, HMa.out.trans (MvsD _ _ _)⟩
          case measure => simp [intOf]; omega
        · obtain rfl : np = i := by omega
          have HKx := hide (HMx.out.blk HK1.out (by omega))
          obtain ⟨c0, c1, c2, c3, c4, c5, c6, c7, c8, c9, c10⟩ := blk11 HKx.out
          go_upto_region 7 with fail
          go_cut [80] from 62 (fun v80 wq => wr = wq ∧ ∃ t : Bool, v80 = .bool t)
          case first =>
            go_wp2
            all_goals (go_meet; exact ⟨rfl, _, rfl⟩)
          case rest =>
            obtain ⟨rfl, t, rfl⟩ := hcut
            have cb : wr.cell? ⟨b, 0, none⟩ = some (.int .i64 z2) := HBx.out.cell 0
            have fb := HBx.out.frozen 0
            have lb := HBx.out.lt
            clear c0 c1 c2 c3 c4 c5 c6 c7 c8 c9 c10
            go_upto_if 80 with fail
            go_cut [6] from 80 (fun v6 wq => v6 = .int .i64 0 ∧ ∃ z3 : Int, Hid (Blk wq b #[.int .i64 z3] 3) ∧ Hid (Mvs (fun k => k = b) W1 wq))
            case first =>
              cases t with
              | true =>
                go_wp2
                go_meet
                case rel => exact ⟨rfl, _, HBx.out.set 0 _, HMx.out.trans ((Mvs.refl (fun k => k = b) _).setCell ⟨b, 0, none⟩ _ (fun _ => rfl))⟩
              | false =>
                go_wp2
                go_meet
                case rel => exact ⟨rfl, z2, HBx, HMx⟩
            case rest =>
              obtain ⟨rfl, z3, HB3, HM3⟩ := hcut
              have hW3 : ∃ W3, W3 = wc := ⟨_, rfl⟩
              obtain ⟨W3, rfl⟩ := hW3
              clear HBx HMx HKx cb fb lb
              have hs3 := HM3.out.size
              have hAs := HA.out.size
              have HK3 := hide (HM3.out.blk HK1.out (by omega))
              have hk3 : ∀ i (hi : i < ks.length), ∃ g o vs, A = some ⟨g, o, none⟩ ∧ g ≠ b ∧ g < W3.heap.size ∧ vs.size = 11 ∧ (∀ j, j < 11 → W3.cell? ⟨g, o + i * 11 + j, none⟩ = vs[j]?) ∧ PA n (fun g => g ≠ b) W3 (.agg vs) ks[i] := fun i hi => by
                obtain ⟨g, o, vs, e1, hgb, hgw, hvs, hcs, hpa⟩ := HK.out i hi
                exact ⟨g, o, vs, e1, hgb, by omega, hvs, fun j hj => (HM3.out.cell (a := ⟨g, o + i * 11 + j, none⟩) (by show g < _; omega) hgb).trans ((HA.out.cell (p := ⟨g, o + i * 11 + j, none⟩) hgw).trans (hcs j hj)), (hpa.below HA.out).keep HM3.out (fun g hg => hg)⟩
              have hmf : Mvs (fun k => k = b) w W3 := by
                have hm := HM3.out
                have ha := HA.out
                exact ⟨hm.os.trans ha.os, hm.tape.trans ha.tape, hm.output.trans ha.output, Nat.le_trans ha.size hm.size, fun k hk hs => (hm.block k (by omega) hs).trans (ha.block k hk)⟩
              apply_assumption
              exact size_tail n HIH.out h _ ks A nk c b w.heap.size d z3 w W3 _ _ _ _ _ _ _ _ _ _ _ _ _ _ _ _ _ _ _ _ _ _ _ _ _ _ _ _ _ _ _ _ _ _ _ _ _ _ _ _ _ _ _ _ _ _ _ _ _ _ _ _ _ _ _ _ _ _ _ _ _ _ _ _ _ _ _ _ _ _ _ _ _ _ _ _ _ _ _ _ _ _ _ _ _ _ _ _ _ _ _ _ _ _ _ _ _ _ _ _ _ _ HK3.out HNk.out (by unfold maxLen; exact l2) hk3 HCk.out HB3.out hmf
theorem size_any : ∀ n, SzCall n
  | 0 => fun p v b z d w hp _ _ => hp.elim
  | n + 1 => fun p v b z d w hp hc hb => by
    cases p with
    | mk h ks =>
      obtain ⟨vp, A, c, rfl, hr, hk⟩ := hp
      obtain ⟨Ap, cp, rfl⟩ := hr.form
      exact size_step n (size_any n) h ks Ap A cp c b z d w hr hk hc hb
end Go.Proofs.YtkppeejbmalefaaGreatDoor
