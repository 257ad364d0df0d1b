/- The document's size, with its value, of a part whose lists and texts are not huge. -/
import Derived.Test.YtegplihhbdmnbaaGreatDoorU30
import Derived.Test.YtegplihhbdmnbaaGreatDoorU40
import Derived.BigRegion
import Derived.Deep.Cut
set_option linter.unusedSimpArgs false
set_option linter.unusedVariables false
namespace Go.Proofs.YtegplihhbdmnbaaGreatDoor
open Go.RowKit Go.Shelf
theorem MvsE (w : World) (b : Nat) (v : Value) : Mvs (fun k => k = b) w (w.setCell ⟨b, 0, none⟩ v).drew := ((Mvs.refl (fun k => k = b) w).setCell ⟨b, 0, none⟩ v (fun _ => rfl)).drew
/-- The counter, behind a call. -/
def SzVOut (b r : Nat) (w : World) (e : Ending) (w' : World) : Prop := ∃ z : Int, z = (r : Int) ∧ e = .returned (.int .i64 z) ∧ Blk w' b #[.int .i64 z] 3 ∧ Mvs (fun k => k = b) w w'
/-- All lists and texts of a part are of lengths that memory can hold. -/
inductive CntU : Part → Prop
  | mk (h : PH) (ks : List Part) : h.params.length ≤ 1048576 → ks.length ≤ 1048576 → h.type.length ≤ 1048576 → h.sub.length ≤ 1048576 → h.id.length ≤ 1048576 → h.desc.length ≤ 1048576 → h.enc.length ≤ 1048576 → (∀ p ∈ h.params, p.name.length ≤ 1048576 ∧ p.value.length ≤ 1048576) → (∀ k ∈ ks, CntU k) → CntU (.mk h ks)
def SzVCall (n : Nat) : Prop := ∀ (p : Part) (v : Value) (b s d : Nat) (w : World), PA n (fun g => g ≠ b) w v p → CntU p → s ≤ 2000 → d ≤ 101 → Blk w b #[.int .i64 (s : Int)] 3 →
  Calls Tryz.prog 32 #[v, .pointer (some ⟨b, 0, none⟩), .int .i64 (d : Int)] w (SzVOut b (szP s d p) w)
def seqV : Code → Code
  | .seq _ b => b
  | c => c
set_option maxRecDepth 20000 in
set_option maxHeartbeats 4000000 in
/-- What follows the look at the numbers: the kids. -/
theorem sizeV_tail (n : Nat) (IH : SzVCall n) (h : PH) (vp : Value) (ks : List Part) (A : Option Addr) (nk c : Nat) (b R : Nat) (d s3 : Nat) (z3 : Int) (w W3 : World) (u0 u4 u5 u7 u8 u9 u10 u11 u12 u13 u14 u15 u16 u17 u18 u19 u20 u21 u22 u23 u24 u25 u26 u27 u28 u29 u30 u31 u32 u33 u34 u35 u36 u37 u38 u39 u40 u41 u42 u43 u44 u45 u46 u47 u48 u49 u50 u51 u52 u53 u54 u55 u56 u57 u58 u59 u60 u61 u62 u63 u64 u65 u66 u67 u68 u69 u70 u71 u72 u73 u74 u75 u76 u77 u78 u79 u80 u81 u82 u83 u84 u85 u86 u87 u88 u89 u90 u91 u92 u93 u94 u95 u96 u97 u98 u99 u100 u101 u102 u103 u104 u105 : Value)
    (hK : Blk W3 R (phA h vp (.slice A nk c)) 40) (hnk : ks.length = nk) (l2 : nk ≤ 1048576) (hk : ∀ i (hi : i < ks.length), ∃ g o vs, A = some ⟨g, o, none⟩ ∧ g ≠ b ∧ g < W3.heap.size ∧ vs.size = 11 ∧ (∀ j, j < 11 → W3.cell? ⟨g, o + i * 11 + j, none⟩ = vs[j]?) ∧ PA n (fun g => g ≠ b) W3 (.agg vs) ks[i])
    (hck : ∀ k ∈ ks, CntU k) (hz3 : z3 = (s3 : Int)) (hd3 : d ≤ 101) (hs3 : s3 ≤ 2000 → d ≤ 100) (hb : Blk W3 b #[.int .i64 z3] 3) (hm : Mvs (fun k => k = b) w W3) :
    (seqV (seqV (seqV (seqV (Tryz.f32.body.getD .skip))))).wp Tryz.prog (bodyPost Tryz.prog Tryz.f32 (SzVOut b (szK s3 (d + 1) ks) w)) { tmps := #[u0, .pointer (some ⟨b, 0, none⟩), .int .i64 (d : Int), .pointer (some ⟨R, 0, none⟩), u4, u5, .int .i64 0, u7, u8, u9, u10, u11, u12, u13, u14, u15, u16, u17, u18, u19, u20, u21, u22, u23, u24, u25, u26, u27, u28, u29, u30, u31, u32, u33, u34, u35, u36, u37, u38, u39, u40, u41, u42, u43, u44, u45, u46, u47, u48, u49, u50, u51, u52, u53, u54, u55, u56, u57, u58, u59, u60, u61, u62, u63, u64, u65, u66, u67, u68, u69, u70, u71, u72, u73, u74, u75, u76, u77, u78, u79, u80, u81, u82, u83, u84, u85, u86, u87, u88, u89, u90, u91, u92, u93, u94, u95, u96, u97, u98, u99, u100, u101, u102, u103, u104, u105], defers := [] } W3 := by
  have HNk := hide hnk
  have HZ3 := hide hz3
  have HS3 := hide hs3
  have HK := hide hk
  have HCk := hide hck
  have HB3 := hide hb
  have HM0 := hide hm
  have HK3 := hide hK
  have HIH := hide IH
  obtain ⟨c0, c1, c2, c3, c4, c5, c6, c7, c8, c9, c10⟩ := blk11 hK
  clear hnk hk hck hb hm hK IH hz3 hs3
  dsimp only [seqV, Tryz.f32, Option.getD_some]
  go_wp2
  clear c0 c1 c2 c3 c4 c5 c6 c7 c8 c9 c10
  go_loopw [89] (fun v89 wx => ∃ (i : Nat) (z4 : Int), v89 = .int .i64 i ∧ i ≤ nk ∧ Hid (z4 = ((szK s3 (d + 1) (ks.take i) : Nat) : Int)) ∧ Hid (Blk wx b #[.int .i64 z4] 3) ∧ Hid (Mvs (fun k => k = b) W3 wx)) (fun v _ => nk - (intOf v).toNat)
  case atStart => exact ⟨0, z3, rfl, Nat.zero_le _, (by show _ = _; rw [HZ3.out, List.take_zero, szK]), HB3, Mvs.refl _ _⟩
  case round =>
    clear HB3 HK3
    obtain ⟨i, z4, rfl, hin2, HZ4, HBx, HMx⟩ := hrel
    have hsx2 := HMx.out.size
    by_cases hlt2 : i < nk
    · have hlt3 : (i : Int) < nk := by omega
      have hik : i < ks.length := by rw [HNk.out]; exact hlt2
      obtain ⟨g, o, vs, rfl, hgb, hgw, hvs, hcs, hpa⟩ := HK.out i hik
      have HCi := hide (HCk.out _ (List.getElem_mem hik))
      have HSn := hide (szK_snoc ks s3 (d + 1) i hik)
      have HGe := hide (szK_ge (ks.take i) s3 (d + 1))
      obtain ⟨s4, hs4⟩ : ∃ s4, szK s3 (d + 1) (ks.take i) = s4 := ⟨_, rfl⟩
      rw [hs4] at HZ4 HSn HGe
      obtain rfl : z4 = (s4 : Int) := HZ4.out
      generalize ks[i] = kid at *
      obtain ⟨A1, q1, A2, q2, hvs2⟩ := hpa.form
      injection hvs2 with hvs2
      subst hvs2
      obtain ⟨n1, hn1⟩ : ∃ n, kid.h.params.length = n := ⟨_, rfl⟩
      obtain ⟨n2, hn2⟩ : ∃ n, kid.kids.length = n := ⟨_, rfl⟩
      rw [hn1, hn2] at hcs hpa
      obtain ⟨H2, hH2⟩ : ∃ H, kid.h = H := ⟨_, rfl⟩
      rw [hH2] at hcs hpa
      obtain ⟨c0, c1, c2, c3, c4, c5, c6, c7, c8, c9, c10⟩ := row11 (fun j hj => (HMx.out.cell (a := ⟨g, o + i * 11 + j, none⟩) hgw hgb).trans (hcs j hj))
      have hMa := HMx.out.alloc (.cells (phA H2 (.slice A1 n1 q1) (.slice A2 n2 q2)) 40)
      have hBa := HBx.out.alloc (.cells (phA H2 (.slice A1 n1 q1) (.slice A2 n2 q2)) 40)
      have hKa := Blk.new wr (phA H2 (.slice A1 n1 q1) (.slice A2 n2 q2)) 40
      obtain ⟨Wa, hWa⟩ : ∃ Wa, wr.alloc (.cells (phA H2 (.slice A1 n1 q1) (.slice A2 n2 q2)) 40) = Wa := ⟨_, rfl⟩
      rw [hWa] at hMa hBa hKa
      have HCs := hide (fun (hq : s4 ≤ 2000) => HIH.out kid _ b s4 (d + 1) Wa (hpa.keep hMa (fun g hg => hg)) HCi.out hq (by have := HS3.out (Nat.le_trans HGe.out hq); omega) hBa)
      have cb : Wa.cell? ⟨b, 0, none⟩ = some (.int .i64 (s4 : Int)) := hBa.cell 0
      have lb := hBa.lt
      obtain ⟨d0, d1, d2, d3, d4, d5, d6, d7, d8, d9, d10⟩ := blk11 hKa
      have HMa := hide hMa
      have HBa := hide hBa
      unfold phA at hWa HCs
      clear hcs hpa hvs hn1 hn2 hH2 hMa hBa hKa
      by_cases hz : s4 ≤ 2000
      · have hzi : (s4 : Int) ≤ 2000 := by omega
        have HCq := hide (HCs.out hz)
        have HSm : Hid (szP s4 (d + 1) kid = szK s3 (d + 1) (ks.take (i + 1))) := by show _ = _; rw [HSn.out, if_pos hz]
        clear HCs
        go_wp2_with fail
        refine HCq.out.mono ?_
        rintro e w6 ⟨z5, hz5, rfl, hb6, hm6⟩
        have HZ5 : Hid (z5 = ((szK s3 (d + 1) (ks.take (i + 1)) : Nat) : Int)) := by show _ = _; rw [hz5, HSm.out]
        clear hz5
        have HB6 := hide hb6
        have HM6 := hide (HMa.out.trans hm6)
        clear hb6 hm6 c0 c1 c2 c3 c4 c5 c6 c7 c8 c9 c10 d0 d1 d2 d3 d4 d5 d6 d7 d8 d9 d10 hWa HCq cb
        go_wp2
        go_roundw
        case rel => exact ⟨i + 1, z5, by go_num, Nat.succ_le_of_lt hlt2, HZ5, HB6, HM6⟩
        case measure => simp [intOf]; omega
      · clear HCs
        have hzi : ¬ ((s4 : Int) ≤ 2000) := by omega
        have HZ5 : Hid ((s4 : Int) = ((szK s3 (d + 1) (ks.take (i + 1)) : Nat) : Int)) := by show _ = _; rw [HSn.out, if_neg hz]
        go_wp2
        go_roundw
        case rel => exact ⟨i + 1, _, by go_num, Nat.succ_le_of_lt hlt2, HZ5, HBa, HMa⟩
        case measure => simp [intOf]; omega
    · obtain rfl : nk = i := by omega
      have cb : wr.cell? ⟨b, 0, none⟩ = some (.int .i64 z4) := HBx.out.cell 0
      have lb := HBx.out.lt
      have HMf := hide (HM0.out.trans HMx.out)
      go_wp2
      go_ret
      exact ⟨z4, by rw [HZ4.out, List.take_of_length_le (by rw [HNk.out]; exact Nat.le_refl _)], rfl, HBx.out, HMf.out⟩
set_option maxRecDepth 20000 in
set_option maxHeartbeats 8000000 in
/-- What follows the first count: the parameters, then the look at the numbers. -/
theorem sizeV_mid (n : Nat) (IH : SzVCall n) (h : PH) (ks : List Part) (Ap A : Option Addr) (np cp nk c : Nat) (b R s d : Nat) (z1 : Int) (w W2 : World) (u0 u4 u5 u7 u8 u9 u10 u11 u12 u13 u14 u15 u16 u17 u18 u19 u20 u21 u22 u23 u24 u25 u26 u27 u28 u29 u30 u31 u32 u33 u34 u35 u36 u37 u38 u39 u40 u41 u42 u43 u44 u45 u46 u47 u48 u49 u50 u51 u52 u53 u54 u55 u56 u57 u58 u59 u60 u61 u62 u63 u64 u65 u66 u67 u68 u69 u70 u71 u72 u73 u74 u75 u76 u77 u78 u79 u80 u81 u82 u83 u84 u85 u86 u87 u88 u89 u90 u91 u92 u93 u94 u95 u96 u97 u98 u99 u100 u101 u102 u103 u104 u105 : Value)
    (hK : Blk W2 R (phA h (.slice Ap np cp) (.slice A nk c)) 40) (hRb : R ≠ b) (hnp : h.params.length = np) (hnk : ks.length = nk) (l1 : np ≤ 1048576) (l2 : nk ≤ 1048576)
    (htl : szT h ≤ 4000000) (hab : szA h.params ≤ 1099511627776) (hEa : ∀ p ∈ h.params, p.name.length ≤ 1048576 ∧ p.value.length ≤ 1048576)
    (hrd : ∀ i (hi : i < h.params.length), ∃ g o, Ap = some ⟨g, o, none⟩ ∧ g ≠ b ∧ g < W2.heap.size ∧ W2.cell? ⟨g, o + i * 2, none⟩ = some (.string ⟨h.params[i].name.toArray⟩) ∧ W2.cell? ⟨g, o + i * 2 + 1, none⟩ = some (.string ⟨h.params[i].value.toArray⟩))
    (hk : ∀ i (hi : i < ks.length), ∃ g o vs, A = some ⟨g, o, none⟩ ∧ g ≠ b ∧ g < W2.heap.size ∧ vs.size = 11 ∧ (∀ j, j < 11 → W2.cell? ⟨g, o + i * 11 + j, none⟩ = vs[j]?) ∧ PA n (fun g => g ≠ b) W2 (.agg vs) ks[i])
    (hck : ∀ k ∈ ks, CntU k) (hz1 : z1 = ((s + szT h : Nat) : Int)) (hs0 : s ≤ 2000) (hd0 : d ≤ 101) (hb : Blk W2 b #[.int .i64 z1] 3) (hm : Mvs (fun k => k = b) w W2) :
    (seqV (seqV (Tryz.f32.body.getD .skip))).wp Tryz.prog (bodyPost Tryz.prog Tryz.f32 (SzVOut b (szK (szH s d h) (d + 1) ks) w)) { tmps := #[u0, .pointer (some ⟨b, 0, none⟩), .int .i64 (d : Int), .pointer (some ⟨R, 0, none⟩), u4, u5, .int .i64 0, u7, u8, u9, u10, u11, u12, u13, u14, u15, u16, u17, u18, u19, u20, u21, u22, u23, u24, u25, u26, u27, u28, u29, u30, u31, u32, u33, u34, u35, u36, u37, u38, u39, u40, u41, u42, u43, u44, u45, u46, u47, u48, u49, u50, u51, u52, u53, u54, u55, u56, u57, u58, u59, u60, u61, u62, u63, u64, u65, u66, u67, u68, u69, u70, u71, u72, u73, u74, u75, u76, u77, u78, u79, u80, u81, u82, u83, u84, u85, u86, u87, u88, u89, u90, u91, u92, u93, u94, u95, u96, u97, u98, u99, u100, u101, u102, u103, u104, u105], defers := [] } W2 := by
  have HNp := hide hnp
  have HNk := hide hnk
  have HEa := hide hEa
  have HRd := hide hrd
  have HK := hide hk
  have HCk := hide hck
  have HZ1 := hide hz1
  have HB2 := hide hb
  have HM0 := hide hm
  have HK2 := hide hK
  have HIH := hide IH
  have HTl := hide htl
  have HAb := hide hab
  obtain ⟨c0, c1, c2, c3, c4, c5, c6, c7, c8, c9, c10⟩ := blk11 hK
  have hRl := hK.lt
  clear hnp hnk hEa hrd hk hck hz1 hb hm hK IH htl hab
  dsimp only [seqV, Tryz.f32, Option.getD_some]
  go_wp2
  clear c0 c1 c2 c3 c4 c5 c6 c7 c8 c9 c10
  go_loopw [44] (fun v44 wx => ∃ (i : Nat) (z2 : Int), v44 = .int .i64 i ∧ i ≤ np ∧ Hid (z2 = ((s + szT h + szA (h.params.take i) : Nat) : Int)) ∧ Hid (Blk wx b #[.int .i64 z2] 3) ∧ Hid (Mvs (fun k => k = b) W2 wx)) (fun v _ => np - (intOf v).toNat)
  case atStart => exact ⟨0, z1, rfl, Nat.zero_le _, (by show _ = _; rw [HZ1.out, List.take_zero, szA, Nat.add_zero]), HB2, Mvs.refl _ _⟩
  case round =>
    obtain ⟨i, z2, rfl, hin, HZ2, HBx, HMx⟩ := hrel
    clear HB2
    have hsx := HMx.out.size
    by_cases hlt : i < np
    · have hlt' : (i : Int) < np := by omega
      have hip : i < h.params.length := by rw [HNp.out]; exact hlt
      obtain ⟨g2, o2, rfl, hS2, hg2, k20, k21⟩ := HRd.out i hip
      obtain ⟨x, y, hxy⟩ : ∃ a b, h.params[i] = ⟨a, b⟩ := ⟨_, _, rfl⟩
      have hel := HEa.out _ (List.getElem_mem hip)
      have hsn := szA_snoc h.params i hip
      rw [hxy] at k20 k21 hel hsn
      dsimp only at hsn hel k20 k21
      obtain ⟨s2, hs2⟩ : ∃ s2, s + szT h + szA (h.params.take i) = s2 := ⟨_, rfl⟩
      have hs2b : s2 ≤ 4000000000000 := by
        have h1 := HAb.out
        have h2 := HTl.out
        have h3 : szA (h.params.take i) ≤ szA h.params := szA_take h.params i
        omega
      rw [hs2] at HZ2
      have HSn : Hid (s2 + (x.length + y.length) / 20 = s + szT h + szA (h.params.take (i + 1))) := by show _ = _; omega
      clear hsn hs2
      obtain rfl : z2 = (s2 : Int) := HZ2.out
      obtain ⟨hex, hey⟩ := hel
      have q0 : wr.cell? ⟨g2, o2 + i * 2, none⟩ = some (.string ⟨x.toArray⟩) := (HMx.out.cell (a := ⟨g2, _, none⟩) hg2 hS2).trans k20
      have q1 : wr.cell? ⟨g2, o2 + i * 2 + 1, none⟩ = some (.string ⟨y.toArray⟩) := (HMx.out.cell (a := ⟨g2, _, none⟩) hg2 hS2).trans k21
      have hXa := Blk.new wr #[.string ⟨x.toArray⟩, .string ⟨y.toArray⟩] 65
      have hBa := HBx.out.alloc (.cells #[.string ⟨x.toArray⟩, .string ⟨y.toArray⟩] 65)
      have HMa := hide (HMx.out.alloc (.cells #[.string ⟨x.toArray⟩, .string ⟨y.toArray⟩] 65))
      have zx := size_lit x
      have zy := size_lit y
      have hbx := HBx.out.lt
      clear k20 k21 hxy hip
      go_wp2_with fail
      clear q0 q1
      obtain ⟨Wa, hWa⟩ : ∃ Wa, wr.alloc (.cells #[.string ⟨x.toArray⟩, .string ⟨y.toArray⟩] 65) = Wa := ⟨_, rfl⟩
      rw [hWa] at hXa hBa HMa ⊢
      clear hWa
      have cx0 : Wa.cell? ⟨wr.heap.size, 0, none⟩ = some (.string ⟨x.toArray⟩) := hXa.cell 0
      have cx1 : Wa.cell? ⟨wr.heap.size, 1, none⟩ = some (.string ⟨y.toArray⟩) := hXa.cell 1
      have cb : Wa.cell? ⟨b, 0, none⟩ = some (.int .i64 (s2 : Int)) := hBa.cell 0
      have fb := hBa.frozen 0
      have lb := hBa.lt
      have HBa := hide hBa
      clear hXa hBa
      go_region
      go_wp2
      go_roundw
      case rel =>
        refine ⟨i + 1, _, by go_num, by omega, ?_, HBa.out.set 0 _, HMa.out.trans (MvsE _ _ _)⟩
        show _ = _
        rw [← HSn.out]
        omega
      case measure => simp [intOf]; omega
    · obtain rfl : np = i := by omega
      have HKx := hide (HMx.out.blk HK2.out (by omega))
      obtain ⟨c0, c1, c2, c3, c4, c5, c6, c7, c8, c9, c10⟩ := blk11 HKx.out
      go_upto_region 7 with fail
      go_cut [80] from 62 (fun v80 wq => wr = wq ∧ ∃ t : Bool, v80 = .bool t ∧ t = badB d h)
      case first =>
        go_wp2
        all_goals (go_meet; refine ⟨rfl, _, rfl, ?_⟩; first | exact bad_all d h | exact bad_yes (by omega))
      case rest =>
        obtain ⟨rfl, t, rfl, htb⟩ := hcut
        have HTb := hide htb
        clear htb
        have cb : wr.cell? ⟨b, 0, none⟩ = some (.int .i64 z2) := HBx.out.cell 0
        have fb := HBx.out.frozen 0
        have lb := HBx.out.lt
        clear c0 c1 c2 c3 c4 c5 c6 c7 c8 c9 c10
        go_upto_if 80 with fail
        go_cut [6] from 80 (fun v6 wq => v6 = .int .i64 0 ∧ ∃ z3 : Int, Hid (z3 = ((szH s d h : Nat) : Int)) ∧ Hid (Blk wq b #[.int .i64 z3] 3) ∧ Hid (Mvs (fun k => k = b) W2 wq))
        case first =>
          have hz2b : z2 ≤ 4000000000000 := by
            have h1 := HAb.out
            have h2 := HTl.out
            have h3 : szA (h.params.take np) ≤ szA h.params := szA_take h.params np
            have h4 := HZ2.out
            omega
          have hz2a : 0 ≤ z2 := by rw [HZ2.out]; omega
          have hzb := HZ2.out
          rw [List.take_of_length_le (by rw [HNp.out]; exact Nat.le_refl _)] at hzb
          have HZb := hide hzb
          clear hzb
          cases t with
          | true =>
            go_wp2
            go_meet
            case rel =>
              refine ⟨rfl, _, ?_, HBx.out.set 0 _, HMx.out.trans ((Mvs.refl (fun k => k = b) _).setCell ⟨b, 0, none⟩ _ (fun _ => rfl))⟩
              show _ = _
              unfold szH
              rw [← HTb.out, if_pos rfl]
              have := HZb.out
              omega
          | false =>
            go_wp2
            go_meet
            case rel =>
              refine ⟨rfl, z2, ?_, HBx, HMx⟩
              show _ = _
              unfold szH
              rw [← HTb.out, HZb.out]
              simp
        case rest =>
          obtain ⟨rfl, z3, HZ3, HB3, HM3⟩ := hcut
          have hW3 : ∃ W3, W3 = wc := ⟨_, rfl⟩
          obtain ⟨W3, rfl⟩ := hW3
          clear HBx HMx HKx cb fb lb
          have hs3 := HM3.out.size
          have HK3 := hide (HM3.out.blk HK2.out (by omega))
          have hk3 : ∀ i (hi : i < ks.length), ∃ g o vs, A = some ⟨g, o, none⟩ ∧ g ≠ b ∧ g < W3.heap.size ∧ vs.size = 11 ∧ (∀ j, j < 11 → W3.cell? ⟨g, o + i * 11 + j, none⟩ = vs[j]?) ∧ PA n (fun g => g ≠ b) W3 (.agg vs) ks[i] := fun i hi => by
            obtain ⟨g, o, vs, e1, hgb, hgw, hvs, hcs, hpa⟩ := HK.out i hi
            exact ⟨g, o, vs, e1, hgb, by omega, hvs, fun j hj => (HM3.out.cell (a := ⟨g, o + i * 11 + j, none⟩) hgw hgb).trans (hcs j hj), hpa.keep HM3.out (fun g hg => hg)⟩
          apply_assumption
          exact sizeV_tail n HIH.out h _ ks A nk c b R d (szH s d h) z3 w W3 _ _ _ _ _ _ _ _ _ _ _ _ _ _ _ _ _ _ _ _ _ _ _ _ _ _ _ _ _ _ _ _ _ _ _ _ _ _ _ _ _ _ _ _ _ _ _ _ _ _ _ _ _ _ _ _ _ _ _ _ _ _ _ _ _ _ _ _ _ _ _ _ _ _ _ _ _ _ _ _ _ _ _ _ _ _ _ _ _ _ _ _ _ _ _ _ _ _ _ _ _ _ HK3.out HNk.out l2 hk3 HCk.out HZ3.out hd0 (fun hq => szH_d hq) HB3.out (HM0.out.trans HM3.out)
set_option maxRecDepth 20000 in
set_option maxHeartbeats 8000000 in
theorem sizeV_step (n : Nat) (IH : SzVCall n) (h : PH) (ks : List Part) (Ap A : Option Addr) (cp c : Nat) (b s d : Nat) (w : World) (hs0 : s ≤ 2000) (hd0 : d ≤ 101)
    (hr : ReadS (fun g => g ≠ b) Pm.cs 2 w (.slice Ap h.params.length cp) h.params) (hk : ∀ i (hi : i < ks.length), ∃ g o vs, A = some ⟨g, o, none⟩ ∧ g ≠ b ∧ g < w.heap.size ∧ vs.size = 11 ∧ (∀ j, j < 11 → w.cell? ⟨g, o + i * 11 + j, none⟩ = vs[j]?) ∧ PA n (fun g => g ≠ b) w (.agg vs) ks[i]) (hc : CntU (.mk h ks)) (hb : Blk w b #[.int .i64 (s : Int)] 3) :
    Calls Tryz.prog 32 #[.agg (phA h (.slice Ap h.params.length cp) (.slice A ks.length c)), .pointer (some ⟨b, 0, none⟩), .int .i64 (d : Int)] w (SzVOut b (szP s d (.mk h ks)) w) := by
  rw [szP]
  cases hc with
  | mk _ _ l1 l2 l3 l4 l5 l6 l7 l8 l9 =>
    have HEa := hide l8
    have HCk := hide l9
    clear l8 l9
    obtain ⟨np, hnp⟩ : ∃ np, h.params.length = np := ⟨_, rfl⟩
    have HNp := hide hnp
    obtain ⟨nk, hnk⟩ : ∃ nk, ks.length = nk := ⟨_, rfl⟩
    have HNk := hide hnk
    rw [hnp] at hr l1 ⊢
    rw [hnk] at l2 ⊢
    have HR := hide hr
    have HK := hide hk
    have HIH := hide IH
    have hbl : b < w.heap.size := hb.lt
    have hA := (Below.refl w.heap.size w).alloc (Nat.le_refl _) (.cells (phA h (.slice Ap np cp) (.slice A nk c)) 40)
    have hK1 := Blk.new w (phA h (.slice Ap np cp) (.slice A nk c)) 40
    have hb1 := hb.alloc (.cells (phA h (.slice Ap np cp) (.slice A nk c)) 40)
    obtain ⟨W1, hW1⟩ : ∃ W1, w.alloc (.cells (phA h (.slice Ap np cp) (.slice A nk c)) 40) = W1 := ⟨_, rfl⟩
    rw [hW1] at hA hK1 hb1
    obtain ⟨c0, c1, c2, c3, c4, c5, c6, c7, c8, c9, c10⟩ := blk11 hK1
    have HK1 := hide hK1
    have HA := hide hA
    have HB1 := hide hb1
    have cb := hb1.cell 0
    have fb := hb1.frozen 0
    have lb := hb1.lt
    have hs1 := hK1.lt
    unfold phA at hW1
    have z1 := size_lit h.type
    have z2 := size_lit h.sub
    have z3 := size_lit h.id
    have z4 := size_lit h.desc
    have z5 := size_lit h.enc
    have htl : szT h = 1 + np + (h.type.length + h.sub.length + h.id.length + h.desc.length + h.enc.length) / 20 := by unfold szT; rw [hnp]
    have hal := szA_le h.params 1048576 HEa.out
    rw [hnp] at hal
    have hal2 : np * 1048576 ≤ 1048576 * 1048576 := Nat.mul_le_mul_right _ l1
    have hab : szA h.params ≤ 1099511627776 := by omega
    clear hal hal2
    have HTl := hide htl
    have HAb := hide hab
    clear htl hab
    clear hr hk IH hnp hnk hb hA hK1 hb1
    go_enter Tryz.func32, Tryz.ntmps32
    unfold phA
    go_upto_region 1 with fail
    clear hW1
    go_cut [6] from 11 (fun v6 wq => v6 = .int .i64 0 ∧ ∃ z1 : Int, Hid (z1 = ((s + szT h : Nat) : Int)) ∧ Hid (Blk wq b #[.int .i64 z1] 3) ∧ Hid (Mvs (fun k => k = b) W1 wq))
    case first =>
      go_region
      go_wp2
      go_meet
      case rel =>
        refine ⟨rfl, _, ?_, HB1.out.set 0 _, MvsE _ _ _⟩
        show _ = _
        rw [HTl.out]
        omega
    case rest =>
      obtain ⟨rfl, z1, HZ1, HB2, HM2⟩ := hcut
      have hW2 : ∃ W2, W2 = wc := ⟨_, rfl⟩
      obtain ⟨W2, rfl⟩ := hW2
      clear c0 c1 c2 c3 c4 c5 c6 c7 c8 c9 c10 cb fb lb HB1
      have hs2 := HM2.out.size
      have hAs := HA.out.size
      have HK2 := hide (HM2.out.blk HK1.out (by omega))
      have hrd : ∀ i (hi : i < h.params.length), ∃ g o, Ap = some ⟨g, o, none⟩ ∧ g ≠ b ∧ g < W2.heap.size ∧ W2.cell? ⟨g, o + i * 2, none⟩ = some (.string ⟨h.params[i].name.toArray⟩) ∧ W2.cell? ⟨g, o + i * 2 + 1, none⟩ = some (.string ⟨h.params[i].value.toArray⟩) := fun i hip => by
        obtain ⟨B, bb, e2, hc2⟩ := HR.out
        obtain ⟨g2, o2, rfl, hS2, hg2, k2⟩ := hc2 i hip
        injection e2 with e2a e2b e2c
        subst e2a
        refine ⟨g2, o2, rfl, hS2, by omega, ?_, ?_⟩
        · exact (HM2.out.cell (a := ⟨g2, _, none⟩) (by show g2 < _; omega) hS2).trans ((HA.out.cell (p := ⟨g2, _, none⟩) hg2).trans (k2 0 (by omega)))
        · exact (HM2.out.cell (a := ⟨g2, _, none⟩) (by show g2 < _; omega) hS2).trans ((HA.out.cell (p := ⟨g2, _, none⟩) hg2).trans (k2 1 (by omega)))
      have hk2 : ∀ i (hi : i < ks.length), ∃ g o vs, A = some ⟨g, o, none⟩ ∧ g ≠ b ∧ g < W2.heap.size ∧ vs.size = 11 ∧ (∀ j, j < 11 → W2.cell? ⟨g, o + i * 11 + j, none⟩ = vs[j]?) ∧ PA n (fun g => g ≠ b) W2 (.agg vs) ks[i] := fun i hi => by
        obtain ⟨g, o, vs, e1, hgb, hgw, hvs, hcs, hpa⟩ := HK.out i hi
        exact ⟨g, o, vs, e1, hgb, by omega, hvs, fun j hj => (HM2.out.cell (a := ⟨g, o + i * 11 + j, none⟩) (by show g < _; omega) hgb).trans ((HA.out.cell (p := ⟨g, o + i * 11 + j, none⟩) hgw).trans (hcs j hj)), (hpa.below HA.out).keep HM2.out (fun g hg => hg)⟩
      have hmf : Mvs (fun k => k = b) w W2 := by
        have hm := HM2.out
        have ha := HA.out
        exact ⟨hm.os.trans ha.os, hm.tape.trans ha.tape, hm.output.trans ha.output, Nat.le_trans ha.size hm.size, fun k hk hs => (hm.block k (by omega) hs).trans (ha.block k hk)⟩
      apply_assumption
      exact sizeV_mid n HIH.out h ks Ap A np cp nk c b w.heap.size s d z1 w W2 _ _ _ _ _ _ _ _ _ _ _ _ _ _ _ _ _ _ _ _ _ _ _ _ _ _ _ _ _ _ _ _ _ _ _ _ _ _ _ _ _ _ _ _ _ _ _ _ _ _ _ _ _ _ _ _ _ _ _ _ _ _ _ _ _ _ _ _ _ _ _ _ _ _ _ _ _ _ _ _ _ _ _ _ _ _ _ _ _ _ _ _ _ _ _ _ _ _ _ _ _ _ HK2.out (by omega) HNp.out HNk.out l1 l2 (by have := HTl.out; omega) HAb.out HEa.out hrd hk2 HCk.out HZ1.out hs0 hd0 HB2.out hmf
theorem sizeV_any : ∀ n, SzVCall n
  | 0 => fun p v b s d w hp _ _ _ _ => hp.elim
  | n + 1 => fun p v b s d w hp hc hs0 hd0 hb => by
    cases p with
    | mk h ks =>
      obtain ⟨vp, A, c, rfl, hr, hk⟩ := hp
      obtain ⟨Ap, cp, rfl⟩ := hr.form
      exact sizeV_step n (sizeV_any n) h ks Ap A cp c b s d w hs0 hd0 hr hk hc hb
end Go.Proofs.YtegplihhbdmnbaaGreatDoor
