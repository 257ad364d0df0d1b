/- alive; EnvelopeAddresses, EnvelopeLists. -/
import Derived.Test.YtkppeejbmalefaaDoorEn10
import Derived.Test.YtkppeejbmalefaaDoorEn11
set_option linter.unusedSimpArgs false
set_option linter.unusedVariables false
namespace Go.Proofs.YtkppeejbmalefaaDoor
open Go.RowKit Go.Shelf
def exA : List UInt8 := [65, 110, 110, 32, 60, 97, 64, 98, 62, 44, 32, 99, 64, 100]
def exE : List UInt8 := [40, 78, 73, 76, 32, 78, 73, 76, 32, 78, 73, 76, 32, 78, 73, 76, 32, 78, 73, 76, 32, 78, 73, 76, 32, 78, 73, 76, 32, 78, 73, 76, 32, 78, 73, 76, 32, 78, 73, 76, 41]
theorem exA_ads : adsV exA = [⟨[65, 110, 110], [97], [98]⟩, ⟨[], [99], [100]⟩] := by kernel_rfl
theorem exE_txt : envT [] = exE := by kernel_rfl
theorem exE_hd : ¬ 200 < (hd (splitS ([] : List UInt8)) 0).1.length := by decide
theorem alive11 (w : World) (ht : TabM w) : Calls Tryd.prog 7 #[] w fun e w' => e = .returned (.bool true) ∧ Below w.heap.size w w' := by
  have HA := hide (ads_any exA w (by decide))
  rw [exA_ads] at HA
  have HT : Hid (∀ W, Below w.heap.size w W → Calls Tryd.prog 13 #[.string ⟨#[]⟩] W fun e w' => e = .returned (.string ⟨exE.toArray⟩) ∧ Below W.heap.size W w') := fun W hb => by
    have := etext_any [] W ⟨0, 0, none⟩ (fun h => absurd h exE_hd) (ht.below hb) (by simp)
    rw [exE_txt] at this
    exact this
  clear ht
  go_enter Tryd.func7, Tryd.ntmps7
  go_wp2_with fail
  refine HA.out.mono ?_
  rintro e w2 ⟨hb2, v, rfl, hr⟩
  obtain ⟨A, c, rfl, hc⟩ := hr.reads Ad.cs_len
  obtain ⟨g, o, rfl, hg, c0⟩ := hc 0 (by simp)
  obtain ⟨g2, o2, e2, _, c1⟩ := hc 1 (by simp)
  cases e2
  have k0 : w2.cell? ⟨g, o, none⟩ = some (.string ⟨#[65, 110, 110]⟩) := c0 0 (by omega)
  have k1 : w2.cell? ⟨g, o + 1, none⟩ = some (.string ⟨#[97]⟩) := c0 1 (by omega)
  have k2 : w2.cell? ⟨g, o + 2, none⟩ = some (.string ⟨#[98]⟩) := c0 2 (by omega)
  have m0 : w2.cell? ⟨g, o + 3, none⟩ = some (.string ⟨#[]⟩) := c1 0 (by omega)
  have m1 : w2.cell? ⟨g, o + 3 + 1, none⟩ = some (.string ⟨#[99]⟩) := c1 1 (by omega)
  have m2 : w2.cell? ⟨g, o + 3 + 2, none⟩ = some (.string ⟨#[100]⟩) := c1 2 (by omega)
  have HB2 := hide hb2
  clear hb2 c0 c1 hc hr
  simp only [List.length_cons, List.length_nil, Nat.zero_add, Nat.reduceAdd]
  unfold exE at HT
  go_wp2_with fail
  refine (HT.out _ HB2.out).mono ?_
  rintro e w3 ⟨rfl, hb3⟩
  have HB3 := hide (HB2.out.trans (hb3.mono HB2.out.size))
  clear hb3
  go_wp2
  go_ret
  exact ⟨rfl, HB3.out⟩
set_option maxHeartbeats 2000000 in
theorem envelopeAddresses_walk (s : List UInt8) (w : World) (ht : TabM w) (ea : Addr) (hE : EF w ea) : Calls Tryd.prog 3 #[.string ⟨s.toArray⟩] w fun e w' => e = .returned (.bool true) ∧ Below w.heap.size w w' := by
  have HA := hide (alive11 w ht)
  have HTb := hide ht
  have hsz := size_lit s
  clear ht
  by_cases hl : s.length ≤ 5000
  · have g1 : ¬ ((s.length : Int) > 5000) := by omega
    have HP := hide (fun w => ads_any s w (by omega))
    have HQ := hide (fun w => rads_any s w (by omega))
    have HLe : Hid (∀ x ∈ adsV s, adLe 5000 x) := adsV_le hl
    have h50 := adsV_50 s
    generalize adsV s = xs at *
    go_enter Tryd.func3, Tryd.ntmps3
    go_wp2_with fail
    refine HA.out.mono ?_
    rintro e w1 ⟨rfl, hb1⟩
    replace hb1 := hide hb1
    go_wp2_with fail
    refine (HP.out _).mono ?_
    rintro e w2 ⟨hb2, v, rfl, hr2⟩
    have HR2 := hide (hr2.reads Ad.cs_len)
    have HB2 := hide (hb1.out.trans (hb2.mono hb1.out.size))
    obtain ⟨A2, c2, rfl⟩ := hr2.form
    clear hr2 hb2 hb1
    go_wp2_with fail
    refine (HQ.out _).mono ?_
    rintro e w3 ⟨hb3, v, rfl, hr3⟩
    have HR3 := hide (hr3.reads Ad.cs_len)
    have HR2b := hide (HR2.out.below hb3)
    have HB3 := hide (HB2.out.trans (hb3.mono HB2.out.size))
    obtain ⟨A3, c3, rfl⟩ := hr3.form
    clear hr3 hb3 HB2 HR2
    have HS := hide (asame_yes w3 HR2b.out HR3.out (by omega))
    have HT3 := hide (HTb.out.below HB3.out)
    go_wp2_with fail
    refine HS.out.mono ?_
    rintro e w4 ⟨rfl, n4, rfl⟩
    have hdr : Below w3.heap.size w3 (w3.drewN n4) := bel_drewN _ _
    have HL1 := hide (lst_any xs _ (w3.drewN n4) (HT3.out.below hdr) (HR2b.out.below hdr) (by omega) (M := 5000) (by omega) HLe.out)
    have HR3b := hide (HR3.out.below hdr)
    have HB4 := hide (HB3.out.trans (hdr.mono HB3.out.size))
    generalize w3.drewN n4 = w4 at *
    clear hdr HR3 HR2b HS HB3 HT3
    go_wp2_with fail
    refine HL1.out.mono ?_
    rintro e w5 ⟨rfl, hb5⟩
    have HL2 := hide (rlst_any xs _ w5 (HR3b.out.below hb5) (by omega) (M := 5000) (by omega) HLe.out)
    have HB5 := hide (HB4.out.trans (hb5.mono HB4.out.size))
    clear hb5 HL1 HR3b HB4
    generalize lstT xs = LT at *
    go_wp2_with fail
    refine HL2.out.mono ?_
    rintro e w6 ⟨rfl, hb6⟩
    have HB6 := hide (HB5.out.trans (hb6.mono HB5.out.size))
    clear hb6
    go_wp2
    go_ret
    exact ⟨rfl, HB6.out⟩
  · have g1 : ((s.length : Int) > 5000) := by omega
    go_enter Tryd.func3, Tryd.ntmps3
    go_wp2_with fail
    refine HA.out.mono ?_
    rintro e w1 ⟨rfl, hb1⟩
    replace hb1 := hide hb1
    go_wp2
    go_ret
    exact ⟨rfl, hb1.out⟩
/-- How many bytes addresses have. -/
def adSum (xs : List Ad) : Nat := (xs.map fun a => 1 + a.name.length + a.loc.length + a.dom.length).sum
theorem adSum_take {xs : List Ad} {k : Nat} (hk : k < xs.length) : adSum (xs.take (k + 1)) = adSum (xs.take k) + (1 + xs[k].name.length + xs[k].loc.length + xs[k].dom.length) := by
  unfold adSum
  rw [List.take_succ_eq_append_getElem hk, List.map_append, List.sum_append]
  simp
theorem adSum_le : ∀ (xs : List Ad), xs.length ≤ adSum xs ∧ ∀ x ∈ xs, adLe (adSum xs) x
  | [] => ⟨Nat.zero_le _, fun _ h => by cases h⟩
  | a :: r => by
    obtain ⟨h1, h2⟩ := adSum_le r
    have e : adSum (a :: r) = (1 + a.name.length + a.loc.length + a.dom.length) + adSum r := by unfold adSum; simp
    refine ⟨by rw [e, List.length_cons]; omega, fun x hx => ?_⟩
    rcases List.mem_cons.1 hx with rfl | hx
    · exact ⟨by omega, by omega, by omega⟩
    · obtain ⟨a1, a2, a3⟩ := h2 x hx
      exact ⟨by omega, by omega, by omega⟩
set_option maxRecDepth 20000 in
set_option maxHeartbeats 2000000 in
theorem envelopeLists_walk (v : Value) (xs : List Ad) (w : World) (hr : ReadOf Ad.cs 3 w v xs) (hx : ∀ x ∈ xs, adLe 140737488351232 x) (ht : TabM w) (ea : Addr) (hE : EF w ea) : Calls Tryd.prog 4 #[v] w fun e w' => e = .returned (.bool true) ∧ Below w.heap.size w w' := by
  have HA := hide (alive11 w ht)
  have HTb := hide ht
  have HR := hide hr
  have HX := hide hx
  clear hE
  obtain ⟨A, c, rfl, hc⟩ := hr
  have HC := hide hc
  clear hc hx ht
  go_enter Tryd.func4, Tryd.ntmps4
  go_wp2_with fail
  refine HA.out.mono ?_
  rintro e w1 ⟨rfl, hb1⟩
  have HB1 := hide hb1
  have HS0 : Hid (adSum (xs.take 0) = 0) := rfl
  clear hb1 HA
  go_wp2
  go_loopw [3, 10] (fun v3 v10 wr => ∃ k n : Nat, v10 = .int .i64 k ∧ k ≤ xs.length ∧ v3 = .int .i64 n ∧ n ≤ 10000 ∧ Hid (adSum (xs.take k) = n) ∧ Hid (Below w.heap.size w wr)) (fun _ v10 _ => xs.length - (intOf v10).toNat)
  case atStart => exact ⟨0, 0, rfl, Nat.zero_le _, rfl, by omega, HS0, HB1⟩
  case round =>
    obtain ⟨k, n, rfl, hk, rfl, hn, HS, HB⟩ := hrel
    clear HS0 HB1
    have hbs := HB.out.size
    by_cases hlt : k < xs.length
    · have hlt' : (k : Int) < xs.length := by omega
      obtain ⟨g, o, rfl, hg, hcs⟩ := HC.out k hlt
      have hxk := HX.out _ (List.getElem_mem hlt)
      have hst := adSum_take hlt
      rw [HS.out] at hst
      obtain ⟨q, hq⟩ : ∃ q, xs[k] = q := ⟨_, rfl⟩
      rw [hq] at hcs hxk hst
      have k0 : wr.cell? ⟨g, o + k * 3, none⟩ = some (.string ⟨q.name.toArray⟩) := (HB.out.cell (p := ⟨g, _, none⟩) hg).trans (hcs 0 (by omega))
      have k1 : wr.cell? ⟨g, o + k * 3 + 1, none⟩ = some (.string ⟨q.loc.toArray⟩) := (HB.out.cell (p := ⟨g, _, none⟩) hg).trans (hcs 1 (by omega))
      have k2 : wr.cell? ⟨g, o + k * 3 + 2, none⟩ = some (.string ⟨q.dom.toArray⟩) := (HB.out.cell (p := ⟨g, _, none⟩) hg).trans (hcs 2 (by omega))
      obtain ⟨nm, lo, dm⟩ := q
      obtain ⟨x1, x2, x3⟩ := hxk
      dsimp only at k0 k1 k2 x1 x2 x3 hst
      have s1 := size_lit nm
      have s2 := size_lit lo
      have s3 := size_lit dm
      have hk4 : k ≤ 10000 := by
        have h1 := (adSum_le (xs.take k)).1
        rw [HS.out, List.length_take] at h1
        omega
      have HST := hide hst
      clear hcs hq hst HS
      have hk1 : k + 1 ≤ xs.length := hlt
      have hme : xs.length - (k + 1) < xs.length - k := by omega
      by_cases hbig : n + (1 + nm.length + lo.length + dm.length) ≤ 10000
      · have hbig' : ¬ ((n : Int) + (1 + (nm.length : Int) + lo.length + dm.length) > 10000) := by omega
        go_wp2
        go_roundw
        case rel => exact ⟨k + 1, n + (1 + nm.length + lo.length + dm.length), by go_num, hk1, by go_num, hbig, HST, HB.out.alloc hbs _⟩
        case measure => simpa [intOf] using (by omega : xs.length - (k + 1) < xs.length - k)
      · have hbig' : ((n : Int) + (1 + (nm.length : Int) + lo.length + dm.length) > 10000) := by omega
        go_wp2
        go_ret
        exact ⟨rfl, HB.out.alloc hbs _⟩
    · obtain rfl : k = xs.length := by omega
      have hsum : adSum xs ≤ 10000 := by
        have := HS.out
        rw [List.take_length] at this
        omega
      obtain ⟨l1, l2⟩ := adSum_le xs
      have HLe : Hid (∀ x ∈ xs, adLe 10000 x) := fun x hx => by
        obtain ⟨a1, a2, a3⟩ := l2 x hx
        exact ⟨by omega, by omega, by omega⟩
      have hxl : xs.length ≤ 10000 := by omega
      have HRb := hide (HR.out.below HB.out)
      have HL1 := hide (lst_any xs _ wr (HTb.out.below HB.out) HRb.out hxl (M := 10000) (by omega) HLe.out)
      have HL2 : Hid (∀ W, Below wr.heap.size wr W → Calls Tryd.prog 12 #[.slice A xs.length c] W fun e w' => e = .returned (.string ⟨(lstT xs).toArray⟩) ∧ Below W.heap.size W w') := fun W hb => rlst_any xs _ W (HRb.out.below hb) hxl (M := 10000) (by omega) HLe.out
      clear l1 l2 HS HC
      generalize lstT xs = LT at *
      go_wp2_with fail
      refine HL1.out.mono ?_
      rintro e w5 ⟨rfl, hb5⟩
      have HB5 := hide hb5
      clear hb5
      go_wp2_with fail
      refine (HL2.out _ HB5.out).mono ?_
      rintro e w6 ⟨rfl, hb6⟩
      have HB6 := hide (HB.out.trans ((HB5.out.trans (hb6.mono HB5.out.size)).mono hbs))
      clear hb6
      go_wp2
      go_ret
      exact ⟨rfl, HB6.out⟩
end Go.Proofs.YtkppeejbmalefaaDoor
