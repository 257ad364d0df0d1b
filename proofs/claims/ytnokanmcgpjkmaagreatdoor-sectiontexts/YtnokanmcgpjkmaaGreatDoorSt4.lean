/- SectionTexts. -/
import Derived.Test.YtnokanmcgpjkmaaGreatDoorSt3
set_option linter.unusedVariables false
namespace Go.Proofs.YtnokanmcgpjkmaaGreatDoor
open Go.RowKit Go.Shelf
set_option maxRecDepth 20000 in
set_option maxHeartbeats 8000000 in
theorem sectionTexts_walk (p : Spc) (pv nv : Value) (w : World) (hT : TabM w) (a : Nat → Addr) (hE : Errs w a) (hs : SpA w pv nv p) (hcap : ∀ A n c, nv = .slice A n c → n ≤ c) (hx : ∀ x ∈ p.names, x.length ≤ 140737488351232) :
    Calls Tryz.prog 4 #[spV pv nv p] w fun e w' => e = .returned (.bool true) ∧ Below w.heap.size w w' := by
  have HA := hide alive12
  obtain ⟨path, what, names⟩ := p
  obtain ⟨A, c, rfl⟩ := hs.path.form
  obtain ⟨A2, c2, rfl⟩ := hs.names.form
  have HB0 : Hid (Below w.heap.size w (w.alloc (.cells #[.slice A path.length c, .string ⟨what.toArray⟩, .slice A2 names.length c2] 26))) := (Below.refl _ _).alloc (Nat.le_refl _) _
  have HK0 := hide (Blk.new w #[.slice A path.length c, .string ⟨what.toArray⟩, .slice A2 names.length c2] 26)
  have HBG := hide (fun W (hW : Below w.heap.size w W) => big12_any ⟨path, what, names⟩ _ _ W (hs.below hW) hx)
  have HS := hide hs
  have HT := hide hT
  have HE := hide hE
  have HCAP := hide hcap
  clear hs hT hE hcap hx
  unfold spV at *
  simp only at *
  go_enter Tryz.func4, Tryz.ntmps4
  go_wp2_with (first
    | (go_at_call 7; refine (HA.out _).mono ?_; rintro e w1 ⟨rfl, hb1⟩; have hb1' := hide (HB0.out.trans (hb1.mono HB0.out.size)); have hk1 := HK0.out.below hb1 HK0.out.lt; have hc1 := hk1.cell; have hl1 := hk1.lt; replace hk1 := hide hk1; clear hb1))
  go_wp2_with fail
  refine (HBG.out _ hb1'.out).mono ?_
  rintro e w2 ⟨b, rfl, hsm, hb2⟩
  have hb2' := hide (hb1'.out.trans (hb2.mono hb1'.out.size))
  have hk2 := hk1.out.below hb2 hk1.out.lt
  have hc2 := hk2.cell
  have hl2 := hk2.lt
  replace hk2 := hide hk2
  replace hsm := hide hsm
  clear hb2 hc1 HA HBG
  cases b with
  | true =>
    go_wp2
    go_ret
    exact ⟨rfl, hb2'.out⟩
  | false =>
    obtain ⟨m1, m2, m3, m4⟩ := hsm.out rfl
    simp only at m1 m2 m3 m4
    replace m4 := hide m4
    cases hh : hasB ⟨path, what, names⟩ with
    | false =>
      have hrg : rgtB ⟨path, what, names⟩ = false := by rw [← has_rgt]; exact hh
      have HTX := hide (fun W (hW : Below w.heap.size w W) => secText_no ⟨path, what, names⟩ _ _ W (a 1) (HE.out.below hW).efs (HS.out.below hW) (by simp only; omega) (by simp only; omega) hh)
      have HR := hide (fun W (hW : Below w.heap.size w W) => rright_any ⟨path, what, names⟩ _ _ W (HS.out.below hW) (by simp only; omega) (by simp only; omega) (fun x hx => by have := m4.out x hx; omega))
      rw [hrg] at HR
      have HM := hide (fun W (hW : Below w.heap.size w W) => num_err 1 (by decide) W a (HE.out.below hW))
      unfold spV errS at *
      simp only at *
      clear hh hrg hsm
      go_wp2_with fail
      refine (HTX.out _ hb2'.out).mono ?_
      rintro e w3 ⟨rfl, hb3⟩
      have hb3' := hide (hb2'.out.trans (hb3.mono hb2'.out.size))
      have hk3 := hk2.out.below hb3 hk2.out.lt
      have hc3 := hk3.cell
      have hl3 := hk3.lt
      clear hb3 hc2
      go_wp2_with fail
      have hb4' := hide (hb3'.out.alloc hb3'.out.size (.cells #[.slice A path.length c, .string ⟨what.toArray⟩, .slice A2 names.length c2] 31))
      refine (HR.out _ hb4'.out).mono ?_
      rintro e w5 ⟨rfl, hb5⟩
      have hb5' := hide (hb4'.out.trans (hb5.mono hb4'.out.size))
      clear hb5
      go_wp2_with fail
      refine (HM.out _ hb5'.out).mono ?_
      rintro e w6 ⟨rfl, hb6⟩
      have hb6' := hide (hb5'.out.trans (hb6.mono hb5'.out.size))
      clear hb6
      go_wp2
      go_ret
      exact ⟨rfl, hb6'.out⟩
    | true =>
      have hrg : rgtB ⟨path, what, names⟩ = true := by rw [← has_rgt]; exact hh
      have hlen := sec_len hrg m4.out
      have hprg := sec_prg (sec_self hrg)
      have HTX := hide (fun W (hW : Below w.heap.size w W) => secText_yes ⟨path, what, names⟩ _ _ W (HT.out.below hW) (HS.out.below hW) HCAP.out hh (fun x hx => by have := m4.out x hx; omega))
      have HR := hide (fun W (hW : Below w.heap.size w W) => rright_any ⟨path, what, names⟩ _ _ W (HS.out.below hW) (by simp only; omega) (by simp only; omega) (fun x hx => by have := m4.out x hx; omega))
      rw [hrg] at HR
      have HP := hide (fun W => secParse_any (secT ⟨path, what, names⟩) W ⟨0, 0, none⟩ (by omega) (fun h => by rw [hprg] at h; cases h))
      rw [hprg] at HP
      have HRT := hide (fun W (hW : Below w.heap.size w W) => rtext12_any ⟨path, what, names⟩ _ _ W (HS.out.below hW) hrg (fun x hx => by have := m4.out x hx; omega))
      have HSS := hide (fun W (hW : Below w.heap.size w W) pv2 nv2 (h : SpA W pv2 nv2 ⟨path, what, names⟩) => secSame_yes ⟨path, what, names⟩ pv2 nv2 _ _ W h (HS.out.below hW) (by simp only; omega) (by simp only; omega))
      have HLS := hide (fun W (hW : Below w.heap.size w W) pv2 nv2 (h : SpA W pv2 nv2 ⟨path, what, names⟩) => lawSame_yes ⟨path, what, names⟩ pv2 nv2 _ _ W h (HS.out.below hW) (by simp only; omega) (by simp only; omega))
      have hsz := size_lit (secT ⟨path, what, names⟩)
      generalize secT ⟨path, what, names⟩ = ST at *
      unfold spV at *
      simp only at *
      clear hh hrg hsm hprg
      go_wp2_with fail
      refine (HTX.out _ hb2'.out).mono ?_
      rintro e w3 ⟨rfl, hb3⟩
      have hb3' := hide (hb2'.out.trans (hb3.mono hb2'.out.size))
      have hk3 := hk2.out.below hb3 hk2.out.lt
      have hc3 := hk3.cell
      have hl3 := hk3.lt
      replace hk3 := hide hk3
      clear hb3 hc2
      go_wp2_with fail
      have hb4' := hide (hb3'.out.alloc hb3'.out.size (.cells #[.slice A path.length c, .string ⟨what.toArray⟩, .slice A2 names.length c2] 31))
      have hq4 := hide (Blk.new w3 #[.slice A path.length c, .string ⟨what.toArray⟩, .slice A2 names.length c2] 31)
      have hk4 := hide (hk3.out.alloc (.cells #[.slice A path.length c, .string ⟨what.toArray⟩, .slice A2 names.length c2] 31))
      refine (HR.out _ hb4'.out).mono ?_
      rintro e w5 ⟨rfl, hb5⟩
      have hb5' := hide (hb4'.out.trans (hb5.mono hb4'.out.size))
      have hk5 := hk4.out.below hb5 hk4.out.lt
      have hq5 := hq4.out.below hb5 hq4.out.lt
      have hc5 := hk5.cell
      have hd5 := hq5.cell
      have hl5 := hk5.lt
      have hn5 := hq5.lt
      replace hk5 := hide hk5
      replace hq5 := hide hq5
      clear hb5 hc3
      go_wp2_with fail
      refine (HP.out _).mono ?_
      rintro e w6 ⟨pv6, nv6, rfl, hs6, hb6⟩
      obtain ⟨A6, c6, rfl⟩ := hs6.path.form
      obtain ⟨B6, d6, rfl⟩ := hs6.names.form
      replace hs6 := hide hs6
      have hb6' := hide (hb5'.out.trans (hb6.mono hb5'.out.size))
      have hk6 := hide (hk5.out.below hb6 hk5.out.lt)
      have hq6 := hide (hq5.out.below hb6 hq5.out.lt)
      clear hb6 hc5 hd5
      unfold spV
      simp only
      have hk7 := hide (hk6.out.alloc (.cells #[.slice A6 path.length c6, .string ⟨what.toArray⟩, .slice B6 names.length d6] 26))
      have hq7 := hide (hq6.out.alloc (.cells #[.slice A6 path.length c6, .string ⟨what.toArray⟩, .slice B6 names.length d6] 26))
      have hn7 := hide (Blk.new w6 #[.slice A6 path.length c6, .string ⟨what.toArray⟩, .slice B6 names.length d6] 26)
      have hb7' := hide (hb6'.out.alloc hb6'.out.size (.cells #[.slice A6 path.length c6, .string ⟨what.toArray⟩, .slice B6 names.length d6] 26))
      have hs7 := hide (hs6.out.below ((Below.refl w6.heap.size w6).alloc (Nat.le_refl _) (.cells #[.slice A6 path.length c6, .string ⟨what.toArray⟩, .slice B6 names.length d6] 26)))
      have hc7 := hk7.out.cell
      have hd7 := hq7.out.cell
      have hl6 := hk6.out.lt
      have hm6 := hq6.out.lt
      go_wp2_with fail
      refine (HRT.out _ hb7'.out).mono ?_
      rintro e w8 ⟨rfl, hb8⟩
      have hb8' := hide (hb7'.out.trans (hb8.mono hb7'.out.size))
      have hk8 := hide (hk7.out.below hb8 hk7.out.lt)
      have hq8 := hide (hq7.out.below hb8 hq7.out.lt)
      have hn8 := hide (hn7.out.below hb8 hn7.out.lt)
      have hs8 := hide (hs7.out.below hb8)
      have hc8 := hk8.out.cell
      have hd8 := hq8.out.cell
      have he8 := hn8.out.cell
      clear hb8 hc7 hd7
      go_wp2_with fail
      refine (HSS.out _ hb8'.out _ _ hs8.out).mono ?_
      rintro e w9 ⟨rfl, hb9⟩
      have hb9' := hide (hb8'.out.trans (hb9.mono hb8'.out.size))
      have hq9 := hide (hq8.out.below hb9 hq8.out.lt)
      have hn9 := hide (hn8.out.below hb9 hn8.out.lt)
      have hs9 := hide (hs8.out.below hb9)
      have hd9 := hq9.out.cell
      have he9 := hn9.out.cell
      clear hb9 hc8 hd8 he8
      go_wp2_with fail
      refine (HLS.out _ hb9'.out _ _ hs9.out).mono ?_
      rintro e w10 ⟨rfl, hb10⟩
      have hb10' := hide (hb9'.out.trans (hb10.mono hb9'.out.size))
      clear hb10
      go_wp2
      go_ret
      exact ⟨rfl, hb10'.out⟩
end Go.Proofs.YtnokanmcgpjkmaaGreatDoor
