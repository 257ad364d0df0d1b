/- SectionParses. -/
import Derived.Test.YtegplihhbdmnbaaGreatDoorU43
import Derived.Test.YtegplihhbdmnbaaGreatDoorU45
import Derived.Test.YtegplihhbdmnbaaGreatDoorU47
set_option linter.unusedVariables false
namespace Go.Proofs.YtegplihhbdmnbaaGreatDoor
open Go.RowKit Go.Shelf
set_option maxRecDepth 20000 in
set_option maxHeartbeats 4000000 in
theorem sectionParses_walk (t : List UInt8) (w : World) (a : Nat → Addr) (hE : Errs w a) (hY : SyE w) :
    Calls Tryz.prog 3 #[.string ⟨t.toArray⟩] w fun e w' => e = .returned (.bool true) ∧ Below w.heap.size w w' := by
  have HA := hide alive12
  have hsz := size_lit t
  by_cases hbig : 2000 < t.length
  · have kb : (2000 : Int) < t.length := by omega
    go_enter Tryz.func3, Tryz.ntmps3
    go_wp2_with (first
      | (go_at_call 5; refine (HA.out _).mono ?_; rintro e w1 ⟨rfl, hb1⟩; replace hb1 := hide hb1))
    go_ret
    exact ⟨rfl, hb1.out⟩
  have kb : ¬ (2000 : Int) < t.length := by omega
  have ht : t.length ≤ 2000 := by omega
  have HP := hide (fun W (hW : Below w.heap.size w W) => secParse_any t W (a 1) (by omega) (fun _ => ⟨⟨(hE.below hW).cell 1 (by decide), (hE.below hW).low 1 (by decide)⟩, hY.below hW⟩))
  have HD := hide (fun W => rparse_any t W ht)
  have HE := hide hE
  clear hE hY
  cases hp : prgO t with
  | some p =>
    have hd : docO t = some p := by rw [← prg_doc]; exact hp
    rw [hp] at HP
    rw [hd] at HD
    obtain ⟨hr, _⟩ := prg_sec hp
    obtain ⟨hpl, hnl, _, _, _⟩ := rgt_names hr
    have HLS := hide (fun W pv nv pv2 nv2 (h1 : SpA W pv nv p) (h2 : SpA W pv2 nv2 p) => lawSame_yes p pv nv pv2 nv2 W h1 h2 (by omega) (by omega))
    clear hp hd hr
    obtain ⟨path, what, names⟩ := p
    unfold spV at HLS
    simp only at *
    go_enter Tryz.func3, Tryz.ntmps3
    go_wp2_with (first
      | (go_at_call 5; refine (HA.out _).mono ?_; rintro e w1 ⟨rfl, hb1⟩; replace hb1 := hide hb1))
    go_wp2_with fail
    refine (HP.out _ hb1.out).mono ?_
    rintro e w2 ⟨pv, nv, rfl, hs2, hb2⟩
    obtain ⟨A, c, rfl⟩ := hs2.path.form
    obtain ⟨A2, c2, rfl⟩ := hs2.names.form
    replace hs2 := hide hs2
    have hb2' := hide (hb1.out.trans (hb2.mono hb1.out.size))
    clear hb2
    unfold spV
    simp only at hs2 ⊢
    have hk3 := hide (Blk.new w2 #[.slice A path.length c, .string ⟨what.toArray⟩, .slice A2 names.length c2] 26)
    have hb3' := hide (hb2'.out.alloc hb2'.out.size (.cells #[.slice A path.length c, .string ⟨what.toArray⟩, .slice A2 names.length c2] 26))
    have hs3 := hide (hs2.out.below ((Below.refl w2.heap.size w2).alloc (Nat.le_refl _) (.cells #[.slice A path.length c, .string ⟨what.toArray⟩, .slice A2 names.length c2] 26)))
    go_wp2_with fail
    refine (HD.out _).mono ?_
    rintro e w4 ⟨pv4, nv4, rfl, hs4, hb4⟩
    obtain ⟨A4, c4, rfl⟩ := hs4.path.form
    obtain ⟨B4, d4, rfl⟩ := hs4.names.form
    replace hs4 := hide hs4
    have hb4' := hide (hb3'.out.trans (hb4.mono hb3'.out.size))
    have hk4 := hide (hk3.out.below hb4 hk3.out.lt)
    have ho4 := hide (hs3.out.below hb4)
    clear hb4
    unfold spV
    simp only at hs4 ho4 ⊢
    have hal := (Below.refl w4.heap.size w4).alloc (Nat.le_refl _) (.cells #[.slice A4 path.length c4, .string ⟨what.toArray⟩, .slice B4 names.length d4] 31)
    have hk5 := hide (hk4.out.alloc (.cells #[.slice A4 path.length c4, .string ⟨what.toArray⟩, .slice B4 names.length d4] 31))
    have hc5 := hk5.out.cell
    have hl4 := hk4.out.lt
    have hs5 := hide (hs4.out.below hal)
    have ho5 := hide (ho4.out.below hal)
    have hb5' := hide (hb4'.out.trans (hal.mono hb4'.out.size))
    clear hal
    go_wp2_with fail
    refine (HLS.out _ _ _ _ _ ho5.out hs5.out).mono ?_
    rintro e w6 ⟨rfl, hb6⟩
    have hb6' := hide (hb5'.out.trans (hb6.mono hb5'.out.size))
    clear hb6
    go_wp2
    go_ret
    exact ⟨rfl, hb6'.out⟩
  | none =>
    have hd : docO t = none := by rw [← prg_doc]; exact hp
    rw [hp] at HP
    rw [hd] at HD
    have HLS := hide (fun W => lawSame_yes ⟨[], [], []⟩ (.slice none 0 0) (.slice none 0 0) (.slice none 0 0) (.slice none 0 0) W ⟨ReadOf.nil _ _ _, ReadOf.nil _ _ _⟩ ⟨ReadOf.nil _ _ _, ReadOf.nil _ _ _⟩ (by simp) (by simp))
    have HM := hide (fun W (hW : Below w.heap.size w W) => num_err 1 (by decide) W a (HE.out.below hW))
    unfold spV at HLS
    simp only at *
    clear hp hd
    go_enter Tryz.func3, Tryz.ntmps3
    go_wp2_with (first
      | (go_at_call 5; refine (HA.out _).mono ?_; rintro e w1 ⟨rfl, hb1⟩; replace hb1 := hide hb1))
    go_wp2_with fail
    refine (HP.out _ hb1.out).mono ?_
    rintro e w2 ⟨rfl, hb2⟩
    have hb2' := hide (hb1.out.trans (hb2.mono hb1.out.size))
    clear hb2
    unfold zSp errS
    have hk3 := hide (Blk.new w2 #[.slice none 0 0, .string ⟨#[]⟩, .slice none 0 0] 26)
    have hb3' := hide (hb2'.out.alloc hb2'.out.size (.cells #[.slice none 0 0, .string ⟨#[]⟩, .slice none 0 0] 26))
    go_wp2_with fail
    refine (HD.out _).mono ?_
    rintro e w4 ⟨rfl, hb4⟩
    have hb4' := hide (hb3'.out.trans (hb4.mono hb3'.out.size))
    have hk4 := hide (hk3.out.below hb4 hk3.out.lt)
    clear hb4
    unfold zSp
    have hal := (Below.refl w4.heap.size w4).alloc (Nat.le_refl _) (.cells #[.slice none 0 0, .string ⟨#[]⟩, .slice none 0 0] 31)
    have hk5 := hide (hk4.out.alloc (.cells #[.slice none 0 0, .string ⟨#[]⟩, .slice none 0 0] 31))
    have hc5 := hk5.out.cell
    have hl4 := hk4.out.lt
    have hb5' := hide (hb4'.out.trans (hal.mono hb4'.out.size))
    clear hal
    go_wp2_with fail
    refine (HLS.out _).mono ?_
    rintro e w6 ⟨rfl, hb6⟩
    have hb6' := hide (hb5'.out.trans (hb6.mono hb5'.out.size))
    clear hb6
    go_wp2_with fail
    refine (HM.out _ hb6'.out).mono ?_
    rintro e w7 ⟨rfl, hb7⟩
    have hb7' := hide (hb6'.out.trans (hb7.mono hb6'.out.size))
    clear hb7
    go_wp2
    go_ret
    exact ⟨rfl, hb7'.out⟩
end Go.Proofs.YtegplihhbdmnbaaGreatDoor
