/- The document's Same of layer 9; HeaderFields. -/
import Derived.Test.YtgmdpjncgdojbaaDoorHr4
import Derived.Test.YtgmdpjncgdojbaaDoorHr2
import Derived.Test.YtgmdpjncgdojbaaDoorNum
namespace Go.Proofs.YtgmdpjncgdojbaaDoor
open Go.RowKit Go.Shelf
theorem drewN_below {w w' : World} {n : Nat} (h : w' = w.drewN n) : Below w.heap.size w w' := by
  subst h
  exact bel_drewN _ _
set_option maxRecDepth 20000 in
set_option maxHeartbeats 1000000 in
theorem hfields_walk (m : List UInt8) (w : World) (ea : Nat → Addr) (hE : Errs w ea) : Calls Tryd.prog 3 #[.string ⟨m.toArray⟩] w fun e w' => e = .returned (.bool true) ∧ Below w.heap.size w w' := by
  have HA := hide alive_yes
  have HEr := hide hE
  have hsm := size_lit m
  clear hE
  by_cases h1 : m.length ≤ 20000
  · have g1 : ¬ ((m.length : Int) > 20000) := by omega
    have HF := hide (fun w (h : Errs w ea) => fields_any m w (ea 10) (fun _ => ⟨h.cell 10 (by decide), h.low 10 (by decide)⟩) (by omega))
    have HH := hide (fun w => rheader_any m w h1)
    have HB := hide (fun w => body_any m w (by omega))
    have hbd : bodyL (splitS m) 0 = (hd (splitS m) 0).2 := (hd_body _ _).symm
    rw [hbd] at HB
    have hct : (hd (splitS m) 0).1.length ≤ 20000 := by
      have h2 := hd_count (splitS m).length (splitS m) 0 (Nat.le_refl _)
      have h3 := splitS_len m
      omega
    clear hbd
    obtain ⟨fs, hfs⟩ : ∃ fs, (hd (splitS m) 0).1 = fs := ⟨_, rfl⟩
    obtain ⟨b0, hb0⟩ : ∃ b0, (hd (splitS m) 0).2 = b0 := ⟨_, rfl⟩
    have HFO : Hid (∀ w e w', FOut m (ea 10) w e w' → Below w.heap.size w w' ∧ ((200 < fs.length ∧ e = .returned (.tuple #[.slice none 0 0, errP (ea 10)])) ∨ (fs.length ≤ 200 ∧ ∃ v, e = .returned (.tuple #[v, .nilIface]) ∧ Fds w.heap.size w' v fs))) := fun w e w' h => by
      unfold FOut at h
      rw [hfs] at h
      exact h
    rw [hfs] at HH hct
    rw [hb0] at HH HB
    clear hfs hb0
    go_enter Tryd.func3, Tryd.ntmps3
    go_wp2_with fail
    refine (HA.out _).mono ?_
    rintro e w1 ⟨rfl, hb1⟩
    have HE1 := hide (HEr.out.below hb1)
    replace hb1 := hide hb1
    go_wp2_with fail
    refine (HF.out _ HE1.out).mono ?_
    rintro e w2 hO
    obtain ⟨hb2, (⟨h200, rfl⟩ | ⟨h200, v, rfl, hv⟩)⟩ := HFO.out _ _ _ hO
    · have h200' : ((fs.length : Nat) : Int) > 200 := by omega
      have HE2 := hide (HE1.out.below hb2)
      replace hb2 := hide hb2
      unfold errP
      clear hO HFO HF
      go_wp2_with fail
      refine (HH.out _).mono ?_
      rintro e w3 ⟨hb3, v3, rfl, hv3⟩
      obtain ⟨A3, c3, rfl⟩ := hv3.form
      have HE3 := hide (HE2.out.below hb3)
      replace hb3 := hide hb3
      go_wp2_with fail
      refine (HB.out _).ret ?_
      have HNm := hide (num_err 10 (by decide) w3 ea HE3.out)
      clear hv3 HH
      go_wp2_with fail
      refine (HNm.out).mono ?_
      rintro e w4 ⟨rfl, hb4⟩
      replace hb4 := hide hb4
      go_wp2
      go_ret
      have k2 := hb1.out.trans (hb2.out.mono hb1.out.size)
      have k3 := k2.trans (hb3.out.mono k2.size)
      exact ⟨by simp, k3.trans (hb4.out.mono k3.size)⟩
    · have h200' : ¬ (((fs.length : Nat) : Int) > 200) := by omega
      obtain ⟨A2, c2, rfl⟩ := hv.form
      replace hb2 := hide hb2
      replace hv := hide hv
      clear hO HFO HF
      go_wp2_with fail
      refine (HH.out _).mono ?_
      rintro e w3 ⟨hb3, v3, rfl, hv3⟩
      obtain ⟨A3, c3, rfl⟩ := hv3.form
      have HS := hide (rsame_yes w3 (hv.out.below hb3).fr hv3.fr (by omega))
      replace hb3 := hide hb3
      clear hv3 HH hv
      go_wp2_with fail
      refine (HB.out _).ret ?_
      go_wp2_with fail
      refine (HS.out).mono ?_
      rintro e w4 ⟨rfl, n4, hw4⟩
      have hb4 := hide (drewN_below hw4)
      clear hw4
      go_wp2
      go_ret
      have k2 := hb1.out.trans (hb2.out.mono hb1.out.size)
      have k3 := k2.trans (hb3.out.mono k2.size)
      exact ⟨by simp, k3.trans (hb4.out.mono k3.size)⟩
  · have g1 : (m.length : Int) > 20000 := by omega
    go_enter Tryd.func3, Tryd.ntmps3
    go_wp2_with fail
    refine (HA.out _).mono ?_
    rintro e w1 ⟨rfl, hb1⟩
    replace hb1 := hide hb1
    go_wp2
    go_ret
    exact ⟨rfl, hb1.out⟩
end Go.Proofs.YtgmdpjncgdojbaaDoor
