/- RedoReads: which bytes are a change's, and that what is read is written as it was. -/
import Derived.Test.YtcbkmcagnmpifaaGreatDoorU42
import Derived.Test.YtcbkmcagnmpifaaGreatDoorU44
namespace Go.Proofs.YtcbkmcagnmpifaaGreatDoor
open Go.RowKit
set_option maxRecDepth 20000 in
set_option maxHeartbeats 8000000 in
theorem redoReads_walk (b : List UInt8) (v : Value) (w : World) (a : Nat → Addr) (hE : Errs w a) (h : BR w v b) :
    Calls Tryz.prog 4 #[v] w fun e w' => e = .returned (.bool true) ∧ Below w.heap.size w w' := by
  have HAl := hide (alive_yes w a hE)
  have HV := hide (fun w' (hb : Below w.heap.size w w') => h.below hb)
  have HE := hide (fun w' (hb : Below w.heap.size w w') => hE.below hb)
  obtain ⟨A, c, rfl, hlc, hm, _⟩ := BR.form h
  have hmx : c ≤ 9223372036854775807 := by simp only [maxLen] at hm; omega
  clear h hE hm
  go_enter Tryz.func4, Tryz.ntmps4
  go_wp2_with fail
  refine HAl.out.mono ?_
  rintro e w1 ⟨rfl, hb1⟩
  have HB1 := hide hb1
  clear hb1 HAl
  by_cases hlong : 20000 < b.length
  · have hlz : (20000 : Int) < b.length := by omega
    go_wp2
    go_ret
    exact ⟨rfl, HB1.out⟩
  · have hlz : ¬ (20000 : Int) < b.length := by omega
    go_wp2_with fail
    refine (bytes_any _ b w1 (HV.out w1 HB1.out) (by omega)).mono ?_
    rintro e w2 ⟨g2, o2, cap2, rfl, hC2, hg2, hb2⟩
    have HB2 := hide (HB1.out.trans (hb2.mono HB1.out.size))
    have HC2 := hide hC2
    have hcap := hC2.cap
    have HOp := hide (oops_any b _ w2 (.inr ⟨g2, o2, cap2, rfl, hC2.row.br⟩) (by omega) a (HE.out w2 HB2.out))
    clear hb2 HB1 hC2 hg2
    go_wp2_with fail
    refine HOp.out.mono ?_
    rintro e w3 ⟨hb3, hO⟩
    have HB3 := hide (HB2.out.trans (hb3.mono HB2.out.size))
    have HC3 := hide (HC2.out.keep (S := fun _ => False) (Mvs.of_below hb3) (fun _ _ c => c))
    have HRo := rops_any b _ w3 (HV.out w3 HB3.out) (by omega)
    clear hb3 HB2 HC2 HOp
    cases ho : opsOf b with
    | none =>
      rw [ho] at hO HRo
      have hO' : e = .returned (.tuple #[.slice none 0 0, errV a 1]) := hO
      subst hO'
      replace HRo := hide HRo
      clear hO ho
      unfold errV
      go_wp2_with fail
      refine HRo.out.mono ?_
      rintro e w4 ⟨⟨u4, rfl⟩, hb4⟩
      have HB4 := hide (HB3.out.trans (hb4.mono HB3.out.size))
      have HC4 := hide (HC3.out.keep (S := fun _ => False) (Mvs.of_below hb4) (fun _ _ c => c))
      have HKp := hide (kept_any g2 o2 cap2 b _ w4 HC4.out (HV.out w4 HB4.out) (by omega))
      clear hb4 HB3 HC3 HRo
      simp only [Option.isSome_none]
      go_wp2_with (go_at_call 16; refine HKp.out.mono ?_; rintro e w5 ⟨rfl, hb5⟩; replace hb5 := hide hb5)
      have HB5 := hide (HB4.out.trans (hb5.out.mono HB4.out.size))
      have HN := hide (num_err 1 (by decide) w5 a (HE.out w5 HB5.out))
      unfold errV at HN
      go_wp2_with (go_at_call 10; refine HN.out.mono ?_; rintro e w6 ⟨rfl, hb6⟩; replace hb6 := hide hb6)
      go_ret
      exact ⟨rfl, HB5.out.trans (hb6.out.mono HB5.out.size)⟩
    | some ys =>
      rw [ho] at hO HRo
      obtain ⟨v3, xs, rfl, hP, hx⟩ := hO
      obtain ⟨e1, e2⟩ := opsOf_back ho
      rw [← hx, opsB_erase] at e1
      rw [← hx, form_erase] at e2
      have X3 := hide hP.1
      obtain ⟨A3, c3, rfl, hl3, hm3⟩ := hP.1.form
      have hmx3 : c3 ≤ 9223372036854775807 := by simp only [maxLen] at hm3; omega
      have hob := obytes_yes xs
      rw [e1] at hob
      replace hob := hide hob
      replace e2 := hide e2
      replace HRo := hide HRo
      clear hP hm3 e1 hx ho
      go_wp2_with fail
      refine HRo.out.mono ?_
      rintro e w4 ⟨⟨u4, rfl⟩, hb4⟩
      have HB4 := hide (HB3.out.trans (hb4.mono HB3.out.size))
      have HC4 := hide (HC3.out.keep (S := fun _ => False) (Mvs.of_below hb4) (fun _ _ c => c))
      have X4 := hide (X3.out.below hb4)
      have HKp := hide (kept_any g2 o2 cap2 b _ w4 HC4.out (HV.out w4 HB4.out) (by omega))
      clear hb4 HB3 HC3 HRo X3
      simp only [Option.isSome_some]
      go_wp2_with (go_at_call 16; refine HKp.out.mono ?_; rintro e w5 ⟨rfl, hb5⟩; replace hb5 := hide hb5)
      have HB5 := hide (HB4.out.trans (hb5.out.mono HB4.out.size))
      have HBy := hide (hob.out _ w5 (X4.out.below hb5.out) e2.out)
      clear HB4 HC4 HKp hb5
      go_wp2_with fail
      refine HBy.out.mono ?_
      rintro e w6 ⟨v6, rfl, T6⟩
      have HB6 := hide (HB5.out.trans (T6.1.mono HB5.out.size))
      have hc1 := T6.br.convert
      have hc2 := (HV.out w6 HB6.out).convert
      obtain ⟨A6, c6, rfl, _⟩ := BR.form T6.br
      clear T6
      go_wp2
      go_ret
      exact ⟨rfl, HB6.out⟩
end Go.Proofs.YtcbkmcagnmpifaaGreatDoor
