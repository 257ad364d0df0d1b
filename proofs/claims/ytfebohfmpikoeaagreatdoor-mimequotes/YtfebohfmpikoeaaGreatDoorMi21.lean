/- MimeQuotes. -/
import Derived.Test.YtfebohfmpikoeaaGreatDoorMi17
import Derived.Test.YtfebohfmpikoeaaGreatDoorMi20
set_option linter.unusedSimpArgs false
set_option linter.unusedVariables false
namespace Go.Proofs.YtfebohfmpikoeaaGreatDoor
open Go.RowKit Go.Shelf
set_option maxRecDepth 20000 in
set_option maxHeartbeats 1000000 in
theorem mimeQuotes_walk (s : List UInt8) (w : World) (ht : TabM w) (ea ef : Addr) (hE : EF w ea) (hF : EFm w ef) : Calls Tryz.prog 6 #[.string ⟨s.toArray⟩] w fun e w' => e = .returned (.bool true) ∧ Below w.heap.size w w' := by
  have HA := hide (alive10 w ea ef hE hF ht)
  have HT := hide ht
  have hsm := size_lit s
  clear hE hF ht
  by_cases h1 : s.length ≤ 20000
  · have g1 : ¬ ((s.length : Int) > 20000) := by omega
    have HQ : Hid (∀ W, Below w.heap.size w W → Calls Tryz.prog 22 #[.string ⟨s.toArray⟩] W fun e w' => e = .returned (.string ⟨(quoI s).toArray⟩) ∧ Below W.heap.size W w') := fun W hW => quote_any s W (HT.out.below hW) (by omega)
    have HR := hide (fun W => rquote_any s W (by omega))
    generalize quoI s = q at *
    go_enter Tryz.func6, Tryz.ntmps6
    go_wp2_with fail
    refine HA.out.mono ?_
    rintro e w1 ⟨rfl, hb1⟩
    have HB1 := hide hb1
    clear hb1
    go_wp2_with fail
    refine (HQ.out _ HB1.out).mono ?_
    rintro e w2 ⟨rfl, hb2⟩
    have HB2 := hide (HB1.out.trans (hb2.mono HB1.out.size))
    clear hb2
    go_wp2_with fail
    refine (HR.out _).mono ?_
    rintro e w3 ⟨rfl, hb3⟩
    have HB3 := hide (HB2.out.trans (hb3.mono HB2.out.size))
    clear hb3
    go_wp2
    go_ret
    exact ⟨rfl, HB3.out⟩
  · have g1 : ((s.length : Int) > 20000) := by omega
    go_enter Tryz.func6, Tryz.ntmps6
    go_wp2_with fail
    refine HA.out.mono ?_
    rintro e w1 ⟨rfl, hb1⟩
    have HB1 := hide hb1
    clear hb1
    go_wp2
    go_ret
    exact ⟨rfl, HB1.out⟩
end Go.Proofs.YtfebohfmpikoeaaGreatDoor
