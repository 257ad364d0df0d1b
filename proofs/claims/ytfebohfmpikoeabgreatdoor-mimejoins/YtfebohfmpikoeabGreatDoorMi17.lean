/- alive: the chapter's examples. -/
import Derived.Test.YtfebohfmpikoeabGreatDoorMi16
import Derived.Test.YtfebohfmpikoeabGreatDoorMi4
set_option linter.unusedSimpArgs false
set_option linter.unusedVariables false
namespace Go.Proofs.YtfebohfmpikoeabGreatDoor
open Go.RowKit Go.Shelf
set_option maxRecDepth 20000 in
set_option maxHeartbeats 2000000 in
theorem alive10 (w : World) (ea ef : Addr) (hE : EF w ea) (hF : EFm w ef) (ht : TabM w) : Calls Tryz.prog 4 #[] w fun e w' => e = .returned (.bool true) ∧ Below w.heap.size w w' := by
  have HTy := hide (type_any exT w ef hF (by decide))
  have HPs : Hid (∀ W, Below w.heap.size w W → Calls Tryz.prog 6 #[.string ⟨exM.toArray⟩] W fun e w' => Below W.heap.size W w' ∧ ∃ v, e = .returned v ∧ PA 33 (fun g => W.heap.size ≤ g) w' v (parseP 32 exM 0 exM.length)) := fun W hW => pparse_any exM W ea ef (hE.below hW) (hF.below hW) (by decide)
  have HTx : Hid (∀ W v, Below w.heap.size w W → PA 33 (fun g => 0 ≤ g) W v (parseP 32 exM 0 exM.length) → Calls Tryz.prog 8 #[v] W fun e w' => e = .returned (.string ⟨exS.toArray⟩) ∧ Below W.heap.size W w') := fun W v hW hp => by
    rw [← exM_text]
    exact text_any _ v W hp exM_ok (ht.below hW) (by rw [exM_text]; decide)
  clear hE hF ht
  go_enter Tryz.func4, Tryz.ntmps4
  go_wp2_with fail
  refine HTy.out.mono ?_
  rintro e w2 ⟨hb2, hm2⟩
  rw [exT_type] at hm2
  obtain ⟨v, rfl, hr⟩ := hm2
  obtain ⟨g, o, cap, rfl, q1, q2, q3, q4, q5⟩ := RowOf.read (f := Pm.cs) (sz := 2) (fun _ => rfl) hr 0 (by simp)
  have q6 : w2.cell? ⟨g, o + 1, none⟩ = some (.string ⟨#[97, 32, 98]⟩) := q5 1 (by omega)
  have HB2 := hide hb2
  clear q5 hr hb2 q3
  simp only [List.length_cons, List.length_nil, Nat.zero_add] at q1 ⊢
  go_wp2_with fail
  refine (HPs.out _ HB2.out).mono ?_
  rintro e w3 ⟨hb3, v3, rfl, hp3⟩
  have HP3 := hide (hp3.mono (S' := fun g => 0 ≤ g) (fun g _ _ => Nat.zero_le _))
  have HB3 := hide (HB2.out.trans (hb3.mono HB2.out.size))
  clear hb3 hp3
  go_wp2_with fail
  refine (HTx.out _ _ HB3.out HP3.out).mono ?_
  rintro e w4 ⟨rfl, hb4⟩
  have HB4 := hide (HB3.out.trans (hb4.mono HB3.out.size))
  clear hb4
  unfold exS
  go_wp2
  go_ret
  exact ⟨rfl, HB4.out⟩
end Go.Proofs.YtfebohfmpikoeabGreatDoor
