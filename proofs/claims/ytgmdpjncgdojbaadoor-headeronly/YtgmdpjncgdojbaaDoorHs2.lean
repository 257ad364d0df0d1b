/- alive: the chapter's example; HeaderSame. -/
import Derived.Test.YtgmdpjncgdojbaaDoorHs1
namespace Go.Proofs.YtgmdpjncgdojbaaDoor
open Go.RowKit Go.Shelf
/-- The example's message. -/
def exL : List UInt8 := [65, 58, 32, 120, 13, 10, 32, 121, 13, 10, 66, 58, 122, 13, 10, 13, 10, 98, 111, 100, 121]
theorem ex_hd : (hd (splitS exL) 0).1 = [⟨[65], [120, 32, 121], 0, 10⟩, ⟨[66], [122], 10, 15⟩] := by kernel_rfl
theorem ex_body : bodyL (splitS exL) 0 = 17 := by kernel_rfl
set_option maxRecDepth 20000 in
set_option maxHeartbeats 1000000 in
theorem alive_yes (w : World) : Calls Tryd.prog 9 #[] w fun e w' => e = .returned (.bool true) ∧ Below w.heap.size w w' := by
  have HF := hide (fields_any exL w ⟨0, 0, none⟩ (by rw [ex_hd]; intro h; exact absurd h (by decide)) (by decide))
  have HB := hide (fun w => body_any exL w (by decide))
  rw [ex_body] at HB
  have hx : (⟨#[65, 58, 32, 120, 13, 10, 32, 121, 13, 10, 66, 58, 122, 13, 10, 13, 10, 98, 111, 100, 121]⟩ : ByteArray) = ⟨exL.toArray⟩ := rfl
  go_enter Tryd.func9, Tryd.ntmps9
  rw [hx]
  clear hx
  go_wp2_with (first
    | (go_at_call 10; refine (HF.out).mono ?_
       rintro e w2 ⟨hb2, (⟨h1, _⟩ | ⟨_, v, rfl, hv⟩)⟩
       · rw [ex_hd] at h1
         exact absurd h1 (by decide)
       rw [ex_hd] at hv
       obtain ⟨g, o, cap, rfl, q1, q2, q3, q4, q5, q6, q7, q8⟩ := hv.read 0 (by decide)
       obtain ⟨g', o', cap', e', _, _, _, _, r5, r6, r7, r8⟩ := hv.read 1 (by decide)
       obtain ⟨rfl, rfl, rfl⟩ : g = g' ∧ o = o' ∧ cap = cap' := by
         simp at e'
         exact ⟨e'.1.1, e'.1.2, e'.2⟩
       replace hb2 := hide hb2
       simp only [List.getElem_cons_zero, List.getElem_cons_succ, List.length_cons, List.length_nil, Nat.zero_add, Nat.reduceAdd, Nat.zero_mul, Nat.one_mul, Nat.add_zero] at *
       clear q5 q7 q8 r5 r7 r8 e' hv)
    | (go_at_call 12; refine (HB.out _).mono ?_; rintro e w3 ⟨rfl, rfl⟩))
  go_ret
  exact ⟨rfl, hb2.out⟩
end Go.Proofs.YtgmdpjncgdojbaaDoor
