/- EnvelopeTexts. -/
/- What a row that lists ErrFull gives the walks. -/
import Derived.Test.YtkppeejbmalefaaGreatDoorU27
import Derived.Test.YtkppeejbmalefaaGreatDoorU30
import Derived.Test.YtkppeejbmalefaaGreatDoorRows
import Derived.Test.YtkppeejbmalefaaGreatDoorU08
import Derived.Stop.LaidErr
import Derived.LaidByTextLater
section
set_option linter.unusedSimpArgs false
set_option linter.unusedVariables false
namespace Go.Proofs.YtkppeejbmalefaaGreatDoor
open Go.RowKit Go.Shelf
set_option maxHeartbeats 2000000 in
theorem envelopeTexts_walk (m : List UInt8) (w : World) (ht : TabM w) (ea : Addr) (hE : EF w ea) : Calls Tryz.prog 3 #[.string ⟨m.toArray⟩] w fun e w' => e = .returned (.bool true) ∧ Below w.heap.size w w' := by
  have HA := hide (alive11 w ht)
  have HTb := hide ht
  have HEf := hide hE
  have hsz := size_lit m
  clear ht hE
  by_cases hl : m.length ≤ 10000
  · have g1 : ¬ ((m.length : Int) > 10000) := by omega
    have HP : Hid (∀ W, Below w.heap.size w W → Calls Tryz.prog 6 #[.string ⟨m.toArray⟩] W fun e w' => e = .returned (.string ⟨(envT m).toArray⟩) ∧ Below W.heap.size W w') := fun W hb => etext_any m W ea (fun _ => HEf.out.below hb) (HTb.out.below hb) hl
    have HQ : Hid (∀ W, Calls Tryz.prog 7 #[.string ⟨m.toArray⟩] W fun e w' => e = .returned (.string ⟨(envT m).toArray⟩) ∧ Below W.heap.size W w') := fun W => rtext11_any m W hl
    generalize envT m = T at *
    go_enter Tryz.func3, Tryz.ntmps3
    go_wp2_with fail
    refine HA.out.mono ?_
    rintro e w1 ⟨rfl, hb1⟩
    have HB1 := hide hb1
    clear hb1
    go_wp2_with fail
    refine (HP.out _ HB1.out).mono ?_
    rintro e w2 ⟨rfl, hb2⟩
    have HB2 := hide (HB1.out.trans (hb2.mono HB1.out.size))
    clear hb2
    go_wp2_with fail
    refine (HQ.out _).mono ?_
    rintro e w3 ⟨rfl, hb3⟩
    have HB3 := hide (HB2.out.trans (hb3.mono HB2.out.size))
    clear hb3
    go_wp2
    go_ret
    exact ⟨rfl, HB3.out⟩
  · have g1 : ((m.length : Int) > 10000) := by omega
    go_enter Tryz.func3, Tryz.ntmps3
    go_wp2_with fail
    refine HA.out.mono ?_
    rintro e w1 ⟨rfl, hb1⟩
    replace hb1 := hide hb1
    go_wp2
    go_ret
    exact ⟨rfl, hb1.out⟩
end Go.Proofs.YtkppeejbmalefaaGreatDoor

end
section
namespace Go.Proofs.YtkppeejbmalefaaGreatDoor
open Go.RowKit

theorem errStar : "*" ++ "errors.errorString" = "*errors.errorString" := by decide
theorem errRow (u : TypeId) (h : Tryz.prog.typeName? 3 u = some "*errors.errorString") : u = 163 :=
  typeName_ptr_named (nm := "errors.errorString") (by rw [errStar]; kernel_rfl) (by kernel_rfl) (by decide) u (by rw [errStar]; exact h)
theorem errCells : Tryz.prog.cellsOf 178 = 1 := by kernel_rfl
theorem strCells : Tryz.prog.cellsOf 9 = 1 := by kernel_rfl

/-- The first listed variable, where it is an error of the make of errors.New, of whatever program. -/
theorem laid_head_any {P : Program} {n nm : String} {text : List UInt8} {r : List (String × DataW Unit)} {W : World} {g : Nat} {ti tp te ts : TypeId} {ms : Array (String × TypeId)} {f : Field}
    (h : laidMet P ((n, .iface nm (.ptr (.agg [.lit (.string text)]))) :: r) W)
    (hg : P.globalNamed n = some g) (ht : (P.globals[g]?).map (·.type) = some ti) (hi : P.underlying ti = some (.interface ms)) (hrow : ∀ u, P.typeName? 3 u = some nm → u = tp)
    (hp : P.underlying tp = some (.pointer te)) (he : P.underlying te = some (.struct #[f])) (hft : f.type = ts) (hfo : f.offset = 0) (hs : P.underlying ts = some .string) (hc : P.cellsOf te = 1) (hcs : P.cellsOf ts = 1) :
    ∃ (a : Addr) (s : ByteArray) (c : Array Value) (t : TypeId), W.cell? ⟨g, 0, none⟩ = some (.iface tp (.pointer (some a))) ∧ W.cell? a = some (.string s) ∧ s.data.toList = text ∧ W.heap[a.block]? = some (.cells c t (0, 0)) ∧ g < W.heap.size := by
  obtain ⟨ps, ⟨g0, t0, cs0, f0, p0, q0, hg0, ht0, hv0, hd0, _, e0⟩, _, hrows⟩ := h
  obtain rfl := Option.some.inj (hg.symm.trans hg0)
  obtain rfl := Option.some.inj (ht.symm.trans ht0)
  subst e0
  obtain ⟨l0⟩ := cs0
  have ok0 : ∀ u v, l0 = [.iface u v] → Value.okWide P W .any 0 u v := fun u v e => by
    subst e
    exact (hrows g 0 (by simp [MemPlace.row])).2 u v (by simpa using World.var?_cell hg0 hv0 0)
  obtain ⟨a0, s0, rfl, hc0, hs0, hz0, rfl⟩ := errorString_of_trod hi hrow hp he hft hfo hs hc hcs hd0 ok0
  obtain ⟨c0, t0, hb0⟩ := (hrows a0.block a0.off (by simp [MemPlace.row])).1
  obtain ⟨c1, t1, hb1⟩ := (hrows g 0 (by simp [MemPlace.row])).1
  exact ⟨a0, s0, c0, t0, by simpa using World.var?_cell hg0 hv0 0, hc0, hs0, hb0, (Array.getElem?_eq_some_iff.1 hb1).1⟩
theorem laid_head {n : String} {text : List UInt8} {r : List (String × DataW Unit)} {W : World} {g : Nat} (h : laidMet Tryz.prog ((n, .iface "*errors.errorString" (.ptr (.agg [.lit (.string text)]))) :: r) W)
    (hg : Tryz.prog.globalNamed n = some g) (ht : (Tryz.prog.globals[g]?).map (·.type) = some 42) :
    ∃ (a : Addr) (s : ByteArray) (c : Array Value) (t : TypeId), W.cell? ⟨g, 0, none⟩ = some (.iface 163 (.pointer (some a))) ∧ W.cell? a = some (.string s) ∧ s.data.toList = text ∧ W.heap[a.block]? = some (.cells c t (0, 0)) ∧ g < W.heap.size :=
  laid_head_any h hg ht Tryz.underlying42 errRow Tryz.underlying163 Tryz.underlying178 rfl rfl Tryz.underlying9 errCells strCells

def textErrFull : List UInt8 := match (Rows.laid_postbag_api_ErrFull : DataW Unit) with | .iface _ (.ptr (.agg [.lit (.string t)])) => t | _ => []
theorem ef_of_laid {W : World} {r : List (String × DataW Unit)} (h : laidMet Tryz.prog (("postbag/api.ErrFull", Rows.laid_postbag_api_ErrFull) :: r) W) : ∃ a, EF W a := by
  obtain ⟨a, _, _, _, h1, _, _, _, h2⟩ := laid_head (text := textErrFull) (g := 0) h (by kernel_rfl) (by kernel_rfl)
  exact ⟨a, h1, h2⟩
end Go.Proofs.YtkppeejbmalefaaGreatDoor

end
