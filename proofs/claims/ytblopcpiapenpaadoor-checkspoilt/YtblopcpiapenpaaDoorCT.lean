/- Take. -/
import Derived.Test.YtblopcpiapenpaaDoorCF2
namespace Go.Proofs.YtblopcpiapenpaaDoor
open Go.RowKit
/-- What Take answers. -/
def TakeNo (w w' : World) (e : Ending) : Prop := e = .returned (.tuple #[.slice none 0 0, .slice none 0 0, .bool false]) ∧ Below w.heap.size w w'
def TakeYes (w w' : World) (e : Ending) (bs : List UInt8) (n : Nat) : Prop := ∃ v1 v2, e = .returned (.tuple #[v1, v2, .bool true]) ∧ BR w' v1 ((bs.drop 8).take n) ∧ BR w' v2 (bs.drop (8 + n)) ∧ Below w.heap.size w w'
set_option maxRecDepth 20000 in
set_option maxHeartbeats 4000000 in
theorem take_no (bs : List UInt8) (v : Value) (w : World) (h : BR w v bs) (hn : wholeN bs = none) :
    Calls Tryd.prog 8 #[v] w fun e w' => TakeNo w w' e := by
  have HF : Hid (Calls Tryd.prog 14 #[v] w fun e w' => FirstNo w w' e) := (first_any bs v w h).mono fun e w' hh => hh.1 hn
  obtain ⟨A, c, rfl, _⟩ := BR.form h
  clear h hn
  go_enter Tryd.func8, Tryd.ntmps8
  go_wp2_with (go_at_call 14; refine HF.out.mono ?_; rintro e w1 ⟨rfl, m, rfl⟩)
  go_ret3
  exact ⟨rfl, below_drewN _ _⟩
set_option maxRecDepth 20000 in
set_option maxHeartbeats 4000000 in
theorem take_yes (bs : List UInt8) (v : Value) (w : World) (h : BR w v bs) (hb : bs.length ≤ 900000) (n : Nat) (hn : wholeN bs = some n) :
    Calls Tryd.prog 8 #[v] w fun e w' => TakeYes w w' e bs n := by
  have HF : Hid (Calls Tryd.prog 14 #[v] w fun e w' => FirstYes v w w' e bs n) := (first_any bs v w h).mono fun e w' hh => hh.2 n hn
  have hl1 := hide (show ((bs.drop 8).take n).length ≤ 1000000 by rw [List.length_take, List.length_drop]; omega)
  have hl2 := hide (show (bs.drop (8 + n)).length ≤ 1000000 by rw [List.length_drop]; omega)
  obtain ⟨A, c, rfl, _⟩ := BR.form h
  clear h hn hb
  go_enter Tryd.func8, Tryd.ntmps8
  go_wp2_with fail
  refine HF.out.mono ?_
  rintro e w1 ⟨a1, n1, c1, a2, n2, c2, rfl, h1, h2, _, m, rfl⟩
  replace h1 := hide (h1.drewN m)
  replace h2 := hide (h2.drewN m)
  go_wp2_with fail
  refine (clone_any _ a1 n1 c1 _ h1.out hl1.out).mono ?_
  rintro e w2 ⟨v1, rfl, T1⟩
  replace T1 := hide T1
  replace h2 := hide (h2.out.below T1.out.1)
  go_wp2_with fail
  refine (clone_any _ a2 n2 c2 _ h2.out hl2.out).mono ?_
  rintro e w3 ⟨v2, rfl, T2⟩
  have T1' := hide (T1.out.then T2.1)
  replace T2 := hide T2
  have hB := hide ((below_drewN w m).trans ((T1'.out.1.mono (Nat.le_refl _))))
  go_wp2
  go_ret3
  exact ⟨_, _, rfl, T1'.out.br, T2.out.br, hB.out⟩
end Go.Proofs.YtblopcpiapenpaaDoor
