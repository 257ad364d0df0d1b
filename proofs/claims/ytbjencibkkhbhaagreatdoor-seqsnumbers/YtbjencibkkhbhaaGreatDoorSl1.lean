/- What the laws of layer 14 ask of package seqs; alive; the laws SeqsNumbers, SeqsFlags, SeqsSets, SeqsHas, SeqsOf, wherever package seqs answers as told. -/
import Derived.Test.YtbjencibkkhbhaaGreatDoorSq7
import Derived.Test.YtbjencibkkhbhaaGreatDoorNum
set_option linter.unusedSimpArgs false
set_option linter.unusedVariables false
namespace Go.Proofs.YtbjencibkkhbhaaGreatDoor
open Go.RowKit Go.Shelf
def errF (ea : Nat → Addr) : Value := .iface 151 (.pointer (some (ea 1)))
def CSet (w : World) (ea : Nat → Addr) : Prop := ∀ (s : List UInt8) (W : World), s.length ≤ 100000 → Below w.heap.size w W → Calls Tryz.prog 10 #[.string ⟨s.toArray⟩] W fun e w' => Below W.heap.size W w' ∧ ((∃ set A c, sqS s = some set ∧ e = .returned (.tuple #[.slice A set.length c, .nilIface]) ∧ RA w' (.slice A set.length c) (set.map natR)) ∨ (sqS s = none ∧ e = .returned (.tuple #[.slice none 0 0, errF ea])))
def CFlags (w : World) (ea : Nat → Addr) : Prop := ∀ (s : List UInt8) (W : World), s.length ≤ 100000 → Below w.heap.size w W → Calls Tryz.prog 21 #[.string ⟨s.toArray⟩] W fun e w' => Below W.heap.size W w' ∧ ((∃ f, flO s = some f ∧ e = .returned (.tuple #[.int .i64 ((f : Nat) : Int), .nilIface])) ∨ (flO s = none ∧ e = .returned (.tuple #[.int .i64 0, errF ea])))
def COf (w : World) : Prop := ∀ (W : World) (v u : Value) (rs : List (Int × Int)) (ns : List Int), rs.length ≤ 1000 → ns.length ≤ 1000 → Below w.heap.size w W → RA W v rs → IA W u ns → Calls Tryz.prog 19 #[v, u] W fun e w' => ∃ A c, e = .returned (.slice A (sqOf rs ns).length c) ∧ Below W.heap.size W w' ∧ IA w' (.slice A (sqOf rs ns).length c) (sqOf rs ns)
def CFlagsText (w : World) : Prop := ∀ (W : World) (f : Nat), f < 32 → Below w.heap.size w W → Calls Tryz.prog 25 #[.int .i64 ((f : Nat) : Int)] W fun e w' => e = .returned (.string ⟨(flT f).toArray⟩) ∧ Below W.heap.size W w'
theorem ia_lit {w : World} {g : Nat} {zs : List Int} {t : TypeId} (h : Blk w g (zs.map iv).toArray t) {c : Nat} : IA w (.slice (some ⟨g, 0, none⟩) zs.length c) zs :=
  ⟨_, _, rfl, fun i hi => ⟨g, 0, rfl, h.lt, by rw [Nat.zero_add, h.cell]; simp [List.getElem?_eq_getElem hi, iv]⟩⟩
set_option maxRecDepth 20000 in
set_option maxHeartbeats 2000000 in
theorem alive14 {w : World} {ea : Nat → Addr} (h1 : CSet w ea) (h2 : CFlags w ea) (h3 : COf w) (h4 : CFlagsText w) : Calls Tryz.prog 9 #[] w fun e w' => e = .returned (.bool true) ∧ Below w.heap.size w w' := by
  have H1 : Hid (Calls Tryz.prog 10 #[.string ⟨#[50, 58, 52, 44, 42]⟩] w fun e w' => Below w.heap.size w w' ∧ ∃ A c, e = .returned (.tuple #[.slice A 2 c, .nilIface]) ∧ RA w' (.slice A 2 c) [(2, 4), (0, 0)]) := (h1 [50, 58, 52, 44, 42] w (by decide) (Below.refl _ _)).mono fun e w' h => by
    obtain ⟨hb, ⟨set, A, c, e1, e2, e3⟩ | ⟨e1, _⟩⟩ := h
    · have : set = [(2, 4), (0, 0)] := Option.some.inj (e1.symm.trans (by decide))
      subst this
      exact ⟨hb, A, c, e2, e3⟩
    · exact absurd e1 (by decide)
  have H2 : Hid (∀ W, Below w.heap.size w W → Calls Tryz.prog 21 #[.string ⟨#[40, 92, 115, 101, 101, 110, 41]⟩] W fun e w' => Below W.heap.size W w' ∧ e = .returned (.tuple #[.int .i64 1, .nilIface])) := fun W hW => (h2 [40, 92, 115, 101, 101, 110, 41] W (by decide) hW).mono fun e w' h => by
    obtain ⟨hb, ⟨f, e1, e2⟩ | ⟨e1, _⟩⟩ := h
    · have : f = 1 := Option.some.inj (e1.symm.trans (by decide))
      subst this
      exact ⟨hb, e2⟩
    · exact absurd e1 (by decide)
  have H3 : Hid (∀ W v u, Below w.heap.size w W → RA W v [(2, 4), (0, 0)] → IA W u [1, 3, 9] → Calls Tryz.prog 19 #[v, u] W fun e w' => ∃ A c, e = .returned (.slice A 2 c) ∧ Below W.heap.size W w' ∧ IA w' (.slice A 2 c) [3, 9]) := fun W v u hW hv hu => by
    have h := h3 W v u [(2, 4), (0, 0)] [1, 3, 9] (by decide) (by decide) hW hv hu
    rwa [show sqOf [(2, 4), (0, 0)] [1, 3, 9] = [3, 9] from by decide] at h
  have H4 : Hid (∀ W, Below w.heap.size w W → Calls Tryz.prog 25 #[.int .i64 9] W fun e w' => e = .returned (.string ⟨#[40, 92, 83, 101, 101, 110, 32, 92, 68, 101, 108, 101, 116, 101, 100, 41]⟩) ∧ Below W.heap.size W w') := fun W hW => by
    have h := h4 W 9 (by decide) hW
    rwa [show flT 9 = [40, 92, 83, 101, 101, 110, 32, 92, 68, 101, 108, 101, 116, 101, 100, 41] from by decide] at h
  clear h1 h2 h3 h4
  go_enter Tryz.func9, Tryz.ntmps9
  go_wp2_with (first
    | (go_at_call 10; refine H1.out.mono ?_; rintro e w1 ⟨hb1, A, c, rfl, hr1⟩; replace hb1 := hide hb1; replace hr1 := hide hr1)
    | (go_at_call 21; refine (H2.out _ hb1.out).mono ?_; rintro e w2 ⟨hb2, rfl⟩; replace hb2 := hide hb2))
  have HB3 := hide ((hb1.out.trans (hb2.out.mono hb1.out.size)).alloc (hb1.out.trans (hb2.out.mono hb1.out.size)).size (.cells #[.int .i64 1, .int .i64 3, .int .i64 9] 3))
  have HR3 := hide ((hr1.out.below hb2.out).below ((Below.refl _ w2).alloc (Nat.le_refl _) (.cells #[.int .i64 1, .int .i64 3, .int .i64 9] 3)))
  have HI3 := hide (ia_lit (zs := [1, 3, 9]) (Blk.new w2 #[.int .i64 1, .int .i64 3, .int .i64 9] 3) (c := 3))
  refine (H3.out _ _ _ HB3.out HR3.out HI3.out).mono ?_
  rintro e w3 ⟨A3, c3, rfl, hb3, hi3⟩
  have HB4 := hide (HB3.out.trans (hb3.mono HB3.out.size))
  have HI4 := hide hi3
  clear hb3 hi3 HB3 HR3 HI3 hb1 hb2 hr1
  go_wp2_with fail
  have HB5 := hide (HB4.out.alloc HB4.out.size (.cells #[.int .i64 3, .int .i64 9] 3))
  refine (isame_yes _ (HI4.out.below ((Below.refl _ w3).alloc (Nat.le_refl _) (.cells #[.int .i64 3, .int .i64 9] 3))) (ia_lit (zs := [3, 9]) (Blk.new w3 #[.int .i64 3, .int .i64 9] 3) (c := 2)) (by decide)).mono ?_
  rintro e w6 ⟨rfl, n6, rfl⟩
  have HB6 : Hid (Below w.heap.size w ((w3.alloc (.cells #[.int .i64 3, .int .i64 9] 3)).drewN n6)) := HB5.out.trans ((bel_drewN _ n6).mono HB5.out.size)
  go_wp2_with fail
  refine (H4.out _ HB6.out).mono ?_
  rintro e w7 ⟨rfl, hb7⟩
  have HB7 := hide (HB6.out.trans (hb7.mono HB6.out.size))
  clear hb7
  go_wp2
  go_ret
  exact ⟨rfl, HB7.out⟩
end Go.Proofs.YtbjencibkkhbhaaGreatDoor
