/- The law SeqsTurns, wherever package seqs answers as told. -/
import Derived.Test.YtbjencibkkhbhabGreatDoorSl2
import Derived.Test.YtbjencibkkhbhabGreatDoorCalm
set_option linter.unusedSimpArgs false
set_option linter.unusedVariables false
namespace Go.Proofs.YtbjencibkkhbhabGreatDoor
open Go.RowKit Go.Shelf
theorem alive14_at {w : World} {ea : Nat → Addr} (h1 : CSet w ea) (h2 : CFlags w ea) (h3 : COf w) (h4 : CFlagsText w) (W : World) (hW : Below w.heap.size w W) : CAlive W :=
  alive14 (ea := ea) (fun s W' a hW' => h1 s W' a (hW.trans (hW'.mono hW.size))) (fun s W' a hW' => h2 s W' a (hW.trans (hW'.mono hW.size))) (fun W' v u rs ns a b hW' => h3 W' v u rs ns a b (hW.trans (hW'.mono hW.size))) (fun W' f a hW' => h4 W' f a (hW.trans (hW'.mono hW.size)))
theorem ra_lit (w : World) (x y : Int) {c : Nat} : RA (w.alloc (.cells #[.int .i64 x, .int .i64 y] 33)) (.slice (some ⟨w.heap.size, 0, none⟩) 1 c) [(x, y)] :=
  ⟨_, _, rfl, fun i hi => by
    have hi0 : i = 0 := by simp at hi; omega
    subst hi0
    exact ⟨w.heap.size, 0, rfl, by simp, (Blk.new w #[.int .i64 x, .int .i64 y] 33).cell 0, (Blk.new w #[.int .i64 x, .int .i64 y] 33).cell 1⟩⟩
theorem RA.up {w : World} {v : Value} {rs : List (Int × Int)} (h : RA w v rs) (o : Obj) : RA (w.alloc o) v rs := h.below ((Below.refl _ w).alloc (Nat.le_refl _) o)
set_option maxRecDepth 20000 in
set_option maxHeartbeats 2000000 in
theorem seqsTurns_walk {w : World} (hA : ∀ W, Below w.heap.size w W → CAlive W) (hH : CHas w) (a b n mx : Int) :
    Calls Tryz.prog 4 #[.agg #[.int .i64 a, .int .i64 b, .int .i64 n, .int .i64 mx]] w fun e w' => e = .returned (.bool true) ∧ Below w.heap.size w w' := by
  have HA : Hid (∀ W, Below w.heap.size w W → Calls Tryz.prog 6 #[] W fun e w' => e = .returned (.bool true) ∧ Below w.heap.size w w') := fun W hW => (hA W hW).mono fun e w' h => ⟨h.1, hW.trans (h.2.mono hW.size)⟩
  have HH : Hid (∀ (W : World) (v : Value) (x y : Int), Below w.heap.size w W → RA W v [(x, y)] → Calls Tryz.prog 10 #[v, .int .i64 n, .int .i64 mx] W fun e w' => e = .returned (.bool (sqH (x, y) n mx)) ∧ Below W.heap.size W w') := fun W v x y hW h2 => (hH W v [(x, y)] n mx (by simp) hW h2).mono fun e w' h => ⟨by rw [h.1]; simp [sqIn], h.2⟩
  clear hA hH
  go_enter Tryz.func4, Tryz.ntmps4
  go_wp2_with fail
  have hb0 := hide ((Below.refl w.heap.size w).alloc (Nat.le_refl _) (.cells #[.int .i64 a, .int .i64 b, .int .i64 n, .int .i64 mx] 31))
  have hB := Blk.new w #[.int .i64 a, .int .i64 b, .int .i64 n, .int .i64 mx] 31
  have hlt := hB.lt
  have c0 := hB.cell 0
  have c1 := hB.cell 1
  have c2 := hB.cell 2
  have c3 := hB.cell 3
  generalize w.alloc (.cells #[.int .i64 a, .int .i64 b, .int .i64 n, .int .i64 mx] 31) = W0 at *
  have hn := ext_some W0
  have d0 : ∀ x : Ext W0, x.w.cell? ⟨w.heap.size, 0, none⟩ = some (.int .i64 a) := fun x => (x.ok.cell (p := ⟨w.heap.size, 0, none⟩) hlt).trans c0
  have d1 : ∀ x : Ext W0, x.w.cell? ⟨w.heap.size, 1, none⟩ = some (.int .i64 b) := fun x => (x.ok.cell (p := ⟨w.heap.size, 1, none⟩) hlt).trans c1
  have d2 : ∀ x : Ext W0, x.w.cell? ⟨w.heap.size, 2, none⟩ = some (.int .i64 n) := fun x => (x.ok.cell (p := ⟨w.heap.size, 2, none⟩) hlt).trans c2
  have d3 : ∀ x : Ext W0, x.w.cell? ⟨w.heap.size, 3, none⟩ = some (.int .i64 mx) := fun x => (x.ok.cell (p := ⟨w.heap.size, 3, none⟩) hlt).trans c3
  refine wp_region_ext (by kernel_rfl) (by kernel_rfl) ?_
  repeat (go_big_quiet_step (fail))
  refine wpQuiet_nil ?_
  rintro w1 ⟨⟨_, hb1⟩, rfl⟩
  have HB1 := hide (hb0.out.trans (hb1.mono hb0.out.size))
  clear hb1 hb0 hB c0 c1 c2 c3 d0 d1 d2 d3 hn hlt
  go_wp2_with fail
  refine (HA.out _ HB1.out).mono ?_
  rintro e w2 ⟨rfl, hb2⟩
  replace hb2 := hide hb2
  go_wp2_with fail
  have z1 := ((ra_lit w2 a b (c := 1)).up (.cells #[.int .i64 b, .int .i64 a] 33)).up (.cells #[.int .i64 0, .int .i64 0] 33)
  have z2 := (ra_lit (w2.alloc (.cells #[.int .i64 a, .int .i64 b] 33)) b a (c := 1)).up (.cells #[.int .i64 0, .int .i64 0] 33)
  have z3 := ra_lit ((w2.alloc (.cells #[.int .i64 a, .int .i64 b] 33)).alloc (.cells #[.int .i64 b, .int .i64 a] 33)) 0 0 (c := 1)
  have hb3 := ((hb2.out.alloc hb2.out.size (.cells #[.int .i64 a, .int .i64 b] 33)).alloc (hb2.out.alloc hb2.out.size _).size (.cells #[.int .i64 b, .int .i64 a] 33)).alloc ((hb2.out.alloc hb2.out.size _).alloc (hb2.out.alloc hb2.out.size _).size _).size (.cells #[.int .i64 0, .int .i64 0] 33)
  simp only [World.size_alloc] at z2 z3
  generalize ((w2.alloc (.cells #[.int .i64 a, .int .i64 b] 33)).alloc (.cells #[.int .i64 b, .int .i64 a] 33)).alloc (.cells #[.int .i64 0, .int .i64 0] 33) = W3 at *
  have H1 : Hid (Calls Tryz.prog 10 #[.slice (some ⟨w2.heap.size, 0, none⟩) 1 1, .int .i64 n, .int .i64 mx] W3 fun e w' => e = .returned (.bool (sqH (a, b) n mx)) ∧ Below W3.heap.size W3 w') := HH.out W3 _ a b hb3 z1
  have H2 : Hid (∀ W, Below W3.heap.size W3 W → Calls Tryz.prog 10 #[.slice (some ⟨w2.heap.size + 1, 0, none⟩) 1 1, .int .i64 n, .int .i64 mx] W fun e w' => e = .returned (.bool (sqH (a, b) n mx)) ∧ Below W3.heap.size W3 w') := fun W hW => (HH.out W _ b a (hb3.trans (hW.mono hb3.size)) (z2.below hW)).mono fun e w' h => ⟨by rw [sqH_turn]; exact h.1, hW.trans (h.2.mono hW.size)⟩
  have H3 : Hid (∀ W, Below W3.heap.size W3 W → Calls Tryz.prog 10 #[.slice (some ⟨w2.heap.size + 1 + 1, 0, none⟩) 1 1, .int .i64 n, .int .i64 mx] W fun e w' => e = .returned (.bool (decide (1 ≤ n) && decide (n = mx))) ∧ Below W3.heap.size W3 w') := fun W hW => (HH.out W _ 0 0 (hb3.trans (hW.mono hb3.size)) (z3.below hW)).mono fun e w' h => ⟨by rw [← sqH_star]; exact h.1, hW.trans (h.2.mono hW.size)⟩
  have HB3 := hide hb3
  clear hb3 z1 z2 z3 HH HA hb2 HB1
  generalize sqH (a, b) n mx = p at *
  refine H1.out.mono ?_
  rintro e w4 ⟨rfl, hb4⟩
  replace hb4 := hide hb4
  clear H1
  go_wp2_with fail
  refine (H2.out _ hb4.out).mono ?_
  rintro e w5 ⟨rfl, hb5⟩
  replace hb5 := hide hb5
  clear H2
  cases p
  all_goals go_wp2_with fail
  all_goals refine (H3.out _ hb5.out).mono ?_
  all_goals rintro e w6 ⟨rfl, hb6⟩
  all_goals have HB6 := hide (HB3.out.trans (hb6.mono HB3.out.size))
  all_goals clear hb6 H3
  all_goals by_cases h1 : 1 ≤ n
  all_goals by_cases h2 : n = mx
  all_goals simp only [h1, h2, decide_true, decide_false, Bool.and_true, Bool.and_false, Bool.true_and, Bool.false_and]
  all_goals go_wp2
  all_goals go_ret
  all_goals first
    | exact ⟨rfl, HB6.out⟩
    | (refine ⟨?_, HB6.out⟩
       have h3 : (n == mx) = false := by simpa using h2
       rw [h3]
       rfl)
end Go.Proofs.YtbjencibkkhbhabGreatDoor
