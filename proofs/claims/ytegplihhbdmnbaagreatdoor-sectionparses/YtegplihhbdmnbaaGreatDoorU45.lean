/- Rows and sections that are the same are told so: slices.Equal, section.Same, postbagnum.SameInts, the law's same. -/
import Derived.Test.YtegplihhbdmnbaaGreatDoorU44
import Derived.Test.YtegplihhbdmnbaaGreatDoorU31
set_option linter.unusedVariables false
namespace Go.Proofs.YtegplihhbdmnbaaGreatDoor
open Go.RowKit Go.Shelf
theorem ReadOf.tx2 {w : World} {v : Value} {xs : List (List UInt8)} (h : ReadOf ssF 1 w v xs) : TX w v xs := by
  obtain ⟨A, c, rfl, h⟩ := h
  refine ⟨A, c, rfl, fun i hi => ?_⟩
  obtain ⟨g, o, e, hg, hc⟩ := h i hi
  exact ⟨g, o, e, hg, by have := hc 0 (by omega); rw [Nat.mul_one, Nat.add_zero] at this; rw [this]; rfl⟩
set_option maxHeartbeats 1000000 in
theorem sameInts_yes {v1 v2 : Value} {xs : List Int} (w : World) (h1 : ReadOf siF 1 w v1 xs) (h2 : ReadOf siF 1 w v2 xs) (hl : xs.length ≤ 1000000) :
    Calls Tryz.prog 27 #[v1, v2] w fun e w' => e = .returned (.bool true) ∧ ∃ n, w' = w.drewN n := by
  have H1 := hide h1
  have H2 := hide h2
  obtain ⟨A1, c1, rfl⟩ := h1.form
  obtain ⟨A2, c2, rfl⟩ := h2.form
  clear h1 h2
  go_enter Tryz.func27, Tryz.ntmps27
  go_wp2
  go_loopw [13] (fun i wr => ∃ k : Nat, k ≤ xs.length ∧ i = .int .i64 k ∧ ∃ n, wr = w.drewN n) (fun i _ => xs.length - (intOf i).toNat)
  case atStart => exact ⟨0, Nat.zero_le _, rfl, 0, rfl⟩
  case round =>
    obtain ⟨k, hk, rfl, n, rfl⟩ := hrel
    by_cases hlt : k < xs.length
    · obtain ⟨g, o, d1, e1, _, q0⟩ := H1.out.at1 hlt
      obtain ⟨rfl, rfl⟩ : A1 = some ⟨g, o, none⟩ ∧ c1 = d1 := by injection e1 with a b c; exact ⟨a, c⟩
      obtain ⟨g2, o2, d2, e2, _, r0⟩ := H2.out.at1 hlt
      obtain ⟨rfl, rfl⟩ : A2 = some ⟨g2, o2, none⟩ ∧ c2 = d2 := by injection e2 with a b c; exact ⟨a, c⟩
      have q1 : w.cell? ⟨g, o + k, none⟩ = some (.int .i64 xs[k]) := q0
      have r1 : w.cell? ⟨g2, o2 + k, none⟩ = some (.int .i64 xs[k]) := r0
      have hlt' : (k : Int) < xs.length := by omega
      clear q0 r0 e1 e2
      generalize xs[k] = p at *
      go_wp2
      go_quiet (fail)
      go_wp2
      go_roundw
      case rel => exact ⟨k + 1, by omega, by go_num, _, rfl⟩
      case measure => simp [intOf]; omega
    · have hlt' : ¬ (k : Int) < xs.length := by omega
      go_wp2
      go_ret
      exact ⟨rfl, n, rfl⟩
set_option maxHeartbeats 2000000 in
theorem lawSame_yes (p : Spc) (pv nv pv2 nv2 : Value) (w : World) (h1 : SpA w pv nv p) (h2 : SpA w pv2 nv2 p) (hp : p.path.length ≤ 1000000) (hn : p.names.length ≤ 1000000) :
    Calls Tryz.prog 8 #[spV pv nv p, spV pv2 nv2 p] w fun e w' => e = .returned (.bool true) ∧ Below w.heap.size w w' := by
  obtain ⟨path, what, names⟩ := p
  obtain ⟨A, c, rfl⟩ := h1.path.form
  obtain ⟨A2, c2, rfl⟩ := h1.names.form
  obtain ⟨B, d, rfl⟩ := h2.path.form
  obtain ⟨B2, d2, rfl⟩ := h2.names.form
  simp only at *
  have HI : Hid (∀ W, Below w.heap.size w W → Calls Tryz.prog 27 #[.slice A path.length c, .slice B path.length d] W fun e w' => e = .returned (.bool true) ∧ Below W.heap.size W w') := fun W hW => (sameInts_yes W (h1.path.below hW) (h2.path.below hW) hp).mono fun e w' ⟨he, n, hn⟩ => ⟨he, hn ▸ bel_drewN _ _⟩
  have HS : Hid (∀ W, Below w.heap.size w W → Calls Tryz.prog 28 #[.slice A2 names.length c2, .slice B2 names.length d2] W fun e w' => e = .returned (.bool true) ∧ Below W.heap.size W w') := fun W hW => (tsame_yes W (h1.names.below hW).tx2 (h2.names.below hW).tx2 hn).mono fun e w' ⟨he, n, hn⟩ => ⟨he, hn ▸ bel_drewN _ _⟩
  have HB0 : Hid (Below w.heap.size w ((w.alloc (.cells #[.slice A path.length c, .string ⟨what.toArray⟩, .slice A2 names.length c2] 26)).alloc (.cells #[.slice B path.length d, .string ⟨what.toArray⟩, .slice B2 names.length d2] 31))) := ((Below.refl _ _).alloc (Nat.le_refl _) _).alloc (by simp) _
  have HK1 := hide ((Blk.new w #[.slice A path.length c, .string ⟨what.toArray⟩, .slice A2 names.length c2] 26).alloc (.cells #[.slice B path.length d, .string ⟨what.toArray⟩, .slice B2 names.length d2] 31))
  have HK2 := hide (Blk.new1 w (.cells #[.slice A path.length c, .string ⟨what.toArray⟩, .slice A2 names.length c2] 26) #[.slice B path.length d, .string ⟨what.toArray⟩, .slice B2 names.length d2] 31)
  clear h1 h2
  unfold spV
  simp only
  go_enter Tryz.func8, Tryz.ntmps8
  go_wp2_with (first
    | (go_at_call 27; refine (HI.out _ HB0.out).mono ?_; rintro e w1 ⟨rfl, hb1⟩; have hb1' := hide (HB0.out.trans (hb1.mono HB0.out.size)); have hk1 := HK1.out.below hb1 HK1.out.lt; have hk2 := HK2.out.below hb1 HK2.out.lt; have hc1 := hk1.cell; have hc2 := hk2.cell; clear hk1 hk2 hb1)
    | (go_at_call 28; refine (HS.out _ hb1'.out).mono ?_; rintro e w2 ⟨rfl, hb2⟩; replace hb2 := hide hb2))
  go_ret
  exact ⟨rfl, hb1'.out.trans (hb2.out.mono hb1'.out.size)⟩
end Go.Proofs.YtegplihhbdmnbaaGreatDoor
