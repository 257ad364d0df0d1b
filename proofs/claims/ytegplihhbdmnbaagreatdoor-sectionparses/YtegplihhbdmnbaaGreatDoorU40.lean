/- Parse of package section. -/
import Derived.Test.YtegplihhbdmnbaaGreatDoorU39
set_option linter.unusedVariables false
set_option linter.unusedSimpArgs false
namespace Go.Proofs.YtegplihhbdmnbaaGreatDoor
open Go.RowKit Go.Shelf
/-- The package-level variable ErrForm holds an error. -/
structure EFs (w : World) (a : Addr) : Prop where
  cell : w.cell? ⟨0, 0, none⟩ = some (.iface 183 (.pointer (some a)))
  low : 0 < w.heap.size
theorem EFs.below {w w' : World} {a : Addr} (h : EFs w a) (hb : Below w.heap.size w w') : EFs w' a := ⟨(hb.cell (p := ⟨0, 0, none⟩) h.low).trans h.cell, Nat.lt_of_lt_of_le h.low hb.size⟩
def errS (a : Addr) : Value := .iface 183 (.pointer (some a))
def zSp : Value := .agg #[.slice none 0 0, .string ⟨#[]⟩, .slice none 0 0]
theorem lt_al (w : World) (o : Obj) : w.heap.size < (w.alloc o).heap.size := by rw [World.size_alloc]; omega
set_option maxRecDepth 20000 in
set_option maxHeartbeats 4000000 in
theorem prs_A (t : List UInt8) (w : World) (a : Addr) (hE : EFs w a) (hT : ∀ W, Below w.heap.size w W → Calls Tryz.prog 19 #[.string ⟨t.toArray⟩] W (TkOut W none)) :
    Calls Tryz.prog 6 #[.string ⟨t.toArray⟩] w fun e w' => e = .returned (.tuple #[zSp, errS a]) ∧ Below w.heap.size w w' := by
  have KEY : Hid (∀ w1 : World, Below w.heap.size w w1 → w1.cell? ⟨0, 0, none⟩ = some (.iface 183 (.pointer (some a)))) := fun w1 hb => (hE.below hb).cell
  have hlow := hE.low
  have hne0 : ¬ w.heap.size = 0 := fun e => by omega
  have hne1 : ¬ 0 = w.heap.size := fun e => hne0 e.symm
  clear hE
  have HB0 := hide ((Below.refl w.heap.size w).alloc (Nat.le_refl _) (.cells #[.slice none 0 0, .string ⟨#[]⟩, .slice none 0 0] 26))
  have HK0 := hide (Blk.new w #[.slice none 0 0, .string ⟨#[]⟩, .slice none 0 0] 26)
  have HT := hide hT
  clear hT
  unfold zSp errS
  go_enter Tryz.func6, Tryz.ntmps6
  go_wp2_with (first
    | (go_at_call 19; refine (HT.out _ HB0.out).mono ?_; rintro e w1 ⟨rfl, hb1⟩; replace hb1 := hide hb1))
  have hbE := HB0.out.trans (hb1.out.mono HB0.out.size)
  have hkE := HK0.out.below hb1.out HK0.out.lt
  have hge := KEY.out _ hbE
  have hc := hkE.cell
  have hf := hkE.frozen
  replace hbE := hide hbE
  replace hkE := hide hkE
  go_region
  all_goals
    go_wp2
    have h4 := (((hkE.out.set 0 (.slice none 0 0)).set 1 (.string ⟨#[]⟩)).set 2 (.slice none 0 0)).cell
    exact bodyPost_ret (v := .tuple #[.agg #[.slice none 0 0, .string ⟨#[]⟩, .slice none 0 0], .iface 183 (.pointer (some a))]) (by simp [results, Tryz.results6, go_sem, h4]) rfl ⟨rfl, (((hbE.out.setCell (p := ⟨w.heap.size, 0, none⟩) (Nat.le_refl _) _).setCell (p := ⟨w.heap.size, 1, none⟩) (Nat.le_refl _) _).setCell (p := ⟨w.heap.size, 2, none⟩) (Nat.le_refl _) _).drew⟩
set_option maxRecDepth 20000 in
set_option maxHeartbeats 4000000 in
theorem prs_B (t rest : List UInt8) (path : List Int) (w : World) (a : Addr) (hE : EFs w a) (hT : ∀ W, Below w.heap.size w W → Calls Tryz.prog 19 #[.string ⟨t.toArray⟩] W (TkOut W (some (path, rest)))) (hrl : rest.length ≤ 1000000) (hw : whatO (cutV 32 rest).1 = none) :
    Calls Tryz.prog 6 #[.string ⟨t.toArray⟩] w fun e w' => e = .returned (.tuple #[zSp, errS a]) ∧ Below w.heap.size w w' := by
  have KEY : Hid (∀ w1 : World, Below w.heap.size w w1 → w1.cell? ⟨0, 0, none⟩ = some (.iface 183 (.pointer (some a)))) := fun w1 hb => (hE.below hb).cell
  have hlow := hE.low
  have hne0 : ¬ w.heap.size = 0 := fun e => by omega
  have hne1 : ¬ 0 = w.heap.size := fun e => hne0 e.symm
  clear hE
  have HB0 := hide ((Below.refl w.heap.size w).alloc (Nat.le_refl _) (.cells #[.slice none 0 0, .string ⟨#[]⟩, .slice none 0 0] 26))
  have HK0 := hide (Blk.new w #[.slice none 0 0, .string ⟨#[]⟩, .slice none 0 0] 26)
  have HT := hide hT
  have HC := hide (fun W => cut_any 32 rest W hrl)
  have hcl := cut_lens 32 rest
  have HW := hide (fun W => whatOf_any (cutV 32 rest).1 W (by omega))
  have hwv : whatV (cutV 32 rest).1 = ([], false) := by unfold whatV; rw [hw]
  rw [hwv] at HW
  clear hT hw hwv
  unfold zSp errS
  generalize (cutV 32 rest).1 = word at *
  generalize (cutV 32 rest).2.1 = lst at *
  generalize (cutV 32 rest).2.2 = lsd at *
  go_enter Tryz.func6, Tryz.ntmps6
  go_wp2_with (first
    | (go_at_call 19; refine (HT.out _ HB0.out).mono ?_; rintro e w1 ⟨pv, rfl, hpv, hlo1, hb1⟩; obtain ⟨A, cA, rfl⟩ := hpv.form; replace hpv := hide hpv; replace hlo1 := hide hlo1; have hb1' := hide (HB0.out.trans (hb1.mono HB0.out.size)); have hk1 := hide (HK0.out.below hb1 HK0.out.lt); clear hb1)
    | (go_at_call 20; refine (HC.out _).mono ?_; rintro e w2 ⟨rfl, hb2⟩; have hpv2 := hide (hpv.out.below hb2); have hb2' := hide (hb1'.out.trans (hb2.mono hb1'.out.size)); have hk2 := hide (hk1.out.below hb2 hk1.out.lt); clear hb2)
    | (go_at_call 21; refine (HW.out _).mono ?_; rintro e w3 ⟨rfl, hb3⟩; have hpv3 := hide (hpv2.out.below hb3); have hb3' := hide (hb2'.out.trans (hb3.mono hb2'.out.size)); have hk3 := hide (hk2.out.below hb3 hk2.out.lt); clear hb3))
  have hbE := hb3'.out
  have hkE := hk3.out
  have hge := KEY.out _ hbE
  have hc := hkE.cell
  have hf := hkE.frozen
  replace hbE := hide hbE
  replace hkE := hide hkE
  go_region
  all_goals
    go_wp2
    have h4 := (((hkE.out.set 0 (.slice none 0 0)).set 1 (.string ⟨#[]⟩)).set 2 (.slice none 0 0)).cell
    exact bodyPost_ret (v := .tuple #[.agg #[.slice none 0 0, .string ⟨#[]⟩, .slice none 0 0], .iface 183 (.pointer (some a))]) (by simp [results, Tryz.results6, go_sem, h4]) rfl ⟨rfl, (((hbE.out.setCell (p := ⟨w.heap.size, 0, none⟩) (Nat.le_refl _) _).setCell (p := ⟨w.heap.size, 1, none⟩) (Nat.le_refl _) _).setCell (p := ⟨w.heap.size, 2, none⟩) (Nat.le_refl _) _).drew⟩
set_option maxRecDepth 20000 in
set_option maxHeartbeats 4000000 in
theorem prs_C (t rest what : List UInt8) (path : List Int) (w : World) (a : Addr) (hE : EFs w a) (hT : ∀ W, Below w.heap.size w W → Calls Tryz.prog 19 #[.string ⟨t.toArray⟩] W (TkOut W (some (path, rest)))) (hrl : rest.length ≤ 1000000) (hw : whatO (cutV 32 rest).1 = some what) (hl : (cutV 32 rest).2.2 = true) (hn : namO (cutV 32 rest).2.1 = none) :
    Calls Tryz.prog 6 #[.string ⟨t.toArray⟩] w fun e w' => e = .returned (.tuple #[zSp, errS a]) ∧ Below w.heap.size w w' := by
  have KEY : Hid (∀ w1 : World, Below w.heap.size w w1 → w1.cell? ⟨0, 0, none⟩ = some (.iface 183 (.pointer (some a)))) := fun w1 hb => (hE.below hb).cell
  have hlow := hE.low
  have hne0 : ¬ w.heap.size = 0 := fun e => by omega
  have hne1 : ¬ 0 = w.heap.size := fun e => hne0 e.symm
  clear hE
  have HB0 := hide ((Below.refl w.heap.size w).alloc (Nat.le_refl _) (.cells #[.slice none 0 0, .string ⟨#[]⟩, .slice none 0 0] 26))
  have HK0 := hide (Blk.new w #[.slice none 0 0, .string ⟨#[]⟩, .slice none 0 0] 26)
  have HT := hide hT
  have HC := hide (fun W => cut_any 32 rest W hrl)
  have hcl := cut_lens 32 rest
  have HW := hide (fun W => whatOf_any (cutV 32 rest).1 W (by omega))
  have hwv : whatV (cutV 32 rest).1 = (what, true) := by unfold whatV; rw [hw]
  rw [hwv] at HW
  rw [hl] at HC
  have hcl2 : (cutV 32 rest).2.1.length ≤ 1000000 := by
    by_cases hr0 : rest = []
    · subst hr0; simp [cutV]
    · have := hcl.2 hr0; omega
  have HN := hide (fun W => namesOf_any (cutV 32 rest).2.1 W hcl2)
  rw [hn] at HN
  clear hT hw hwv hl hn
  unfold zSp errS
  generalize (cutV 32 rest).1 = word at *
  generalize (cutV 32 rest).2.1 = lst at *
  go_enter Tryz.func6, Tryz.ntmps6
  go_wp2_with (first
    | (go_at_call 19; refine (HT.out _ HB0.out).mono ?_; rintro e w1 ⟨pv, rfl, hpv, hlo1, hb1⟩; obtain ⟨A, cA, rfl⟩ := hpv.form; replace hpv := hide hpv; replace hlo1 := hide hlo1; have hb1' := hide (HB0.out.trans (hb1.mono HB0.out.size)); have hk1 := hide (HK0.out.below hb1 HK0.out.lt); clear hb1)
    | (go_at_call 20; refine (HC.out _).mono ?_; rintro e w2 ⟨rfl, hb2⟩; have hpv2 := hide (hpv.out.below hb2); have hb2' := hide (hb1'.out.trans (hb2.mono hb1'.out.size)); have hk2 := hide (hk1.out.below hb2 hk1.out.lt); clear hb2)
    | (go_at_call 21; refine (HW.out _).mono ?_; rintro e w3 ⟨rfl, hb3⟩; have hpv3 := hide (hpv2.out.below hb3); have hb3' := hide (hb2'.out.trans (hb3.mono hb2'.out.size)); have hk3 := hide (hk2.out.below hb3 hk2.out.lt); clear hb3)
    | (go_at_call 22; refine (HN.out _).mono ?_; rintro e w5 ⟨rfl, hb5⟩; have hpv5 := hide (hpv3.out.below (((Below.refl _ _).alloc (Nat.le_refl _) _).trans (hb5.mono (Nat.le_of_lt (lt_al _ _))))); have hb5' := hide ((hb3'.out.alloc hb3'.out.size _).trans (hb5.mono (hb3'.out.alloc hb3'.out.size _).size)); have hk5 := hide ((hk3.out.alloc _).below hb5 (hk3.out.alloc _).lt); have hs5 := (Blk.new w3 #[.slice A path.length cA, .string ⟨what.toArray⟩, .slice none 0 0] 26).below hb5 (lt_al _ _); have hcs := hs5.cell; have hfs := hs5.frozen; have hls := hs5.lt; have hl3 : w.heap.size < w3.heap.size := hk3.out.lt; replace hs5 := hide hs5; clear hb5))
  have hbE := hb5'.out.setCell (p := ⟨w3.heap.size, 2, none⟩) (Nat.le_of_lt hl3) (.slice none 0 0)
  have hkE := hk5.out.set_other ⟨w3.heap.size, 2, none⟩ (.slice none 0 0) (by dsimp only; omega)
  obtain ⟨W0, hW0⟩ : ∃ W0, w5.setCell ⟨w3.heap.size, 2, none⟩ (.slice none 0 0) = W0 := ⟨_, rfl⟩
  rw [hW0] at hbE hkE ⊢
  clear hW0
  have hge := KEY.out _ hbE
  have hc := hkE.cell
  have hf := hkE.frozen
  replace hbE := hide hbE
  replace hkE := hide hkE
  go_region
  all_goals
    go_wp2
    have h4 := (((hkE.out.set 0 (.slice none 0 0)).set 1 (.string ⟨#[]⟩)).set 2 (.slice none 0 0)).cell
    exact bodyPost_ret (v := .tuple #[.agg #[.slice none 0 0, .string ⟨#[]⟩, .slice none 0 0], .iface 183 (.pointer (some a))]) (by simp [results, Tryz.results6, go_sem, h4]) rfl ⟨rfl, (((hbE.out.setCell (p := ⟨w.heap.size, 0, none⟩) (Nat.le_refl _) _).setCell (p := ⟨w.heap.size, 1, none⟩) (Nat.le_refl _) _).setCell (p := ⟨w.heap.size, 2, none⟩) (Nat.le_refl _) _).drew⟩
set_option maxRecDepth 20000 in
set_option maxHeartbeats 4000000 in
theorem prs_E0 (t rest what : List UInt8) (path : List Int) (w : World) (a : Addr) (hE : EFs w a) (hT : ∀ W, Below w.heap.size w W → Calls Tryz.prog 19 #[.string ⟨t.toArray⟩] W (TkOut W (some (path, rest)))) (hrl : rest.length ≤ 1000000) (hpl : path.length ≤ 20) (hw : whatO (cutV 32 rest).1 = some what) (hl : (cutV 32 rest).2.2 = false) (hh : hasB ⟨path, what, []⟩ = false) :
    Calls Tryz.prog 6 #[.string ⟨t.toArray⟩] w fun e w' => e = .returned (.tuple #[zSp, errS a]) ∧ Below w.heap.size w w' := by
  have KEY : Hid (∀ w1 : World, Below w.heap.size w w1 → w1.cell? ⟨0, 0, none⟩ = some (.iface 183 (.pointer (some a)))) := fun w1 hb => (hE.below hb).cell
  have hlow := hE.low
  have hne0 : ¬ w.heap.size = 0 := fun e => by omega
  have hne1 : ¬ 0 = w.heap.size := fun e => hne0 e.symm
  clear hE
  have HB0 := hide ((Below.refl w.heap.size w).alloc (Nat.le_refl _) (.cells #[.slice none 0 0, .string ⟨#[]⟩, .slice none 0 0] 26))
  have HK0 := hide (Blk.new w #[.slice none 0 0, .string ⟨#[]⟩, .slice none 0 0] 26)
  have HT := hide hT
  have HC := hide (fun W => cut_any 32 rest W hrl)
  have hcl := cut_lens 32 rest
  have HW := hide (fun W => whatOf_any (cutV 32 rest).1 W (by omega))
  have hwv : whatV (cutV 32 rest).1 = (what, true) := by unfold whatV; rw [hw]
  rw [hwv] at HW
  rw [hl] at HC
  have HH : Hid (∀ W pv, ReadOf siF 1 W pv path → Calls Tryz.prog 23 #[.agg #[pv, .string ⟨what.toArray⟩, .slice none 0 0]] W fun e w' => e = .returned (.bool false) ∧ Below W.heap.size W w') := fun W pv h => by
    have := hasText_any ⟨path, what, []⟩ pv (.slice none 0 0) W ⟨h, ReadOf.nil _ _ _⟩ (by simp only; omega) (by simp)
    rwa [hh] at this
  clear hT hw hwv hl hh
  unfold zSp errS
  generalize (cutV 32 rest).1 = word at *
  generalize (cutV 32 rest).2.1 = lst at *
  go_enter Tryz.func6, Tryz.ntmps6
  go_wp2_with (first
    | (go_at_call 19; refine (HT.out _ HB0.out).mono ?_; rintro e w1 ⟨pv, rfl, hpv, hlo1, hb1⟩; obtain ⟨A, cA, rfl⟩ := hpv.form; replace hpv := hide hpv; replace hlo1 := hide hlo1; have hb1' := hide (HB0.out.trans (hb1.mono HB0.out.size)); have hk1 := hide (HK0.out.below hb1 HK0.out.lt); clear hb1)
    | (go_at_call 20; refine (HC.out _).mono ?_; rintro e w2 ⟨rfl, hb2⟩; have hpv2 := hide (hpv.out.below hb2); have hb2' := hide (hb1'.out.trans (hb2.mono hb1'.out.size)); have hk2 := hide (hk1.out.below hb2 hk1.out.lt); clear hb2)
    | (go_at_call 21; refine (HW.out _).mono ?_; rintro e w3 ⟨rfl, hb3⟩; have hpv3 := hide (hpv2.out.below hb3); have hb3' := hide (hb2'.out.trans (hb3.mono hb2'.out.size)); have hk3 := hide (hk2.out.below hb3 hk2.out.lt); clear hb3)
    | (go_at_call 23; refine (HH.out _ _ (hpv3.out.below ((Below.refl _ _).alloc (Nat.le_refl _) _))).mono ?_; rintro e w6 ⟨rfl, hb6⟩; have hpv6 := hide ((hpv3.out.below ((Below.refl _ _).alloc (Nat.le_refl _) _)).below hb6); have hb6' := hide ((hb3'.out.alloc hb3'.out.size _).trans (hb6.mono (hb3'.out.alloc hb3'.out.size _).size)); have hk6 := (hk3.out.alloc _).below hb6 (hk3.out.alloc _).lt; have hck := hk6.cell; have hfk := hk6.frozen; have hlk := hk6.lt; have hs6 := (Blk.new w3 #[.slice A path.length cA, .string ⟨what.toArray⟩, .slice none 0 0] 26).below hb6 (lt_al _ _); have hcs := hs6.cell; have hls := hs6.lt; have hl3 : w.heap.size < w3.heap.size := hk3.out.lt; replace hk6 := hide hk6; replace hs6 := hide hs6; clear hb6))
  have hbE := hb6'.out
  have hkE := hk6.out
  have hge := KEY.out _ hbE
  have hc := hkE.cell
  have hf := hkE.frozen
  replace hbE := hide hbE
  replace hkE := hide hkE
  go_region
  all_goals
    go_wp2
    have h4 := (((hkE.out.set 0 (.slice none 0 0)).set 1 (.string ⟨#[]⟩)).set 2 (.slice none 0 0)).cell
    exact bodyPost_ret (v := .tuple #[.agg #[.slice none 0 0, .string ⟨#[]⟩, .slice none 0 0], .iface 183 (.pointer (some a))]) (by simp [results, Tryz.results6, go_sem, h4]) rfl ⟨rfl, (((hbE.out.setCell (p := ⟨w.heap.size, 0, none⟩) (Nat.le_refl _) _).setCell (p := ⟨w.heap.size, 1, none⟩) (Nat.le_refl _) _).setCell (p := ⟨w.heap.size, 2, none⟩) (Nat.le_refl _) _).drew⟩
set_option maxRecDepth 20000 in
set_option maxHeartbeats 4000000 in
theorem prs_E1 (t rest what : List UInt8) (path : List Int) (w : World) (hT : ∀ W, Below w.heap.size w W → Calls Tryz.prog 19 #[.string ⟨t.toArray⟩] W (TkOut W (some (path, rest)))) (hrl : rest.length ≤ 1000000) (hpl : path.length ≤ 20) (hw : whatO (cutV 32 rest).1 = some what) (hl : (cutV 32 rest).2.2 = false) (hh : hasB ⟨path, what, []⟩ = true) :
    Calls Tryz.prog 6 #[.string ⟨t.toArray⟩] w fun e w' => ∃ pv nv, e = .returned (.tuple #[spV pv nv ⟨path, what, []⟩, .nilIface]) ∧ SpA w' pv nv ⟨path, what, []⟩ ∧ Below w.heap.size w w' := by
  have HB0 := hide ((Below.refl w.heap.size w).alloc (Nat.le_refl _) (.cells #[.slice none 0 0, .string ⟨#[]⟩, .slice none 0 0] 26))
  have HK0 := hide (Blk.new w #[.slice none 0 0, .string ⟨#[]⟩, .slice none 0 0] 26)
  have HT := hide hT
  have HC := hide (fun W => cut_any 32 rest W hrl)
  have hcl := cut_lens 32 rest
  have HW := hide (fun W => whatOf_any (cutV 32 rest).1 W (by omega))
  have hwv : whatV (cutV 32 rest).1 = (what, true) := by unfold whatV; rw [hw]
  rw [hwv] at HW
  rw [hl] at HC
  have HH : Hid (∀ W pv, ReadOf siF 1 W pv path → Calls Tryz.prog 23 #[.agg #[pv, .string ⟨what.toArray⟩, .slice none 0 0]] W fun e w' => e = .returned (.bool true) ∧ Below W.heap.size W w') := fun W pv h => by
    have := hasText_any ⟨path, what, []⟩ pv (.slice none 0 0) W ⟨h, ReadOf.nil _ _ _⟩ (by simp only; omega) (by simp)
    rwa [hh] at this
  clear hT hw hwv hl hh
  unfold spV
  generalize (cutV 32 rest).1 = word at *
  generalize (cutV 32 rest).2.1 = lst at *
  go_enter Tryz.func6, Tryz.ntmps6
  go_wp2_with (first
    | (go_at_call 19; refine (HT.out _ HB0.out).mono ?_; rintro e w1 ⟨pv, rfl, hpv, hlo1, hb1⟩; obtain ⟨A, cA, rfl⟩ := hpv.form; replace hpv := hide hpv; replace hlo1 := hide hlo1; have hb1' := hide (HB0.out.trans (hb1.mono HB0.out.size)); have hk1 := hide (HK0.out.below hb1 HK0.out.lt); clear hb1)
    | (go_at_call 20; refine (HC.out _).mono ?_; rintro e w2 ⟨rfl, hb2⟩; have hpv2 := hide (hpv.out.below hb2); have hb2' := hide (hb1'.out.trans (hb2.mono hb1'.out.size)); have hk2 := hide (hk1.out.below hb2 hk1.out.lt); clear hb2)
    | (go_at_call 21; refine (HW.out _).mono ?_; rintro e w3 ⟨rfl, hb3⟩; have hpv3 := hide (hpv2.out.below hb3); have hb3' := hide (hb2'.out.trans (hb3.mono hb2'.out.size)); have hk3 := hide (hk2.out.below hb3 hk2.out.lt); clear hb3)
    | (go_at_call 23; refine (HH.out _ _ (hpv3.out.below ((Below.refl _ _).alloc (Nat.le_refl _) _))).mono ?_; rintro e w6 ⟨rfl, hb6⟩; have hpv6 := hide ((hpv3.out.below ((Below.refl _ _).alloc (Nat.le_refl _) _)).below hb6); have hb6' := hide ((hb3'.out.alloc hb3'.out.size _).trans (hb6.mono (hb3'.out.alloc hb3'.out.size _).size)); have hk6 := (hk3.out.alloc _).below hb6 (hk3.out.alloc _).lt; have hck := hk6.cell; have hfk := hk6.frozen; have hlk := hk6.lt; have hs6 := (Blk.new w3 #[.slice A path.length cA, .string ⟨what.toArray⟩, .slice none 0 0] 26).below hb6 (lt_al _ _); have hcs := hs6.cell; have hls := hs6.lt; have hl3 : w.heap.size < w3.heap.size := hk3.out.lt; replace hk6 := hide hk6; replace hs6 := hide hs6; clear hb6))
  have h4 := (((hk6.out.set 0 (.slice A path.length cA)).set 1 (.string ⟨what.toArray⟩)).set 2 (.slice none 0 0)).cell
  have hlo := fun (hx : path ≠ []) A' n c (e : Value.slice A path.length cA = .slice (some A') n c) => (by have := hlo1.out A' n c e; rw [World.size_alloc] at this; omega : A'.block ≠ w.heap.size)
  exact bodyPost_ret (v := .tuple #[.agg #[.slice A path.length cA, .string ⟨what.toArray⟩, .slice none 0 0], .nilIface]) (by simp [results, Tryz.results6, go_sem, h4]) rfl ⟨_, _, rfl, ⟨((hpv6.out.set_other ⟨w.heap.size, 0, none⟩ _ hlo).set_other ⟨w.heap.size, 1, none⟩ _ hlo).set_other ⟨w.heap.size, 2, none⟩ _ hlo, ReadOf.nil _ _ _⟩, ((hb6'.out.setCell (p := ⟨w.heap.size, 0, none⟩) (Nat.le_refl _) _).setCell (p := ⟨w.heap.size, 1, none⟩) (Nat.le_refl _) _).setCell (p := ⟨w.heap.size, 2, none⟩) (Nat.le_refl _) _⟩
set_option maxRecDepth 20000 in
set_option maxHeartbeats 4000000 in
theorem prs_D0 (t rest what : List UInt8) (path : List Int) (ns : List (List UInt8)) (w : World) (a : Addr) (hE : EFs w a) (hT : ∀ W, Below w.heap.size w W → Calls Tryz.prog 19 #[.string ⟨t.toArray⟩] W (TkOut W (some (path, rest)))) (hrl : rest.length ≤ 1000000) (hpl : path.length ≤ 20) (hw : whatO (cutV 32 rest).1 = some what) (hl : (cutV 32 rest).2.2 = true) (hn : namO (cutV 32 rest).2.1 = some ns) (hnl : ns.length ≤ 1000000) (hh : hasB ⟨path, what, ns⟩ = false) :
    Calls Tryz.prog 6 #[.string ⟨t.toArray⟩] w fun e w' => e = .returned (.tuple #[zSp, errS a]) ∧ Below w.heap.size w w' := by
  have KEY : Hid (∀ w1 : World, Below w.heap.size w w1 → w1.cell? ⟨0, 0, none⟩ = some (.iface 183 (.pointer (some a)))) := fun w1 hb => (hE.below hb).cell
  have hlow := hE.low
  have hne0 : ¬ w.heap.size = 0 := fun e => by omega
  have hne1 : ¬ 0 = w.heap.size := fun e => hne0 e.symm
  clear hE
  have HB0 := hide ((Below.refl w.heap.size w).alloc (Nat.le_refl _) (.cells #[.slice none 0 0, .string ⟨#[]⟩, .slice none 0 0] 26))
  have HK0 := hide (Blk.new w #[.slice none 0 0, .string ⟨#[]⟩, .slice none 0 0] 26)
  have HT := hide hT
  have HC := hide (fun W => cut_any 32 rest W hrl)
  have hcl := cut_lens 32 rest
  have HW := hide (fun W => whatOf_any (cutV 32 rest).1 W (by omega))
  have hwv : whatV (cutV 32 rest).1 = (what, true) := by unfold whatV; rw [hw]
  rw [hwv] at HW
  rw [hl] at HC
  have HH : Hid (∀ W pv nv, ReadOf siF 1 W pv path → ReadOf ssF 1 W nv ns → Calls Tryz.prog 23 #[.agg #[pv, .string ⟨what.toArray⟩, nv]] W fun e w' => e = .returned (.bool false) ∧ Below W.heap.size W w') := fun W pv nv h h2 => by
    have := hasText_any ⟨path, what, ns⟩ pv nv W ⟨h, h2⟩ (by simp only; omega) (by simp only; omega)
    rwa [hh] at this
  have hcl2 : (cutV 32 rest).2.1.length ≤ 1000000 := by
    by_cases hr0 : rest = []
    · subst hr0; simp [cutV]
    · have := hcl.2 hr0; omega
  have HN := hide (fun W => namesOf_any (cutV 32 rest).2.1 W hcl2)
  rw [hn] at HN
  clear hT hw hwv hl hh hn
  unfold zSp errS
  generalize (cutV 32 rest).1 = word at *
  generalize (cutV 32 rest).2.1 = lst at *
  go_enter Tryz.func6, Tryz.ntmps6
  go_wp2_with (first
    | (go_at_call 19; refine (HT.out _ HB0.out).mono ?_; rintro e w1 ⟨pv, rfl, hpv, hlo1, hb1⟩; obtain ⟨A, cA, rfl⟩ := hpv.form; replace hpv := hide hpv; replace hlo1 := hide hlo1; have hb1' := hide (HB0.out.trans (hb1.mono HB0.out.size)); have hk1 := hide (HK0.out.below hb1 HK0.out.lt); clear hb1)
    | (go_at_call 20; refine (HC.out _).mono ?_; rintro e w2 ⟨rfl, hb2⟩; have hpv2 := hide (hpv.out.below hb2); have hb2' := hide (hb1'.out.trans (hb2.mono hb1'.out.size)); have hk2 := hide (hk1.out.below hb2 hk1.out.lt); clear hb2)
    | (go_at_call 21; refine (HW.out _).mono ?_; rintro e w3 ⟨rfl, hb3⟩; have hpv3 := hide (hpv2.out.below hb3); have hb3' := hide (hb2'.out.trans (hb3.mono hb2'.out.size)); have hk3 := hide (hk2.out.below hb3 hk2.out.lt); clear hb3)
    | (go_at_call 22; refine (HN.out _).mono ?_; rintro e w5 ⟨nv, rfl, hnv, hlo5, hb5⟩; obtain ⟨A2, c2, rfl⟩ := hnv.form; replace hnv := hide hnv; replace hlo5 := hide hlo5; have hpv5 := hide (hpv3.out.below (((Below.refl _ _).alloc (Nat.le_refl _) _).trans (hb5.mono (Nat.le_of_lt (lt_al _ _))))); have hb5' := hide ((hb3'.out.alloc hb3'.out.size _).trans (hb5.mono (hb3'.out.alloc hb3'.out.size _).size)); have hk5 := hide ((hk3.out.alloc _).below hb5 (hk3.out.alloc _).lt); have hs5 := (Blk.new w3 #[.slice A path.length cA, .string ⟨what.toArray⟩, .slice none 0 0] 26).below hb5 (lt_al _ _); have hcs := hs5.cell; have hfs := hs5.frozen; have hls := hs5.lt; have hck := hk5.out.cell; have hfk := hk5.out.frozen; have hl3 : w.heap.size < w3.heap.size := hk3.out.lt; replace hs5 := hide hs5; clear hb5)
    | (go_at_call 23; refine (HH.out _ _ _ (hpv5.out.set_other ⟨w3.heap.size, 2, none⟩ (.slice A2 ns.length c2) (fun hx A' n c e => by have := hpv3.out.lt0 hx A' n c e; dsimp only; omega)) (hnv.out.set_other ⟨w3.heap.size, 2, none⟩ (.slice A2 ns.length c2) (fun _ A' n c e => by have := hlo5.out A' n c e; rw [World.size_alloc] at this; dsimp only; omega))).mono ?_; rintro e w6 ⟨rfl, hb6⟩; have hpv6 := hide ((hpv5.out.set_other ⟨w3.heap.size, 2, none⟩ (.slice A2 ns.length c2) (fun hx A' n c e => by have := hpv3.out.lt0 hx A' n c e; dsimp only; omega)).below hb6); have hnv6 := hide ((hnv.out.set_other ⟨w3.heap.size, 2, none⟩ (.slice A2 ns.length c2) (fun _ A' n c e => by have := hlo5.out A' n c e; rw [World.size_alloc] at this; dsimp only; omega)).below hb6); have hb55 := hb5'.out.setCell (p := ⟨w3.heap.size, 2, none⟩) (Nat.le_of_lt hl3) (.slice A2 ns.length c2); have hb6' := hide (hb55.trans (hb6.mono hb55.size)); have hk55 := hk5.out.set_other ⟨w3.heap.size, 2, none⟩ (.slice A2 ns.length c2) (by dsimp only; omega); have hk6 := hk55.below hb6 hk55.lt; have hck6 := hk6.cell; have hfk6 := hk6.frozen; have hlk := hk6.lt; have hs55 := hs5.out.set 2 (.slice A2 ns.length c2); have hs6 := hs55.below hb6 hs55.lt; have hcs6 := hs6.cell; have hls6 := hs6.lt; clear hb55 hk55 hs55; replace hk6 := hide hk6; replace hs6 := hide hs6; clear hb6))
  have hbE := hb6'.out
  have hkE := hk6.out
  have hge := KEY.out _ hbE
  have hc := hkE.cell
  have hf := hkE.frozen
  replace hbE := hide hbE
  replace hkE := hide hkE
  go_region
  all_goals
    go_wp2
    have h4 := (((hkE.out.set 0 (.slice none 0 0)).set 1 (.string ⟨#[]⟩)).set 2 (.slice none 0 0)).cell
    exact bodyPost_ret (v := .tuple #[.agg #[.slice none 0 0, .string ⟨#[]⟩, .slice none 0 0], .iface 183 (.pointer (some a))]) (by simp [results, Tryz.results6, go_sem, h4]) rfl ⟨rfl, (((hbE.out.setCell (p := ⟨w.heap.size, 0, none⟩) (Nat.le_refl _) _).setCell (p := ⟨w.heap.size, 1, none⟩) (Nat.le_refl _) _).setCell (p := ⟨w.heap.size, 2, none⟩) (Nat.le_refl _) _).drew⟩
set_option maxRecDepth 20000 in
set_option maxHeartbeats 4000000 in
theorem prs_D1 (t rest what : List UInt8) (path : List Int) (ns : List (List UInt8)) (w : World) (hT : ∀ W, Below w.heap.size w W → Calls Tryz.prog 19 #[.string ⟨t.toArray⟩] W (TkOut W (some (path, rest)))) (hrl : rest.length ≤ 1000000) (hpl : path.length ≤ 20) (hw : whatO (cutV 32 rest).1 = some what) (hl : (cutV 32 rest).2.2 = true) (hn : namO (cutV 32 rest).2.1 = some ns) (hnl : ns.length ≤ 1000000) (hh : hasB ⟨path, what, ns⟩ = true) :
    Calls Tryz.prog 6 #[.string ⟨t.toArray⟩] w fun e w' => ∃ pv nv, e = .returned (.tuple #[spV pv nv ⟨path, what, ns⟩, .nilIface]) ∧ SpA w' pv nv ⟨path, what, ns⟩ ∧ Below w.heap.size w w' := by
  have HB0 := hide ((Below.refl w.heap.size w).alloc (Nat.le_refl _) (.cells #[.slice none 0 0, .string ⟨#[]⟩, .slice none 0 0] 26))
  have HK0 := hide (Blk.new w #[.slice none 0 0, .string ⟨#[]⟩, .slice none 0 0] 26)
  have HT := hide hT
  have HC := hide (fun W => cut_any 32 rest W hrl)
  have hcl := cut_lens 32 rest
  have HW := hide (fun W => whatOf_any (cutV 32 rest).1 W (by omega))
  have hwv : whatV (cutV 32 rest).1 = (what, true) := by unfold whatV; rw [hw]
  rw [hwv] at HW
  rw [hl] at HC
  have HH : Hid (∀ W pv nv, ReadOf siF 1 W pv path → ReadOf ssF 1 W nv ns → Calls Tryz.prog 23 #[.agg #[pv, .string ⟨what.toArray⟩, nv]] W fun e w' => e = .returned (.bool true) ∧ Below W.heap.size W w') := fun W pv nv h h2 => by
    have := hasText_any ⟨path, what, ns⟩ pv nv W ⟨h, h2⟩ (by simp only; omega) (by simp only; omega)
    rwa [hh] at this
  have hcl2 : (cutV 32 rest).2.1.length ≤ 1000000 := by
    by_cases hr0 : rest = []
    · subst hr0; simp [cutV]
    · have := hcl.2 hr0; omega
  have HN := hide (fun W => namesOf_any (cutV 32 rest).2.1 W hcl2)
  rw [hn] at HN
  clear hT hw hwv hl hh hn
  unfold spV
  generalize (cutV 32 rest).1 = word at *
  generalize (cutV 32 rest).2.1 = lst at *
  go_enter Tryz.func6, Tryz.ntmps6
  go_wp2_with (first
    | (go_at_call 19; refine (HT.out _ HB0.out).mono ?_; rintro e w1 ⟨pv, rfl, hpv, hlo1, hb1⟩; obtain ⟨A, cA, rfl⟩ := hpv.form; replace hpv := hide hpv; replace hlo1 := hide hlo1; have hb1' := hide (HB0.out.trans (hb1.mono HB0.out.size)); have hk1 := hide (HK0.out.below hb1 HK0.out.lt); clear hb1)
    | (go_at_call 20; refine (HC.out _).mono ?_; rintro e w2 ⟨rfl, hb2⟩; have hpv2 := hide (hpv.out.below hb2); have hb2' := hide (hb1'.out.trans (hb2.mono hb1'.out.size)); have hk2 := hide (hk1.out.below hb2 hk1.out.lt); clear hb2)
    | (go_at_call 21; refine (HW.out _).mono ?_; rintro e w3 ⟨rfl, hb3⟩; have hpv3 := hide (hpv2.out.below hb3); have hb3' := hide (hb2'.out.trans (hb3.mono hb2'.out.size)); have hk3 := hide (hk2.out.below hb3 hk2.out.lt); clear hb3)
    | (go_at_call 22; refine (HN.out _).mono ?_; rintro e w5 ⟨nv, rfl, hnv, hlo5, hb5⟩; obtain ⟨A2, c2, rfl⟩ := hnv.form; replace hnv := hide hnv; replace hlo5 := hide hlo5; have hpv5 := hide (hpv3.out.below (((Below.refl _ _).alloc (Nat.le_refl _) _).trans (hb5.mono (Nat.le_of_lt (lt_al _ _))))); have hb5' := hide ((hb3'.out.alloc hb3'.out.size _).trans (hb5.mono (hb3'.out.alloc hb3'.out.size _).size)); have hk5 := hide ((hk3.out.alloc _).below hb5 (hk3.out.alloc _).lt); have hs5 := (Blk.new w3 #[.slice A path.length cA, .string ⟨what.toArray⟩, .slice none 0 0] 26).below hb5 (lt_al _ _); have hcs := hs5.cell; have hfs := hs5.frozen; have hls := hs5.lt; have hck := hk5.out.cell; have hfk := hk5.out.frozen; have hl3 : w.heap.size < w3.heap.size := hk3.out.lt; replace hs5 := hide hs5; clear hb5)
    | (go_at_call 23; refine (HH.out _ _ _ (hpv5.out.set_other ⟨w3.heap.size, 2, none⟩ (.slice A2 ns.length c2) (fun hx A' n c e => by have := hpv3.out.lt0 hx A' n c e; dsimp only; omega)) (hnv.out.set_other ⟨w3.heap.size, 2, none⟩ (.slice A2 ns.length c2) (fun _ A' n c e => by have := hlo5.out A' n c e; rw [World.size_alloc] at this; dsimp only; omega))).mono ?_; rintro e w6 ⟨rfl, hb6⟩; have hpv6 := hide ((hpv5.out.set_other ⟨w3.heap.size, 2, none⟩ (.slice A2 ns.length c2) (fun hx A' n c e => by have := hpv3.out.lt0 hx A' n c e; dsimp only; omega)).below hb6); have hnv6 := hide ((hnv.out.set_other ⟨w3.heap.size, 2, none⟩ (.slice A2 ns.length c2) (fun _ A' n c e => by have := hlo5.out A' n c e; rw [World.size_alloc] at this; dsimp only; omega)).below hb6); have hb55 := hb5'.out.setCell (p := ⟨w3.heap.size, 2, none⟩) (Nat.le_of_lt hl3) (.slice A2 ns.length c2); have hb6' := hide (hb55.trans (hb6.mono hb55.size)); have hk55 := hk5.out.set_other ⟨w3.heap.size, 2, none⟩ (.slice A2 ns.length c2) (by dsimp only; omega); have hk6 := hk55.below hb6 hk55.lt; have hck6 := hk6.cell; have hfk6 := hk6.frozen; have hlk := hk6.lt; have hs55 := hs5.out.set 2 (.slice A2 ns.length c2); have hs6 := hs55.below hb6 hs55.lt; have hcs6 := hs6.cell; have hls6 := hs6.lt; clear hb55 hk55 hs55; replace hk6 := hide hk6; replace hs6 := hide hs6; clear hb6))
  have h4 := (((hk6.out.set 0 (.slice A path.length cA)).set 1 (.string ⟨what.toArray⟩)).set 2 (.slice A2 ns.length c2)).cell
  have hlo := fun (hx : path ≠ []) A' n c (e : Value.slice A path.length cA = .slice (some A') n c) => (by have := hlo1.out A' n c e; rw [World.size_alloc] at this; omega : A'.block ≠ w.heap.size)
  have hlo2 := fun (hx : ns ≠ []) A' n c (e : Value.slice A2 ns.length c2 = .slice (some A') n c) => (by have := hlo5.out A' n c e; rw [World.size_alloc] at this; omega : A'.block ≠ w.heap.size)
  exact bodyPost_ret (v := .tuple #[.agg #[.slice A path.length cA, .string ⟨what.toArray⟩, .slice A2 ns.length c2], .nilIface]) (by simp [results, Tryz.results6, go_sem, h4]) rfl ⟨_, _, rfl, ⟨((hpv6.out.set_other ⟨w.heap.size, 0, none⟩ _ hlo).set_other ⟨w.heap.size, 1, none⟩ _ hlo).set_other ⟨w.heap.size, 2, none⟩ _ hlo, ((hnv6.out.set_other ⟨w.heap.size, 0, none⟩ _ hlo2).set_other ⟨w.heap.size, 1, none⟩ _ hlo2).set_other ⟨w.heap.size, 2, none⟩ _ hlo2⟩, ((hb6'.out.setCell (p := ⟨w.heap.size, 0, none⟩) (Nat.le_refl _) _).setCell (p := ⟨w.heap.size, 1, none⟩) (Nat.le_refl _) _).setCell (p := ⟨w.heap.size, 2, none⟩) (Nat.le_refl _) _⟩
def PrsOut (w : World) (a : Addr) (r : Option Spc) (e : Ending) (w' : World) : Prop := match r with
  | some p => ∃ pv nv, e = .returned (.tuple #[spV pv nv p, .nilIface]) ∧ SpA w' pv nv p ∧ Below w.heap.size w w'
  | none => e = .returned (.tuple #[zSp, errS a]) ∧ Below w.heap.size w w'
theorem spl_len (k : Nat) : ∀ s : List UInt8, (spl k s).length ≤ k + 1 := by
  induction k with
  | zero => intro s; simp [spl]
  | succ k ih =>
    intro s
    rw [spl]
    split
    · rename_i p q h
      have := ih q
      simp only [List.length_cons]
      omega
    · simp
theorem namO_len {l : List UInt8} {ns : List (List UInt8)} (h : namO l = some ns) : ns.length ≤ 21 := by
  unfold namO at h
  split at h
  · injection h with h
    rw [← h]
    exact spl_len 20 _
  · cases h
theorem pj_rest_len (q : List Int) (rest : List UInt8) : rest.length ≤ (pjT q rest).length := by
  unfold pjT
  split <;> simp <;> omega
/-- Parse, whatever the text. -/
theorem secParse_any (t : List UInt8) (w : World) (a : Addr) (ht : t.length ≤ 1000000) (hE : prgO t = none → EFs w a ∧ SyE w) :
    Calls Tryz.prog 6 #[.string ⟨t.toArray⟩] w (PrsOut w a (prgO t)) := by
  have HT : ∀ W, Below w.heap.size w W → Calls Tryz.prog 19 #[.string ⟨t.toArray⟩] W (TkOut W (tkP (t.length + 1) [] t)) := fun W hW => takePath_any t W ht (fun h => ((hE (by unfold prgO; rw [h])).2).below hW)
  cases h1 : tkP (t.length + 1) [] t with
  | none =>
    have hp : prgO t = none := by unfold prgO; rw [h1]
    rw [h1] at HT
    rw [hp]
    exact prs_A t w a (hE hp).1 HT
  | some x =>
    obtain ⟨path, rest⟩ := x
    rw [h1] at HT
    obtain ⟨k1, _, q', k3, k4⟩ := tk_out _ _ _ _ _ (by simp) h1
    have hrl : rest.length ≤ 1000000 := by
      have := pj_rest_len q' rest
      rw [← k4] at this
      omega
    cases h2 : whatO (cutV 32 rest).1 with
    | none =>
      have hp : prgO t = none := by unfold prgO; rw [h1]; simp only; rw [h2]
      rw [hp]
      exact prs_B t rest path w a (hE hp).1 HT hrl h2
    | some what =>
      cases h3 : (cutV 32 rest).2.2 with
      | false =>
        have hp : prgO t = if hasB ⟨path, what, []⟩ = true then some ⟨path, what, []⟩ else none := by unfold prgO; rw [h1]; simp only; rw [h2, h3]; rfl
        cases h5 : hasB ⟨path, what, []⟩ with
        | false =>
          rw [h5, if_neg (by simp)] at hp
          rw [hp]
          exact prs_E0 t rest what path w a (hE hp).1 HT hrl k1 h2 h3 h5
        | true =>
          rw [h5, if_pos rfl] at hp
          rw [hp]
          exact prs_E1 t rest what path w HT hrl k1 h2 h3 h5
      | true =>
        cases h4 : namO (cutV 32 rest).2.1 with
        | none =>
          have hp : prgO t = none := by unfold prgO; rw [h1]; simp only; rw [h2, h3]; simp only [if_true]; rw [h4]
          rw [hp]
          exact prs_C t rest what path w a (hE hp).1 HT hrl h2 h3 h4
        | some ns =>
          have hnl := namO_len h4
          have hp : prgO t = if hasB ⟨path, what, ns⟩ = true then some ⟨path, what, ns⟩ else none := by unfold prgO; rw [h1]; simp only; rw [h2, h3]; simp only [if_true]; rw [h4]
          cases h5 : hasB ⟨path, what, ns⟩ with
          | false =>
            rw [h5, if_neg (by simp)] at hp
            rw [hp]
            exact prs_D0 t rest what path ns w a (hE hp).1 HT hrl k1 h2 h3 h4 (by omega) h5
          | true =>
            rw [h5, if_pos rfl] at hp
            rw [hp]
            exact prs_D1 t rest what path ns w HT hrl k1 h2 h3 h4 (by omega) h5
end Go.Proofs.YtegplihhbdmnbaaGreatDoor
