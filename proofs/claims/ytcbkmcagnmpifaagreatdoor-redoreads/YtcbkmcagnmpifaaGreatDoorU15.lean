/- A disk: the draws of a crash; one file sorted; the names as they were sure. -/
/- A disk: what is unsure, where it is one file; the names as they were sure; one file restored. -/
import Derived.Test.YtcbkmcagnmpifaaGreatDoorU12
section
namespace Go.Proofs.YtcbkmcagnmpifaaGreatDoor
open Go.RowKit Go.Maps
def drawV (ck : Nat) : Value := .func (.func 78) #[] #[pv ck]
set_option maxRecDepth 20000 in
set_option maxHeartbeats 2000000 in
/-- A number is drawn. -/
theorem draw_head (w : World) (ck g o n c k most : Nat) (hk : Blk w ck #[.slice (some ⟨g, o, none⟩) (n + 1) c] 42) (h0 : w.cell? ⟨g, o, none⟩ = some (.int .i64 k)) (hk1 : k ≤ 1000000) (hm : most ≤ 1000000) :
    Calls Tryz.prog 78 #[.int .i64 most, pv ck] w fun e w' => e = .returned (.int .i64 ((k % (most + 1) : Nat))) ∧ w' = w.setCell ⟨ck, 0, none⟩ (if c = 1 then .slice (some ⟨g, o, none⟩) n 0 else .slice (some ⟨g, o + 1, none⟩) n (c - 1)) := by
  have hcl := hk.cell
  have hfz := hk.frozen
  have hx : max (0 : Int) k = k := by omega
  have hy : ((n : Int) + 1 == 0) = false := by simp; omega
  have hz : ¬ (n : Int) + 1 = 0 := by omega
  clear hk
  unfold pv
  go_enter Tryz.func78, Tryz.ntmps78
  go_wp2
  all_goals (
    go_ret
    exact ⟨rfl, rfl⟩)
set_option maxRecDepth 20000 in
set_option maxHeartbeats 2000000 in
theorem len1 (w : World) : Calls Tryz.prog 115 #[.int .u64 1] w fun e w' => ∃ l : Int, e = .returned (.int .i64 l) ∧ w' = w := by
  have h64 : Calls Tryz.prog 141 #[.int .u64 1] w fun e w' => ∃ l : Int, e = .returned (.int .i64 l) ∧ w' = w := by
    go_enter Tryz.func141, Tryz.ntmps141
    go_wp2
    go_ret
    exact ⟨_, rfl, rfl⟩
  go_enter Tryz.func115, Tryz.ntmps115
  go_wp2_with (go_at_call 141; refine h64.mono ?_; rintro e w' ⟨l, rfl, rfl⟩)
  go_ret
  exact ⟨_, rfl, rfl⟩
theorem insertion1 (w : World) (v f : Value) : Calls Tryz.prog 132 #[v, .int .i64 0, .int .i64 1, f] w fun e w' => e = .returned (.tuple #[]) ∧ w' = w := by
  go_enter Tryz.func132, Tryz.ntmps132
  go_wp2
  refine wp_loop_rounds 1 ?_
  rw [rounds_succ]
  go_wp2
  go_end0
  exact ⟨rfl, rfl⟩
set_option maxRecDepth 20000 in
set_option maxHeartbeats 2000000 in
theorem pdq1 (w : World) (v lim f : Value) : Calls Tryz.prog 114 #[v, .int .i64 0, .int .i64 1, lim, f] w fun e w' => e = .returned (.tuple #[]) ∧ w' = w := by
  go_enter Tryz.func114, Tryz.ntmps114
  go_wp2
  refine wp_loop_rounds 1 ?_
  rw [rounds_succ]
  go_wp2_with (go_at_call 132; refine (insertion1 _ _ _).mono ?_; rintro e w' ⟨rfl, rfl⟩)
  refine bodyPost_ret (results_none rfl _ _ _) rfl ?_
  exact ⟨rfl, rfl⟩
theorem sort1 (w : World) (A : Option Addr) (c : Nat) (f : Value) : Calls Tryz.prog 80 #[.slice A 1 c, f] w fun e w' => e = .returned (.tuple #[]) ∧ w' = w := by
  go_enter Tryz.func80, Tryz.ntmps80
  go_wp2_with (first | (go_at_call 115; refine (len1 _).mono ?_; rintro e w' ⟨l, rfl, rfl⟩) | (go_at_call 114; refine (pdq1 _ _ _ _).mono ?_; rintro e w' ⟨rfl, rfl⟩))
  go_end0
  exact ⟨rfl, rfl⟩
theorem clone0 (w : World) : Calls Tryz.prog 79 #[.slice none 0 0] w fun e w' => e = .returned (.slice none 0 0) ∧ w' = w := by
  have hq : ∀ (w0 : World), (binOp .eql 75 (.slice none 0 0) (.slice none 0 0)).run Tryz.prog w0 = .ok (.bool true) w0 := fun w0 => Lib.run_eql_slice_nil (P := Tryz.prog) w0 75 88 none 0 0 0 0 Tryz.underlying75
  go_enter Tryz.func79, Tryz.ntmps79
  go_wp2
  go_ret
  exact ⟨rfl, rfl⟩
end Go.Proofs.YtcbkmcagnmpifaaGreatDoor

end
section
namespace Go.Proofs.YtcbkmcagnmpifaaGreatDoor
open Go.RowKit Go.Maps
theorem ptrInfo : (Tryz.prog.info? 88).map (fun i => (i.zero, i.size, i.bytes)) = some (some (.pointer none), 1, 8) := by kernel_rfl
theorem pv_one (l : List Nat) : ∀ u ∈ l.map pv, u.oneCell' = true := by
  intro u hu
  obtain ⟨b, _, rfl⟩ := List.mem_map.1 hu
  rfl
theorem Rw.srcP {w : World} {v : Value} {l : List Nat} {G : Option Nat} (h : Rw w 1 v l.length (l.map pv) G) : Src Tryz.prog 1 75 v l.length (l.map pv) w := by
  rcases h.2 with ⟨rfl, h0, _⟩ | ⟨g, o, cap, rfl, rfl, h1, h2, h3, h4, h5⟩
  · have : l = [] := List.length_eq_zero_iff.1 h0
    subst this
    exact Src.ofNil w Tryz.underlying75 0
  · exact Src.ofSlice w Tryz.underlying75 ⟨g, o, none⟩ l.length cap (l.map pv) (by simp) (fun j u hu => by rw [Go.WideShapes.add_plain]; exact h4 j u hu) (pv_one l)
/-- A row of pointers of this call's own. -/
def Prow (w wr : World) (v : Value) (l : List Nat) : Prop := Below w.heap.size w wr ∧ ∃ G, Rw wr 1 v l.length (l.map pv) G ∧ ∀ g, G = some g → w.heap.size ≤ g
set_option maxRecDepth 20000 in
set_option maxHeartbeats 2000000 in
theorem cloneP_any (w : World) (v : Value) (l : List Nat) (G : Option Nat) (h : Rw w 1 v l.length (l.map pv) G) (hl : l.length ≤ 1000000) :
    Calls Tryz.prog 79 #[v] w fun e w' => ∃ v', e = .returned v' ∧ Prow w w' v' l := by
  have HS := hide h.srcP
  have HR := hide h
  rcases h.2 with ⟨rfl, h0, rfl⟩ | ⟨g, o, cap, rfl, rfl, h1, h2, h3, h4, h5⟩
  · have : l = [] := List.length_eq_zero_iff.1 h0
    subst this
    exact (clone0 w).mono fun e w' ⟨he, hw⟩ => ⟨_, he, by subst hw; exact Below.refl _ _, none, Rw.nil _ _, fun _ h => by cases h⟩
  · obtain ⟨i0, hi, hz0, hz1, hz2⟩ := info_parts ptrInfo
    have hq : ∀ (w0 : World) (m : Nat), (binOp .eql 75 (.slice (some ⟨g, o, none⟩) m cap) (.slice none 0 0)).run Tryz.prog w0 = .ok (.bool false) w0 := fun w0 m => Lib.run_eql_slice_nil (P := Tryz.prog) w0 75 88 (some ⟨g, o, none⟩) m cap 0 0 Tryz.underlying75
    clear h h4 h5
    go_enter Tryz.func79, Tryz.ntmps79
    go_wp2_with (at_builtin; refine wpList_append_rw rfl _ _ 75 75 rfl 88 i0 (.pointer none) 1 8 Tryz.underlying75 hi hz0 hz1 hz2 rfl rfl (Rw.new (e := 88) [] [] (Blk.new _ _ _) rfl rfl (Nat.le_refl _) (Nat.zero_le _)) _ l.length (l.map pv) rfl (Rw.srcP (HR.out.keep (S := fun _ => False) ((Mvs.refl _ _).alloc _) (fun _ _ c => c))) (by simp only [maxLen]; omega) (by omega) ?_)
    intro v3 w3 G3 hr3 hm3 hg3
    have hr3' : Rw w3 1 v3 l.length (l.map pv) G3 := by simpa using hr3
    have hb3 : Below w.heap.size w w3 := below_mvs ((Below.refl _ w).alloc (Nat.le_refl _) (.cells #[] 88)) hm3 (fun k hk e => by cases e; omega) (Nat.le_refl _)
    have T3 : Hid (Prow w w3 v3 l) := ⟨hb3, G3, hr3', fun k hk => by
      rcases hg3 with e | e
      · rw [hk] at e
        cases e
        exact Nat.le_refl _
      · rw [hk] at e
        cases e
        simp⟩
    clear hr3 hm3 hg3 hi hz0 hz1 hz2 hr3' hb3
    go_wp2
    go_ret
    exact ⟨_, rfl, T3.out⟩
theorem one_key {n : Int} {b : Nat} {z : Lit} (h : Maps.has (DataW.map [(.int .i64 n, pd b)]) z = true) : z = .int .i64 n := by
  rw [Maps.has_eq] at h
  simp at h
  exact (WideAt.sameKey_eq h).symm
theorem sameInt (n : Int) : (Lit.int .i64 n).sameKey (.int .i64 n) = true := WideAt.sameKey_self trivial
set_option maxRecDepth 20000 in
set_option maxHeartbeats 2000000 in
theorem unsure_one (w : World) (d bc N b : Nat) (num : Int) (v0 v1 v2 vl v5 v6 v7 v8 v9 v10 : Value) (Gl : Option Nat) (hk : Blk w d #[v0, v1, v2, .map (some bc), vl, v5, v6, v7, v8, v9, v10] 77) (hown : w.ownsMap Tryz.prog 3 ptrElem bc N (.map [(.int .i64 num, pd b)])) (hl : Rw w 1 vl 0 [] Gl) :
    Calls Tryz.prog 49 #[pv d] w fun e w' => ∃ v, e = .returned v ∧ Prow w w' v [b] := by
  obtain ⟨i0, hi, hz0, hz1, hz2⟩ := info_parts ptrInfo
  have hc := hk.cell
  have HO := hide hown
  have HC := hide (cloneP_any w vl [] Gl hl (by simp))
  have hlt : Hid (bc < w.heap.size) := hown.lt
  have hdl : Hid (d < w.heap.size) := hk.lt
  have HK := hide hk
  clear hk hown hl
  unfold pv
  go_enter Tryz.func49, Tryz.ntmps49
  go_wp2_with (go_at_call 79; refine HC.out.mono ?_)
  rintro e w1 ⟨v1', rfl, hP⟩
  obtain ⟨hb1, G1, hr1, hg1⟩ := hP
  have hc1 := (HK.out.below hb1 hdl.out).cell
  have HO1 := hide (HO.out.mvs (S := fun _ => False) (Mvs.of_below hb1) (fun c => c))
  obtain ⟨A1, c1, rfl⟩ := hr1.form
  have HP1 : Hid (Prow w w1 (.slice A1 0 c1) []) := ⟨hb1, G1, hr1, hg1⟩
  clear hb1 hr1 hg1 HC hc HO
  go_wp2_with (at_range; refine wpList_range_own _ rfl _ 73 rfl 3 88 intKeyed Tryz.underlying73 ptrElem bc N (.map [(.int .i64 num, pd b)]) rfl HO1.out ?_)
  intro w2 hrg0 hg0 hs0
  have hb2 : Below w1.heap.size w1 w2 := Below.of_grown (B := w1.heap.size) hg0 (fun j e => by cases e) (Nat.le_refl _)
  have HR0 := hide hrg0
  have HP2 : Hid (Prow w w2 (.slice A1 0 c1) []) := by
    obtain ⟨h1, G, h2, h3⟩ := HP1.out
    exact ⟨h1.trans (hb2.mono h1.size), G, h2.keep (S := fun _ => False) (Mvs.of_below hb2) (fun _ _ c => c), h3⟩
  have hw1 : Hid (w.heap.size ≤ w1.heap.size) := HP1.out.1.size
  have hs2 : Hid (w2.heap.size = w1.heap.size + 1) := hs0
  have HG1 : Hid (∃ G, Rw w2 1 (.slice A1 0 c1) 0 [] G ∧ ∀ g, G = some g → w.heap.size ≤ g ∧ g ≠ w1.heap.size) := by
    obtain ⟨h1, G, h2, h3⟩ := HP1.out
    exact ⟨G, h2.keep (S := fun _ => False) (Mvs.of_below hb2) (fun _ _ c => c), fun g hg => ⟨h3 g hg, by have := h2.lt g hg; omega⟩⟩
  have HB2 : Hid (Below w.heap.size w w2) := HP2.out.1
  clear hrg0 hg0 hs0 hb2 HP1 HP2
  go_wp2
  go_loopw [3] (fun u wr => ∃ (left : Lit → Bool) (cnt : Nat), Hid (wr.ranges Tryz.prog 3 ptrElem bc w1.heap.size N (.map [(.int .i64 num, pd b)]) left cnt) ∧ Hid (Below w.heap.size w wr) ∧
      ((Hid (left (.int .i64 num) = true) ∧ Hid (∀ z, left z = true → z = .int .i64 num) ∧ ∃ A c, u = .slice A 0 c ∧ Hid (∃ G, Rw wr 1 (.slice A 0 c) 0 [] G ∧ ∀ g, G = some g → w.heap.size ≤ g ∧ g ≠ w1.heap.size)) ∨ (Hid (∀ z, left z = false) ∧ ∃ A c, u = .slice A 1 c ∧ Hid (Prow w wr (.slice A 1 c) [b])))) (fun _ wr => wr.rangeLeft bc w1.heap.size)
  case atStart => exact ⟨_, _, HR0, HB2, .inl ⟨by show Maps.has _ _ = true; rw [Maps.has_eq]; simp [sameInt], fun z hz => one_key hz, A1, c1, rfl, HG1⟩⟩
  case round =>
    obtain ⟨left, cnt, HR, HB, ⟨HL, HZ, A, c, rfl, HG⟩ | ⟨HL, A, c, rfl, HP⟩⟩ := hrel
    · go_wp2_with (at_next; refine wpList_next_ranges _ rfl _ rfl 3 intKeyed ptrElem (Value.int .i64) mkP (fun key kl h => by obtain ⟨x, hx, _⟩ := Maps.keyOf_int_inv Tryz.underlying3 h; exact ⟨x, hx⟩) mkP_inv bc w1.heap.size N _ left cnt rfl HR.out ?_ ?_)
      · intro _ hl0
        have := HL.out
        rw [hl0] at this
        cases this
      · intro x cc kl y yp w3 cnt3 hkey hlk hv hat hrg3 hlt3 hg3 hs3 hen
        obtain rfl := HZ.out kl hlk
        have hy : y = pd b := by
          have := hat .nil
          simp [DataW.atKey, sameInt] at this
          exact this.symm
        obtain rfl : cc = some b := by
          rcases ptrElem_inv hv with ⟨e1, e2⟩ | ⟨b', e1, e2⟩
          · simp only [Prod.mk.injEq] at e2
            rw [e2.1] at hy
            simp [pd] at hy
          · simp only [Prod.mk.injEq] at e2
            rw [e2.1] at hy
            rw [pd_inj hy] at e1
            cases cc with
            | none => cases e1
            | some c0 =>
              simp [mkP, pv] at e1
              rw [e1]
        have hb3 : Below w.heap.size wr w3 := Below.of_grown (B := w.heap.size) hg3 (fun j e => by cases e; exact hw1.out) HB.out.size
        obtain ⟨G, hrG, hGG⟩ := HG.out
        have hrow3 := hide (hrG.keep (Mvs.of_grown hg3) (fun g hg e => (hGG g hg).2 (Option.some.inj e)))
        have HGG := hide hGG
        have HR3 := hide hrg3
        have HB3 := hide (HB.out.trans hb3)
        have HLT := hide hlt3
        have hr0 := hide HR.out.left_eq
        have hbcl := hide (show bc < w.heap.size from hlt.out)
        simp only [mkP, Option.map_some] at hen
        clear hkey hlk hv hat hrg3 hlt3 hg3 hs3 hy hrG hGG hb3 HG
        unfold mkP
        go_wp2_with (at_builtin; refine wpList_append_rw rfl _ _ 75 75 rfl 88 i0 (.pointer none) 1 8 Tryz.underlying75 hi hz0 hz1 hz2 rfl rfl (hrow3.out.keep (S := fun _ => False) ((Mvs.refl _ _).alloc _) (fun _ _ c => c)) _ 1 [pv b] rfl (src_one Tryz.underlying75 (pv b) rfl) (by simp only [maxLen]; omega) (by omega) ?_)
        intro v4 w4 G4 hr4 hm4 hg4
        have hgr : w3.grownBy w4 G := ⟨hm4.os, hm4.tape, hm4.output, by have := hm4.size; simp at this; omega, fun i hi hne => (((Mvs.refl (fun k => some k = G) w3).alloc _).trans hm4).block i hi hne⟩
        have HR4 := hide (HR3.out.kept hgr (fun e => by have := (HGG.out bc e.symm).1; have := hbcl.out; omega) (fun e => (HGG.out _ e.symm).2 rfl))
        have HB4 := hide (HB3.out.trans (Below.of_grown (B := w.heap.size) hgr (fun j e => (HGG.out j e).1) HB3.out.size))
        have hl4 := hide HR4.out.left_eq
        obtain ⟨A4, c4, rfl⟩ := hr4.form
        have HP4 : Hid (Prow w w4 (.slice A4 1 c4) [b]) := ⟨HB4.out, G4, by simpa using hr4, fun g hg => by
          rcases hg4 with e | e
          · exact (HGG.out g (by rw [← e, hg])).1
          · rw [hg] at e
            cases e
            have := HB3.out.size
            simp
            omega⟩
        clear hr4 hm4 hg4 hgr
        go_wp2
        go_roundw
        case rel => exact ⟨_, cnt3, HR4, HB4, .inr ⟨fun z => by
          cases hz : left z with
          | false => simp
          | true =>
            rw [HZ.out z hz, sameInt]
            rfl, A4, c4, rfl, HP4⟩⟩
        case measure =>
          rw [hl4.out, hr0.out]
          exact HLT.out
    · go_wp2_with (at_next; refine wpList_next_ranges _ rfl _ rfl 3 intKeyed ptrElem (Value.int .i64) mkP (fun key kl h => by obtain ⟨x, hx, _⟩ := Maps.keyOf_int_inv Tryz.underlying3 h; exact ⟨x, hx⟩) mkP_inv bc w1.heap.size N _ left cnt rfl HR.out ?_ ?_)
      · intro _ _
        go_wp2_with (go_at_call 80; refine (sort1 _ _ _ _).mono ?_; rintro e w' ⟨rfl, rfl⟩)
        go_ret
        exact ⟨_, rfl, HP.out⟩
      · intro x cc kl y yp w3 cnt3 hkey hlk
        have := HL.out kl
        rw [hlk] at this
        cases this
end Go.Proofs.YtcbkmcagnmpifaaGreatDoor

end
