/- A disk: the power goes at a step. -/
/- A disk: the draws of a crash; one file sorted; the names as they were sure. -/
/- A disk: what is unsure, where it is one file; the names as they were sure; one file restored. -/
import Derived.Test.YthhnlkbjpahjeaaGreatDoorU09
import Derived.Test.YthhnlkbjpahjeaaGreatDoorU08
section
namespace Go.Proofs.YthhnlkbjpahjeaaGreatDoor
open Go.RowKit Go.Maps
/-- The state behind the power's going. -/
def St.gone (s : St) : St := { s with off := true }
section
variable (w0 w : World) (d : Nat) (ρ : Nat → Option Role) (s : St)
theorem DK.gone_set {w0 w : World} {d : Nat} {ρ : Nat → Option Role} {s : St} (h : DK w0 w d ρ s) : DK w0 (w.setCell ⟨d, 9, none⟩ (.bool true)) d ρ s.gone ∧ Turn w (w.setCell ⟨d, 9, none⟩ (.bool true)) ρ ρ := by
  obtain ⟨bn, bs, bc, vs, vl, Gs, Gl, cs, h⟩ := h
  have hm : Mvs (fun k => k = d) w (w.setCell ⟨d, 9, none⟩ (.bool true)) := (Mvs.refl (fun k => k = d) w).setCell ⟨d, 9, none⟩ _ (fun _ => rfl)
  exact ⟨⟨_, _, _, _, _, _, _, _, h.ints hm s.created s.opened s.steps s.armed true s.quota (h.blk.set 9 _)⟩, hm.mono fun k _ e => by subst e; exact ⟨_, h.rd⟩, fun k r hr _ => ⟨r, hr⟩⟩
theorem step_gone (a : Nat → Addr) (hE : Errs w0 a) (h : DK w0 w d ρ s) (ha : s.armed = 0) :
    Calls Tryz.prog 37 #[pv d] w fun e w' => e = .returned (errV a 7) ∧ w' = w.setCell ⟨d, 9, none⟩ (.bool true) := by
  have hce : w.cell? ⟨2, 0, none⟩ = some (errV a 7) := (hE.below h.below).cell 7 (by decide)
  have hlo : 2 < w0.heap.size := hE.low 7 (by decide)
  obtain ⟨bn, bs, bc, vs, vl, Gs, Gl, cs, h⟩ := h
  have hd := (h.low d _ h.rd).1
  have hk := h.blk
  rw [ha] at hk
  exact takeStep_gone w d _ _ _ _ _ _ _ _ _ _ hk a hce (by omega) (by omega)
set_option maxHeartbeats 1000000 in
theorem changeNames_gone (a : Nat → Addr) (hE : Errs w0 a) (h : DK w0 w d ρ s) (ha : s.armed = 0) (v : Value) :
    Calls Tryz.prog 66 #[pv d, v] w fun e w' => e = .returned (errV a 7) ∧ w' = w.setCell ⟨d, 9, none⟩ (.bool true) := by
  have HS := hide (step_gone w0 w d ρ s a hE h ha)
  clear h hE
  unfold pv errV at *
  go_enter Tryz.func66, Tryz.ntmps66
  go_wp2_with fail
  refine HS.out.mono ?_
  rintro e w1 ⟨rfl, hw1⟩
  replace hw1 := hide hw1
  go_wp2
  go_ret
  exact ⟨rfl, hw1.out⟩
set_option maxHeartbeats 1000000 in
theorem changeFile_gone (a : Nat → Addr) (hE : Errs w0 a) (h : DK w0 w d ρ s) (ha : s.armed = 0) (v x : Value) :
    Calls Tryz.prog 81 #[pv d, v, x] w fun e w' => e = .returned (errV a 7) ∧ w' = w.setCell ⟨d, 9, none⟩ (.bool true) := by
  have HS := hide (step_gone w0 w d ρ s a hE h ha)
  clear h hE
  unfold pv errV at *
  go_enter Tryz.func81, Tryz.ntmps81
  go_wp2_with fail
  refine HS.out.mono ?_
  rintro e w1 ⟨rfl, hw1⟩
  replace hw1 := hide hw1
  go_wp2
  go_ret
  exact ⟨rfl, hw1.out⟩
set_option maxRecDepth 8000 in
set_option maxHeartbeats 1000000 in
theorem sync_gone (a : Nat → Addr) (hE : Errs w0 a) (h : DK w0 w d ρ s) (hoff : s.off = false) (ha : s.armed = 0) (name : List UInt8) (hr : rightB name = true) (b : Nat) (hat : s.D.atKey (.string name) .nil = pd b) :
    Calls Tryz.prog 50 #[pv d, .string ⟨name.toArray⟩] w fun e w' => e = .returned (errV a 7) ∧ DK w0 w' d ρ s.gone ∧ Turn w w' ρ ρ := by
  have HF := hide (find_there w0 w d ρ s h hoff name hr b hat)
  have HS := hide (step_gone w0 w d ρ s a hE h ha)
  have HG := hide h.gone_set
  clear h hE hat
  unfold pv errV at *
  go_enter Tryz.func50, Tryz.ntmps50
  go_wp2_with (go_at_call 63; refine HF.out.mono ?_; rintro e w ⟨rfl, rfl⟩)
  refine HS.out.mono ?_
  rintro e w1 ⟨rfl, hw1⟩
  replace hw1 := hide hw1
  go_wp2
  go_ret
  refine ⟨rfl, ?_⟩
  rw [hw1.out]
  exact HG.out
set_option maxRecDepth 8000 in
set_option maxHeartbeats 1000000 in
theorem syncDir_gone (a : Nat → Addr) (hE : Errs w0 a) (h : DK w0 w d ρ s) (hoff : s.off = false) (ha : s.armed = 0) :
    Calls Tryz.prog 21 #[pv d] w fun e w' => e = .returned (errV a 7) ∧ DK w0 w' d ρ s.gone ∧ Turn w w' ρ ρ := by
  have HS := hide (step_gone w0 w d ρ s a hE h ha)
  have HG := hide h.gone_set
  obtain ⟨bn, bs, bc, vs, vl, Gs, Gl, cs, h⟩ := h
  have hc := h.blk.cell
  rw [hoff] at hc
  clear h hE
  unfold pv errV at *
  go_enter Tryz.func21, Tryz.ntmps21
  go_wp2_with fail
  refine HS.out.mono ?_
  rintro e w1 ⟨rfl, hw1⟩
  replace hw1 := hide hw1
  clear hc
  go_wp2
  go_ret
  refine ⟨rfl, ?_⟩
  rw [hw1.out]
  exact HG.out
set_option maxRecDepth 20000 in
set_option maxHeartbeats 2000000 in
theorem create_goneB (a : Nat → Addr) (hE : Errs w0 a) (h : DK w0 w d ρ s) (hoff : s.off = false) (ha : s.armed = 0) (hsz : Maps.size s.D ≤ 60) (name : List UInt8) (hr : rightB name = true) (hf : s.D.atKey (.string name) .nil = .nil) :
    Calls Tryz.prog 36 #[pv d, .string ⟨name.toArray⟩] w fun e w' => e = .returned (errV a 7) ∧ DK w0 w' d ρ s.gone ∧ Turn w w' ρ ρ := by
  have hb1 : Below w.heap.size w (w.alloc (.cells #[.string ⟨name.toArray⟩] 9)) := (Below.refl _ _).alloc (Nat.le_refl _) _
  have HF := hide (find_none w0 _ d ρ s a hE (h.then hb1) hoff name hr hf)
  have hE1 := hE.below (h.then hb1).below
  have HC := hide hb1
  have HH := hide (h.then hb1)
  have hg : Hid (∀ m, (World.drewN (w.alloc (.cells #[.string ⟨name.toArray⟩] 9)) m).cell? ⟨0, 0, none⟩ = some (errV a 4)) := fun m => hE1.cell 4 (by decide)
  have hes := err_same
  have HE := hide hE
  clear h hE hE1 hb1 hf
  unfold pv errV at *
  go_enter Tryz.func36, Tryz.ntmps36
  go_wp2_with fail
  refine HF.out.mono ?_
  rintro e w1 ⟨rfl, m, rfl⟩
  have hg1 := hg.out m
  have hb2 := hide (HC.out.trans ((below_drewN _ m).mono HC.out.size))
  have HH2 := hide (HH.out.drewN m)
  clear HF hg HC HH
  generalize World.drewN _ m = W at *
  obtain ⟨bn, bs, bc, vs, vl, Gs, Gl, cs, hD⟩ := HH2.out
  have hc := hD.blk.cell
  have hlen := hD.names.len Tryz.underlying51
  have hle : ((Maps.size s.D : Nat) : Int) ≤ 60 := by omega
  clear hD
  go_wp2_with fail
  obtain ⟨W2, hW2⟩ : ∃ W2, W2 = (W.alloc (.cells #[.int .i64 s.created, .slice none 0 0, .slice none 0 0] 100)).alloc (.cells #[.pointer (some ⟨W.heap.size, 0, none⟩)] 72) := ⟨_, rfl⟩
  rw [← hW2]
  have hbW : Below W.heap.size W W2 := by rw [hW2]; exact ((Below.refl _ _).alloc (Nat.le_refl _) _).alloc (by simp) _
  have hD2 := HH2.out.then hbW
  refine (changeNames_gone w0 W2 d ρ s a HE.out hD2 ha _).mono ?_
  rintro e w3 ⟨rfl, hw3⟩
  have hG3 := hD2.gone_set
  rw [← hw3] at hG3
  have HG := hide hG3
  have HB := hide (hb2.out.trans (hbW.mono hb2.out.size))
  unfold errV
  clear hc hlen hle hg1 hD2 hbW hW2 hw3 hG3
  go_wp2
  go_ret
  exact ⟨rfl, HG.out.1, Turn.trans ⟨Mvs.of_below HB.out, fun k r hr _ => ⟨r, hr⟩⟩ HG.out.2⟩
theorem create_gone (a : Nat → Addr) (hE : Errs w0 a) (h : DK w0 w d ρ s) (hoff : s.off = false) (ha : s.armed = 0) (hN : s.N ≤ 60) (name : List UInt8) (hr : rightB name = true) (hf : s.D.atKey (.string name) .nil = .nil) :
    Calls Tryz.prog 36 #[pv d, .string ⟨name.toArray⟩] w fun e w' => e = .returned (errV a 7) ∧ DK w0 w' d ρ s.gone ∧ Turn w w' ρ ρ := by
  have hsz : Maps.size s.D ≤ 60 := by
    obtain ⟨bn, bs, bc, vs, vl, Gs, Gl, cs, hD⟩ := h
    have := hD.names.size_le
    omega
  exact create_goneB w0 w d ρ s a hE h hoff ha hsz name hr hf
end
end Go.Proofs.YthhnlkbjpahjeaaGreatDoor

end
section
namespace Go.Proofs.YthhnlkbjpahjeaaGreatDoor
open Go.RowKit Go.Maps
def drawV (ck : Nat) : Value := .func (.func 58) #[] #[pv ck]
set_option maxRecDepth 20000 in
set_option maxHeartbeats 2000000 in
/-- A number is drawn. -/
theorem draw_head (w : World) (ck g o n c k most : Nat) (hk : Blk w ck #[.slice (some ⟨g, o, none⟩) (n + 1) c] 26) (h0 : w.cell? ⟨g, o, none⟩ = some (.int .i64 k)) (hk1 : k ≤ 1000000) (hm : most ≤ 1000000) :
    Calls Tryz.prog 58 #[.int .i64 most, pv ck] w fun e w' => e = .returned (.int .i64 ((k % (most + 1) : Nat))) ∧ w' = w.setCell ⟨ck, 0, none⟩ (if c = 1 then .slice (some ⟨g, o, none⟩) n 0 else .slice (some ⟨g, o + 1, none⟩) n (c - 1)) := by
  have hcl := hk.cell
  have hfz := hk.frozen
  have hx : max (0 : Int) k = k := by omega
  have hy : ((n : Int) + 1 == 0) = false := by simp; omega
  have hz : ¬ (n : Int) + 1 = 0 := by omega
  clear hk
  unfold pv
  go_enter Tryz.func58, Tryz.ntmps58
  go_wp2
  all_goals (
    go_ret
    exact ⟨rfl, rfl⟩)
set_option maxRecDepth 20000 in
set_option maxHeartbeats 2000000 in
theorem len1 (w : World) : Calls Tryz.prog 97 #[.int .u64 1] w fun e w' => ∃ l : Int, e = .returned (.int .i64 l) ∧ w' = w := by
  have h64 : Calls Tryz.prog 126 #[.int .u64 1] w fun e w' => ∃ l : Int, e = .returned (.int .i64 l) ∧ w' = w := by
    go_enter Tryz.func126, Tryz.ntmps126
    go_wp2
    go_ret
    exact ⟨_, rfl, rfl⟩
  go_enter Tryz.func97, Tryz.ntmps97
  go_wp2_with (go_at_call 126; refine h64.mono ?_; rintro e w' ⟨l, rfl, rfl⟩)
  go_ret
  exact ⟨_, rfl, rfl⟩
theorem insertion1 (w : World) (v f : Value) : Calls Tryz.prog 117 #[v, .int .i64 0, .int .i64 1, f] w fun e w' => e = .returned (.tuple #[]) ∧ w' = w := by
  go_enter Tryz.func117, Tryz.ntmps117
  go_wp2
  refine wp_loop_rounds 1 ?_
  rw [rounds_succ]
  go_wp2
  go_end0
  exact ⟨rfl, rfl⟩
set_option maxRecDepth 20000 in
set_option maxHeartbeats 2000000 in
theorem pdq1 (w : World) (v lim f : Value) : Calls Tryz.prog 96 #[v, .int .i64 0, .int .i64 1, lim, f] w fun e w' => e = .returned (.tuple #[]) ∧ w' = w := by
  go_enter Tryz.func96, Tryz.ntmps96
  go_wp2
  refine wp_loop_rounds 1 ?_
  rw [rounds_succ]
  go_wp2_with (go_at_call 117; refine (insertion1 _ _ _).mono ?_; rintro e w' ⟨rfl, rfl⟩)
  refine bodyPost_ret (results_none rfl _ _ _) rfl ?_
  exact ⟨rfl, rfl⟩
theorem sort1 (w : World) (A : Option Addr) (c : Nat) (f : Value) : Calls Tryz.prog 60 #[.slice A 1 c, f] w fun e w' => e = .returned (.tuple #[]) ∧ w' = w := by
  go_enter Tryz.func60, Tryz.ntmps60
  go_wp2_with (first | (go_at_call 97; refine (len1 _).mono ?_; rintro e w' ⟨l, rfl, rfl⟩) | (go_at_call 96; refine (pdq1 _ _ _ _).mono ?_; rintro e w' ⟨rfl, rfl⟩))
  go_end0
  exact ⟨rfl, rfl⟩
theorem clone0 (w : World) : Calls Tryz.prog 59 #[.slice none 0 0] w fun e w' => e = .returned (.slice none 0 0) ∧ w' = w := by
  have hq : ∀ (w0 : World), (binOp .eql 54 (.slice none 0 0) (.slice none 0 0)).run Tryz.prog w0 = .ok (.bool true) w0 := fun w0 => Lib.run_eql_slice_nil (P := Tryz.prog) w0 54 72 none 0 0 0 0 Tryz.underlying54
  go_enter Tryz.func59, Tryz.ntmps59
  go_wp2
  go_ret
  exact ⟨rfl, rfl⟩
end Go.Proofs.YthhnlkbjpahjeaaGreatDoor

end
section
namespace Go.Proofs.YthhnlkbjpahjeaaGreatDoor
open Go.RowKit Go.Maps
theorem ptrInfo : (Tryz.prog.info? 72).map (fun i => (i.zero, i.size, i.bytes)) = some (some (.pointer none), 1, 8) := by kernel_rfl
theorem pv_one (l : List Nat) : ∀ u ∈ l.map pv, u.oneCell' = true := by
  intro u hu
  obtain ⟨b, _, rfl⟩ := List.mem_map.1 hu
  rfl
theorem Rw.srcP {w : World} {v : Value} {l : List Nat} {G : Option Nat} (h : Rw w 1 v l.length (l.map pv) G) : Src Tryz.prog 1 54 v l.length (l.map pv) w := by
  rcases h.2 with ⟨rfl, h0, _⟩ | ⟨g, o, cap, rfl, rfl, h1, h2, h3, h4, h5⟩
  · have : l = [] := List.length_eq_zero_iff.1 h0
    subst this
    exact Src.ofNil w Tryz.underlying54 0
  · exact Src.ofSlice w Tryz.underlying54 ⟨g, o, none⟩ l.length cap (l.map pv) (by simp) (fun j u hu => by rw [Go.WideShapes.add_plain]; exact h4 j u hu) (pv_one l)
/-- A row of pointers of this call's own. -/
def Prow (w wr : World) (v : Value) (l : List Nat) : Prop := Below w.heap.size w wr ∧ ∃ G, Rw wr 1 v l.length (l.map pv) G ∧ ∀ g, G = some g → w.heap.size ≤ g
set_option maxRecDepth 20000 in
set_option maxHeartbeats 2000000 in
theorem cloneP_any (w : World) (v : Value) (l : List Nat) (G : Option Nat) (h : Rw w 1 v l.length (l.map pv) G) (hl : l.length ≤ 1000000) :
    Calls Tryz.prog 59 #[v] w fun e w' => ∃ v', e = .returned v' ∧ Prow w w' v' l := by
  have HS := hide h.srcP
  have HR := hide h
  rcases h.2 with ⟨rfl, h0, rfl⟩ | ⟨g, o, cap, rfl, rfl, h1, h2, h3, h4, h5⟩
  · have : l = [] := List.length_eq_zero_iff.1 h0
    subst this
    exact (clone0 w).mono fun e w' ⟨he, hw⟩ => ⟨_, he, by subst hw; exact Below.refl _ _, none, Rw.nil _ _, fun _ h => by cases h⟩
  · obtain ⟨i0, hi, hz0, hz1, hz2⟩ := info_parts ptrInfo
    have hq : ∀ (w0 : World) (m : Nat), (binOp .eql 54 (.slice (some ⟨g, o, none⟩) m cap) (.slice none 0 0)).run Tryz.prog w0 = .ok (.bool false) w0 := fun w0 m => Lib.run_eql_slice_nil (P := Tryz.prog) w0 54 72 (some ⟨g, o, none⟩) m cap 0 0 Tryz.underlying54
    clear h h4 h5
    go_enter Tryz.func59, Tryz.ntmps59
    go_wp2_with (at_builtin; refine wpList_append_rw rfl _ _ 54 54 rfl 72 i0 (.pointer none) 1 8 Tryz.underlying54 hi hz0 hz1 hz2 rfl rfl (Rw.new (e := 72) [] [] (Blk.new _ _ _) rfl rfl (Nat.le_refl _) (Nat.zero_le _)) _ l.length (l.map pv) rfl (Rw.srcP (HR.out.keep (S := fun _ => False) ((Mvs.refl _ _).alloc _) (fun _ _ c => c))) (by simp only [maxLen]; omega) (by omega) ?_)
    intro v3 w3 G3 hr3 hm3 hg3
    have hr3' : Rw w3 1 v3 l.length (l.map pv) G3 := by simpa using hr3
    have hb3 : Below w.heap.size w w3 := below_mvs ((Below.refl _ w).alloc (Nat.le_refl _) (.cells #[] 72)) hm3 (fun k hk e => by cases e; omega) (Nat.le_refl _)
    have T3 : Hid (Prow w w3 v3 l) := ⟨hb3, G3, hr3', fun k hk => by
      rcases hg3 with e | e
      · rw [hk] at e
        cases e
        exact Nat.le_refl _
      · rw [hk] at e
        cases e
        simp⟩
    clear hr3 hm3 hg3 hi hz0 hz1 hz2 hr3' hb3
    go_wp2
    go_ret
    exact ⟨_, rfl, T3.out⟩
theorem one_key {n : Int} {b : Nat} {z : Lit} (h : Maps.has (DataW.map [(.int .i64 n, pd b)]) z = true) : z = .int .i64 n := by
  rw [Maps.has_eq] at h
  simp at h
  exact (WideAt.sameKey_eq h).symm
theorem sameInt (n : Int) : (Lit.int .i64 n).sameKey (.int .i64 n) = true := WideAt.sameKey_self trivial
set_option maxRecDepth 20000 in
set_option maxHeartbeats 2000000 in
theorem unsure_one (w : World) (d bc N b : Nat) (num : Int) (v0 v1 v2 vl v5 v6 v7 v8 v9 v10 : Value) (Gl : Option Nat) (hk : Blk w d #[v0, v1, v2, .map (some bc), vl, v5, v6, v7, v8, v9, v10] 56) (hown : w.ownsMap Tryz.prog 3 ptrElem bc N (.map [(.int .i64 num, pd b)])) (hl : Rw w 1 vl 0 [] Gl) :
    Calls Tryz.prog 32 #[pv d] w fun e w' => ∃ v, e = .returned v ∧ Prow w w' v [b] := by
  obtain ⟨i0, hi, hz0, hz1, hz2⟩ := info_parts ptrInfo
  have hc := hk.cell
  have HO := hide hown
  have HC := hide (cloneP_any w vl [] Gl hl (by simp))
  have hlt : Hid (bc < w.heap.size) := hown.lt
  have hdl : Hid (d < w.heap.size) := hk.lt
  have HK := hide hk
  clear hk hown hl
  unfold pv
  go_enter Tryz.func32, Tryz.ntmps32
  go_wp2_with (go_at_call 59; refine HC.out.mono ?_)
  rintro e w1 ⟨v1', rfl, hP⟩
  obtain ⟨hb1, G1, hr1, hg1⟩ := hP
  have hc1 := (HK.out.below hb1 hdl.out).cell
  have HO1 := hide (HO.out.mvs (S := fun _ => False) (Mvs.of_below hb1) (fun c => c))
  obtain ⟨A1, c1, rfl⟩ := hr1.form
  have HP1 : Hid (Prow w w1 (.slice A1 0 c1) []) := ⟨hb1, G1, hr1, hg1⟩
  clear hb1 hr1 hg1 HC hc HO
  go_wp2_with (at_range; refine wpList_range_own _ rfl _ 52 rfl 3 72 intKeyed Tryz.underlying52 ptrElem bc N (.map [(.int .i64 num, pd b)]) rfl HO1.out ?_)
  intro w2 hrg0 hg0 hs0
  have hb2 : Below w1.heap.size w1 w2 := Below.of_grown (B := w1.heap.size) hg0 (fun j e => by cases e) (Nat.le_refl _)
  have HR0 := hide hrg0
  have HP2 : Hid (Prow w w2 (.slice A1 0 c1) []) := by
    obtain ⟨h1, G, h2, h3⟩ := HP1.out
    exact ⟨h1.trans (hb2.mono h1.size), G, h2.keep (S := fun _ => False) (Mvs.of_below hb2) (fun _ _ c => c), h3⟩
  have hw1 : Hid (w.heap.size ≤ w1.heap.size) := HP1.out.1.size
  have hs2 : Hid (w2.heap.size = w1.heap.size + 1) := hs0
  have HG1 : Hid (∃ G, Rw w2 1 (.slice A1 0 c1) 0 [] G ∧ ∀ g, G = some g → w.heap.size ≤ g ∧ g ≠ w1.heap.size) := by
    obtain ⟨h1, G, h2, h3⟩ := HP1.out
    exact ⟨G, h2.keep (S := fun _ => False) (Mvs.of_below hb2) (fun _ _ c => c), fun g hg => ⟨h3 g hg, by have := h2.lt g hg; omega⟩⟩
  have HB2 : Hid (Below w.heap.size w w2) := HP2.out.1
  clear hrg0 hg0 hs0 hb2 HP1 HP2
  go_wp2
  go_loopw [3] (fun u wr => ∃ (left : Lit → Bool) (cnt : Nat), Hid (wr.ranges Tryz.prog 3 ptrElem bc w1.heap.size N (.map [(.int .i64 num, pd b)]) left cnt) ∧ Hid (Below w.heap.size w wr) ∧
      ((Hid (left (.int .i64 num) = true) ∧ Hid (∀ z, left z = true → z = .int .i64 num) ∧ ∃ A c, u = .slice A 0 c ∧ Hid (∃ G, Rw wr 1 (.slice A 0 c) 0 [] G ∧ ∀ g, G = some g → w.heap.size ≤ g ∧ g ≠ w1.heap.size)) ∨ (Hid (∀ z, left z = false) ∧ ∃ A c, u = .slice A 1 c ∧ Hid (Prow w wr (.slice A 1 c) [b])))) (fun _ wr => wr.rangeLeft bc w1.heap.size)
  case atStart => exact ⟨_, _, HR0, HB2, .inl ⟨by show Maps.has _ _ = true; rw [Maps.has_eq]; simp [sameInt], fun z hz => one_key hz, A1, c1, rfl, HG1⟩⟩
  case round =>
    obtain ⟨left, cnt, HR, HB, ⟨HL, HZ, A, c, rfl, HG⟩ | ⟨HL, A, c, rfl, HP⟩⟩ := hrel
    · go_wp2_with (at_next; refine wpList_next_ranges _ rfl _ rfl 3 intKeyed ptrElem (Value.int .i64) mkP (fun key kl h => by obtain ⟨x, hx, _⟩ := Maps.keyOf_int_inv Tryz.underlying3 h; exact ⟨x, hx⟩) mkP_inv bc w1.heap.size N _ left cnt rfl HR.out ?_ ?_)
      · intro _ hl0
        have := HL.out
        rw [hl0] at this
        cases this
      · intro x cc kl y yp w3 cnt3 hkey hlk hv hat hrg3 hlt3 hg3 hs3 hen
        obtain rfl := HZ.out kl hlk
        have hy : y = pd b := by
          have := hat .nil
          simp [DataW.atKey, sameInt] at this
          exact this.symm
        obtain rfl : cc = some b := by
          rcases ptrElem_inv hv with ⟨e1, e2⟩ | ⟨b', e1, e2⟩
          · simp only [Prod.mk.injEq] at e2
            rw [e2.1] at hy
            simp [pd] at hy
          · simp only [Prod.mk.injEq] at e2
            rw [e2.1] at hy
            rw [pd_inj hy] at e1
            cases cc with
            | none => cases e1
            | some c0 =>
              simp [mkP, pv] at e1
              rw [e1]
        have hb3 : Below w.heap.size wr w3 := Below.of_grown (B := w.heap.size) hg3 (fun j e => by cases e; exact hw1.out) HB.out.size
        obtain ⟨G, hrG, hGG⟩ := HG.out
        have hrow3 := hide (hrG.keep (Mvs.of_grown hg3) (fun g hg e => (hGG g hg).2 (Option.some.inj e)))
        have HGG := hide hGG
        have HR3 := hide hrg3
        have HB3 := hide (HB.out.trans hb3)
        have HLT := hide hlt3
        have hr0 := hide HR.out.left_eq
        have hbcl := hide (show bc < w.heap.size from hlt.out)
        simp only [mkP, Option.map_some] at hen
        clear hkey hlk hv hat hrg3 hlt3 hg3 hs3 hy hrG hGG hb3 HG
        unfold mkP
        go_wp2_with (at_builtin; refine wpList_append_rw rfl _ _ 54 54 rfl 72 i0 (.pointer none) 1 8 Tryz.underlying54 hi hz0 hz1 hz2 rfl rfl (hrow3.out.keep (S := fun _ => False) ((Mvs.refl _ _).alloc _) (fun _ _ c => c)) _ 1 [pv b] rfl (src_one Tryz.underlying54 (pv b) rfl) (by simp only [maxLen]; omega) (by omega) ?_)
        intro v4 w4 G4 hr4 hm4 hg4
        have hgr : w3.grownBy w4 G := ⟨hm4.os, hm4.tape, hm4.output, by have := hm4.size; simp at this; omega, fun i hi hne => (((Mvs.refl (fun k => some k = G) w3).alloc _).trans hm4).block i hi hne⟩
        have HR4 := hide (HR3.out.kept hgr (fun e => by have := (HGG.out bc e.symm).1; have := hbcl.out; omega) (fun e => (HGG.out _ e.symm).2 rfl))
        have HB4 := hide (HB3.out.trans (Below.of_grown (B := w.heap.size) hgr (fun j e => (HGG.out j e).1) HB3.out.size))
        have hl4 := hide HR4.out.left_eq
        obtain ⟨A4, c4, rfl⟩ := hr4.form
        have HP4 : Hid (Prow w w4 (.slice A4 1 c4) [b]) := ⟨HB4.out, G4, by simpa using hr4, fun g hg => by
          rcases hg4 with e | e
          · exact (HGG.out g (by rw [← e, hg])).1
          · rw [hg] at e
            cases e
            have := HB3.out.size
            simp
            omega⟩
        clear hr4 hm4 hg4 hgr
        go_wp2
        go_roundw
        case rel => exact ⟨_, cnt3, HR4, HB4, .inr ⟨fun z => by
          cases hz : left z with
          | false => simp
          | true =>
            rw [HZ.out z hz, sameInt]
            rfl, A4, c4, rfl, HP4⟩⟩
        case measure =>
          rw [hl4.out, hr0.out]
          exact HLT.out
    · go_wp2_with (at_next; refine wpList_next_ranges _ rfl _ rfl 3 intKeyed ptrElem (Value.int .i64) mkP (fun key kl h => by obtain ⟨x, hx, _⟩ := Maps.keyOf_int_inv Tryz.underlying3 h; exact ⟨x, hx⟩) mkP_inv bc w1.heap.size N _ left cnt rfl HR.out ?_ ?_)
      · intro _ _
        go_wp2_with (go_at_call 60; refine (sort1 _ _ _ _).mono ?_; rintro e w' ⟨rfl, rfl⟩)
        go_ret
        exact ⟨_, rfl, HP.out⟩
      · intro x cc kl y yp w3 cnt3 hkey hlk
        have := HL.out kl
        rw [hlk] at this
        cases this
end Go.Proofs.YthhnlkbjpahjeaaGreatDoor

end
