/- A disk: the names as they were sure; a file of one Append, restored. -/
import Derived.Test.YtpghfaplgkjdkaaDoorD16
namespace Go.Proofs.YtpghfaplgkjdkaaDoor
open Go.RowKit Go.Maps
set_option maxRecDepth 20000 in
set_option maxHeartbeats 2000000 in
/-- restoreNames, where no step of names is open. -/
theorem restoreNames_none (w : World) (d bs N : Nat) (D : DataW Unit) (v0 v3 v4 v5 v7 v8 v9 v10 : Value) (As : Option Addr) (cc : Nat) (o : Int) (hk : Blk w d #[v0, .map (some bs), .slice As 0 cc, v3, v4, v5, .int .i64 o, v7, v8, v9, v10] 49) (hown : w.ownsMap Tryd.prog 9 ptrElem bs N D) (hne : bs ≠ d) (ho : 0 ≤ o) (ho1 : o ≤ 1000000000) :
    Calls Tryd.prog 33 #[pv d, .int .i64 0] w fun e w' => e = .returned (.tuple #[]) ∧ Mvs (fun k => k = d) w w' ∧ Blk w' d #[.map (some bs), .map (some w.heap.size), .slice none 0 0, v3, v4, v5, .int .i64 o, v7, v8, v9, v10] 49 ∧ w'.ownsMap Tryd.prog 9 ptrElem w.heap.size N D ∧ w.heap.size < w'.heap.size := by
  have hc := hk.cell
  have hf := hk.frozen
  have hm1 : Mvs (fun k => k = d) w (w.setCell ⟨d, 0, none⟩ (.map (some bs))) := (Mvs.refl (fun k => k = d) w).setCell ⟨d, 0, none⟩ _ (fun _ => rfl)
  have hk1 := hk.set 0 (.map (some bs))
  have hsz : (w.setCell ⟨d, 0, none⟩ (.map (some bs))).heap.size = w.heap.size := by simp [World.setCell]
  have HS := hide (makeSure_raw _ d bs N D _ _ _ _ _ _ _ _ As 0 cc o hk1 (hown.mvs hm1 hne) ho ho1)
  rw [hsz] at HS
  have HM1 := hide hm1
  clear hk hown hm1 hk1
  unfold pv at *
  go_enter Tryd.func33, Tryd.ntmps33
  go_wp2
  refine wp_loop_rounds 1 ?_
  rw [rounds_succ]
  go_wp2_with (go_at_call 30; refine HS.out.mono ?_)
  rintro e w2 ⟨rfl, hm2, hk2, ho2, hlt2⟩
  have H2 := hide (And.intro hm2 (And.intro hk2 (And.intro ho2 hlt2)))
  clear hm2 hk2 ho2 hlt2
  go_wp2
  go_end0
  obtain ⟨hm2, hk2, ho2, hlt2⟩ := H2.out
  exact ⟨rfl, HM1.out.trans hm2, by simpa using hk2, ho2, hlt2⟩
set_option maxRecDepth 20000 in
set_option maxHeartbeats 2000000 in
/-- An Append undone, but for the first bytes. -/
theorem put1_any (w : World) (k g o n c size stay : Nat) (hk : Blk w k #[.int .i64 size] 3) (h1 : size + stay ≤ n) (h2 : n ≤ c) (h3 : c ≤ maxLen) :
    Calls Tryd.prog 38 #[.slice (some ⟨g, o, none⟩) n c, .int .i64 stay, pv k] w fun e w' => e = .returned (.slice (some ⟨g, o, none⟩) (size + stay) c) ∧ w' = w := by
  have hc := hk.cell
  simp only [maxLen] at h3
  clear hk
  unfold pv
  go_enter Tryd.func38, Tryd.ntmps38
  go_wp2
  go_ret
  exact ⟨rfl, rfl⟩
theorem Rw.to {w : World} {n k g o cap : Nat} {cs : List Value} (h : Rw w 1 (.slice (some ⟨g, o, none⟩) n cap) n cs (some g)) (hk : k ≤ n) : Rw w 1 (.slice (some ⟨g, o, none⟩) k cap) k (cs.take k) (some g) := by
  have hl := h.1
  rcases h.2 with ⟨h, _⟩ | ⟨g', o', cap', hg, hv, h1, h2, h3, h4, h5⟩
  · cases h
  · cases hg
    cases hv
    refine ⟨by rw [List.length_take]; omega, .inr ⟨g, o, cap, rfl, rfl, by omega, by omega, h3, fun j u hu => ?_, h5⟩⟩
    have h6 := (List.getElem?_eq_some_iff.1 hu).1
    rw [List.length_take] at h6
    rw [List.getElem?_take_of_lt (by omega)] at hu
    exact h4 _ u hu
set_option maxRecDepth 20000 in
set_option maxHeartbeats 4000000 in
/-- A file whose one open step is an Append, where the first number is 0. -/
theorem restore_one (w : World) (ρ : Nat → Option Role) (b : Nat) (num : Int) (bytes : List UInt8) (size len k2 : Nat) (vb vo : Value) (Gb Go : Option Nat) (cs : List Value) (h : FileRs w ρ b ⟨num, bytes, [.put size len]⟩ vb vo Gb Go cs) (hl : bytes.length = size + len) (hpos : 0 < len) (hsm : bytes.length ≤ 100000)
    (ck g o : Nat) (hck : Blk w ck #[.slice (some ⟨g, o, none⟩) 2 2] 22) (hr : ρ ck = none) (hgr : ρ g = none) (hgc : g ≠ ck) (hglt : g < w.heap.size) (h0 : w.cell? ⟨g, o, none⟩ = some (.int .i64 0)) (h1 : w.cell? ⟨g, o + 1, none⟩ = some (.int .i64 k2)) (hk2 : k2 ≤ 100000) :
    Calls Tryd.prog 35 #[pv b, drawV ck] w fun e w' => e = .returned (.tuple #[]) ∧ Mvs (fun k => k = ck ∨ k = b) w w' ∧ FileR w' ρ b ⟨num, bytes.take (size + k2 % (len + 1)), []⟩ := by
  have hneb : ck ≠ b := fun e => by rw [e, h.role] at hr; cases hr
  have hngb : g ≠ b := fun e => by rw [e, h.role] at hgr; cases hgr
  have hblt := h.blk.lt
  -- the row of the one step
  obtain ⟨go, oo, capo, hGo, rfl, hco⟩ : ∃ go oo capo, Go = some go ∧ vo = .slice (some ⟨go, oo, none⟩) 1 capo ∧ 1 ≤ capo := by
    rcases h.orow.2 with ⟨_, h, _⟩ | ⟨g', o', c', k1, k2, hle, _⟩
    · simp at h
    · exact ⟨g', o', c', k1, k2, hle⟩
  subst hGo
  have hro := h.ro go rfl
  have hgob : go ≠ b := fun e => by rw [e, h.role] at hro; cases hro
  have hgoc : go ≠ ck := fun e => by rw [e, hr] at hro; cases hro
  have hgolt := h.orow.lt go rfl
  obtain ⟨kc, hcs, hkB, hkr⟩ : ∃ kc, cs = [.bool true, .int .i64 len, .func (.func 38) #[] #[pv kc]] ∧ Blk w kc #[.int .i64 size] 3 ∧ ρ kc = some .cap := by
    have hst := h.steps
    have hlen := h.orow.1
    match cs, hlen, hst with
    | [c0, c1, c2], _, hst =>
      obtain ⟨⟨e0, e1, kc, e2, e3, e4⟩, _⟩ := hst
      exact ⟨kc, by rw [e0, e1, e2], e3, e4⟩
  subst hcs
  have hkb : kc ≠ b := fun e => by rw [e, h.role] at hkr; cases hkr
  have hkc : kc ≠ ck := fun e => by rw [e, hr] at hkr; cases hkr
  have cells : ∀ j u, [Value.bool true, .int .i64 len, .func (.func 38) #[] #[pv kc]][j]? = some u → w.cell? ⟨go, oo + j, none⟩ = some u := by
    rcases h.orow.2 with ⟨h, _⟩ | ⟨g', o', c', e1, e2, _, _, _, h4, _⟩
    · cases h
    · cases e1
      cases e2
      exact h4
  have d0 := cells 0 _ rfl
  have d1 := cells 1 _ rfl
  have d2 := cells 2 _ rfl
  simp only [Nat.add_zero] at d0
  -- the row of its bytes
  obtain ⟨gb, ob, capb, hGb, rfl, hcb1, hcb2⟩ : ∃ gb ob capb, Gb = some gb ∧ vb = .slice (some ⟨gb, ob, none⟩) bytes.length capb ∧ bytes.length ≤ capb ∧ capb ≤ maxLen := by
    rcases h.row.2 with ⟨_, h, _⟩ | ⟨g', o', c', k1, k2, hle, hmx, _⟩
    · have : bytes.length = 0 := h
      omega
    · exact ⟨g', o', c', k1, k2, hle, hmx⟩
  subst hGb
  have hrb := h.rb gb rfl
  have hgbb : gb ≠ b := fun e => by rw [e, h.role] at hrb; cases hrb
  have hgbc : gb ≠ ck := fun e => by rw [e, hr] at hrb; cases hrb
  have HH := hide h
  have hcb := h.blk.cell
  have hmod : k2 % (len + 1) ≤ len := by have := Nat.mod_lt k2 (show 0 < len + 1 by omega); omega
  clear h cells
  unfold pv drawV
  go_enter Tryd.func35, Tryd.ntmps35
  go_wp2_with fail
  refine (draw_head w ck g o 1 2 0 1 hck h0 (by omega) (by omega)).mono ?_
  rintro e w1 ⟨rfl, hw1⟩
  have hm1 : Mvs (fun k => k = ck) w w1 := by rw [hw1]; exact (Mvs.refl (fun k => k = ck) w).setCell ⟨ck, 0, none⟩ _ (fun _ => rfl)
  have kck1 : Blk w1 ck #[.slice (some ⟨g, o + 1, none⟩) 1 1] 22 := by rw [hw1]; exact hck.set 0 _
  have kb1 := hm1.blk HH.out.blk (fun e => hneb e.symm)
  have hcb1' := kb1.cell
  have hfb1 := kb1.frozen
  have d0' := (hm1.cell (a := ⟨go, oo, none⟩) hgolt hgoc).trans d0
  have d1' := (hm1.cell (a := ⟨go, oo + 1, none⟩) hgolt hgoc).trans d1
  have d2' := (hm1.cell (a := ⟨go, oo + 2, none⟩) hgolt hgoc).trans d2
  have h1' := (hm1.cell (a := ⟨g, o + 1, none⟩) hglt hgc).trans h1
  have kk1 := hm1.blk hkB hkc
  have hs1 := hm1.size
  obtain ⟨W2, hW2⟩ : ∃ W2, W2 = w1.setCell ⟨b, 2, none⟩ (.slice none 0 0) := ⟨_, rfl⟩
  have hm2 : Mvs (fun k => k = b) w1 W2 := by rw [hW2]; exact (Mvs.refl (fun k => k = b) w1).setCell ⟨b, 2, none⟩ _ (fun _ => rfl)
  have kck2 := hm2.blk kck1 hneb
  have kb2 : Blk W2 b #[.int .i64 num, .slice (some ⟨gb, ob, none⟩) bytes.length capb, .slice none 0 0] 56 := by rw [hW2]; exact kb1.set 2 _
  have h12 := (hm2.cell (a := ⟨g, o + 1, none⟩) (by show g < _; omega) hngb).trans h1'
  have d12 := (hm2.cell (a := ⟨go, oo, none⟩) (by show go < _; omega) hgob).trans d0'
  have d22 := (hm2.cell (a := ⟨go, oo + 1, none⟩) (by show go < _; omega) hgob).trans d1'
  have d32 := (hm2.cell (a := ⟨go, oo + 2, none⟩) (by show go < _; omega) hgob).trans d2'
  have kk2 := hm2.blk kk1 hkb
  have HD := hide (draw_head W2 ck g (o + 1) 0 1 k2 len kck2 h12 (by omega) (by omega))
  have hs2 := hm2.size
  have HM := hide (And.intro hm1 hm2)
  have HK := hide (And.intro kb2 kk2)
  have Hd := hide (And.intro d12 (And.intro d22 d32))
  have HL := hide hl
  have hlt2 : Hid (go < W2.heap.size ∧ kc < W2.heap.size ∧ b < W2.heap.size) := by
    refine ⟨by omega, kk2.lt, by omega⟩
  replace hmod := hide hmod
  replace hsm := hide hsm
  replace hpos := hide hpos
  clear hck h0 h1 hkB d0 d1 d2 hcb hw1 hm1 hm2 kck1 kck2 kk1 kk2 h1' h12 kb2 hl d12 d22 d32 hs2 hs1
  go_wp2
  refine wp_loop_rounds 1 ?_
  rw [rounds_succ]
  obtain ⟨d12, d22, d32⟩ := Hd.out
  rw [← hW2]
  clear hW2 hcb1' hfb1 d0' d1' d2'
  go_wp2_with fail
  refine HD.out.mono ?_
  rintro e w3 ⟨rfl, hw3⟩
  have hm3 : Mvs (fun k => k = ck) W2 w3 := by rw [hw3]; exact (Mvs.refl (fun k => k = ck) W2).setCell ⟨ck, 0, none⟩ _ (fun _ => rfl)
  obtain ⟨kb2, kk2⟩ := HK.out
  obtain ⟨l1, l2, l3⟩ := hlt2.out
  have kb3 := hm3.blk kb2 (fun e => hneb e.symm)
  have kk3 := hm3.blk kk2 hkc
  have d33 := (hm3.cell (a := ⟨go, oo + 2, none⟩) l1 hgoc).trans d32
  have hcb3 := kb3.cell
  have hfb3 := kb3.frozen
  unfold pv at d33
  have HP := hide (put1_any w3.drew kc gb ob bytes.length capb size (k2 % (len + 1)) kk3 (by have := hmod.out; have := HL.out; omega) hcb1 hcb2)
  have HM3 := hide hm3
  have HB3 := hide kb3
  clear hw3 hm3 kb2 kk2 l1 l2 l3 kb3 kk3 d12 d22 d32 HD Hd
  unfold pv at HP
  go_wp2_with fail
  go_region_law (go_simp
                 go_at_call 38
                 refine HP.out.mono ?_
                 rintro e w4 ⟨rfl, rfl⟩)
  all_goals (
    go_wp2
    go_end0
    obtain ⟨hm1, hm2⟩ := HM.out
    have hm4 : Mvs (fun k => k = b) w3 (w3.setCell ⟨b, 1, none⟩ (.slice (some ⟨gb, ob, none⟩) (size + k2 % (len + 1)) capb)).drew := ((Mvs.refl (fun k => k = b) w3).setCell ⟨b, 1, none⟩ _ (fun _ => rfl)).drew
    have hmA := (((hm1.mono (S' := fun k => k = ck ∨ k = b) fun _ _ e => .inl e).trans (hm2.mono fun _ _ e => .inr e)).trans (HM3.out.mono fun _ _ e => .inl e)).trans (hm4.mono fun _ _ e => .inr e)
    have hlen : size + k2 % (len + 1) ≤ bytes.length := by have := hmod.out; have := HL.out; omega
    have hrw := (HH.out.row.keep hmA (fun g hg e => by cases hg; rcases e with e | e; exact hgbc e; exact hgbb e)).to hlen
    refine ⟨rfl, hmA, _, _, some gb, none, [], HH.out.role, HB3.out.set 1 _, ?_, HH.out.rb, Rw.nil _ _, (fun _ h => by cases h), trivial⟩
    have e1 : (bytes.take (size + k2 % (len + 1))).length = size + k2 % (len + 1) := by rw [List.length_take]; omega
    show Rw _ 1 _ (bytes.take (size + k2 % (len + 1))).length ((bytes.take (size + k2 % (len + 1))).map bv) _
    rw [e1, List.map_take]
    exact hrw)
end Go.Proofs.YtpghfaplgkjdkaaDoor
