/- A disk: Create of a name that is there, and of one that is not. -/
/- A region that draws its order, which reads memory that was there and whose calls may make memory: one walk in the order of the text, in whatever world that keeps the old blocks. -/
/- A disk: how many bytes are used, and whether there is room. -/
import Derived.Test.YthhnlkbjpahjeaaGreatDoorU04
import Derived.Test.YthhnlkbjpahjeaaGreatDoorU01
import Derived.Deep.QuietTactic
import Derived.BigQuiet
section
namespace Go.Proofs.YthhnlkbjpahjeaaGreatDoor
open Go.RowKit Go.Maps
section
variable (w0 w : World) (d : Nat) (ρ : Nat → Option Role) (s : St)
set_option maxRecDepth 8000 in
set_option maxHeartbeats 2000000 in
theorem create_exists (a : Nat → Addr) (hE : Errs w0 a) (h : DK w0 w d ρ s) (hoff : s.off = false) (name : List UInt8) (hr : rightB name = true) (f : Nat) (hf : s.D.atKey (.string name) .nil = pd f) :
    Calls Tryz.prog 36 #[pv d, .string ⟨name.toArray⟩] w fun e w' => e = .returned (errV a 5) ∧ Below w.heap.size w w' := by
  have hb1 : Below w.heap.size w (w.alloc (.cells #[.string ⟨name.toArray⟩] 9)) := (Below.refl _ _).alloc (Nat.le_refl _) _
  have HF := hide (find_there w0 _ d ρ s (h.then hb1) hoff name hr f hf)
  have hE1 := hE.below (h.then hb1).below
  have HC := hide hb1
  have hg : (w.alloc (.cells #[.string ⟨name.toArray⟩] 9)).cell? ⟨7, 0, none⟩ = some (errV a 5) := hE1.cell 5 (by decide)
  clear h hE hE1 hb1 hf
  unfold pv errV at *
  go_enter Tryz.func36, Tryz.ntmps36
  go_wp2_with fail
  refine HF.out.mono ?_
  rintro e w1 ⟨rfl, rfl⟩
  clear HF
  generalize w.alloc _ = W at *
  go_wp2
  go_ret
  exact ⟨rfl, HC.out⟩
theorem DKs.fresh {w0 w : World} {d : Nat} {ρ : Nat → Option Role} {s : St} {bn bs bc : Nat} {vs vl : Value} {Gs Gl : Option Nat} {cs : List Value} (h : DKs w0 w d ρ s bn bs bc vs vl Gs Gl cs) {f : Nat} (hf : w.heap.size ≤ f) : s.φ f = none := by
  cases hx : s.φ f with
  | none => rfl
  | some fa =>
    obtain ⟨_, _, _, _, _, hF⟩ := h.files f fa hx
    have := h.lt hF.role
    omega
/-- The state behind a Create. -/
def St.made (s : St) (name : List UInt8) (f : Nat) : St := { s with D := s.D.put (.string name) (pd f), φ := fun b => if b = f then some ⟨s.created, [], []⟩ else s.φ b, N := s.N + 1, ns := s.ns + 1, nl := s.nl ++ [.mk name f], opened := s.opened + 1, steps := s.steps + 1, created := s.created + 1 }
set_option maxRecDepth 8000 in
set_option maxHeartbeats 2000000 in
theorem create_ok (a : Nat → Addr) (hE : Errs w0 a) (h : DK w0 w d ρ s) (hoff : s.off = false) (ha : s.armed < 0) (hs0 : 0 ≤ s.steps) (hs1 : s.steps ≤ 1000000) (ho0 : 0 ≤ s.opened) (ho1 : s.opened ≤ 1000000) (hc0 : 0 ≤ s.created) (hc1 : s.created ≤ 1000000) (hN : s.N ≤ 60) (hns : s.ns ≤ 1000000)
    (name : List UInt8) (hr : rightB name = true) (hf : s.D.atKey (.string name) .nil = .nil) :
    Calls Tryz.prog 36 #[pv d, .string ⟨name.toArray⟩] w fun e w' => e = .returned .nilIface ∧ ∃ ρ' f, DK w0 w' d ρ' (s.made name f) ∧ Turn w w' ρ ρ' ∧ w.heap.size ≤ f := by
  have hn : name.length ≤ 24 := by
    unfold rightB at hr
    simp at hr
    exact hr.2.2
  have hb1 : Below w.heap.size w (w.alloc (.cells #[.string ⟨name.toArray⟩] 9)) := (Below.refl _ _).alloc (Nat.le_refl _) _
  have HF := hide (find_none w0 _ d ρ s a hE (h.then hb1) hoff name hr hf)
  have hE1 := hE.below (h.then hb1).below
  have HC := hide hb1
  have HK := hide (Blk.new w #[.string ⟨name.toArray⟩] 9)
  have HH := hide (h.then hb1)
  have hg : Hid (∀ m, (World.drewN (w.alloc (.cells #[.string ⟨name.toArray⟩] 9)) m).cell? ⟨0, 0, none⟩ = some (errV a 4)) := fun m => hE1.cell 4 (by decide)
  have hw00' := hide h.below.size
  have hoffn := hide (show ∀ k, w.heap.size ≤ k → ρ k = none by
    obtain ⟨bn, bs, bc, vs, vl, Gs, Gl, cs, h⟩ := h
    exact fun k hk => h.off hk)
  have hes := err_same
  have hsz1 : Hid ((w.alloc (.cells #[.string ⟨name.toArray⟩] 9)).heap.size = w.heap.size + 1) := by
    show _ = _
    simp
  clear h hE hE1 hb1 hf
  unfold pv errV at *
  go_enter Tryz.func36, Tryz.ntmps36
  go_wp2_with fail
  refine HF.out.mono ?_
  rintro e w1 ⟨rfl, m, rfl⟩
  have hg1 := hg.out m
  have hb2 := hide (HC.out.trans ((below_drewN _ m).mono HC.out.size))
  have HH2 := hide (HH.out.drewN m)
  have HK2 : Hid (Blk (World.drewN (w.alloc (.cells #[.string ⟨name.toArray⟩] 9)) m) w.heap.size #[.string ⟨name.toArray⟩] 9) := HK.out
  have hsz2 : Hid ((World.drewN (w.alloc (.cells #[.string ⟨name.toArray⟩] 9)) m).heap.size = w.heap.size + 1) := hsz1.out
  clear HF hg HC HH HK hsz1
  generalize World.drewN _ m = W at *
  obtain ⟨bn, bs, bc, vs, vl, Gs, Gl, cs, hD⟩ := HH2.out
  have hc := hD.blk.cell
  have hlen := hD.names.len Tryz.underlying51
  have hle : ((Maps.size s.D : Nat) : Int) ≤ 60 := by have := hD.names.size_le; omega
  have HD := hide hD
  clear hD HH2
  go_wp2_with fail
  obtain ⟨W2, hW2⟩ : ∃ W2, W2 = (W.alloc (.cells #[.int .i64 s.created, .slice none 0 0, .slice none 0 0] 100)).alloc (.cells #[.pointer (some ⟨W.heap.size, 0, none⟩)] 72) := ⟨_, rfl⟩
  rw [← hW2]
  have hbW : Below W.heap.size W W2 := by rw [hW2]; exact ((Below.refl _ _).alloc (Nat.le_refl _) _).alloc (by simp) _
  have k0 : Blk W2 W.heap.size #[.int .i64 s.created, .slice none 0 0, .slice none 0 0] 100 := by rw [hW2]; exact (Blk.new W _ _).alloc _
  have k1 : Blk W2 (W.heap.size + 1) #[pv W.heap.size] 72 := by rw [hW2]; exact Blk.new1 W _ _ _
  have k2 : Blk W2 w.heap.size #[.string ⟨name.toArray⟩] 9 := HK2.out.below hbW (by rw [hsz2.out]; omega)
  have hkeepW := HD.out.keep (S := fun _ => False) (Mvs.of_below hbW) (fun _ _ _ c => c) (fun _ c => c.elim)
  have hfr := HD.out.fresh (Nat.le_refl _)
  have hWw : w.heap.size + 1 = W.heap.size := hsz2.out.symm
  have hw0 : w0.heap.size ≤ W.heap.size := HD.out.below.size
  obtain ⟨hadd0, hkp0⟩ := hkeepW.addFile (f := W.heap.size) (hoffn.out _ (by omega)) hw0 s.created k0 hfr
  have hw00 : w0.heap.size ≤ w.heap.size := hw00'.out
  obtain ⟨hadd, hkp⟩ := hadd0.caps [W.heap.size + 1, w.heap.size] (fun k hk => by
    have hW2s : W2.heap.size = W.heap.size + 2 := by rw [hW2]; simp
    simp only [List.mem_cons, List.not_mem_nil, or_false] at hk
    rcases hk with rfl | rfl
    · exact ⟨by unfold putRole; rw [if_neg (by simp)]; exact hoffn.out _ (by omega), by omega, by omega⟩
    · exact ⟨by unfold putRole; rw [if_neg (by simp; omega)]; exact hoffn.out _ (by omega), by omega, by omega⟩)
  have hmW : Mvs (fun k => ∃ r, ρ k = some r) w W2 := Mvs.of_below (hb2.out.trans (hbW.mono (by omega)))
  refine (changeNames_create w0 W2 d _ _ name W.heap.size (W.heap.size + 1) w.heap.size ⟨_, _, _, _, _, _, _, _, hadd⟩ ha hs0 hs1 ho0 ho1 (by show s.N ≤ _; omega) hns (by omega) k1 k2 (putRoles_in (by simp)) (putRoles_in (by simp)) (by simp)).mono ?_
  rintro e w3 ⟨rfl, ρ3, hD3, ht3, hk3⟩
  have hmW := hide hmW
  have HT := hide ht3
  have hWle : Hid (w.heap.size ≤ W.heap.size) := by show _ ≤ _; omega
  obtain ⟨bn3, bs3, bc3, vs3, vl3, Gs3, Gl3, cs3, hD3⟩ := hD3
  have hk4 : Blk w3 d #[.map (some bn3), .map (some bs3), vs3, .map (some bc3), vl3, .int .i64 s.created, .int .i64 (s.opened + 1), .int .i64 (s.steps + 1), .int .i64 s.armed, .bool s.off, .int .i64 s.quota] 56 := hD3.blk
  have hc4 := hk4.cell
  have hf4 := hk4.frozen
  have HK4 := hide hk4
  have HD3 := hide hD3
  clear hD3 hk4 hc hlen hle hg1 hkp hkp0 hadd hadd0 hkeepW k0 k1 k2 hbW hfr hk3 ht3 hWw hw0
  go_wp2
  go_ret
  have hm4 : Mvs (fun k => k = d) w3 (w3.setCell ⟨d, 5, none⟩ (.int .i64 (s.created + 1))) := (Mvs.refl (fun k => k = d) w3).setCell ⟨d, 5, none⟩ _ (fun _ => rfl)
  have hD4 := HD3.out.ints hm4 (s.created + 1) (s.opened + 1) (s.steps + 1) s.armed s.off s.quota (HK4.out.set 5 _)
  have hT := HT.out
  refine ⟨rfl, ρ3, W.heap.size, ⟨_, _, _, _, _, _, _, _, hD4⟩, ⟨?_, fun k r hr hlt => ?_⟩, hWle.out⟩
  · refine (hmW.out.trans' hT.1 (fun i hi ⟨r, hr⟩ => ?_)).trans (hm4.mono fun i _ e => ?_)
    · rcases putRoles_cases hr with ⟨e, _⟩ | hr
      · have := hWle.out
        simp only [List.mem_cons, List.not_mem_nil, or_false] at e
        omega
      · unfold putRole at hr
        split at hr
        · rename_i e
          cases e
          have := hWle.out
          omega
        · exact ⟨r, hr⟩
    · subst e
      exact ⟨_, HD.out.rd⟩
  · obtain ⟨r', hr'⟩ := hT.2 k r hr (Nat.lt_of_lt_of_le hlt hmW.out.size)
    rcases putRoles_cases hr' with ⟨e, _⟩ | hr'
    · have := hWle.out
      simp only [List.mem_cons, List.not_mem_nil, or_false] at e
      omega
    · unfold putRole at hr'
      split at hr'
      · rename_i e
        cases e
        have := hWle.out
        omega
      · exact ⟨r', hr'⟩
end
end Go.Proofs.YthhnlkbjpahjeaaGreatDoor

end
section
namespace Go.Proofs.YthhnlkbjpahjeaaGreatDoor
open Go.RowKit

/-- A world that holds all blocks of W as they were. -/
structure Ext (W : World) where
  w : World
  ok : Below W.heap.size W w

section
variable {P : Program} {W : World}
theorem ext_some (W : World) : Nonempty (Ext W) := ⟨⟨W, Below.refl _ _⟩⟩
theorem ext_cell (W : World) (u : Ext W) (b o : Nat) (h : b < W.heap.size) : u.w.cell? ⟨b, o, none⟩ = W.cell? ⟨b, o, none⟩ := u.ok.cell (p := ⟨b, o, none⟩) h
theorem wp_region_ext {id : Nat} {Q : Exit → Act → World → Prop} {a : Act} {l : List Oper} (hm : P.follows .mixedOrders = true) (hB : Region.lexB .any l.toArray = true)
    (h : wpQuiet P l.toArray (fun w' => ∃ u : Ext W, w' = u.w) (fun a' => ∀ w', (∃ u : Ext W, w' = u.w) → Q .normal a' w') l a) : (Code.region id l.toArray true).wp P Q a W :=
  wp_region_quiet (C := fun w' => ∃ u : Ext W, w' = u.w) hm hB ⟨⟨W.drew, (Below.refl _ _).drew⟩, rfl⟩ (by simpa using h)
/-- A call that makes memory and turns none. -/
theorem ext_call {f : FuncId} {args : Array Value} {u : Ext W} {v : Value} (h : Calls P f args u.w fun e w' => e = .returned v ∧ Below u.w.heap.size u.w w') :
    Calls P f args u.w fun e w'' => e = .returned v ∧ ∃ u' : Ext W, w'' = u'.w :=
  h.mono fun _ w' ⟨he, hb⟩ => ⟨he, ⟨w', u.ok.trans (hb.mono u.ok.size)⟩, rfl⟩
/-- A call that leaves the world as it was. -/
theorem ext_same {f : FuncId} {args : Array Value} {u : Ext W} {v : Value} (h : Calls P f args u.w fun e w' => e = .returned v ∧ w' = u.w) :
    Calls P f args u.w fun e w'' => e = .returned v ∧ ∃ u' : Ext W, w'' = u'.w :=
  h.mono fun _ _ ⟨he, hw⟩ => ⟨he, u, hw⟩
end
end Go.Proofs.YthhnlkbjpahjeaaGreatDoor

end
section
namespace Go.Proofs.YthhnlkbjpahjeaaGreatDoor
open Go.RowKit Go.Maps
/-- How many bytes the file has that a datum points to. -/
def lenD (φ : Nat → Option FA) : DataW Unit → Nat
  | .lit (.int .i64 b) => match φ b.toNat with
    | some fa => fa.bytes.length
    | none => 0
  | _ => 0
theorem lenD_pd {φ : Nat → Option FA} {b : Nat} {fa : FA} (h : φ b = some fa) : lenD φ (pd b) = fa.bytes.length := by
  simp [lenD, pd, h]
def usedOf (s : St) : Nat := sumD (lenD s.φ) s.D
def mkP (o : Option Nat) : Value := .pointer (o.map fun b => ⟨b, 0, none⟩)
theorem mkP_inv (v : Value) (y : DataW Unit × List MemPlace) (h : ptrElem v = some y) : ∃ c, v = mkP c := by
  rcases ptrElem_inv h with ⟨rfl, _⟩ | ⟨b, rfl, _⟩
  · exact ⟨none, rfl⟩
  · exact ⟨some b, rfl⟩
theorem mkS_inv (key : Value) (kl : Lit) (h : keyOf Tryz.prog 9 key = some kl) : ∃ s : ByteArray, key = .string s := by
  obtain ⟨s, hs, _⟩ := WideMaps.string_of_keyOf Tryz.underlying9 h
  exact ⟨s, hs⟩
theorem Below.of_grown {w w' : World} {row : Option Nat} (h : w.grownBy w' row) {B : Nat} (hr : ∀ j, row = some j → B ≤ j) (hB : B ≤ w.heap.size) : Below B w w' := (Mvs.of_grown h).below (fun k hk e => by have := hr k e.symm; omega) hB
set_option maxRecDepth 8000 in
set_option maxHeartbeats 2000000 in
theorem used_any (w0 w : World) (d : Nat) (ρ : Nat → Option Role) (s : St) (h : DK w0 w d ρ s) (hu : usedOf s ≤ 1000000000) :
    Calls Tryz.prog 48 #[pv d] w fun e w' => e = .returned (.int .i64 (usedOf s)) ∧ Below w.heap.size w w' := by
  obtain ⟨bn, bs, bc, vs, vl, Gs, Gl, cs, h⟩ := h
  have hc := h.blk.cell
  have HD := hide h
  have hbn : Hid (bn < w.heap.size) := h.lt h.rn
  obtain ⟨es, hes, hpw, hkl⟩ := h.names.entries strKeyed
  replace hpw := hide hpw
  replace hkl := hide hkl
  have HU : Hid (usedOf s = sumL (lenD s.φ) (Maps.has s.D) es) := by
    show _ = _
    unfold usedOf sumD
    rw [hes]
    exact sumL_congr fun p hp => (has_of_mem hp (hkl.out p hp)).symm
  replace hes := hide hes
  clear h
  unfold pv
  go_enter Tryz.func48, Tryz.ntmps48
  go_wp2_with (at_range; refine wpList_range_own _ rfl _ 51 rfl 9 72 strKeyed Tryz.underlying51 ptrElem bn s.N s.D rfl HD.out.names ?_)
  intro w1 hrg0 hg0 hs0
  have HB0 := hide (Below.of_grown (B := w.heap.size) hg0 (fun j e => by cases e) (Nat.le_refl _))
  have HR0 := hide hrg0
  clear hrg0 hg0 hs0
  go_wp2
  go_loopw [3] (fun u wr => ∃ (left : Lit → Bool) (cnt n : Nat), u = .int .i64 n ∧ Hid (wr.ranges Tryz.prog 9 ptrElem bn w.heap.size s.N s.D left cnt) ∧ Hid (n + sumL (lenD s.φ) left es = usedOf s) ∧ n ≤ 1000000000 ∧ Hid (Below w.heap.size w wr)) (fun _ wr => wr.rangeLeft bn w.heap.size)
  case atStart => exact ⟨Maps.has s.D, Maps.size s.D, 0, rfl, HR0, by rw [HU.out]; exact Nat.zero_add _, Nat.zero_le _, HB0⟩
  case round =>
    obtain ⟨left, cnt, n, rfl, HR, HS, hn, HB⟩ := hrel
    go_wp2_with (at_next; refine wpList_next_ranges _ rfl _ rfl 9 strKeyed ptrElem Value.string mkP mkS_inv mkP_inv bn w.heap.size s.N s.D left cnt rfl HR.out ?_ ?_)
    · intro _ hl0
      have hend := HS.out
      rw [sumL_none hl0] at hend
      obtain rfl : n = usedOf s := by omega
      clear hend
      go_wp2
      go_ret
      exact ⟨rfl, HB.out⟩
    · intro x c kl y yp w2 cnt2 hkey hlk hv hat hrg2 hlt hg2 hs2 hen
      have hmem : (kl, y) ∈ es := by
        have := hat
        rw [hes.out] at this
        exact mem_of_atKey this
      obtain ⟨b, hy⟩ := HD.out.eD (kl, y) (by rw [hes.out]; exact hmem)
      obtain ⟨fa, hfa⟩ := Option.isSome_iff_exists.1 (HD.out.vD kl b ((hat .nil).trans hy))
      obtain ⟨vb, vo, Gb, Go, cs', hF⟩ := (HD.out.files b fa hfa).below HB.out
      have hbl : b < wr.heap.size := hF.blk.lt
      have hb0 : b < w.heap.size := HD.out.lt ((HD.out.files b fa hfa).choose_spec.choose_spec.choose_spec.choose_spec.choose_spec.role)
      obtain rfl : c = some b := by
        rcases ptrElem_inv hv with ⟨e1, e2⟩ | ⟨b', e1, e2⟩
        · simp only [Prod.mk.injEq] at e2
          rw [e2.1] at hy
          simp [pd] at hy
        · simp only [Prod.mk.injEq] at e2
          rw [e2.1] at hy
          rw [pd_inj hy] at e1
          cases c with
          | none => cases e1
          | some c0 =>
            simp [mkP, pv] at e1
            rw [e1]
      obtain ⟨A, cc, rfl⟩ := hF.row.form
      have hk2 := (hF.blk.below (B := w.heap.size) (w' := w2) ((Below.of_grown (B := w.heap.size) hg2 (fun j e => by cases e; exact Nat.le_refl _) HB.out.size)) hb0).cell
      have hstep := sumL_strike (len := lenD s.φ) (left := left) (kl := kl) (y := y) hlk hpw.out (hkl.out _ hmem) hmem
      rw [show y = pd b from hy, lenD_pd hfa] at hstep
      have hS2 : Hid (n + fa.bytes.length + sumL (lenD s.φ) (fun z => left z && !z.sameKey kl) es = usedOf s) := by
        show _ = _
        have := HS.out
        omega
      have hn2 : n + fa.bytes.length ≤ 1000000000 := by have := hS2.out; omega
      have HB2 := hide (HB.out.trans (Below.of_grown (B := w.heap.size) hg2 (fun j e => by cases e; exact Nat.le_refl _) HB.out.size))
      have HR2 := hide hrg2
      have hl2 := hide hlt
      have he1 : (wr.rangeLeft bn w.heap.size) = cnt := HR.out.left_eq
      have he2 : (w2.rangeLeft bn w.heap.size) = cnt2 := HR2.out.left_eq
      replace he1 := hide he1
      replace he2 := hide he2
      simp only [mkP, Option.map_some] at hen
      clear hkey hlk hv hat hrg2 hlt hg2 hs2 hmem hy hF hstep hfa
      unfold mkP
      go_wp2
      go_roundw
      case rel => exact ⟨_, cnt2, n + fa.bytes.length, by go_num, HR2, hS2, hn2, HB2⟩
      case measure =>
        rw [he1.out, he2.out]
        exact hl2.out
end Go.Proofs.YthhnlkbjpahjeaaGreatDoor

end
