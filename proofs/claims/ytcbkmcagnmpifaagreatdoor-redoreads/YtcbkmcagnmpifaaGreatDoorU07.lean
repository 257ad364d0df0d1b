/- A disk: Create of a name that is there, and of one that is not. -/
/- A region that draws its order, which reads memory that was there and whose calls may make memory: one walk in the order of the text, in whatever world that keeps the old blocks. -/
import Derived.Test.YtcbkmcagnmpifaaGreatDoorU06
import Derived.Test.YtcbkmcagnmpifaaGreatDoorU01
import Derived.Deep.QuietTactic
import Derived.BigQuiet
section
namespace Go.Proofs.YtcbkmcagnmpifaaGreatDoor
open Go.RowKit Go.Maps
section
variable (w0 w : World) (d : Nat) (ρ : Nat → Option Role) (s : St)
set_option maxRecDepth 8000 in
set_option maxHeartbeats 2000000 in
theorem create_exists (a : Nat → Addr) (hE : Errs w0 a) (h : DK w0 w d ρ s) (hoff : s.off = false) (name : List UInt8) (hr : rightB name = true) (f : Nat) (hf : s.D.atKey (.string name) .nil = pd f) :
    Calls Tryz.prog 59 #[pv d, .string ⟨name.toArray⟩] w fun e w' => e = .returned (errV a 5) ∧ Below w.heap.size w w' := by
  have hb1 : Below w.heap.size w (w.alloc (.cells #[.string ⟨name.toArray⟩] 9)) := (Below.refl _ _).alloc (Nat.le_refl _) _
  have HF := hide (find_there w0 _ d ρ s (h.then hb1) hoff name hr f hf)
  have hE1 := hE.below (h.then hb1).below
  have HC := hide hb1
  have hg : (w.alloc (.cells #[.string ⟨name.toArray⟩] 9)).cell? ⟨5, 0, none⟩ = some (errV a 5) := hE1.cell 5 (by decide)
  clear h hE hE1 hb1 hf
  unfold pv errV at *
  go_enter Tryz.func59, Tryz.ntmps59
  go_wp2_with fail
  refine HF.out.mono ?_
  rintro e w1 ⟨rfl, rfl⟩
  clear HF
  generalize w.alloc _ = W at *
  go_wp2
  go_ret
  exact ⟨rfl, HC.out⟩
theorem DKs.fresh {w0 w : World} {d : Nat} {ρ : Nat → Option Role} {s : St} {bn bs bc : Nat} {vs vl : Value} {Gs Gl : Option Nat} {cs : List Value} (h : DKs w0 w d ρ s bn bs bc vs vl Gs Gl cs) {f : Nat} (hf : w.heap.size ≤ f) : s.φ f = none := by
  cases hx : s.φ f with
  | none => rfl
  | some fa =>
    obtain ⟨_, _, _, _, _, hF⟩ := h.files f fa hx
    have := h.lt hF.role
    omega
/-- The state behind a Create. -/
def St.made (s : St) (name : List UInt8) (f : Nat) : St := { s with D := s.D.put (.string name) (pd f), φ := fun b => if b = f then some ⟨s.created, [], []⟩ else s.φ b, N := s.N + 1, ns := s.ns + 1, opened := s.opened + 1, steps := s.steps + 1, created := s.created + 1 }
set_option maxRecDepth 8000 in
set_option maxHeartbeats 2000000 in
theorem create_ok (a : Nat → Addr) (hE : Errs w0 a) (h : DK w0 w d ρ s) (hoff : s.off = false) (ha : s.armed < 0) (hs0 : 0 ≤ s.steps) (hs1 : s.steps ≤ 1000000) (ho0 : 0 ≤ s.opened) (ho1 : s.opened ≤ 1000000) (hc0 : 0 ≤ s.created) (hc1 : s.created ≤ 1000000) (hN : s.N ≤ 60) (hns : s.ns ≤ 1000000)
    (name : List UInt8) (hr : rightB name = true) (hf : s.D.atKey (.string name) .nil = .nil) :
    Calls Tryz.prog 59 #[pv d, .string ⟨name.toArray⟩] w fun e w' => e = .returned .nilIface ∧ ∃ ρ' f, DK w0 w' d ρ' (s.made name f) ∧ Turn w w' ρ ρ' ∧ w.heap.size ≤ f := by
  have hn : name.length ≤ 24 := by
    unfold rightB at hr
    simp at hr
    exact hr.2.2
  have hb1 : Below w.heap.size w (w.alloc (.cells #[.string ⟨name.toArray⟩] 9)) := (Below.refl _ _).alloc (Nat.le_refl _) _
  have HF := hide (find_none w0 _ d ρ s a hE (h.then hb1) hoff name hr hf)
  have hE1 := hE.below (h.then hb1).below
  have HC := hide hb1
  have HK := hide (Blk.new w #[.string ⟨name.toArray⟩] 9)
  have HH := hide (h.then hb1)
  have hg : Hid (∀ m, (World.drewN (w.alloc (.cells #[.string ⟨name.toArray⟩] 9)) m).cell? ⟨4, 0, none⟩ = some (errV a 4)) := fun m => hE1.cell 4 (by decide)
  have hoffn := hide (show ∀ k, w.heap.size ≤ k → ρ k = none by
    obtain ⟨bn, bs, bc, vs, vl, Gs, Gl, cs, h⟩ := h
    exact fun k hk => h.off hk)
  have hes := err_same
  have hsz1 : Hid ((w.alloc (.cells #[.string ⟨name.toArray⟩] 9)).heap.size = w.heap.size + 1) := by
    show _ = _
    simp
  clear h hE hE1 hb1 hf
  unfold pv errV at *
  go_enter Tryz.func59, Tryz.ntmps59
  go_wp2_with fail
  refine HF.out.mono ?_
  rintro e w1 ⟨rfl, m, rfl⟩
  have hg1 := hg.out m
  have hb2 := hide (HC.out.trans ((below_drewN _ m).mono HC.out.size))
  have HH2 := hide (HH.out.drewN m)
  have HK2 : Hid (Blk (World.drewN (w.alloc (.cells #[.string ⟨name.toArray⟩] 9)) m) w.heap.size #[.string ⟨name.toArray⟩] 9) := HK.out
  have hsz2 : Hid ((World.drewN (w.alloc (.cells #[.string ⟨name.toArray⟩] 9)) m).heap.size = w.heap.size + 1) := hsz1.out
  clear HF hg HC HH HK hsz1
  generalize World.drewN _ m = W at *
  obtain ⟨bn, bs, bc, vs, vl, Gs, Gl, cs, hD⟩ := HH2.out
  have hc := hD.blk.cell
  have hlen := hD.names.len Tryz.underlying72
  have hle : ((Maps.size s.D : Nat) : Int) ≤ 60 := by have := hD.names.size_le; omega
  have HD := hide hD
  clear hD HH2
  go_wp2_with fail
  obtain ⟨W2, hW2⟩ : ∃ W2, W2 = (W.alloc (.cells #[.int .i64 s.created, .slice none 0 0, .slice none 0 0] 117)).alloc (.cells #[.pointer (some ⟨W.heap.size, 0, none⟩)] 88) := ⟨_, rfl⟩
  rw [← hW2]
  have hbW : Below W.heap.size W W2 := by rw [hW2]; exact ((Below.refl _ _).alloc (Nat.le_refl _) _).alloc (by simp) _
  have k0 : Blk W2 W.heap.size #[.int .i64 s.created, .slice none 0 0, .slice none 0 0] 117 := by rw [hW2]; exact (Blk.new W _ _).alloc _
  have k1 : Blk W2 (W.heap.size + 1) #[pv W.heap.size] 88 := by rw [hW2]; exact Blk.new1 W _ _ _
  have k2 : Blk W2 w.heap.size #[.string ⟨name.toArray⟩] 9 := HK2.out.below hbW (by rw [hsz2.out]; omega)
  have hkeepW := HD.out.keep (S := fun _ => False) (Mvs.of_below hbW) (fun _ _ _ c => c) (fun _ c => c.elim)
  have hfr := HD.out.fresh (Nat.le_refl _)
  have hWw : w.heap.size + 1 = W.heap.size := hsz2.out.symm
  have hw0 : w0.heap.size ≤ W.heap.size := HD.out.below.size
  obtain ⟨hadd, hkp⟩ := hkeepW.addFile (f := W.heap.size) (hoffn.out _ (by omega)) hw0 s.created k0 hfr
  have hmW : Mvs (fun k => ∃ r, ρ k = some r) w W2 := Mvs.of_below (hb2.out.trans (hbW.mono (by omega)))
  refine (changeNames_create w0 W2 d _ _ name W.heap.size (W.heap.size + 1) w.heap.size ⟨_, _, _, _, _, _, _, _, hadd⟩ ha hs0 hs1 ho0 ho1 (by show s.N ≤ _; omega) hns (by omega) k1 k2 (by unfold putRole; rw [if_neg (by simp)]; exact hoffn.out _ (by omega)) (by unfold putRole; rw [if_neg (by simp; omega)]; exact hoffn.out _ (by omega)) (by simp)).mono ?_
  rintro e w3 ⟨rfl, ρ3, hD3, ht3, hk3⟩
  have hmW := hide hmW
  have HT := hide ht3
  have hWle : Hid (w.heap.size ≤ W.heap.size) := by show _ ≤ _; omega
  obtain ⟨bn3, bs3, bc3, vs3, vl3, Gs3, Gl3, cs3, hD3⟩ := hD3
  have hk4 : Blk w3 d #[.map (some bn3), .map (some bs3), vs3, .map (some bc3), vl3, .int .i64 s.created, .int .i64 (s.opened + 1), .int .i64 (s.steps + 1), .int .i64 s.armed, .bool s.off, .int .i64 s.quota] 77 := hD3.blk
  have hc4 := hk4.cell
  have hf4 := hk4.frozen
  have HK4 := hide hk4
  have HD3 := hide hD3
  clear hD3 hk4 hc hlen hle hg1 hkp hadd hkeepW k0 k1 k2 hbW hfr hk3 ht3 hWw hw0
  go_wp2
  go_ret
  have hm4 : Mvs (fun k => k = d) w3 (w3.setCell ⟨d, 5, none⟩ (.int .i64 (s.created + 1))) := (Mvs.refl (fun k => k = d) w3).setCell ⟨d, 5, none⟩ _ (fun _ => rfl)
  have hD4 := HD3.out.ints hm4 (s.created + 1) (s.opened + 1) (s.steps + 1) s.armed s.off s.quota (HK4.out.set 5 _)
  have hT := HT.out
  refine ⟨rfl, ρ3, W.heap.size, ⟨_, _, _, _, _, _, _, _, hD4⟩, ⟨?_, fun k r hr hlt => ?_⟩, hWle.out⟩
  · refine (hmW.out.trans' hT.1 (fun i hi ⟨r, hr⟩ => ?_)).trans (hm4.mono fun i _ e => ?_)
    · unfold putRole at hr
      split at hr
      · rename_i e
        cases e
        have := hWle.out
        omega
      · exact ⟨r, hr⟩
    · subst e
      exact ⟨_, HD.out.rd⟩
  · obtain ⟨r', hr'⟩ := hT.2 k r hr (Nat.lt_of_lt_of_le hlt hmW.out.size)
    unfold putRole at hr'
    split at hr'
    · rename_i e
      cases e
      have := hWle.out
      omega
    · exact ⟨r', hr'⟩
end
end Go.Proofs.YtcbkmcagnmpifaaGreatDoor

end
section
namespace Go.Proofs.YtcbkmcagnmpifaaGreatDoor
open Go.RowKit

/-- A world that holds all blocks of W as they were. -/
structure Ext (W : World) where
  w : World
  ok : Below W.heap.size W w

section
variable {P : Program} {W : World}
theorem ext_some (W : World) : Nonempty (Ext W) := ⟨⟨W, Below.refl _ _⟩⟩
theorem ext_cell (W : World) (u : Ext W) (b o : Nat) (h : b < W.heap.size) : u.w.cell? ⟨b, o, none⟩ = W.cell? ⟨b, o, none⟩ := u.ok.cell (p := ⟨b, o, none⟩) h
theorem wp_region_ext {id : Nat} {Q : Exit → Act → World → Prop} {a : Act} {l : List Oper} (hm : P.follows .mixedOrders = true) (hB : Region.lexB .any l.toArray = true)
    (h : wpQuiet P l.toArray (fun w' => ∃ u : Ext W, w' = u.w) (fun a' => ∀ w', (∃ u : Ext W, w' = u.w) → Q .normal a' w') l a) : (Code.region id l.toArray true).wp P Q a W :=
  wp_region_quiet (C := fun w' => ∃ u : Ext W, w' = u.w) hm hB ⟨⟨W.drew, (Below.refl _ _).drew⟩, rfl⟩ (by simpa using h)
/-- A call that makes memory and turns none. -/
theorem ext_call {f : FuncId} {args : Array Value} {u : Ext W} {v : Value} (h : Calls P f args u.w fun e w' => e = .returned v ∧ Below u.w.heap.size u.w w') :
    Calls P f args u.w fun e w'' => e = .returned v ∧ ∃ u' : Ext W, w'' = u'.w :=
  h.mono fun _ w' ⟨he, hb⟩ => ⟨he, ⟨w', u.ok.trans (hb.mono u.ok.size)⟩, rfl⟩
/-- A call that leaves the world as it was. -/
theorem ext_same {f : FuncId} {args : Array Value} {u : Ext W} {v : Value} (h : Calls P f args u.w fun e w' => e = .returned v ∧ w' = u.w) :
    Calls P f args u.w fun e w'' => e = .returned v ∧ ∃ u' : Ext W, w'' = u'.w :=
  h.mono fun _ _ ⟨he, hw⟩ => ⟨he, u, hw⟩
end
end Go.Proofs.YtcbkmcagnmpifaaGreatDoor

end
