/- The chapter's own case, whole. -/
/- Bytes of a change, by the document. -/
/- A copy of bytes with marks behind it, and whether it stands; two rows of bytes that are the same. -/
import Derived.Test.YthhnlkbjpahjeaaGreatDoorU41
import Derived.Test.YthhnlkbjpahjeaaGreatDoorU31
import Derived.Test.YthhnlkbjpahjeaaGreatDoorU17
import Derived.Test.YthhnlkbjpahjeaaGreatDoorU11
import Derived.BigQuiet
import Derived.Deep.QuietTactic
section
namespace Go.Proofs.YthhnlkbjpahjeaaGreatDoor
open Go.RowKit Go.Maps Go.Sort
theorem conv1 (w : World) (X : Obj) (C : Array Value) (n c : Nat) : (convert 46 46 (.slice (some ⟨w.heap.size + 1, 0, none⟩) n c)).run Tryz.prog ((w.alloc X).alloc (.cells C 5)) = .ok (.slice (some ⟨w.heap.size + 1, 0, none⟩) n c) ((w.alloc X).alloc (.cells C 5 (C.size, C.size + 1))) := by
  have := Lib.run_convert_bytes_const (P := Tryz.prog) (w.alloc X) 46 5 C n c Tryz.underlying46 Tryz.underlying5
  rwa [World.size_alloc] at this
/-- The chapter's two operations, as they are written down. -/
theorem xy_made (w : World) (ρ : Nat → Option Role) (h : ∀ k r, ρ k = some r → k < w.heap.size) :
    Below w.heap.size w (((w.alloc (.cells #[.int .u8 120] 5 (1, 2))).alloc (.cells #[.int .u8 121] 5 (1, 2))).alloc (.cells #[.int .i64 2, .string ⟨#[97]⟩, .int .i64 0, .slice (some ⟨w.heap.size, 0, none⟩) 1 1, .int .i64 2, .string ⟨#[98]⟩, .int .i64 0, .slice (some ⟨w.heap.size + 1, 0, none⟩) 1 1] 48)) ∧
    OPf (((w.alloc (.cells #[.int .u8 120] 5 (1, 2))).alloc (.cells #[.int .u8 121] 5 (1, 2))).alloc (.cells #[.int .i64 2, .string ⟨#[97]⟩, .int .i64 0, .slice (some ⟨w.heap.size, 0, none⟩) 1 1, .int .i64 2, .string ⟨#[98]⟩, .int .i64 0, .slice (some ⟨w.heap.size + 1, 0, none⟩) 1 1] 48)) ρ (.slice (some ⟨w.heap.size + 1 + 1, 0, none⟩) 2 2) [opX (.slice (some ⟨w.heap.size, 0, none⟩) 1 1), opY (.slice (some ⟨w.heap.size + 1, 0, none⟩) 1 1)] := by
  have free : ∀ k, w.heap.size ≤ k → ρ k = none := fun k hk => by
    cases hx : ρ k with
    | none => rfl
    | some r => have := h k r hx; omega
  have b0 : BR (w.alloc (.cells #[.int .u8 120] 5 (1, 2))) (.slice (some ⟨w.heap.size, 0, none⟩) 1 1) [120] := br_litD [120] rfl (Nat.le_refl _) (by simp only [maxLen]; decide)
  have b1 : BR ((w.alloc (.cells #[.int .u8 120] 5 (1, 2))).alloc (.cells #[.int .u8 121] 5 (1, 2))) (.slice (some ⟨w.heap.size + 1, 0, none⟩) 1 1) [121] := by
    have := br_litD (w := w.alloc (.cells #[.int .u8 120] 5 (1, 2))) (fr := (1, 2)) (C := #[.int .u8 121]) [121] rfl (c := 1) (Nat.le_refl _) (by simp only [maxLen]; decide)
    rwa [World.size_alloc] at this
  have k2 := Blk.new ((w.alloc (.cells #[.int .u8 120] 5 (1, 2))).alloc (.cells #[.int .u8 121] 5 (1, 2))) #[.int .i64 2, .string ⟨#[97]⟩, .int .i64 0, .slice (some ⟨w.heap.size, 0, none⟩) 1 1, .int .i64 2, .string ⟨#[98]⟩, .int .i64 0, .slice (some ⟨w.heap.size + 1, 0, none⟩) 1 1] 48
  rw [World.size_alloc, World.size_alloc] at k2
  have e1 : Below ((w.alloc (.cells #[.int .u8 120] 5 (1, 2)))).heap.size ((w.alloc (.cells #[.int .u8 120] 5 (1, 2)))) ((w.alloc (.cells #[.int .u8 120] 5 (1, 2))).alloc (.cells #[.int .u8 121] 5 (1, 2))) := (Below.refl _ _).alloc (Nat.le_refl _) _
  have e2 : Below ((w.alloc (.cells #[.int .u8 120] 5 (1, 2))).alloc (.cells #[.int .u8 121] 5 (1, 2))).heap.size ((w.alloc (.cells #[.int .u8 120] 5 (1, 2))).alloc (.cells #[.int .u8 121] 5 (1, 2))) (((w.alloc (.cells #[.int .u8 120] 5 (1, 2))).alloc (.cells #[.int .u8 121] 5 (1, 2))).alloc (.cells #[.int .i64 2, .string ⟨#[97]⟩, .int .i64 0, .slice (some ⟨w.heap.size, 0, none⟩) 1 1, .int .i64 2, .string ⟨#[98]⟩, .int .i64 0, .slice (some ⟨w.heap.size + 1, 0, none⟩) 1 1] 48)) := (Below.refl _ _).alloc (Nat.le_refl _) _
  refine ⟨(((Below.refl _ _).alloc (Nat.le_refl _) _).alloc (by simp) _).alloc (by simp; omega) _, ⟨⟨_, 2, rfl, Nat.le_refl _, by simp only [maxLen]; decide, (fun e => by cases e), fun _ => ⟨w.heap.size + 1 + 1, 0, rfl, k2.lt, fun i hi => ?_⟩⟩, fun _ A n c e => ?_, fun x hx _ A n c e => ?_⟩⟩
  · have hi' : i = 0 ∨ i = 1 := by simp at hi; omega
    rcases hi' with rfl | rfl
    · exact ⟨by rw [k2.cell]; rfl, by rw [k2.cell]; rfl, by rw [k2.cell]; rfl, by rw [k2.cell]; rfl, (b0.below e1).below e2⟩
    · exact ⟨by rw [k2.cell]; rfl, by rw [k2.cell]; rfl, by rw [k2.cell]; rfl, by rw [k2.cell]; rfl, b1.below e2⟩
  · cases e
    exact free _ (by show w.heap.size ≤ w.heap.size + 1 + 1; omega)
  · simp only [List.mem_cons, List.not_mem_nil, or_false] at hx
    rcases hx with rfl | rfl
    · cases e
      exact free _ (Nat.le_refl _)
    · cases e
      exact free _ (by show w.heap.size ≤ w.heap.size + 1; omega)
set_option maxRecDepth 20000 in
set_option maxHeartbeats 8000000 in
theorem alive_yes (w : World) (a : Nat → Addr) (hE : Errs w a) : Calls Tryz.prog 4 #[] w fun e w' => e = .returned (.bool true) ∧ Below w.heap.size w w' := by
  replace hE := hide hE
  go_enter Tryz.func4, Tryz.ntmps4
  go_wp2_with fail
  refine (new_any w w 1000 (by decide) (by decide) (Below.refl _ _)).mono ?_
  rintro e w1 ⟨rfl, _, hD1⟩
  obtain ⟨d, hd⟩ : ∃ d, Hid (d = w.heap.size + 3) := ⟨_, rfl⟩
  rw [← hd.out] at hD1 ⊢
  have H2 := hide (afmt w w1 d _ a hE.out hD1)
  clear hD1
  unfold pv at H2 ⊢
  go_wp2_with fail
  refine H2.out.mono ?_
  rintro e w2 ⟨rfl, ρ2, s2, f0, L2, hs2, hφ2⟩
  obtain ⟨l, hl⟩ : ∃ l, Hid (l = w1.heap.size) := ⟨_, rfl⟩
  rw [← hl.out] at L2 ⊢
  have HA := hide (arm_any w w2 d ρ2 s2 L2.dk 2)
  replace L2 := hide L2
  unfold pv at HA
  clear H2
  go_wp2_with fail
  refine HA.out.mono ?_
  rintro e w3 ⟨rfl, hd3, ht3⟩
  have L3 := L2.out.turn hd3 ht3
  have s3 := hs2.arm 2
  have hφ3 : ({ s2 with armed := 2 } : St).φ f0 = some ⟨0, [], []⟩ := hφ2
  generalize ({ s2 with armed := 2 } : St) = t3 at L3 s3 hφ3 hd3
  replace L3 := hide L3
  clear HA hd3 ht3 L2 hs2 hφ2
  have hcv := fun (w0 : World) (C : Array Value) (n c : Nat) => Lib.run_convert_bytes_const (P := Tryz.prog) w0 46 5 C n c Tryz.underlying46 Tryz.underlying5
  have hcv1 := conv1
  obtain ⟨hbX, OX⟩ := xy_made w3 ρ2 (fun k r hr => (L3.out.dk.low k r hr).2)
  have L4 := L3.out.then hbX
  have HC := hide (acommit w _ l d ρ2 t3 a f0 hE.out L4 s3 hφ3 _ _ _ OX)
  unfold pv at HC
  clear hbX OX L4 L3
  go_wp2_with fail
  refine HC.out.mono ?_
  rintro e w5 ⟨rfl, ρ5, s5, L5, hs5, hφ5⟩
  have HDd := hide (dead_any w5 l d true L5.lb)
  replace L5 := hide L5
  clear HC hcv hcv1
  unfold errV pv at *
  go_wp2_with (go_at_call 16; refine HDd.out.mono ?_; rintro e w' ⟨rfl, rfl⟩)
  have hv5 : ∀ kl b, s5.Ds.atKey kl .nil = pd b → (s5.φ b).isSome = true := fun kl b hb => by
    rw [hs5.Ds] at hb
    have e := one_at (show (DataW.map [(.string redoN, pd f0)]).atKey kl .nil = pd b from hb)
    subst e
    rw [hφ5]
    rfl
  have he5 : ∀ p ∈ entriesOf s5.Ds, ∃ b, p.2 = pd b := fun p hp => by
    rw [hs5.Ds] at hp
    exact one_entry p hp
  have HCr := hide (crash_none w w' d ρ5 s5 L5.out.dk hs5.ns hs5.ls hs5.ch (by rw [hs5.op]; decide) (by rw [hs5.op]; decide) hv5 he5 f0 ⟨0, xyRec, []⟩ hφ5)
  unfold pv at HCr
  refine HCr.out.mono ?_
  rintro e w6 ⟨rfl, ρ6, hd6, _⟩
  have HO := hide (aopen w w6 d ρ6 _ a f0 hE.out hd6 (hs5.crashed f0 ⟨0, xyRec, []⟩) (if_pos rfl))
  unfold pv at HO
  clear HCr hd6 hv5 he5 HDd L5
  go_wp2_with fail
  refine HO.out.mono ?_
  rintro e w7 ⟨m, rfl, ρ7, s7, ⟨f1, f2, hD7, ho7, p1, p2⟩, L7⟩
  have R1 := hide (logRead_ok w w7 m d false ρ7 s7 L7 ho7 [97] rightX (by decide) f1 ⟨1, [120], []⟩ (by rw [hD7]; exact files3_a f0 f1 f2) p1 (by decide))
  have R2 := hide (fun w8 (hb : Below w7.heap.size w7 w8) => logRead_ok w w8 m d false ρ7 s7 (L7.then hb) ho7 [98] rightBb (by decide) f2 ⟨2, [121], []⟩ (by rw [hD7]; exact files3_b f0 f1 f2) p2 (by decide))
  have HB := hide L7.dk.below
  unfold pv at R1 R2
  clear HO L7 hD7 p1 p2 ho7
  go_wp2_with fail
  refine R1.out.mono ?_
  rintro e w8 ⟨va, rfl, hva, hb8⟩
  replace hva := hide hva
  have HB8 := hide hb8
  clear hb8 R1
  go_wp2_with fail
  refine (R2.out w8 HB8.out).mono ?_
  rintro e w9 ⟨vb, rfl, hvb, hb9⟩
  have c1 := (hva.out.below hb9).convert
  have c2 := hvb.convert
  have HB9 := hide (HB.out.trans ((HB8.out.trans (hb9.mono HB8.out.size)).mono HB.out.size))
  clear hva hvb hb9 R2
  go_wp2
  go_ret
  exact ⟨rfl, HB9.out⟩
end Go.Proofs.YthhnlkbjpahjeaaGreatDoor

end
section
namespace Go.Proofs.YthhnlkbjpahjeaaGreatDoor
open Go.RowKit
end Go.Proofs.YthhnlkbjpahjeaaGreatDoor

end
section
namespace Go.Proofs.YthhnlkbjpahjeaaGreatDoor
open Go.RowKit
theorem convert_rw {w : World} {v : Value} {bs : List UInt8} {G : Option Nat} (h : Rw w 1 v bs.length (bs.map bv) G) : (convert 46 9 v).run Tryz.prog w = .ok (.string ⟨bs.toArray⟩) w := BR.convert h.br
def marks : List UInt8 := [201, 202, 203, 204, 205, 206]
/-- A copy of bs with the marks behind it. -/
def Copied (w : World) (g o cap : Nat) (bs : List UInt8) : Prop := Rw w 1 (.slice (some ⟨g, o, none⟩) (bs.length + 6) cap) (bs.length + 6) ((bs ++ marks).map bv) (some g)
def CopyOut (w w' : World) (e : Ending) (bs : List UInt8) : Prop := ∃ g o cap, e = .returned (.slice (some ⟨g, o, none⟩) bs.length cap) ∧ Copied w' g o cap bs ∧ w.heap.size ≤ g ∧ Below w.heap.size w w'

theorem Copied.cell {w : World} {g o cap : Nat} {bs : List UInt8} (h : Copied w g o cap bs) (j : Nat) (hj : j < bs.length + 6) : w.cell? ⟨g, o + j, none⟩ = some (bv ((bs ++ marks)[j]'(by simp [marks]; omega))) := by
  rcases h.2 with ⟨h, _⟩ | ⟨g', o', cap', k1, k2, _, _, _, k6, _⟩
  · cases h
  · cases k1
    simp only [Value.slice.injEq, Option.some.injEq, Addr.mk.injEq] at k2
    obtain ⟨⟨_, rfl, _⟩, _, _⟩ := k2
    exact k6 j _ (by rw [List.getElem?_map, List.getElem?_eq_getElem (by simp [marks]; omega)]; rfl)
theorem Copied.mark {w : World} {g o cap : Nat} {bs : List UInt8} (h : Copied w g o cap bs) (i : Nat) (hi : i < 6) : w.cell? ⟨g, o + (bs.length + i), none⟩ = some (.int .u8 ((201 + i : Nat) : Int)) := by
  rw [h.cell (bs.length + i) (by omega)]
  unfold bv
  congr 3
  rw [List.getElem_append_right (by omega)]
  have h6 : i = 0 ∨ i = 1 ∨ i = 2 ∨ i = 3 ∨ i = 4 ∨ i = 5 := by omega
  rcases h6 with rfl | rfl | rfl | rfl | rfl | rfl <;> simp [marks]
theorem Copied.cap {w : World} {g o cap : Nat} {bs : List UInt8} (h : Copied w g o cap bs) : bs.length + 6 ≤ cap := by
  rcases h.2 with ⟨h, _⟩ | ⟨g', o', cap', k1, k2, k3, _⟩
  · cases h
  · cases k2
    exact k3
theorem Copied.row {w : World} {g o cap : Nat} {bs : List UInt8} (h : Copied w g o cap bs) : Rw w 1 (.slice (some ⟨g, o, none⟩) bs.length cap) bs.length (bs.map bv) (some g) := by
  have := Rw.to (k := bs.length) h (by omega)
  rw [← List.map_take, List.take_left'] at this
  · exact this
  · rfl

end Go.Proofs.YthhnlkbjpahjeaaGreatDoor

end
