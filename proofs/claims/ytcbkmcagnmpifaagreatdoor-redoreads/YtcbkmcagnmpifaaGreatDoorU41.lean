/- The chapter's own case, whole. -/
/- Bytes of a change, by the document. -/
import Derived.Test.YtcbkmcagnmpifaaGreatDoorU40
import Derived.Test.YtcbkmcagnmpifaaGreatDoorU30
section
namespace Go.Proofs.YtcbkmcagnmpifaaGreatDoor
open Go.RowKit Go.Maps Go.Sort
theorem conv1 (w : World) (X : Obj) (C : Array Value) (n c : Nat) : (convert 25 25 (.slice (some ⟨w.heap.size + 1, 0, none⟩) n c)).run Tryz.prog ((w.alloc X).alloc (.cells C 5)) = .ok (.slice (some ⟨w.heap.size + 1, 0, none⟩) n c) ((w.alloc X).alloc (.cells C 5 (C.size, C.size + 1))) := by
  have := Lib.run_convert_bytes_const (P := Tryz.prog) (w.alloc X) 25 5 C n c Tryz.underlying25 Tryz.underlying5
  rwa [World.size_alloc] at this
/-- The chapter's two operations, as they are written down. -/
theorem xy_made (w : World) (ρ : Nat → Option Role) (h : ∀ k r, ρ k = some r → k < w.heap.size) :
    Below w.heap.size w (((w.alloc (.cells #[.int .u8 120] 5 (1, 2))).alloc (.cells #[.int .u8 121] 5 (1, 2))).alloc (.cells #[.int .i64 2, .string ⟨#[97]⟩, .int .i64 0, .slice (some ⟨w.heap.size, 0, none⟩) 1 1, .int .i64 2, .string ⟨#[98]⟩, .int .i64 0, .slice (some ⟨w.heap.size + 1, 0, none⟩) 1 1] 35)) ∧
    OPf (((w.alloc (.cells #[.int .u8 120] 5 (1, 2))).alloc (.cells #[.int .u8 121] 5 (1, 2))).alloc (.cells #[.int .i64 2, .string ⟨#[97]⟩, .int .i64 0, .slice (some ⟨w.heap.size, 0, none⟩) 1 1, .int .i64 2, .string ⟨#[98]⟩, .int .i64 0, .slice (some ⟨w.heap.size + 1, 0, none⟩) 1 1] 35)) ρ (.slice (some ⟨w.heap.size + 1 + 1, 0, none⟩) 2 2) [opX (.slice (some ⟨w.heap.size, 0, none⟩) 1 1), opY (.slice (some ⟨w.heap.size + 1, 0, none⟩) 1 1)] := by
  have free : ∀ k, w.heap.size ≤ k → ρ k = none := fun k hk => by
    cases hx : ρ k with
    | none => rfl
    | some r => have := h k r hx; omega
  have b0 : BR (w.alloc (.cells #[.int .u8 120] 5 (1, 2))) (.slice (some ⟨w.heap.size, 0, none⟩) 1 1) [120] := br_lit [120] rfl (Nat.le_refl _) (by simp only [maxLen]; decide)
  have b1 : BR ((w.alloc (.cells #[.int .u8 120] 5 (1, 2))).alloc (.cells #[.int .u8 121] 5 (1, 2))) (.slice (some ⟨w.heap.size + 1, 0, none⟩) 1 1) [121] := by
    have := br_lit (w := w.alloc (.cells #[.int .u8 120] 5 (1, 2))) (fr := (1, 2)) (C := #[.int .u8 121]) [121] rfl (c := 1) (Nat.le_refl _) (by simp only [maxLen]; decide)
    rwa [World.size_alloc] at this
  have k2 := Blk.new ((w.alloc (.cells #[.int .u8 120] 5 (1, 2))).alloc (.cells #[.int .u8 121] 5 (1, 2))) #[.int .i64 2, .string ⟨#[97]⟩, .int .i64 0, .slice (some ⟨w.heap.size, 0, none⟩) 1 1, .int .i64 2, .string ⟨#[98]⟩, .int .i64 0, .slice (some ⟨w.heap.size + 1, 0, none⟩) 1 1] 35
  rw [World.size_alloc, World.size_alloc] at k2
  have e1 : Below ((w.alloc (.cells #[.int .u8 120] 5 (1, 2)))).heap.size ((w.alloc (.cells #[.int .u8 120] 5 (1, 2)))) ((w.alloc (.cells #[.int .u8 120] 5 (1, 2))).alloc (.cells #[.int .u8 121] 5 (1, 2))) := (Below.refl _ _).alloc (Nat.le_refl _) _
  have e2 : Below ((w.alloc (.cells #[.int .u8 120] 5 (1, 2))).alloc (.cells #[.int .u8 121] 5 (1, 2))).heap.size ((w.alloc (.cells #[.int .u8 120] 5 (1, 2))).alloc (.cells #[.int .u8 121] 5 (1, 2))) (((w.alloc (.cells #[.int .u8 120] 5 (1, 2))).alloc (.cells #[.int .u8 121] 5 (1, 2))).alloc (.cells #[.int .i64 2, .string ⟨#[97]⟩, .int .i64 0, .slice (some ⟨w.heap.size, 0, none⟩) 1 1, .int .i64 2, .string ⟨#[98]⟩, .int .i64 0, .slice (some ⟨w.heap.size + 1, 0, none⟩) 1 1] 35)) := (Below.refl _ _).alloc (Nat.le_refl _) _
  refine ⟨(((Below.refl _ _).alloc (Nat.le_refl _) _).alloc (by simp) _).alloc (by simp; omega) _, ⟨⟨_, 2, rfl, Nat.le_refl _, by simp only [maxLen]; decide, (fun e => by cases e), fun _ => ⟨w.heap.size + 1 + 1, 0, rfl, k2.lt, fun i hi => ?_⟩⟩, fun _ A n c e => ?_, fun x hx _ A n c e => ?_⟩⟩
  · have hi' : i = 0 ∨ i = 1 := by simp at hi; omega
    rcases hi' with rfl | rfl
    · exact ⟨by rw [k2.cell]; rfl, by rw [k2.cell]; rfl, by rw [k2.cell]; rfl, by rw [k2.cell]; rfl, (b0.below e1).below e2⟩
    · exact ⟨by rw [k2.cell]; rfl, by rw [k2.cell]; rfl, by rw [k2.cell]; rfl, by rw [k2.cell]; rfl, b1.below e2⟩
  · cases e
    exact free _ (by show w.heap.size ≤ w.heap.size + 1 + 1; omega)
  · simp only [List.mem_cons, List.not_mem_nil, or_false] at hx
    rcases hx with rfl | rfl
    · cases e
      exact free _ (Nat.le_refl _)
    · cases e
      exact free _ (by show w.heap.size ≤ w.heap.size + 1; omega)
set_option maxRecDepth 20000 in
set_option maxHeartbeats 8000000 in
theorem alive_yes (w : World) (a : Nat → Addr) (hE : Errs w a) : Calls Tryz.prog 6 #[] w fun e w' => e = .returned (.bool true) ∧ Below w.heap.size w w' := by
  replace hE := hide hE
  go_enter Tryz.func6, Tryz.ntmps6
  go_wp2_with fail
  refine (new_any w w 1000 (by decide) (by decide) (Below.refl _ _)).mono ?_
  rintro e w1 ⟨rfl, _, hD1⟩
  obtain ⟨d, hd⟩ : ∃ d, Hid (d = w.heap.size + 3) := ⟨_, rfl⟩
  rw [← hd.out] at hD1 ⊢
  have H2 := hide (afmt w w1 d _ a hE.out hD1)
  clear hD1
  unfold pv at H2 ⊢
  go_wp2_with fail
  refine H2.out.mono ?_
  rintro e w2 ⟨rfl, ρ2, s2, f0, L2, hs2, hφ2⟩
  obtain ⟨l, hl⟩ : ∃ l, Hid (l = w1.heap.size) := ⟨_, rfl⟩
  rw [← hl.out] at L2 ⊢
  have HA := hide (arm_any w w2 d ρ2 s2 L2.dk 2)
  replace L2 := hide L2
  unfold pv at HA
  clear H2
  go_wp2_with fail
  refine HA.out.mono ?_
  rintro e w3 ⟨rfl, hd3, ht3⟩
  have L3 := L2.out.turn hd3 ht3
  have s3 := hs2.arm 2
  have hφ3 : ({ s2 with armed := 2 } : St).φ f0 = some ⟨0, [], []⟩ := hφ2
  generalize ({ s2 with armed := 2 } : St) = t3 at L3 s3 hφ3 hd3
  replace L3 := hide L3
  clear HA hd3 ht3 L2 hs2 hφ2
  have hcv := fun (w0 : World) (C : Array Value) (n c : Nat) => Lib.run_convert_bytes_const (P := Tryz.prog) w0 25 5 C n c Tryz.underlying25 Tryz.underlying5
  have hcv1 := conv1
  obtain ⟨hbX, OX⟩ := xy_made w3 ρ2 (fun k r hr => (L3.out.dk.low k r hr).2)
  have L4 := L3.out.then hbX
  have HC := hide (acommit w _ l d ρ2 t3 a f0 hE.out L4 s3 hφ3 _ _ _ OX)
  unfold pv at HC
  clear hbX OX L4 L3
  go_wp2_with fail
  refine HC.out.mono ?_
  rintro e w5 ⟨rfl, ρ5, s5, L5, hs5, hφ5⟩
  have HDd := hide (dead_any w5 l d true L5.lb)
  replace L5 := hide L5
  clear HC hcv hcv1
  unfold errV pv at *
  go_wp2_with (go_at_call 26; refine HDd.out.mono ?_; rintro e w' ⟨rfl, rfl⟩)
  have hv5 : ∀ kl b, s5.Ds.atKey kl .nil = pd b → (s5.φ b).isSome = true := fun kl b hb => by
    rw [hs5.Ds] at hb
    have e := one_at (show (DataW.map [(.string redoN, pd f0)]).atKey kl .nil = pd b from hb)
    subst e
    rw [hφ5]
    rfl
  have he5 : ∀ p ∈ entriesOf s5.Ds, ∃ b, p.2 = pd b := fun p hp => by
    rw [hs5.Ds] at hp
    exact one_entry p hp
  have HCr := hide (crash_none w w' d ρ5 s5 L5.out.dk hs5.ns hs5.ls hs5.ch (by rw [hs5.op]; decide) (by rw [hs5.op]; decide) hv5 he5 f0 ⟨0, xyRec, []⟩ hφ5)
  unfold pv at HCr
  refine HCr.out.mono ?_
  rintro e w6 ⟨rfl, ρ6, hd6, _⟩
  have HO := hide (aopen w w6 d ρ6 _ a f0 hE.out hd6 (hs5.crashed f0 ⟨0, xyRec, []⟩) (if_pos rfl))
  unfold pv at HO
  clear HCr hd6 hv5 he5 HDd L5
  go_wp2_with fail
  refine HO.out.mono ?_
  rintro e w7 ⟨m, rfl, ρ7, s7, ⟨f1, f2, hD7, ho7, p1, p2⟩, L7⟩
  have R1 := hide (logRead_ok w w7 m d false ρ7 s7 L7 ho7 [97] rightX (by decide) f1 ⟨1, [120], []⟩ (by rw [hD7]; exact files3_a f0 f1 f2) p1 (by decide))
  have R2 := hide (fun w8 (hb : Below w7.heap.size w7 w8) => logRead_ok w w8 m d false ρ7 s7 (L7.then hb) ho7 [98] rightBb (by decide) f2 ⟨2, [121], []⟩ (by rw [hD7]; exact files3_b f0 f1 f2) p2 (by decide))
  have HB := hide L7.dk.below
  unfold pv at R1 R2
  clear HO L7 hD7 p1 p2 ho7
  go_wp2_with fail
  refine R1.out.mono ?_
  rintro e w8 ⟨va, rfl, hva, hb8⟩
  replace hva := hide hva
  have HB8 := hide hb8
  clear hb8 R1
  go_wp2_with fail
  refine (R2.out w8 HB8.out).mono ?_
  rintro e w9 ⟨vb, rfl, hvb, hb9⟩
  have c1 := (hva.out.below hb9).convert
  have c2 := hvb.convert
  have HB9 := hide (HB.out.trans ((HB8.out.trans (hb9.mono HB8.out.size)).mono HB.out.size))
  clear hva hvb hb9 R2
  go_wp2
  go_ret
  exact ⟨rfl, HB9.out⟩
end Go.Proofs.YtcbkmcagnmpifaaGreatDoor

end
section
namespace Go.Proofs.YtcbkmcagnmpifaaGreatDoor
open Go.RowKit
set_option maxRecDepth 20000 in
set_option maxHeartbeats 2000000 in
theorem rfour_any (n : Nat) (w : World) (hn : n < 4294967296) :
    Calls Tryz.prog 35 #[.int .i64 n] w fun e w' => ∃ v, e = .returned v ∧ Bts w w' v (fourB n) := by
  go_enter Tryz.func35, Tryz.ntmps35
  go_wp2
  go_ret
  exact ⟨_, rfl, Bts.new w (fourB n) (four_cells' n _ _ _ _ (by omega) (by omega) (by omega) (by omega)) rfl (by simp [fourB])⟩
set_option maxRecDepth 20000 in
set_option maxHeartbeats 8000000 in
theorem rbytes_any (ops : List OpA) (v : Value) (w : World) (h : OPs w v ops) (hf : formB ops = true) :
    Calls Tryz.prog 12 #[v] w fun e w' => ∃ v', e = .returned v' ∧ Bts w w' v' (opsB ops) := by
  obtain ⟨h1, h16, hgood, hsz⟩ := form_parts hf
  have HO := hide h
  obtain ⟨A, c, rfl, hl, hm⟩ := h.form
  have hmx : c ≤ 9223372036854775807 := by simp only [maxLen] at hm; omega
  obtain ⟨i0, hi, hz0, hz1, hz2⟩ := info_parts byteInfo
  have hfl := flat_length ops
  have hpos := sizeOps_pos ops
  clear h hm hf
  have T4 := hide (Bts.new w [UInt8.ofNat ops.length] (one_cellB ops.length (ops.length : Int) (by omega)) rfl (by simp))
  go_enter Tryz.func12, Tryz.ntmps12
  go_wp2_with fail
  go_loopw [3, 5, 12] (fun u _ n wr => ∃ k : Nat, k ≤ ops.length ∧ n = .int .i64 k ∧ ∃ B : List UInt8, Hid (B = [UInt8.ofNat ops.length] ++ (ops.take k).flatMap opB) ∧ Hid (Bts w wr u B)) (fun _ _ n _ => ops.length - (intOf n).toNat)
  case atStart => exact ⟨0, Nat.zero_le _, rfl, _, rfl, T4⟩
  case round =>
    obtain ⟨k, hkl, rfl, B, hB, T⟩ := hrel
    by_cases hlt : k < ops.length
    · have hltz : (k : Int) < (ops.length : Int) := by omega
      obtain ⟨g, o, rfl, hg, _, q0, q1, q2, q3, q4⟩ := (HO.out.below T.out.1).at hlt
      obtain ⟨Ab, cb, hvb, _⟩ := q4.form
      have HF := hide (flat_take ops k hlt)
      have hBl : B.length = 1 + ((ops.take k).flatMap opB).length := by rw [hB.out, List.length_append]; rfl
      have hfk := flat_take_le ops (k + 1)
      rw [HF.out, List.length_append, opB_length] at hfk
      unfold opSize at hfk
      have hof := opForm_parts (good_all ops [] hgood ops[k] (List.getElem_mem hlt))
      have q4' : Hid (BR w ops[k].val ops[k].bytes) := by
        obtain ⟨_, _, _, _, _, _, _, _, _, h⟩ := HO.out.at hlt
        exact h
      generalize hx : ops[k] = x at q0 q1 q2 q3 hvb HF hfk hof q4'
      clear hx q4
      obtain ⟨kd, nm, att, vl, bs⟩ := x
      simp only at q0 q1 q2 q3 hvb hfk hof q4'
      subst hvb
      obtain ⟨o1, o2, o3, o4, o5⟩ := hof
      have hlen : B.length + (10 + nm.length + bs.length) ≤ 400000 := by omega
      clear hfk hBl
      obtain ⟨an, rfl⟩ : ∃ an : Nat, att = an := ⟨att.toNat, by omega⟩
      have K0 := hide (T.out.beside #[.int .i64 kd, .string ⟨nm.toArray⟩, .int .i64 an, .slice Ab bs.length cb] 35)
      obtain ⟨G0, A0, c0, rfl, r0, g0⟩ := K0.out.parts
      clear T T4
      go_wp2_with (at_builtin; refine wpList_append_rw rfl _ _ 25 25 rfl 5 i0 (.int .u8 0) 1 1 Tryz.underlying25 hi hz0 hz1 hz2 rfl rfl (r0.out.keep (S := fun _ => False) ((Mvs.refl _ _).alloc _) (fun _ _ c => c)) _ 2 (([UInt8.ofNat kd.toNat, UInt8.ofNat nm.length] : List UInt8).map bv) rfl (src_lit1 _ [UInt8.ofNat kd.toNat, UInt8.ofNat nm.length] (two_cells kd.toNat nm.length _ _ (by omega) (by omega)) rfl) (by simp only [maxLen] <;> omega) (by omega) ?_)
      intro v5 w5 G5 hr5 hm5 hg5
      obtain ⟨B1, hB1⟩ : ∃ X, Hid (X = B ++ [UInt8.ofNat kd.toNat, UInt8.ofNat nm.length]) := ⟨_, rfl⟩
      have K1 := hide (K0.out.grow g0.out hB1.out hr5 (((Mvs.refl _ _).alloc _).trans hm5) (hg5.imp id fun e => ⟨_, e, by simp⟩))
      have l1 : Hid (B1.length = B.length + 2) := by show _ = _; rw [hB1.out]; simp
      have hc1 := K1.out.2.2.1.cell
      obtain ⟨G1, A1, c1, rfl, r1, g1⟩ := K1.out.parts
      clear hr5 hm5 hg5 K0 r0 g0
      go_wp2_with (at_builtin; refine wpList_append_rw rfl _ _ 25 9 rfl 5 i0 (.int .u8 0) 1 1 Tryz.underlying25 hi hz0 hz1 hz2 rfl rfl r1.out _ nm.length (nm.map bv) rfl (src_str nm) (by have := l1.out; simp only [maxLen] <;> omega) (by have := l1.out; omega) ?_)
      intro v6 w6 G6 hr6 hm6 hg6
      obtain ⟨B2, hB2⟩ : ∃ X, Hid (X = B1 ++ nm) := ⟨_, rfl⟩
      have K2 := hide (K1.out.grow g1.out hB2.out hr6 hm6 (hg6.imp id fun e => ⟨_, e, Nat.le_refl _⟩))
      have l2 : Hid (B2.length = B1.length + nm.length) := by show _ = _; rw [hB2.out]; simp
      have hc2 := K2.out.2.2.1.cell
      obtain ⟨G2, A2, c2, rfl, r2, g2⟩ := K2.out.parts
      clear hr6 hm6 hg6 K1 r1 g1 hc1
      go_wp2_with fail
      refine (rfour_any an w6 (by omega)).mono ?_
      rintro e w7 ⟨v7, rfl, T7⟩
      have K2b := hide (K2.out.then T7.1)
      have r2b := hide (r2.out.keep (S := fun _ => False) (Mvs.of_below T7.1) (fun _ _ c => c))
      have s7 := T7.br.src
      obtain ⟨A7, c7, rfl, _⟩ := BR.form T7.br
      replace s7 := hide s7
      clear T7 K2 r2
      go_wp2_with (at_builtin; refine wpList_append_rw rfl _ _ 25 25 rfl 5 i0 (.int .u8 0) 1 1 Tryz.underlying25 hi hz0 hz1 hz2 rfl rfl r2b.out _ 4 ((fourB an).map bv) rfl s7.out (by have := l1.out; have := l2.out; simp only [maxLen] <;> omega) (by have := l1.out; have := l2.out; omega) ?_)
      intro v8 w8 G8 hr8 hm8 hg8
      obtain ⟨B3, hB3⟩ : ∃ X, Hid (X = B2 ++ fourB an) := ⟨_, rfl⟩
      have K3 := hide (K2b.out.grow g2.out hB3.out hr8 hm8 (hg8.imp id fun e => ⟨_, e, Nat.le_refl _⟩))
      have l3 : Hid (B3.length = B2.length + 4) := by show _ = _; rw [hB3.out]; simp [fourB_length]
      have hc3 := K3.out.2.2.1.cell
      obtain ⟨G3', A3', c3', rfl, r3, g3⟩ := K3.out.parts
      clear hr8 hm8 hg8 K2b r2b g2 hc2 s7
      go_wp2_with fail
      refine (rfour_any bs.length w8 (by omega)).mono ?_
      rintro e w9 ⟨v9, rfl, T9⟩
      have K3b := hide (K3.out.then T9.1)
      have r3b := hide (r3.out.keep (S := fun _ => False) (Mvs.of_below T9.1) (fun _ _ c => c))
      have s9 := T9.br.src
      obtain ⟨A9, c9, rfl, _⟩ := BR.form T9.br
      replace s9 := hide s9
      clear T9 K3 r3
      go_wp2_with (at_builtin; refine wpList_append_rw rfl _ _ 25 25 rfl 5 i0 (.int .u8 0) 1 1 Tryz.underlying25 hi hz0 hz1 hz2 rfl rfl r3b.out _ 4 ((fourB bs.length).map bv) rfl s9.out (by have := l1.out; have := l2.out; have := l3.out; simp only [maxLen] <;> omega) (by have := l1.out; have := l2.out; have := l3.out; omega) ?_)
      intro v10 w10 G10 hr10 hm10 hg10
      obtain ⟨B4, hB4⟩ : ∃ X, Hid (X = B3 ++ fourB bs.length) := ⟨_, rfl⟩
      have K4 := hide (K3b.out.grow g3.out hB4.out hr10 hm10 (hg10.imp id fun e => ⟨_, e, Nat.le_refl _⟩))
      have l4 : Hid (B4.length = B3.length + 4) := by show _ = _; rw [hB4.out]; simp [fourB_length]
      have hc4 := K4.out.2.2.1.cell
      obtain ⟨G4', A4, c4, rfl, r4, g4⟩ := K4.out.parts
      have hsb := hide (q4'.out.below K4.out.1)
      clear hr10 hm10 hg10 K3b r3b g3 hc3 s9
      go_wp2_with (at_builtin; refine wpList_append_rw rfl _ _ 25 25 rfl 5 i0 (.int .u8 0) 1 1 Tryz.underlying25 hi hz0 hz1 hz2 rfl rfl r4.out _ bs.length (bs.map bv) rfl (BR.src hsb.out) (by have := l1.out; have := l2.out; have := l3.out; have := l4.out; simp only [maxLen] <;> omega) (by have := l1.out; have := l2.out; have := l3.out; have := l4.out; omega) ?_)
      intro v11 w11 G11 hr11 hm11 hg11
      obtain ⟨B5, hB5⟩ : ∃ X, Hid (X = B4 ++ bs) := ⟨_, rfl⟩
      have K5 := hide (K4.out.grow g4.out hB5.out hr11 hm11 (hg11.imp id fun e => ⟨_, e, Nat.le_refl _⟩))
      clear hr11 hm11 hg11 K4 r4 g4 hc4 hsb
      go_wp2_with fail
      go_round
      case rel =>
        refine ⟨k + 1, by omega, by go_num, B5, ?_, K5.out.bts⟩
        show _ = _
        rw [hB5.out, hB4.out, hB3.out, hB2.out, hB1.out, hB.out, HF.out]
        simp [opB]
      case measure => simp [intOf]; omega
    · have hltz : ¬ (k : Int) < (ops.length : Int) := by omega
      have hB' := hB.out
      rw [List.take_of_length_le (by omega)] at hB'
      go_wp2
      go_ret
      exact ⟨_, rfl, by rw [opsB, ← hB']; exact T.out⟩
end Go.Proofs.YtcbkmcagnmpifaaGreatDoor

end
