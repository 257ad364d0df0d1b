/- A change's bytes, by the program. -/
/- Bytes of a change, by the program. -/
/- The number of four bytes, by the program and by the document; a copy of bytes. -/
import Derived.Test.YthhnlkbjpahjeaaGreatDoorU14
import Derived.Test.YthhnlkbjpahjeaaGreatDoorU17
import Derived.Test.YthhnlkbjpahjeaaGreatDoorU03
import Derived.BigQuiet
import Derived.Test.YthhnlkbjpahjeaaGreatDoorU16
import Derived.Lib.LazyBuf
import Derived.Test.YthhnlkbjpahjeaaGreatDoorU06
section
namespace Go.Proofs.YthhnlkbjpahjeaaGreatDoor
open Go.RowKit
theorem byte_cell (m : Nat) (z : Int) (h : z = (m % 256 : Nat)) : Value.int .u8 z = bv (UInt8.ofNat m) := by
  unfold bv
  rw [UInt8.toNat_ofNat', h]
theorem four_cells' (n : Nat) (a b c d : Int) (ha : a = (n / 16777216 % 256 : Nat)) (hb : b = (n / 65536 % 256 : Nat)) (hc : c = (n / 256 % 256 : Nat)) (hd : d = (n % 256 : Nat)) : (#[.int .u8 a, .int .u8 b, .int .u8 c, .int .u8 d] : Array Value) = ((fourB n).map bv).toArray := by
  rw [byte_cell (n / 16777216) _ ha, byte_cell (n / 65536) _ hb, byte_cell (n / 256) _ hc, byte_cell n _ hd]
  rfl
theorem two_cells (n m : Nat) (a b : Int) (ha : a = (n % 256 : Nat)) (hb : b = (m % 256 : Nat)) : (#[.int .u8 a, .int .u8 b] : Array Value) = (([UInt8.ofNat n, UInt8.ofNat m] : List UInt8).map bv).toArray := by
  rw [byte_cell n _ ha, byte_cell m _ hb]
  rfl
theorem one_cellB (n : Nat) (a : Int) (ha : a = (n % 256 : Nat)) : (#[.int .u8 a] : Array Value) = (([UInt8.ofNat n] : List UInt8).map bv).toArray := by
  rw [byte_cell n _ ha]
  rfl
theorem src_lit1 {w : World} {C : Array Value} {fr : Nat × Nat} (ob : Obj) (bs : List UInt8) {n c : Nat} (hC : C = (bs.map bv).toArray) (hn : n = bs.length) : Src Tryz.prog 1 46 (.slice (some ⟨w.heap.size + 1, 0, none⟩) n c) bs.length (bs.map bv) ((w.alloc ob).alloc (.cells C 5 fr)) := by
  have := src_lit (w := w.alloc ob) (fr := fr) (c := c) bs hC hn
  rwa [World.size_alloc] at this
theorem src_str {w : World} (l : List UInt8) : Src Tryz.prog 1 9 (.string ⟨l.toArray⟩) l.length (l.map bv) w := by
  have := Src.ofString (P := Tryz.prog) (w := w) Tryz.underlying9 ⟨l.toArray⟩
  have e : byteCells ⟨l.toArray⟩ = l.map bv := by
    unfold byteCells
    simp [bv]
  have hs : (⟨l.toArray⟩ : ByteArray).size = l.length := by
    show l.toArray.size = _
    simp
  rw [e, hs] at this
  exact this
set_option maxRecDepth 20000 in
set_option maxHeartbeats 2000000 in
theorem oappend_any (n : Nat) (hn : n < 4294967296) (bs : List UInt8) (v : Value) (G : Option Nat) (w : World) (h : Rw w 1 v bs.length (bs.map bv) G) (hb : bs.length ≤ 1000000) :
    Calls Tryz.prog 73 #[v, .int .i64 n] w fun e w' => ∃ v' G', e = .returned v' ∧ Rw w' 1 v' (bs.length + 4) (bs.map bv ++ (fourB n).map bv) G' ∧ Mvs (fun k => some k = G) w w' ∧ (G' = G ∨ ∃ g, G' = some g ∧ w.heap.size ≤ g) := by
  obtain ⟨A, c, rfl⟩ := h.form
  have hr := hide h
  obtain ⟨i0, hi, hz0, hz1, hz2⟩ := info_parts byteInfo
  clear h
  go_enter Tryz.func73, Tryz.ntmps73
  go_wp2_with (at_builtin; refine wpList_append_rw rfl _ _ 46 46 rfl 5 i0 (.int .u8 0) 1 1 Tryz.underlying46 hi hz0 hz1 hz2 rfl rfl (hr.out.keep (S := fun _ => False) ((Mvs.refl _ _).alloc _) (fun _ _ c => c)) _ 4 ((fourB n).map bv) rfl (src_lit (fourB n) (four_cells' n _ _ _ _ (by omega) (by omega) (by omega) (by omega)) rfl) (by simp only [maxLen] <;> omega) (by omega) ?_)
  intro v4 w4 G4 hr4 hm4 hg4
  have R4 := hide hr4
  have M4 := hide (((Mvs.refl (fun k => some k = G) w).alloc _).trans hm4)
  have G4' : Hid (G4 = G ∨ ∃ g, G4 = some g ∧ w.heap.size ≤ g) := hg4.imp id fun e => ⟨_, e, by simp⟩
  clear hr4 hm4 hg4 hi hz0 hz1 hz2
  go_wp2
  go_ret
  exact ⟨_, _, rfl, R4.out, M4.out, G4'.out⟩
/-- Bytes in a row of this call's own, and a block of its own beside it. -/
def BtsK (w wr : World) (v : Value) (bs : List UInt8) (b0 : Nat) (cs : Array Value) (t : TypeId) : Prop := Below w.heap.size w wr ∧ w.heap.size ≤ b0 ∧ Blk wr b0 cs t ∧ ∃ G, Rw wr 1 v bs.length (bs.map bv) G ∧ ∀ g, G = some g → w.heap.size ≤ g ∧ g ≠ b0
section
variable {w wr w1 : World} {v v1 : Value} {bs news B : List UInt8} {b0 : Nat} {cs : Array Value} {t : TypeId} {G G1 : Option Nat}
theorem BtsK.parts (h : BtsK w wr v bs b0 cs t) : ∃ G A c, v = .slice A bs.length c ∧ Hid (Rw wr 1 (.slice A bs.length c) bs.length (bs.map bv) G) ∧ Hid (∀ g, G = some g → w.heap.size ≤ g ∧ g ≠ b0) := by
  obtain ⟨_, _, _, G, hr, hg⟩ := h
  obtain ⟨A, c, rfl⟩ := hr.form
  exact ⟨G, A, c, rfl, hr, hg⟩
theorem BtsK.grow (h : BtsK w wr v bs b0 cs t) (hg : ∀ g, G = some g → w.heap.size ≤ g ∧ g ≠ b0) (hB : B = bs ++ news) (hr : Rw w1 1 v1 (bs.length + news.length) (bs.map bv ++ news.map bv) G1) (hm : Mvs (fun k => some k = G) wr w1) (hG : G1 = G ∨ ∃ g, G1 = some g ∧ wr.heap.size ≤ g) : BtsK w w1 v1 B b0 cs t := by
  obtain ⟨h1, h2, h3, _⟩ := h
  have hlt := h3.lt
  subst hB
  refine ⟨below_mvs h1 hm (fun k hk e => by have := (hg k e.symm).1; omega) (Nat.le_refl _), h2, hm.blk h3 (fun e => (hg b0 e.symm).2 rfl), G1, by rwa [List.length_append, List.map_append], fun g e => ?_⟩
  rcases hG with rfl | ⟨g', rfl, hle⟩
  · exact hg g e
  · cases e
    have := h1.size
    exact ⟨by omega, by omega⟩
theorem BtsK.then (h : BtsK w wr v bs b0 cs t) (hb : Below wr.heap.size wr w1) : BtsK w w1 v bs b0 cs t := by
  obtain ⟨h1, h2, h3, G, hr, hg⟩ := h
  exact ⟨h1.trans (hb.mono h1.size), h2, h3.below hb h3.lt, G, hr.keep (S := fun _ => False) (Mvs.of_below hb) (fun _ _ c => c), hg⟩
theorem BtsK.bts (h : BtsK w wr v bs b0 cs t) : Bts w wr v bs := by
  obtain ⟨h1, h2, h3, G, hr, hg⟩ := h
  exact ⟨h1, G, hr, fun g e => (hg g e).1⟩
theorem Bts.beside (h : Bts w wr v bs) (cs : Array Value) (t : TypeId) : BtsK w (wr.alloc (.cells cs t)) v bs wr.heap.size cs t := by
  obtain ⟨h1, G, hr, hg⟩ := h
  refine ⟨h1.alloc h1.size _, h1.size, Blk.new _ _ _, G, hr.keep (S := fun _ => False) ((Mvs.refl _ _).alloc _) (fun _ _ c => c), fun g e => ⟨hg g e, ?_⟩⟩
  have := hr.lt g e
  omega
end
def opB (x : OpA) : List UInt8 := [UInt8.ofNat x.kind.toNat, UInt8.ofNat x.name.length] ++ x.name ++ fourB x.at_.toNat ++ fourB x.bytes.length ++ x.bytes
def opsB (ops : List OpA) : List UInt8 := [UInt8.ofNat ops.length] ++ ops.flatMap opB
theorem opB_length (x : OpA) : (opB x).length = opSize x := by
  simp [opB, opSize, fourB_length]
  omega
theorem flat_length : ∀ ops : List OpA, (ops.flatMap opB).length + 1 = sizeOps ops
  | [] => rfl
  | x :: r => by
    rw [List.flatMap_cons, List.length_append, opB_length, sizeOps, ← flat_length r]
    omega
theorem opsB_length (ops : List OpA) : (opsB ops).length = sizeOps ops := by
  rw [opsB, List.length_append, ← flat_length ops]
  simp
  omega
theorem flat_take (ops : List OpA) (k : Nat) (h : k < ops.length) : (ops.take (k + 1)).flatMap opB = (ops.take k).flatMap opB ++ opB ops[k] := by
  rw [List.take_succ_eq_append_getElem h, List.flatMap_append]
  simp
theorem flat_take_le (ops : List OpA) (k : Nat) : ((ops.take k).flatMap opB).length ≤ (ops.flatMap opB).length := by
  have : ops.flatMap opB = (ops.take k).flatMap opB ++ (ops.drop k).flatMap opB := by rw [← List.flatMap_append, List.take_append_drop]
  rw [this, List.length_append]
  omega
theorem good_all : ∀ (r pre : List OpA), goodFrom pre r = true → ∀ x ∈ r, opForm x = true
  | [], _, _, _, h => by cases h
  | y :: r, pre, hg, x, hx => by
    unfold goodFrom at hg
    simp only [Bool.and_eq_true] at hg
    rcases List.mem_cons.1 hx with rfl | hx
    · exact hg.1.1
    · exact good_all r _ hg.2 x hx
theorem form_parts {ops : List OpA} (h : formB ops = true) : 1 ≤ ops.length ∧ ops.length ≤ 16 ∧ goodFrom [] ops = true ∧ sizeOps ops ≤ 400000 := by
  unfold formB at h
  simpa using h
theorem opForm_parts {x : OpA} (h : opForm x = true) : 1 ≤ x.kind ∧ x.kind ≤ 3 ∧ x.name.length ≤ 24 ∧ 0 ≤ x.at_ ∧ x.at_ ≤ 1073741824 := by
  unfold opForm at h
  simp only [Bool.and_eq_true] at h
  have hr := h.1
  unfold rightB at hr
  simp at hr
  have hk := h.2.2
  unfold kindOk at hk
  split at hk
  · simp at hk
    omega
  · split at hk
    · simp at hk
      omega
    · split at hk
      · simp at hk
        omega
      · cases hk
end Go.Proofs.YthhnlkbjpahjeaaGreatDoor

end
section
namespace Go.Proofs.YthhnlkbjpahjeaaGreatDoor
open Go.RowKit
set_option maxRecDepth 20000 in
set_option maxHeartbeats 2000000 in
theorem obytes_no (ops : List OpA) (v : Value) (w : World) (h : OPs w v ops) (hs : sizeOps ops ≤ 1000000) (a : Nat → Addr) (hE : Errs w a) (hf : formB ops = false) :
    Calls Tryz.prog 40 #[v] w fun e w' => e = .returned (.tuple #[.slice none 0 0, errV a 1]) ∧ Below w.heap.size w w' := by
  have HI := isInForm_any ops v w h hs
  rw [hf] at HI
  replace HI := hide HI
  have HE := hide (fun w' hb => (hE.below (w' := w') hb).cell 1 (by decide))
  obtain ⟨A, c, rfl, hl, hm⟩ := h.form
  clear h hm hE
  go_enter Tryz.func40, Tryz.ntmps40
  go_wp2_with (go_at_call 71; refine HI.out.mono ?_; rintro e w' ⟨rfl, hb'⟩; replace hb' := hide hb')
  have hg : w'.cell? ⟨4, 0, none⟩ = some (errV a 1) := HE.out w' hb'.out
  unfold errV at *
  go_quiet (fail)
  go_wp2
  go_ret2
  exact ⟨rfl, hb'.out.trans ((below_drewN _ _).mono hb'.out.size)⟩
set_option maxRecDepth 20000 in
set_option maxHeartbeats 8000000 in
theorem obytes_yes (ops : List OpA) (v : Value) (w : World) (h : OPs w v ops) (hf : formB ops = true) :
    Calls Tryz.prog 40 #[v] w fun e w' => ∃ v', e = .returned (.tuple #[v', .nilIface]) ∧ Bts w w' v' (opsB ops) := by
  obtain ⟨h1, h16, hgood, hsz⟩ := form_parts hf
  have HI := isInForm_any ops v w h (by omega)
  rw [hf] at HI
  replace HI := hide HI
  have HO := hide h
  obtain ⟨A, c, rfl, hl, hm⟩ := h.form
  have hmx : c ≤ 9223372036854775807 := by simp only [maxLen] at hm; omega
  obtain ⟨i0, hi, hz0, hz1, hz2⟩ := info_parts byteInfo
  have hfl := flat_length ops
  have hpos := sizeOps_pos ops
  clear h hm hf
  go_enter Tryz.func40, Tryz.ntmps40
  go_wp2_with (go_at_call 71; refine HI.out.mono ?_; rintro e w1 ⟨rfl, hb1⟩; replace hb1 := hide hb1)
  refine (written_any ops _ w1 (HO.out.below hb1.out) (by omega)).mono ?_
  rintro e w2 ⟨rfl, hb2⟩
  replace hb2 := hide (hb1.out.trans (hb2.mono hb1.out.size))
  obtain ⟨S, hS⟩ : ∃ S, Hid (S = sizeOps ops) := ⟨_, rfl⟩
  have hS' := hS.out
  rw [← hS']
  rw [← hS'] at hsz hpos hfl
  clear hS' hb1 HI
  go_wp2_with (at_make; refine wpList_make_own w2 rfl _ _ 46 rfl w2.heap.size 5 i0 (.int .u8 0) 1 Tryz.underlying46 hi hz0 hz1 .i64 .i64 _ S rfl rfl (by omega) (by rw [hz2]; omega) (by simp only [maxLen]; omega) (Nat.le_refl _) ?_)
  intro w3 how3 hgr3
  have T3 : Bts w2 w3 (.slice (some ⟨w2.heap.size, 0, none⟩) 0 S) [] := ⟨⟨hgr3.os, hgr3.tape, hgr3.output, hgr3.size, fun k hk => hgr3.block k hk (by simp)⟩, some w2.heap.size, Rw.of_owns how3, fun g hg => by cases hg; exact Nat.le_refl _⟩
  replace T3 := hide (T3.weaken hb2.out)
  clear how3 hgr3
  obtain ⟨G3, A3, c3, hv3, R3, b3, g3⟩ := T3.out.parts
  rw [List.length_nil] at hv3
  cases hv3
  go_wp2_with (at_builtin; refine wpList_append_rw rfl _ _ 46 46 rfl 5 i0 (.int .u8 0) 1 1 Tryz.underlying46 hi hz0 hz1 hz2 rfl rfl (R3.out.keep (S := fun _ => False) ((Mvs.refl _ _).alloc _) (fun _ _ c => c)) _ 1 (([UInt8.ofNat ops.length] : List UInt8).map bv) rfl (src_lit [UInt8.ofNat ops.length] (one_cellB ops.length _ (by omega)) rfl) (by simp only [maxLen, List.length_nil] <;> omega) (by simp only [List.length_nil] <;> omega) ?_)
  intro v4 w4 G4 hr4 hm4 hg4
  have T4 := hide (Bts.grow (bs := []) (news := [UInt8.ofNat ops.length]) (b3.out.alloc b3.out.size _) g3.out rfl rfl (by simpa using hr4) hm4 (by simpa using hg4))
  clear hr4 hm4 hg4 R3 b3 g3 T3 hb2
  go_wp2_with fail
  go_loopw [4, 6, 22] (fun u _ n wr => ∃ k : Nat, k ≤ ops.length ∧ n = .int .i64 k ∧ ∃ B : List UInt8, Hid (B = [UInt8.ofNat ops.length] ++ (ops.take k).flatMap opB) ∧ Hid (Bts w wr u B)) (fun _ _ n _ => ops.length - (intOf n).toNat)
  case atStart => exact ⟨0, Nat.zero_le _, rfl, _, rfl, T4⟩
  case round =>
    obtain ⟨k, hkl, rfl, B, hB, T⟩ := hrel
    by_cases hlt : k < ops.length
    · have hltz : (k : Int) < (ops.length : Int) := by omega
      obtain ⟨g, o, rfl, hg, _, q0, q1, q2, q3, q4⟩ := (HO.out.below T.out.1).at hlt
      obtain ⟨Ab, cb, hvb, _⟩ := q4.form
      have HF := hide (flat_take ops k hlt)
      have hBl : B.length = 1 + ((ops.take k).flatMap opB).length := by rw [hB.out, List.length_append]; rfl
      have hfk := flat_take_le ops (k + 1)
      rw [HF.out, List.length_append, opB_length] at hfk
      unfold opSize at hfk
      have hof := opForm_parts (good_all ops [] hgood ops[k] (List.getElem_mem hlt))
      have q4' : Hid (BR w ops[k].val ops[k].bytes) := by
        obtain ⟨_, _, _, _, _, _, _, _, _, h⟩ := HO.out.at hlt
        exact h
      generalize hx : ops[k] = x at q0 q1 q2 q3 hvb HF hfk hof q4'
      clear hx q4
      obtain ⟨kd, nm, att, vl, bs⟩ := x
      simp only at q0 q1 q2 q3 hvb hfk hof q4'
      subst hvb
      obtain ⟨o1, o2, o3, o4, o5⟩ := hof
      have hlen : B.length + (10 + nm.length + bs.length) ≤ 400000 := by omega
      clear hfk hBl
      have K0 := hide (T.out.beside #[.int .i64 kd, .string ⟨nm.toArray⟩, .int .i64 att, .slice Ab bs.length cb] 48)
      obtain ⟨G0, A0, c0, rfl, r0, g0⟩ := K0.out.parts
      clear T T4
      go_wp2_with (at_builtin; refine wpList_append_rw rfl _ _ 46 46 rfl 5 i0 (.int .u8 0) 1 1 Tryz.underlying46 hi hz0 hz1 hz2 rfl rfl (r0.out.keep (S := fun _ => False) ((Mvs.refl _ _).alloc _) (fun _ _ c => c)) _ 2 (([UInt8.ofNat kd.toNat, UInt8.ofNat nm.length] : List UInt8).map bv) rfl (src_lit1 _ [UInt8.ofNat kd.toNat, UInt8.ofNat nm.length] (two_cells kd.toNat nm.length _ _ (by omega) (by omega)) rfl) (by simp only [maxLen] <;> omega) (by omega) ?_)
      intro v5 w5 G5 hr5 hm5 hg5
      obtain ⟨B1, hB1⟩ : ∃ X, Hid (X = B ++ [UInt8.ofNat kd.toNat, UInt8.ofNat nm.length]) := ⟨_, rfl⟩
      have K1 := hide (K0.out.grow g0.out hB1.out hr5 (((Mvs.refl _ _).alloc _).trans hm5) (hg5.imp id fun e => ⟨_, e, by simp⟩))
      have l1 : Hid (B1.length = B.length + 2) := by show _ = _; rw [hB1.out]; simp
      have hc1 := K1.out.2.2.1.cell
      obtain ⟨G1, A1, c1, rfl, r1, g1⟩ := K1.out.parts
      clear hr5 hm5 hg5 K0 r0 g0
      go_wp2_with (at_builtin; refine wpList_append_rw rfl _ _ 46 9 rfl 5 i0 (.int .u8 0) 1 1 Tryz.underlying46 hi hz0 hz1 hz2 rfl rfl r1.out _ nm.length (nm.map bv) rfl (src_str nm) (by have := l1.out; simp only [maxLen] <;> omega) (by have := l1.out; omega) ?_)
      intro v6 w6 G6 hr6 hm6 hg6
      obtain ⟨B2, hB2⟩ : ∃ X, Hid (X = B1 ++ nm) := ⟨_, rfl⟩
      have K2 := hide (K1.out.grow g1.out hB2.out hr6 hm6 (hg6.imp id fun e => ⟨_, e, Nat.le_refl _⟩))
      have l2 : Hid (B2.length = B1.length + nm.length) := by show _ = _; rw [hB2.out]; simp
      have hc2 := K2.out.2.2.1.cell
      obtain ⟨G2, A2, c2, rfl, r2, g2⟩ := K2.out.parts
      clear hr6 hm6 hg6 K1 r1 g1 hc1
      obtain ⟨an, rfl⟩ : ∃ an : Nat, att = an := ⟨att.toNat, by omega⟩
      go_wp2_with fail
      refine (oappend_any an (by omega) B2 _ G2 w6 r2.out (by have := l1.out; have := l2.out; omega)).mono ?_
      rintro e w7 ⟨v7, G7, rfl, hr7, hm7, hg7⟩
      obtain ⟨B3, hB3⟩ : ∃ X, Hid (X = B2 ++ fourB an) := ⟨_, rfl⟩
      have K3 := hide (K2.out.grow g2.out hB3.out hr7 hm7 hg7)
      have l3 : Hid (B3.length = B2.length + 4) := by show _ = _; rw [hB3.out]; simp [fourB_length]
      have hc3 := K3.out.2.2.1.cell
      obtain ⟨G3', A3', c3', rfl, r3, g3⟩ := K3.out.parts
      clear hr7 hm7 hg7 K2 r2 g2 hc2
      go_wp2_with fail
      refine (oappend_any bs.length (by omega) B3 _ G3' w7 r3.out (by have := l1.out; have := l2.out; have := l3.out; omega)).mono ?_
      rintro e w8 ⟨v8, G8, rfl, hr8, hm8, hg8⟩
      obtain ⟨B4, hB4⟩ : ∃ X, Hid (X = B3 ++ fourB bs.length) := ⟨_, rfl⟩
      have K4 := hide (K3.out.grow g3.out hB4.out hr8 hm8 hg8)
      have l4 : Hid (B4.length = B3.length + 4) := by show _ = _; rw [hB4.out]; simp [fourB_length]
      have hc4 := K4.out.2.2.1.cell
      obtain ⟨G4', A4, c4, rfl, r4, g4⟩ := K4.out.parts
      have hsb := hide (q4'.out.below K4.out.1)
      clear hr8 hm8 hg8 K3 r3 g3 hc3
      go_wp2_with (at_builtin; refine wpList_append_rw rfl _ _ 46 46 rfl 5 i0 (.int .u8 0) 1 1 Tryz.underlying46 hi hz0 hz1 hz2 rfl rfl r4.out _ bs.length (bs.map bv) rfl (BR.src hsb.out) (by have := l1.out; have := l2.out; have := l3.out; have := l4.out; simp only [maxLen] <;> omega) (by have := l1.out; have := l2.out; have := l3.out; have := l4.out; omega) ?_)
      intro v9 w9 G9 hr9 hm9 hg9
      obtain ⟨B5, hB5⟩ : ∃ X, Hid (X = B4 ++ bs) := ⟨_, rfl⟩
      have K5 := hide (K4.out.grow g4.out hB5.out hr9 hm9 (hg9.imp id fun e => ⟨_, e, Nat.le_refl _⟩))
      clear hr9 hm9 hg9 K4 r4 g4 hc4 hsb
      go_wp2_with fail
      go_round
      case rel =>
        refine ⟨k + 1, by omega, by go_num, B5, ?_, K5.out.bts⟩
        show _ = _
        rw [hB5.out, hB4.out, hB3.out, hB2.out, hB1.out, hB.out, HF.out]
        simp [opB]
      case measure => simp [intOf]; omega
    · have hltz : ¬ (k : Int) < (ops.length : Int) := by omega
      have hB' := hB.out
      rw [List.take_of_length_le (by omega)] at hB'
      go_wp2
      go_ret2
      exact ⟨_, rfl, by rw [opsB, ← hB']; exact T.out⟩
end Go.Proofs.YthhnlkbjpahjeaaGreatDoor

end
section
namespace Go.Proofs.YthhnlkbjpahjeaaGreatDoor
open Go.RowKit
/-- Four cells of a row, in any world that has drawn. -/
theorem four_at {w : World} {A : Option Addr} {c : Nat} {bs : List UInt8} (h : BR w (.slice A bs.length c) bs) (h4 : 4 ≤ bs.length) : ∃ g o, A = some ⟨g, o, none⟩ ∧ bs.length ≤ c ∧ w.cell? ⟨g, o, none⟩ = some (.int .u8 (bs[0].toNat : Int)) ∧ w.cell? ⟨g, o + 1, none⟩ = some (.int .u8 (bs[1].toNat : Int)) ∧ w.cell? ⟨g, o + 2, none⟩ = some (.int .u8 (bs[2].toNat : Int)) ∧ w.cell? ⟨g, o + 3, none⟩ = some (.int .u8 (bs[3].toNat : Int)) := by
  obtain ⟨g, o, hA, _, hc, hk⟩ := h.at (List.ne_nil_of_length_pos (by omega))
  exact ⟨g, o, hA, hc, hk 0 (by omega), hk 1 (by omega), hk 2 (by omega), hk 3 (by omega)⟩
theorem join4 (a b c d : Nat) (ha : a < 256) (hb : b < 256) (hc : c < 256) (hd : d < 256) : bits .or .u32 (bits .or .u32 (bits .or .u32 ((a : Int) * 16777216) ((b : Int) * 65536)) ((c : Int) * 256)) (d : Int) = ((a * 16777216 + b * 65536 + c * 256 + d : Nat) : Int) := by
  have e1 := or_24 ((a : Int) * 16777216) ((b : Int) * 65536) (by omega) (by omega) (by omega) (by omega) (by omega)
  have e2 := or_16 ((a : Int) * 16777216 + (b : Int) * 65536) ((c : Int) * 256) (by omega) (by omega) (by omega) (by omega) (by omega)
  have e3 := or_8 ((a : Int) * 16777216 + (b : Int) * 65536 + (c : Int) * 256) (d : Int) (by omega) (by omega) (by omega) (by omega) (by omega)
  rw [e1, e2, e3]
  omega
set_option maxRecDepth 20000 in
set_option maxHeartbeats 2000000 in
theorem number_any (bs : List UInt8) (v : Value) (w : World) (h : BR w v bs) (h4 : 4 ≤ bs.length) :
    Calls Tryz.prog 140 #[v] w fun e w' => e = .returned (.int .u32 (numN bs)) ∧ ∃ n, w' = w.drewN n := by
  obtain ⟨A, c, rfl, hl, hm, _⟩ := BR.form h
  obtain ⟨g, o, rfl, hc, k0, k1, k2, k3⟩ := four_at h h4
  rw [numN_at bs h4]
  have b0 := UInt8.toNat_lt bs[0]
  have b1 := UInt8.toNat_lt bs[1]
  have b2 := UInt8.toNat_lt bs[2]
  have b3 := UInt8.toNat_lt bs[3]
  have HJ := hide (join4 _ _ _ _ b0 b1 b2 b3)
  generalize bs[0].toNat = x0 at *
  generalize bs[1].toNat = x1 at *
  generalize bs[2].toNat = x2 at *
  generalize bs[3].toNat = x3 at *
  have l0 : (0 : Int) < bs.length := by omega
  have l1 : (1 : Int) < bs.length := by omega
  have l2 : (2 : Int) < bs.length := by omega
  have l3 : (3 : Int) < bs.length := by omega
  clear h
  go_enter Tryz.func140, Tryz.ntmps140
  go_wp2_with fail
  go_quiet (fail)
  go_wp2
  go_ret
  exact ⟨ret_int HJ.out, _, rfl⟩


end Go.Proofs.YthhnlkbjpahjeaaGreatDoor

end
