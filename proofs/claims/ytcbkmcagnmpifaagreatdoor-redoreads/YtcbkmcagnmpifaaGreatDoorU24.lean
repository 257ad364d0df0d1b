/- The program's Record; the law CheckRecords. -/
/- A change's bytes, by the program. -/
import Derived.Test.YtcbkmcagnmpifaaGreatDoorU23
import Derived.Test.YtcbkmcagnmpifaaGreatDoorU22
import Derived.Deep.RegionWith
import Derived.Test.YtcbkmcagnmpifaaGreatDoorU20
import Derived.Test.YtcbkmcagnmpifaaGreatDoorU04
section
namespace Go.Proofs.YtcbkmcagnmpifaaGreatDoor
open Go.RowKit
set_option maxRecDepth 20000 in
set_option maxHeartbeats 2000000 in
theorem append_any (n : Nat) (hn : n < 4294967296) (bs : List UInt8) (v : Value) (w0 w : World) (h : Bts w0 w v bs) (hb : bs.length ≤ 1000000) :
    Calls Tryz.prog 92 #[v, .int .u32 n] w fun e w' => ∃ v', e = .returned v' ∧ Bts w0 w' v' (bs ++ fourB n) := by
  obtain ⟨G, A, c, rfl, hr, hw, hg⟩ := h.parts
  obtain ⟨i0, hi, hz0, hz1, hz2⟩ := info_parts byteInfo
  clear h
  go_enter Tryz.func92, Tryz.ntmps92
  go_wp2_with (at_builtin; refine wpList_append_rw rfl _ _ 25 25 rfl 5 i0 (.int .u8 0) 1 1 Tryz.underlying25 hi hz0 hz1 hz2 rfl rfl (hr.out.keep (S := fun _ => False) ((Mvs.refl _ _).alloc _) (fun _ _ c => c)) _ 4 ((fourB n).map bv) rfl (src_lit (fourB n) (four_cells n hn) rfl) (by simp only [maxLen] <;> omega) (by omega) ?_)
  intro v4 w4 G4 hr4 hm4 hg4
  have T4 := hide (Bts.grow (news := fourB n) (hw.out.alloc hw.out.size _) hg.out rfl rfl hr4 hm4 (by simpa using hg4))
  clear hr4 hm4 hg4 hi hz0 hz1 hz2
  go_wp2
  go_ret
  exact ⟨_, rfl, T4.out⟩

set_option maxRecDepth 20000 in
set_option maxHeartbeats 2000000 in
theorem record_any (bs : List UInt8) (v : Value) (w : World) (h : BR w v bs) (hb : bs.length ≤ 400000) :
    Calls Tryz.prog 63 #[v] w fun e w' => ∃ v', e = .returned (.tuple #[v', .nilIface]) ∧ Bts w w' v' (recB bs) := by
  obtain ⟨A, c, rfl, hl, hm, _⟩ := BR.form h
  have HB : Hid (∀ (w' : World), Below w.heap.size w w' → BR w' (.slice A bs.length c) bs) := fun w' hb => h.below hb
  have hsum := sumN_lt 1 bs
  have hb' : ¬ (400000 : Int) < bs.length := by omega
  clear h
  obtain ⟨i0, hi, hz0, hz1, hz2⟩ := info_parts byteInfo
  go_enter Tryz.func63, Tryz.ntmps63
  go_wp2_with (at_make; refine wpList_make_own w rfl _ _ 25 rfl w.heap.size 5 i0 (.int .u8 0) 1 Tryz.underlying25 hi hz0 hz1 .i64 .i64 _ (8 + bs.length) rfl rfl (by omega) (by rw [hz2]; omega) (by simp only [maxLen]; omega) (Nat.le_refl _) ?_)
  intro w1 how1 hgr1
  have T1 : Hid (Bts w w1 (.slice (some ⟨w.heap.size, 0, none⟩) 0 (8 + bs.length)) []) := ⟨⟨hgr1.os, hgr1.tape, hgr1.output, hgr1.size, fun k hk => hgr1.block k hk (by simp)⟩, some w.heap.size, Rw.of_owns how1, fun g hg => by cases hg; exact Nat.le_refl _⟩
  clear how1 hgr1
  go_wp2_with fail
  refine (append_any bs.length (by omega) [] _ w w1 T1.out (by simp)).mono ?_
  rintro e w2 ⟨v2, rfl, T2⟩
  have hw2 := hide T2.1
  replace T2 := hide T2
  go_wp2_with (go_at_call 93; refine (sum_any bs _ _ (HB.out _ hw2.out)).mono ?_; rintro e w3 ⟨rfl, rfl⟩)
  refine (append_any (sumN 1 bs) hsum _ _ w _ T2.out (by simp [fourB_length])).mono ?_
  rintro e w3 ⟨v3, rfl, T3⟩
  clear T1 T2
  obtain ⟨G5, A5, c5, rfl, T5r, T5b, T5g⟩ := T3.parts
  clear T3
  go_wp2_with (at_builtin; refine wpList_append_rw rfl _ _ 25 25 rfl 5 i0 (.int .u8 0) 1 1 Tryz.underlying25 hi hz0 hz1 hz2 rfl rfl T5r.out _ bs.length (bs.map bv) rfl (BR.src (HB.out _ T5b.out)) (by simp only [maxLen, List.nil_append, List.length_append, fourB_length] <;> omega) (by simp only [List.nil_append, List.length_append, fourB_length] <;> omega) ?_)
  intro v6 w6 G6 hr6 hm6 hg6
  have T6 := hide (Bts.grow (bs := fourB bs.length ++ fourB (sumN 1 bs)) (news := bs) T5b.out T5g.out rfl rfl (by simpa using hr6) hm6 hg6)
  clear hr6 hm6 hg6 hi hz0 hz1 hz2
  go_wp2
  go_ret2
  exact ⟨_, rfl, T6.out⟩

theorem bts_conv {w wr w' : World} {v : Value} {bs : List UInt8} (h : Bts w wr v bs) (hb : Below wr.heap.size wr w') : (convert 25 9 v).run Tryz.prog w' = .ok (.string ⟨bs.toArray⟩) w' := BR.convert (h.br.below hb)
end Go.Proofs.YtcbkmcagnmpifaaGreatDoor

end
section
namespace Go.Proofs.YtcbkmcagnmpifaaGreatDoor
open Go.RowKit
theorem byte_cell (m : Nat) (z : Int) (h : z = (m % 256 : Nat)) : Value.int .u8 z = bv (UInt8.ofNat m) := by
  unfold bv
  rw [UInt8.toNat_ofNat', h]
theorem four_cells' (n : Nat) (a b c d : Int) (ha : a = (n / 16777216 % 256 : Nat)) (hb : b = (n / 65536 % 256 : Nat)) (hc : c = (n / 256 % 256 : Nat)) (hd : d = (n % 256 : Nat)) : (#[.int .u8 a, .int .u8 b, .int .u8 c, .int .u8 d] : Array Value) = ((fourB n).map bv).toArray := by
  rw [byte_cell (n / 16777216) _ ha, byte_cell (n / 65536) _ hb, byte_cell (n / 256) _ hc, byte_cell n _ hd]
  rfl
theorem two_cells (n m : Nat) (a b : Int) (ha : a = (n % 256 : Nat)) (hb : b = (m % 256 : Nat)) : (#[.int .u8 a, .int .u8 b] : Array Value) = (([UInt8.ofNat n, UInt8.ofNat m] : List UInt8).map bv).toArray := by
  rw [byte_cell n _ ha, byte_cell m _ hb]
  rfl
theorem one_cellB (n : Nat) (a : Int) (ha : a = (n % 256 : Nat)) : (#[.int .u8 a] : Array Value) = (([UInt8.ofNat n] : List UInt8).map bv).toArray := by
  rw [byte_cell n _ ha]
  rfl
theorem src_lit1 {w : World} {C : Array Value} {fr : Nat × Nat} (ob : Obj) (bs : List UInt8) {n c : Nat} (hC : C = (bs.map bv).toArray) (hn : n = bs.length) : Src Tryz.prog 1 25 (.slice (some ⟨w.heap.size + 1, 0, none⟩) n c) bs.length (bs.map bv) ((w.alloc ob).alloc (.cells C 5 fr)) := by
  have := src_lit (w := w.alloc ob) (fr := fr) (c := c) bs hC hn
  rwa [World.size_alloc] at this
theorem src_str {w : World} (l : List UInt8) : Src Tryz.prog 1 9 (.string ⟨l.toArray⟩) l.length (l.map bv) w := by
  have := Src.ofString (P := Tryz.prog) (w := w) Tryz.underlying9 ⟨l.toArray⟩
  have e : byteCells ⟨l.toArray⟩ = l.map bv := by
    unfold byteCells
    simp [bv]
  have hs : (⟨l.toArray⟩ : ByteArray).size = l.length := by
    show l.toArray.size = _
    simp
  rw [e, hs] at this
  exact this
set_option maxRecDepth 20000 in
set_option maxHeartbeats 2000000 in
theorem oappend_any (n : Nat) (hn : n < 4294967296) (bs : List UInt8) (v : Value) (G : Option Nat) (w : World) (h : Rw w 1 v bs.length (bs.map bv) G) (hb : bs.length ≤ 1000000) :
    Calls Tryz.prog 30 #[v, .int .i64 n] w fun e w' => ∃ v' G', e = .returned v' ∧ Rw w' 1 v' (bs.length + 4) (bs.map bv ++ (fourB n).map bv) G' ∧ Mvs (fun k => some k = G) w w' ∧ (G' = G ∨ ∃ g, G' = some g ∧ w.heap.size ≤ g) := by
  obtain ⟨A, c, rfl⟩ := h.form
  have hr := hide h
  obtain ⟨i0, hi, hz0, hz1, hz2⟩ := info_parts byteInfo
  clear h
  go_enter Tryz.func30, Tryz.ntmps30
  go_wp2_with (at_builtin; refine wpList_append_rw rfl _ _ 25 25 rfl 5 i0 (.int .u8 0) 1 1 Tryz.underlying25 hi hz0 hz1 hz2 rfl rfl (hr.out.keep (S := fun _ => False) ((Mvs.refl _ _).alloc _) (fun _ _ c => c)) _ 4 ((fourB n).map bv) rfl (src_lit (fourB n) (four_cells' n _ _ _ _ (by omega) (by omega) (by omega) (by omega)) rfl) (by simp only [maxLen] <;> omega) (by omega) ?_)
  intro v4 w4 G4 hr4 hm4 hg4
  have R4 := hide hr4
  have M4 := hide (((Mvs.refl (fun k => some k = G) w).alloc _).trans hm4)
  have G4' : Hid (G4 = G ∨ ∃ g, G4 = some g ∧ w.heap.size ≤ g) := hg4.imp id fun e => ⟨_, e, by simp⟩
  clear hr4 hm4 hg4 hi hz0 hz1 hz2
  go_wp2
  go_ret
  exact ⟨_, _, rfl, R4.out, M4.out, G4'.out⟩
/-- Bytes in a row of this call's own, and a block of its own beside it. -/
def BtsK (w wr : World) (v : Value) (bs : List UInt8) (b0 : Nat) (cs : Array Value) (t : TypeId) : Prop := Below w.heap.size w wr ∧ w.heap.size ≤ b0 ∧ Blk wr b0 cs t ∧ ∃ G, Rw wr 1 v bs.length (bs.map bv) G ∧ ∀ g, G = some g → w.heap.size ≤ g ∧ g ≠ b0
section
variable {w wr w1 : World} {v v1 : Value} {bs news B : List UInt8} {b0 : Nat} {cs : Array Value} {t : TypeId} {G G1 : Option Nat}
theorem BtsK.parts (h : BtsK w wr v bs b0 cs t) : ∃ G A c, v = .slice A bs.length c ∧ Hid (Rw wr 1 (.slice A bs.length c) bs.length (bs.map bv) G) ∧ Hid (∀ g, G = some g → w.heap.size ≤ g ∧ g ≠ b0) := by
  obtain ⟨_, _, _, G, hr, hg⟩ := h
  obtain ⟨A, c, rfl⟩ := hr.form
  exact ⟨G, A, c, rfl, hr, hg⟩
theorem BtsK.grow (h : BtsK w wr v bs b0 cs t) (hg : ∀ g, G = some g → w.heap.size ≤ g ∧ g ≠ b0) (hB : B = bs ++ news) (hr : Rw w1 1 v1 (bs.length + news.length) (bs.map bv ++ news.map bv) G1) (hm : Mvs (fun k => some k = G) wr w1) (hG : G1 = G ∨ ∃ g, G1 = some g ∧ wr.heap.size ≤ g) : BtsK w w1 v1 B b0 cs t := by
  obtain ⟨h1, h2, h3, _⟩ := h
  have hlt := h3.lt
  subst hB
  refine ⟨below_mvs h1 hm (fun k hk e => by have := (hg k e.symm).1; omega) (Nat.le_refl _), h2, hm.blk h3 (fun e => (hg b0 e.symm).2 rfl), G1, by rwa [List.length_append, List.map_append], fun g e => ?_⟩
  rcases hG with rfl | ⟨g', rfl, hle⟩
  · exact hg g e
  · cases e
    have := h1.size
    exact ⟨by omega, by omega⟩
theorem BtsK.then (h : BtsK w wr v bs b0 cs t) (hb : Below wr.heap.size wr w1) : BtsK w w1 v bs b0 cs t := by
  obtain ⟨h1, h2, h3, G, hr, hg⟩ := h
  exact ⟨h1.trans (hb.mono h1.size), h2, h3.below hb h3.lt, G, hr.keep (S := fun _ => False) (Mvs.of_below hb) (fun _ _ c => c), hg⟩
theorem BtsK.bts (h : BtsK w wr v bs b0 cs t) : Bts w wr v bs := by
  obtain ⟨h1, h2, h3, G, hr, hg⟩ := h
  exact ⟨h1, G, hr, fun g e => (hg g e).1⟩
theorem Bts.beside (h : Bts w wr v bs) (cs : Array Value) (t : TypeId) : BtsK w (wr.alloc (.cells cs t)) v bs wr.heap.size cs t := by
  obtain ⟨h1, G, hr, hg⟩ := h
  refine ⟨h1.alloc h1.size _, h1.size, Blk.new _ _ _, G, hr.keep (S := fun _ => False) ((Mvs.refl _ _).alloc _) (fun _ _ c => c), fun g e => ⟨hg g e, ?_⟩⟩
  have := hr.lt g e
  omega
end
def opB (x : OpA) : List UInt8 := [UInt8.ofNat x.kind.toNat, UInt8.ofNat x.name.length] ++ x.name ++ fourB x.at_.toNat ++ fourB x.bytes.length ++ x.bytes
def opsB (ops : List OpA) : List UInt8 := [UInt8.ofNat ops.length] ++ ops.flatMap opB
theorem opB_length (x : OpA) : (opB x).length = opSize x := by
  simp [opB, opSize, fourB_length]
  omega
theorem flat_length : ∀ ops : List OpA, (ops.flatMap opB).length + 1 = sizeOps ops
  | [] => rfl
  | x :: r => by
    rw [List.flatMap_cons, List.length_append, opB_length, sizeOps, ← flat_length r]
    omega
theorem opsB_length (ops : List OpA) : (opsB ops).length = sizeOps ops := by
  rw [opsB, List.length_append, ← flat_length ops]
  simp
  omega
theorem flat_take (ops : List OpA) (k : Nat) (h : k < ops.length) : (ops.take (k + 1)).flatMap opB = (ops.take k).flatMap opB ++ opB ops[k] := by
  rw [List.take_succ_eq_append_getElem h, List.flatMap_append]
  simp
theorem flat_take_le (ops : List OpA) (k : Nat) : ((ops.take k).flatMap opB).length ≤ (ops.flatMap opB).length := by
  have : ops.flatMap opB = (ops.take k).flatMap opB ++ (ops.drop k).flatMap opB := by rw [← List.flatMap_append, List.take_append_drop]
  rw [this, List.length_append]
  omega
theorem good_all : ∀ (r pre : List OpA), goodFrom pre r = true → ∀ x ∈ r, opForm x = true
  | [], _, _, _, h => by cases h
  | y :: r, pre, hg, x, hx => by
    unfold goodFrom at hg
    simp only [Bool.and_eq_true] at hg
    rcases List.mem_cons.1 hx with rfl | hx
    · exact hg.1.1
    · exact good_all r _ hg.2 x hx
theorem form_parts {ops : List OpA} (h : formB ops = true) : 1 ≤ ops.length ∧ ops.length ≤ 16 ∧ goodFrom [] ops = true ∧ sizeOps ops ≤ 400000 := by
  unfold formB at h
  simpa using h
theorem opForm_parts {x : OpA} (h : opForm x = true) : 1 ≤ x.kind ∧ x.kind ≤ 3 ∧ x.name.length ≤ 24 ∧ 0 ≤ x.at_ ∧ x.at_ ≤ 1073741824 := by
  unfold opForm at h
  simp only [Bool.and_eq_true] at h
  have hr := h.1
  unfold rightB at hr
  simp at hr
  have hk := h.2.2
  unfold kindOk at hk
  split at hk
  · simp at hk
    omega
  · split at hk
    · simp at hk
      omega
    · split at hk
      · simp at hk
        omega
      · cases hk
end Go.Proofs.YtcbkmcagnmpifaaGreatDoor

end
