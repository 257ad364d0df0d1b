/- Operations read one behind the other into a row. -/
/- Ops: which bytes are a change's, by the program. -/
/- A log in memory; its small steps, each by that of the disk. -/
import Derived.Test.YthhnlkbjpahjeaaGreatDoorU19
import Derived.OwnWalk
import Derived.BigQuiet
import Derived.Test.YthhnlkbjpahjeaaGreatDoorU12
import Derived.Deep.RegionWith
section
namespace Go.Proofs.YthhnlkbjpahjeaaGreatDoor
open Go.RowKit
def OpA.erase (x : OpA) : OpA := ⟨x.kind, x.name, x.at_, .slice none 0 0, x.bytes⟩
def Rdd.bare (x : Rdd) : OpA := ⟨x.kind, x.name, x.at_, .slice none 0 0, x.bytes⟩
theorem Rdd.op_erase (x : Rdd) (v : Value) : (x.op v).erase = x.bare := rfl
/-- So many operations, read one behind the other. -/
def readOps : Nat → List UInt8 → Bool → List OpA
  | 0, _, _ => []
  | n + 1, l, s => (readOp l s).bare :: readOps n (readOp l s).rest (readOp l s).short
def restOps : Nat → List UInt8 → Bool → List UInt8 × Bool
  | 0, l, s => (l, s)
  | n + 1, l, s => restOps n (readOp l s).rest (readOp l s).short
theorem readOps_snoc : ∀ (n : Nat) (l : List UInt8) (s : Bool), readOps (n + 1) l s = readOps n l s ++ [(readOp (restOps n l s).1 (restOps n l s).2).bare]
  | 0, l, s => rfl
  | n + 1, l, s => by
    rw [readOps, readOps_snoc n, readOps]
    rfl
theorem restOps_snoc : ∀ (n : Nat) (l : List UInt8) (s : Bool), restOps (n + 1) l s = ((readOp (restOps n l s).1 (restOps n l s).2).rest, (readOp (restOps n l s).1 (restOps n l s).2).short)
  | 0, l, s => rfl
  | n + 1, l, s => by
    rw [restOps, restOps_snoc n]
    rfl
theorem readOp_rest_le (l : List UInt8) (s : Bool) : (readOp l s).rest.length ≤ l.length := by
  unfold readOp
  simp only
  refine Nat.le_trans (takeB_le _ _) (Nat.le_trans (takeB_le _ _) (Nat.le_trans (takeB_le _ _) (Nat.le_trans (takeB_le _ _) (Nat.le_trans (takeB_le _ _) (takeB_le _ _)))))
theorem restOps_le : ∀ (n : Nat) (l : List UInt8) (s : Bool), (restOps n l s).1.length ≤ l.length
  | 0, _, _ => Nat.le_refl _
  | n + 1, l, s => Nat.le_trans (restOps_le n _ _) (readOp_rest_le l s)
/-- A row of n operations in block g, of which the first are xs; what they hold lies above B and in neither r nor g. -/
structure OR (wr : World) (B r g n : Nat) (xs : List OpA) : Prop where
  blk : ∃ cs : Array Value, Blk wr g cs 48 ∧ cs.size = n * 4 ∧ ∀ i (hi : i < xs.length), cs[i * 4]? = some (.int .i64 xs[i].kind) ∧ cs[i * 4 + 1]? = some (.string ⟨xs[i].name.toArray⟩) ∧ cs[i * 4 + 2]? = some (.int .i64 xs[i].at_) ∧ cs[i * 4 + 3]? = some xs[i].val
  vals : ∀ x ∈ xs, BR wr x.val x.bytes
  apart : ∀ x ∈ xs, ∀ A m c, x.val = .slice (some A) m c → B ≤ A.block ∧ A.block ≠ r ∧ A.block ≠ g
section
variable {wr w' : World} {B r g n : Nat} {xs : List OpA}
theorem OR.keepR (h : OR wr B r g n xs) (hm : Mvs (fun k => k = r) wr w') (hg : g ≠ r) : OR w' B r g n xs := by
  obtain ⟨cs, hk, hs, hc⟩ := h.blk
  exact ⟨⟨cs, hm.blk hk hg, hs, hc⟩, fun x hx => (h.vals x hx).keep hm (fun A m c e => (h.apart x hx A m c e).2.1), h.apart⟩
/-- One more. -/
theorem OR.snoc (h : OR wr B r g n xs) (x : OpA) (hlt : xs.length < n) (hv : BR wr x.val x.bytes) (ha : ∀ A m c, x.val = .slice (some A) m c → B ≤ A.block ∧ A.block ≠ r ∧ A.block ≠ g) :
    OR ((((wr.setCell ⟨g, xs.length * 4, none⟩ (.int .i64 x.kind)).setCell ⟨g, xs.length * 4 + 1, none⟩ (.string ⟨x.name.toArray⟩)).setCell ⟨g, xs.length * 4 + 2, none⟩ (.int .i64 x.at_)).setCell ⟨g, xs.length * 4 + 3, none⟩ x.val) B r g n (xs ++ [x]) := by
  obtain ⟨cs, hk, hs, hc⟩ := h.blk
  have hm : Mvs (fun k => k = g) wr ((((wr.setCell ⟨g, xs.length * 4, none⟩ (.int .i64 x.kind)).setCell ⟨g, xs.length * 4 + 1, none⟩ (.string ⟨x.name.toArray⟩)).setCell ⟨g, xs.length * 4 + 2, none⟩ (.int .i64 x.at_)).setCell ⟨g, xs.length * 4 + 3, none⟩ x.val) :=
    ((((Mvs.refl (fun k => k = g) wr).setCell ⟨g, xs.length * 4, none⟩ _ (fun _ => rfl)).setCell ⟨g, xs.length * 4 + 1, none⟩ _ (fun _ => rfl)).setCell ⟨g, xs.length * 4 + 2, none⟩ _ (fun _ => rfl)).setCell ⟨g, xs.length * 4 + 3, none⟩ _ (fun _ => rfl)
  have apart' : ∀ y ∈ xs ++ [x], ∀ A m c, y.val = .slice (some A) m c → B ≤ A.block ∧ A.block ≠ r ∧ A.block ≠ g := fun y hy => by
    rcases List.mem_append.1 hy with hy | hy
    · exact h.apart y hy
    · rw [List.mem_singleton.1 hy]
      exact ha
  refine ⟨⟨_, (((hk.set (xs.length * 4) _).set (xs.length * 4 + 1) _).set (xs.length * 4 + 2) _).set (xs.length * 4 + 3) _, by simp [hs], fun i hi => ?_⟩, fun y hy => ?_, apart'⟩
  · rw [List.length_append, List.length_singleton] at hi
    by_cases hlt' : i < xs.length
    · rw [List.getElem_append_left hlt']
      obtain ⟨c0, c1, c2, c3⟩ := hc i hlt'
      refine ⟨?_, ?_, ?_, ?_⟩
      · rw [Array.getElem?_setIfInBounds_ne (by omega), Array.getElem?_setIfInBounds_ne (by omega), Array.getElem?_setIfInBounds_ne (by omega), Array.getElem?_setIfInBounds_ne (by omega)]
        exact c0
      · rw [Array.getElem?_setIfInBounds_ne (by omega), Array.getElem?_setIfInBounds_ne (by omega), Array.getElem?_setIfInBounds_ne (by omega), Array.getElem?_setIfInBounds_ne (by omega)]
        exact c1
      · rw [Array.getElem?_setIfInBounds_ne (by omega), Array.getElem?_setIfInBounds_ne (by omega), Array.getElem?_setIfInBounds_ne (by omega), Array.getElem?_setIfInBounds_ne (by omega)]
        exact c2
      · rw [Array.getElem?_setIfInBounds_ne (by omega), Array.getElem?_setIfInBounds_ne (by omega), Array.getElem?_setIfInBounds_ne (by omega), Array.getElem?_setIfInBounds_ne (by omega)]
        exact c3
    · have hi' : i = xs.length := by omega
      subst hi'
      rw [List.getElem_append_right (Nat.le_refl _)]
      simp only [Nat.sub_self, List.getElem_cons_zero]
      refine ⟨?_, ?_, ?_, ?_⟩
      · rw [Array.getElem?_setIfInBounds_ne (by omega), Array.getElem?_setIfInBounds_ne (by omega), Array.getElem?_setIfInBounds_ne (by omega), Array.getElem?_setIfInBounds_self_of_lt (by omega)]
      · rw [Array.getElem?_setIfInBounds_ne (by omega), Array.getElem?_setIfInBounds_ne (by omega), Array.getElem?_setIfInBounds_self_of_lt (by simp; omega)]
      · rw [Array.getElem?_setIfInBounds_ne (by omega), Array.getElem?_setIfInBounds_self_of_lt (by simp; omega)]
      · rw [Array.getElem?_setIfInBounds_self_of_lt (by simp; omega)]
  · rcases List.mem_append.1 hy with hy' | hy'
    · exact (h.vals y hy').keep hm (fun A m c e => (h.apart y hy' A m c e).2.2)
    · rw [List.mem_singleton.1 hy']
      exact AR.keep hv hm (fun A m c e => (ha A m c e).2.2)
theorem OR.ops (h : OR wr B r g n xs) (hn : xs.length = n) (hm : n ≤ 1000) : OPs wr (.slice (some ⟨g, 0, none⟩) n n) xs := by
  obtain ⟨cs, hk, hs, hc⟩ := h.blk
  subst hn
  refine ⟨_, xs.length, rfl, Nat.le_refl _, by simp only [maxLen]; omega, (fun e => by cases e), fun _ => ⟨g, 0, rfl, hk.lt, fun i hi => ?_⟩⟩
  obtain ⟨c0, c1, c2, c3⟩ := hc i hi
  refine ⟨?_, ?_, ?_, ?_, h.vals _ (List.getElem_mem hi)⟩
  · rw [hk.cell, Nat.zero_add]; exact c0
  · rw [hk.cell, Nat.zero_add]; exact c1
  · rw [hk.cell, Nat.zero_add]; exact c2
  · rw [hk.cell, Nat.zero_add]; exact c3
end
/-- Operations whose memory lies above B. -/
def OPn (B : Nat) (w : World) (v : Value) (ops : List OpA) : Prop := OPs w v ops ∧ (∀ A n c, v = .slice (some A) n c → B ≤ A.block) ∧ ∀ x ∈ ops, ∀ A n c, x.val = .slice (some A) n c → B ≤ A.block
end Go.Proofs.YthhnlkbjpahjeaaGreatDoor

end
section
namespace Go.Proofs.YthhnlkbjpahjeaaGreatDoor
open Go.RowKit
def opsOf (b : List UInt8) : Option (List OpA) :=
  if (restOps (numR (takeA 1 b)) (takeB 1 b) (takeS 1 b false)).2 = true ∨ (restOps (numR (takeA 1 b)) (takeB 1 b) (takeS 1 b false)).1 ≠ [] ∨ formB (readOps (numR (takeA 1 b)) (takeB 1 b) (takeS 1 b false)) = false then none
  else some (readOps (numR (takeA 1 b)) (takeB 1 b) (takeS 1 b false))
theorem opForm_erase (x : OpA) : opForm x.erase = opForm x := rfl
theorem any_erase (l : List OpA) (n : List UInt8) : ((l.map OpA.erase).any fun y => y.name == n) = l.any fun y => y.name == n := by
  rw [List.any_map]
  rfl
theorem good_erase : ∀ (r pre : List OpA), goodFrom (pre.map OpA.erase) (r.map OpA.erase) = goodFrom pre r
  | [], _ => rfl
  | x :: r, pre => by
    have ih := good_erase r (pre ++ [x])
    rw [List.map_append] at ih
    rw [List.map_cons, goodFrom, goodFrom, opForm_erase, any_erase]
    rw [show [x].map OpA.erase = [x.erase] from rfl] at ih
    rw [ih]
    rfl
theorem size_erase : ∀ l : List OpA, sizeOps (l.map OpA.erase) = sizeOps l
  | [] => rfl
  | x :: r => by
    rw [List.map_cons, sizeOps, sizeOps, size_erase r]
    rfl
theorem form_erase (l : List OpA) : formB (l.map OpA.erase) = formB l := by
  have h := good_erase l []
  unfold formB
  rw [size_erase, List.length_map]
  rw [show ([] : List OpA).map OpA.erase = [] from rfl] at h
  rw [h]
theorem opsB_erase (l : List OpA) : opsB (l.map OpA.erase) = opsB l := by
  unfold opsB
  rw [List.length_map, List.flatMap_map]
  rfl
theorem takeS_no {n : Nat} {l : List UInt8} {s : Bool} (h : takeS n l s = false) : s = false ∧ n ≤ l.length ∧ takeA n l = l.take n ∧ takeB n l = l.drop n := by
  unfold takeS at h
  split at h
  · cases h
  · rename_i hn
    exact ⟨h, by omega, if_neg hn, if_neg hn⟩
theorem readOp_size {l : List UInt8} {s : Bool} (h : (readOp l s).short = false) : s = false ∧ opSize (readOp l s).bare + (readOp l s).rest.length = l.length := by
  unfold readOp at h ⊢
  simp only at h ⊢
  obtain ⟨h6, k6, a6, b6⟩ := takeS_no h
  obtain ⟨h5, k5, a5, b5⟩ := takeS_no h6
  obtain ⟨h4, k4, a4, b4⟩ := takeS_no h5
  obtain ⟨h3, k3, a3, b3⟩ := takeS_no h4
  obtain ⟨h2, k2, a2, b2⟩ := takeS_no h3
  obtain ⟨h1, k1, a1, b1⟩ := takeS_no h2
  refine ⟨h1, ?_⟩
  unfold opSize Rdd.bare
  simp only
  have e1 := congrArg List.length b1
  have e2 := congrArg List.length b2
  have e3 := congrArg List.length b3
  have e4 := congrArg List.length b4
  have e5 := congrArg List.length b5
  have e6 := congrArg List.length b6
  have f3 := congrArg List.length a3
  have f6 := congrArg List.length a6
  rw [List.length_drop] at e1 e2 e3 e4 e5 e6
  rw [List.length_take] at f3 f6
  omega
theorem readOps_size : ∀ (n : Nat) (l : List UInt8) (s : Bool), (restOps n l s).2 = false → s = false ∧ sizeOps (readOps n l s) + (restOps n l s).1.length = l.length + 1
  | 0, l, s, h => ⟨h, by show 1 + l.length = _; omega⟩
  | n + 1, l, s, h => by
    obtain ⟨h1, h2⟩ := readOps_size n _ _ (show (restOps n (readOp l s).rest (readOp l s).short).2 = false from h)
    obtain ⟨h3, h4⟩ := readOp_size h1
    refine ⟨h3, ?_⟩
    show opSize _ + sizeOps (readOps n (readOp l s).rest (readOp l s).short) + (restOps n (readOp l s).rest (readOp l s).short).1.length = _
    omega
theorem opInfo : (Tryz.prog.info? 48).map (fun i => (i.zero, i.size, i.bytes)) = some (some (.agg #[.int .i64 0, .string ⟨#[]⟩, .int .i64 0, .slice none 0 0]), 4, 56) := by kernel_rfl
def OpsOut (a : Nat → Addr) (w w' : World) (e : Ending) : Option (List OpA) → Prop
  | none => e = .returned (.tuple #[.slice none 0 0, errV a 1])
  | some ys => ∃ v xs, e = .returned (.tuple #[v, .nilIface]) ∧ OPn w.heap.size w' v xs ∧ xs.map OpA.erase = ys
set_option maxRecDepth 8000 in
set_option maxHeartbeats 8000000 in
theorem oops_any (b : List UInt8) (v : Value) (w : World) (h : RB w v b) (hl : b.length ≤ 400000) (a : Nat → Addr) (hE : Errs w a) :
    Calls Tryz.prog 101 #[v] w fun e w' => Below w.heap.size w w' ∧ OpsOut a w w' e (opsOf b) := by
  obtain ⟨i0, hi, hz0, hz1, hz2⟩ := info_parts opInfo
  have HE := hide (fun w' hb => (hE.below (w' := w') hb).cell 1 (by decide))
  have hR0 : RDr w (w.alloc (.cells #[v, .bool false] 167)) w.heap.size b false := ⟨(Below.refl _ _).alloc (Nat.le_refl _) _, Nat.le_refl _, v, Blk.new _ _ _, h⟩
  replace hR0 := hide hR0
  obtain ⟨R, hR⟩ : ∃ R, Hid (R = opsOf b) := ⟨_, rfl⟩
  rw [← hR.out]
  obtain ⟨Av, cv, rfl, _⟩ := BR.form h.br
  clear h hE
  go_enter Tryz.func101, Tryz.ntmps101
  go_wp2_with fail
  refine (rnumber_any w _ w.heap.size b false hR0.out 1 (by decide)).mono ?_
  rintro e w1 ⟨rfl, H1, M1⟩
  have hR' := hR.out
  unfold opsOf at hR'
  have hn256 : numR (takeA 1 b) < 256 := by
    have h1 := foldl_lt (takeA 1 b) 0
    have h2 : 256 ^ (takeA 1 b).length ≤ 256 ^ 1 := Nat.pow_le_pow_right (by decide) (takeA_length _ _)
    unfold numR
    omega
  have hlb := hide (takeB_le 1 b)
  generalize numR (takeA 1 b) = n at hR' hn256 ⊢
  generalize takeB 1 b = l1 at hR' H1 hlb
  generalize takeS 1 b false = s1 at hR' H1
  replace hR' := hide hR'
  replace H1 := hide H1
  clear M1 hR0 hR
  go_wp2_with (at_make; refine wpList_make_full w1 rfl _ _ 22 rfl w1.heap.size 48 i0 _ 4 Tryz.underlying22 hi hz0 hz1 .i64 .i64 _ _ n rfl rfl rfl rfl (by rw [hz2]; omega) (by simp only [maxLen]; omega) (Nat.le_refl _) ?_)
  intro w2 how2 hgr2
  have hb2 : Below w1.heap.size w1 w2 := ⟨hgr2.os, hgr2.tape, hgr2.output, hgr2.size, fun k hk => hgr2.block k hk (by simp)⟩
  have H2 := hide (H1.out.then hb2)
  have hrl := hide H1.out.lt
  have hO2 : Hid (OR w2 w.heap.size w.heap.size w1.heap.size n []) := by
    rcases how2.2 with ⟨h, _⟩ | ⟨g, cap, cur, hv, _, hg, h1, h2, h3, h4⟩
    · cases h
    · simp only [Value.slice.injEq, Option.some.injEq, Addr.mk.injEq, and_true, true_and] at hv
      obtain ⟨rfl, rfl⟩ := hv
      exact ⟨⟨cur, hg, h3, fun i hi => by cases hi⟩, (fun x hx => by cases hx), (fun x hx => by cases hx)⟩
  clear how2 hgr2 hb2 hi hz0 hz1 hz2 H1
  obtain ⟨g, hg⟩ : ∃ g, Hid (g = w1.heap.size) := ⟨_, rfl⟩
  rw [← hg.out] at hO2 ⊢
  have hgr : Hid (g ≠ w.heap.size) := by
    show _ ≠ _
    have := hrl.out
    rw [hg.out]
    omega
  have hgw : Hid (w.heap.size ≤ g) := by
    show _ ≤ _
    have := hrl.out
    rw [hg.out]
    omega
  go_wp2
  go_loopw [6, 13] (fun _ u wr => ∃ (k : Nat) (xs : List OpA), k ≤ n ∧ u = .int .i64 k ∧ Hid (xs.length = k) ∧ Hid (xs.map OpA.erase = readOps k l1 s1) ∧ Hid (RDr w wr w.heap.size (restOps k l1 s1).1 (restOps k l1 s1).2) ∧ Hid (OR wr w.heap.size w.heap.size g n xs)) (fun _ u _ => n - (intOf u).toNat)
  case atStart => exact ⟨0, [], Nat.zero_le _, rfl, rfl, rfl, H2, hO2⟩
  case round =>
    obtain ⟨k, xs, hkn, rfl, hxl, hxe, HR, HO⟩ := hrel
    by_cases hlt : k < n
    · have hltz : (k : Int) < (n : Int) := by omega
      have hgl : Hid (g < wr.heap.size) := by
        obtain ⟨_, hk, _⟩ := HO.out.blk
        exact hk.lt
      have hrr : Hid (w.heap.size < wr.heap.size) := HR.out.lt
      go_wp2_with fail
      refine (rop_any w wr w.heap.size _ _ HR.out (by have := restOps_le k l1 s1; have := hlb.out; omega)).mono ?_
      rintro e w3 ⟨vv, rfl, hbv, H3, M3, hfr⟩
      have hsn := hide (readOps_snoc k l1 s1)
      have hrn := hide (restOps_snoc k l1 s1)
      generalize readOp (restOps k l1 s1).1 (restOps k l1 s1).2 = rd at hbv H3 hsn hrn ⊢
      obtain ⟨kd, nm, att, bs, rl, rs⟩ := rd
      unfold Rdd.op OpA.cells
      simp only at hbv H3 hsn hrn ⊢
      have O3 := HO.out.keepR M3 hgr.out
      obtain ⟨cs, hk, hcs, _⟩ := O3.blk
      have hc : ∀ i, i < n * 4 → ∃ u, w3.cell? ⟨g, i, none⟩ = some u := fun i hi => ⟨cs[i]'(by omega), by rw [hk.cell, Array.getElem?_eq_getElem (by omega)]⟩
      obtain ⟨u0, c0⟩ := hc (k * 4) (by omega)
      obtain ⟨u1, c1⟩ := hc (k * 4 + 1) (by omega)
      obtain ⟨u2, c2⟩ := hc (k * 4 + 2) (by omega)
      obtain ⟨u3, c3⟩ := hc (k * 4 + 3) (by omega)
      have hf := hk.frozen
      obtain ⟨Avv, cvv, rfl, _⟩ := BR.form hbv
      have O4 := O3.snoc ⟨kd, nm, att, .slice Avv bs.length cvv, bs⟩ (by rw [hxl.out]; omega) hbv (fun A m c e => by
        have := hfr A m c e
        have := hgl.out
        have := hrr.out
        exact ⟨by omega, by omega, by omega⟩)
      rw [hxl.out] at O4
      replace O4 := hide O4
      replace H3 := hide H3
      clear hk hcs hc O3 hbv hfr M3
      go_wp2_with fail
      go_round
      case rel =>
        refine ⟨k + 1, xs ++ [⟨kd, nm, att, .slice Avv bs.length cvv, bs⟩], by omega, by go_num, ?_, ?_, ?_, O4⟩
        · show _ = _
          rw [List.length_append, hxl.out]
          rfl
        · show _ = _
          rw [List.map_append, hxe.out, hsn.out]
          rfl
        · show RDr _ _ _ _ _
          rw [hrn.out]
          exact H3.out.keep (S := fun k => k = g) (((((Mvs.refl (fun k => k = g) w3).setCell ⟨g, k * 4, none⟩ _ (fun _ => rfl)).setCell ⟨g, k * 4 + 1, none⟩ _ (fun _ => rfl)).setCell ⟨g, k * 4 + 2, none⟩ _ (fun _ => rfl)).setCell ⟨g, k * 4 + 3, none⟩ _ (fun _ => rfl)) (fun e => hgr.out e.symm) (fun k e => by subst e; exact hgw.out)
      case measure => simp [intOf]; omega
    · have hltz : ¬ (k : Int) < (n : Int) := by omega
      obtain rfl : k = n := by omega
      have hsz := hide (readOps_size k l1 s1)
      have hfe : Hid (formB (readOps k l1 s1) = formB xs) := by
        show _ = _
        rw [← hxe.out, form_erase]
      have hse : Hid (sizeOps (readOps k l1 s1) = sizeOps xs) := by
        show _ = _
        rw [← hxe.out, size_erase]
      have hOP := hide (HO.out.ops hxl.out (by omega))
      have hap := hide HO.out.apart
      have hBW := hide HR.out.below
      obtain ⟨vr, hkr, hbr⟩ := HR.out.blk
      have hcr := hkr.cell
      generalize readOps k l1 s1 = ys at hR' hxe hsz hfe hse
      generalize restOps k l1 s1 = rr at hR' hsz hcr hbr
      obtain ⟨rl, rs⟩ := rr
      simp only at hR' hsz hcr hbr
      obtain ⟨Ar, cr, rfl, _⟩ := BR.form hbr.br
      have hge : wr.cell? ⟨4, 0, none⟩ = some (errV a 1) := HE.out wr hBW.out
      unfold errV at hge
      clear hkr hbr HR HO
      cases rs with
      | true =>
        have e : Hid (R = none) := by
          show _ = _
          rw [hR'.out, if_pos (.inl rfl)]
        go_wp2_with fail
        go_quiet (fail)
        go_wp2
        go_ret2
        rw [e.out]
        exact ⟨hBW.out.trans ((below_drewN _ _).mono hBW.out.size), rfl⟩
      | false =>
        by_cases hrl : rl = []
        · subst hrl
          have h1 := (hsz.out rfl).2
          rw [hse.out, List.length_nil] at h1
          have hlb' := hlb.out
          have HI := hide (isInForm_any xs _ wr hOP.out (by omega))
          have hl0 : ¬ (0 : Int) < (([] : List UInt8).length : Int) := by simp
          clear h1 hlb'
          cases hf : formB xs with
          | true =>
            rw [hf] at HI hfe
            have e : Hid (R = some ys) := by
              show _ = _
              rw [hR'.out, if_neg (by rw [hfe.out]; simp)]
            go_wp2_with (go_at_call 71; refine HI.out.mono ?_; rintro e w' ⟨rfl, hb'⟩; replace hb' := hide hb')
            go_ret2
            rw [e.out]
            exact ⟨hBW.out.trans (hb'.out.mono hBW.out.size), _, xs, rfl, ⟨hOP.out.below hb'.out, (fun A n c e => by cases e; exact hgw.out), fun x hx A n c e => (hap.out x hx A n c e).1⟩, hxe.out⟩
          | false =>
            rw [hf] at HI hfe
            have e : Hid (R = none) := by
              show _ = _
              rw [hR'.out, if_pos (.inr (.inr hfe.out))]
            go_wp2_with (go_at_call 71; refine HI.out.mono ?_; rintro e w' ⟨rfl, hb'⟩; replace hb' := hide hb')
            have hge' : w'.cell? ⟨4, 0, none⟩ = some (errV a 1) := HE.out w' (hBW.out.trans (hb'.out.mono hBW.out.size))
            unfold errV at hge'
            clear hge
            go_quiet (fail)
            go_wp2
            go_ret2
            rw [e.out]
            exact ⟨(hBW.out.trans (hb'.out.mono hBW.out.size)).trans ((below_drewN _ _).mono (Nat.le_trans hBW.out.size hb'.out.size)), rfl⟩
        · have hpos := List.length_pos_iff.2 hrl
          have hl0 : (0 : Int) < (rl.length : Int) := by omega
          have e : Hid (R = none) := by
            show _ = _
            rw [hR'.out, if_pos (.inr (.inl hrl))]
          go_wp2_with fail
          go_quiet (fail)
          go_wp2
          go_ret2
          rw [e.out]
          exact ⟨hBW.out.trans ((below_drewN _ _).mono hBW.out.size), rfl⟩
end Go.Proofs.YthhnlkbjpahjeaaGreatDoor

end
section
namespace Go.Proofs.YthhnlkbjpahjeaaGreatDoor
open Go.RowKit Go.Maps
/-- What a call that answers an error leaves. -/
def Ans (Q : Value → World → Prop) (e : Ending) (w' : World) : Prop := ∃ v, e = .returned v ∧ Q v w'
/-- The log l of the disk d. -/
structure LG (w0 w : World) (l d : Nat) (dead : Bool) (ρ : Nat → Option Role) (s : St) : Prop where
  dk : DK w0 w d ρ s
  lb : Blk w l #[pv d, .bool dead] 59
  rl : ρ l = none
  low : w0.heap.size ≤ l
section
variable {w0 w w' : World} {l d : Nat} {dead : Bool} {ρ ρ' : Nat → Option Role} {s s' : St}
theorem Turn.blk (h : Turn w w' ρ ρ') {b : Nat} {cs : Array Value} {t : TypeId} (hk : Blk w b cs t) (hr : ρ b = none) : Blk w' b cs t := h.1.blk hk (fun ⟨r, e⟩ => by rw [hr] at e; cases e)
theorem LG.turn (h : LG w0 w l d dead ρ s) (hd : DK w0 w' d ρ' s') (ht : Turn w w' ρ ρ') : LG w0 w' l d dead ρ' s' := ⟨hd, ht.blk h.lb h.rl, ht.off h.lb.lt h.rl, h.low⟩
theorem LG.then (h : LG w0 w l d dead ρ s) (hb : Below w.heap.size w w') : LG w0 w' l d dead ρ s := ⟨h.dk.then hb, h.lb.below hb h.lb.lt, h.rl, h.low⟩
end
set_option maxRecDepth 10000 in
set_option maxHeartbeats 1000000 in
theorem is_nil (a : Addr) (w : World) : Calls Tryz.prog 28 #[.nilIface, .iface 191 (.pointer (some a))] w fun e w' => e = .returned (.bool false) ∧ w' = w := by
  have heq : (binOp .eql 29 .nilIface (.iface 191 (.pointer (some a)))).run Tryz.prog w = .ok (.bool false) w := by kernel_rfl
  go_enter Tryz.func28, Tryz.ntmps28
  go_wp2
  go_ret
  exact ⟨rfl, rfl⟩
section
variable (w : World) (l d : Nat) (dead : Bool) (Q : Value → World → Prop)
set_option maxHeartbeats 1000000 in
theorem makeLog_via (hl : Blk w l #[pv d, .bool dead] 59) (hc : Calls Tryz.prog 36 #[pv d, .string ⟨redoN.toArray⟩] w (Ans Q)) : Calls Tryz.prog 20 #[pv l] w (Ans Q) := by
  have hcl := hl.cell
  replace hc := hide hc
  clear hl
  unfold pv redoN at *
  go_enter Tryz.func20, Tryz.ntmps20
  go_wp2_with (go_at_call 36; refine hc.out.mono ?_; rintro e w' ⟨v, rfl, hq⟩; replace hq := hide hq)
  go_ret
  exact ⟨_, rfl, hq.out⟩
set_option maxHeartbeats 1000000 in
theorem syncLog_via (hl : Blk w l #[pv d, .bool dead] 59) (hc : Calls Tryz.prog 50 #[pv d, .string ⟨redoN.toArray⟩] w (Ans Q)) : Calls Tryz.prog 25 #[pv l] w (Ans Q) := by
  have hcl := hl.cell
  replace hc := hide hc
  clear hl
  unfold pv redoN at *
  go_enter Tryz.func25, Tryz.ntmps25
  go_wp2_with (go_at_call 50; refine hc.out.mono ?_; rintro e w' ⟨v, rfl, hq⟩; replace hq := hide hq)
  go_ret
  exact ⟨_, rfl, hq.out⟩
set_option maxHeartbeats 1000000 in
theorem emptyLog_via (hl : Blk w l #[pv d, .bool dead] 59) (hc : Calls Tryz.prog 52 #[pv d, .string ⟨redoN.toArray⟩, .int .i64 0] w (Ans Q)) : Calls Tryz.prog 27 #[pv l] w (Ans Q) := by
  have hcl := hl.cell
  replace hc := hide hc
  clear hl
  unfold pv redoN at *
  go_enter Tryz.func27, Tryz.ntmps27
  go_wp2_with (go_at_call 52; refine hc.out.mono ?_; rintro e w' ⟨v, rfl, hq⟩; replace hq := hide hq)
  go_ret
  exact ⟨_, rfl, hq.out⟩
set_option maxHeartbeats 1000000 in
theorem dead_any (hl : Blk w l #[pv d, .bool dead] 59) : Calls Tryz.prog 16 #[pv l] w fun e w' => e = .returned (.bool dead) ∧ w' = w := by
  have hcl := hl.cell
  clear hl
  unfold pv at *
  go_enter Tryz.func16, Tryz.ntmps16
  go_wp2
  go_ret
  exact ⟨rfl, rfl⟩
/-- The record is appended to the log. -/
theorem write_via (hl : Blk w l #[pv d, .bool dead] 59) (vo vr : Value) (hc : ∀ w1, Below w.heap.size w w1 → Calls Tryz.prog 49 #[pv d, .string ⟨redoN.toArray⟩, vr] w1 (Ans Q)) : Calls Tryz.prog 24 #[.agg #[pv l, vo, vr]] w (Ans Q) := by
  have hb : Below w.heap.size w (w.alloc (.cells #[pv l, vo, vr] 65)) := (Below.refl _ _).alloc (Nat.le_refl _) _
  have hcl := hl.cell
  have hlt := hl.lt
  have HB := hide hb
  replace hc := hide hc
  clear hl hb
  unfold pv redoN at *
  go_enter Tryz.func24, Tryz.ntmps24
  go_wp2_with fail
  go_region_with (go_at_call 49; refine (hc.out _ HB.out.drew).mono ?_; rintro e w' ⟨v, rfl, hq⟩; replace hq := hide hq)
  all_goals go_wp2
  all_goals go_ret
  all_goals exact ⟨_, rfl, hq.out⟩
end
end Go.Proofs.YthhnlkbjpahjeaaGreatDoor

end
