/- redo's reader: numbers. -/
/- Operations read one behind the other into a row. -/
import Derived.Test.YtcbkmcagnmpifaaGreatDoorU26
import Derived.OwnWalk
section
namespace Go.Proofs.YtcbkmcagnmpifaaGreatDoor
open Go.RowKit
def numR (bs : List UInt8) : Nat := bs.foldl (fun n c => n * 256 + c.toNat) 0
theorem numR_take (bs : List UInt8) (k : Nat) (h : k < bs.length) : numR (bs.take (k + 1)) = numR (bs.take k) * 256 + bs[k].toNat := by
  unfold numR
  rw [List.take_succ_eq_append_getElem h, List.foldl_append]
  rfl
theorem foldl_lt : ∀ (bs : List UInt8) (n : Nat), bs.foldl (fun n c => n * 256 + c.toNat) n < (n + 1) * 256 ^ bs.length
  | [], n => by simp
  | c :: r, n => by
    have h1 := foldl_lt r (n * 256 + c.toNat)
    have h2 := UInt8.toNat_lt c
    rw [List.foldl_cons, List.length_cons, Nat.pow_succ, Nat.mul_comm (256 ^ r.length) 256, ← Nat.mul_assoc]
    refine Nat.lt_of_lt_of_le h1 (Nat.mul_le_mul_right _ ?_)
    omega
theorem numR_lt (bs : List UInt8) (h : bs.length ≤ 4) : numR bs < 4294967296 := by
  have h1 := foldl_lt bs 0
  have h2 : 256 ^ bs.length ≤ 256 ^ 4 := Nat.pow_le_pow_right (by decide) h
  unfold numR
  omega
theorem numR_lt3 (bs : List UInt8) (h : bs.length ≤ 3) : numR bs < 16777216 := by
  have h1 := foldl_lt bs 0
  have h2 : 256 ^ bs.length ≤ 256 ^ 3 := Nat.pow_le_pow_right (by decide) h
  unfold numR
  omega
theorem wraps_i64 (n : Int) (h₀ : 0 ≤ n) (h₁ : n < 2 ^ 40) : IntKind.i64.wrap n = n := by rw [IntKind.wrap_i64]; omega
theorem or_i64 (x y : Int) (hx₀ : 0 ≤ x) (hx : x % 256 = 0) (hx₁ : x < 4294967296) (h₀ : 0 ≤ y) (h₁ : y < 256) : bits .or .i64 x y = x + y := bits_join .i64 40 (by decide) wraps_i64 8 x y hx₀ hx (by omega) h₀ h₁ (by omega)
theorem takeA_length (n : Nat) (l : List UInt8) : (takeA n l).length ≤ n := by
  unfold takeA
  split
  · exact Nat.zero_le _
  · rw [List.length_take]
    omega
set_option maxRecDepth 8000 in
set_option maxHeartbeats 2000000 in
theorem rnumber_any (w0 w : World) (r : Nat) (rest : List UInt8) (short : Bool) (h : RDr w0 w r rest short) (n : Nat) (hn : n ≤ 4) :
    Calls Tryz.prog 33 #[pv r, .int .i64 n] w fun e w' => e = .returned (.int .i64 (numR (takeA n rest))) ∧ RDr w0 w' r (takeB n rest) (takeS n rest short) ∧ Mvs (fun k => k = r) w w' := by
  have HT := hide (rtake_any w0 w r rest short h n (by omega))
  have hl4 := takeA_length n rest
  clear h
  unfold pv at HT ⊢
  go_enter Tryz.func33, Tryz.ntmps33
  go_wp2_with fail
  refine HT.out.mono ?_
  rintro e w1 ⟨v, rfl, hv, hR, hM⟩
  have HR := hide hR
  have HM := hide hM
  have hbr := hv.br.below hR.below
  generalize hle : takeA n rest = l at *
  replace hle := hide hle
  obtain ⟨A, c, rfl, hlc, hm, _⟩ := BR.form hbr
  have HBR := hide hbr
  have hm2 : c ≤ 9223372036854775807 := by simpa [maxLen] using hm
  clear hbr hv hR hM HT hm
  go_wp2
  go_loop [5, 7, 12] (fun u _ i => ∃ k : Nat, k ≤ l.length ∧ i = .int .i64 k ∧ u = .int .i64 (numR (l.take k))) (fun _ _ i => l.length - (intOf i).toNat)
  case atStart => exact ⟨0, Nat.zero_le _, rfl, rfl⟩
  case round =>
    obtain ⟨k, hkl, rfl, rfl⟩ := hrel
    by_cases hlt : k < l.length
    · have hltz : (k : Int) < (l.length : Int) := by omega
      obtain ⟨g, o, rfl, hg, hlc', hk⟩ := HBR.out.at (fun e => by rw [e] at hlt; simp at hlt)
      have hck := hk k hlt
      have hN : Hid (numR (l.take (k + 1)) = numR (l.take k) * 256 + l[k].toNat) := numR_take l k hlt
      have hb3 := numR_lt3 (l.take k) (by rw [List.length_take]; omega)
      have h8 := UInt8.toNat_lt l[k]
      generalize l[k].toNat = x at hck hN h8
      generalize numR (l.take k) = m at hN hb3
      have ho := or_i64 ((m : Int) * 256) (x : Int) (by omega) (by omega) (by omega) (by omega) (by omega)
      clear hk hg
      go_wp2_with fail
      go_round
      case rel =>
        refine ⟨k + 1, by omega, by go_num, ?_⟩
        rw [hN.out]
        congr 1
      case measure => simp [intOf]; omega
    · have hltz : ¬ (k : Int) < (l.length : Int) := by omega
      have e : Hid (numR (l.take k) = numR l) := by
        show _ = _
        rw [List.take_of_length_le (by omega)]
      go_wp2
      go_ret
      exact ⟨by rw [hle.out, ← e.out]; rfl, HR.out, HM.out⟩
/-- One operation, read. -/
structure Rdd where
  kind : Nat
  name : List UInt8
  at_ : Nat
  bytes : List UInt8
  rest : List UInt8
  short : Bool
def readOp (l : List UInt8) (s : Bool) : Rdd :=
  let l1 := takeB 1 l
  let s1 := takeS 1 l s
  let n := numR (takeA 1 l1)
  let l2 := takeB 1 l1
  let s2 := takeS 1 l1 s1
  let l3 := takeB n l2
  let s3 := takeS n l2 s2
  let l4 := takeB 4 l3
  let s4 := takeS 4 l3 s3
  let m := numR (takeA 4 l4)
  let l5 := takeB 4 l4
  let s5 := takeS 4 l4 s4
  ⟨numR (takeA 1 l), takeA n l2, numR (takeA 4 l3), takeA m l5, takeB m l5, takeS m l5 s5⟩
def Rdd.op (x : Rdd) (v : Value) : OpA := ⟨x.kind, x.name, x.at_, v, x.bytes⟩
theorem takeA_le (n : Nat) (l : List UInt8) : (takeA n l).length ≤ l.length := by
  unfold takeA
  split
  · exact Nat.zero_le _
  · rw [List.length_take]
    omega
theorem takeB_le (n : Nat) (l : List UInt8) : (takeB n l).length ≤ l.length := by
  unfold takeB
  split
  · exact Nat.le_refl _
  · rw [List.length_drop]
    omega
/-- A copy of bytes. -/
theorem cloneB_any (bs : List UInt8) (v : Value) (w : World) (h : BR w v bs) (hb : bs.length ≤ 1000000) :
    Calls Tryz.prog 58 #[v] w fun e w' => ∃ v', e = .returned v' ∧ Bts w w' v' bs := by
  obtain ⟨A, c, rfl, _, _, hn⟩ := BR.form h
  cases A with
  | none =>
    obtain rfl := hn rfl
    have e0 : bs = [] := by
      obtain ⟨_, _, hv, hl, _⟩ := h
      simp only [Value.slice.injEq] at hv
      obtain ⟨_, _, rfl⟩ := hv
      rw [List.length_map] at hl
      exact List.length_eq_zero_iff.1 (by omega)
    subst e0
    exact (clone_nil w).mono fun e w' ⟨he, hw⟩ => ⟨_, he, by subst hw; exact ⟨Below.refl _ _, none, Rw.nil _ _, fun _ h => by cases h⟩⟩
  | some a => exact clone_any bs a _ c w h hb
set_option maxRecDepth 8000 in
set_option maxHeartbeats 4000000 in
theorem rop_any (w0 w : World) (r : Nat) (rest : List UInt8) (short : Bool) (h : RDr w0 w r rest short) (hl : rest.length ≤ 1000000) :
    Calls Tryz.prog 34 #[pv r] w fun e w' => ∃ v, e = .returned (.agg ((readOp rest short).op v).cells) ∧ BR w' v (readOp rest short).bytes ∧ RDr w0 w' r (readOp rest short).rest (readOp rest short).short ∧ Mvs (fun k => k = r) w w' ∧ (∀ A n c, v = .slice (some A) n c → w.heap.size ≤ A.block) := by
  have hrl := h.lt
  have hb0 : Below w.heap.size w (w.alloc (.cells #[.int .i64 0, .string ⟨#[]⟩, .int .i64 0, .slice none 0 0] 35)) := (Below.refl _ _).alloc (Nat.le_refl _) _
  have H0 := hide (h.then hb0)
  have k0 := hide (Blk.new w #[.int .i64 0, .string ⟨#[]⟩, .int .i64 0, .slice none 0 0] 35)
  have M0 : Hid (Mvs (fun k => k = r) w (w.alloc (.cells #[.int .i64 0, .string ⟨#[]⟩, .int .i64 0, .slice none 0 0] 35))) := (Mvs.refl _ _).alloc _
  clear h hb0
  have hne : w.heap.size ≠ r := by omega
  have hne2 : r ≠ w.heap.size := by omega
  unfold pv
  go_enter Tryz.func34, Tryz.ntmps34
  go_wp2_with fail
  refine (rnumber_any w0 _ r rest short H0.out 1 (by decide)).mono ?_
  rintro e w1 ⟨rfl, H1, M1⟩
  have k1 := hide (M1.blk k0.out hne)
  replace M1 := hide (M0.out.trans M1)
  obtain ⟨x1, hx1⟩ : ∃ x, Hid (x = numR (takeA 1 rest)) := ⟨_, rfl⟩
  obtain ⟨l1, hl1⟩ : ∃ x, Hid (x = takeB 1 rest) := ⟨_, rfl⟩
  obtain ⟨s1, hs1⟩ : ∃ x, Hid (x = takeS 1 rest short) := ⟨_, rfl⟩
  have b1 : Hid (l1.length ≤ rest.length) := by show _ ≤ _; rw [hl1.out]; exact takeB_le _ _
  rw [← hx1.out]
  rw [← hl1.out, ← hs1.out] at H1
  replace H1 := hide H1
  clear H0 k0 M0
  go_wp2_with fail
  refine (rnumber_any w0 _ r l1 s1 H1.out 1 (by decide)).mono ?_
  rintro e w2 ⟨rfl, H2, M2⟩
  have k2 := hide (M2.blk k1.out hne)
  replace M2 := hide (M1.out.trans M2)
  obtain ⟨x2, hx2⟩ : ∃ x, Hid (x = numR (takeA 1 l1)) := ⟨_, rfl⟩
  obtain ⟨l2, hl2⟩ : ∃ x, Hid (x = takeB 1 l1) := ⟨_, rfl⟩
  obtain ⟨s2, hs2⟩ : ∃ x, Hid (x = takeS 1 l1 s1) := ⟨_, rfl⟩
  have b2 : Hid (l2.length ≤ l1.length) := by show _ ≤ _; rw [hl2.out]; exact takeB_le _ _
  have bx2 : Hid (x2 < 4294967296) := by show _ < _; rw [hx2.out]; exact numR_lt _ (Nat.le_trans (takeA_length _ _) (by decide))
  rw [← hx2.out]
  rw [← hl2.out, ← hs2.out] at H2
  replace H2 := hide H2
  clear k1 M1
  go_wp2_with fail
  refine (rtake_any w0 _ r l2 s2 H2.out x2 (by have := bx2.out; omega)).mono ?_
  rintro e w3 ⟨v3, rfl, hv3, H3, M3⟩
  have k3 := hide (M3.blk k2.out hne)
  replace M3 := hide (M2.out.trans M3)
  obtain ⟨nm, hnm⟩ : ∃ x, Hid (x = takeA x2 l2) := ⟨_, rfl⟩
  obtain ⟨l3, hl3⟩ : ∃ x, Hid (x = takeB x2 l2) := ⟨_, rfl⟩
  obtain ⟨s3, hs3⟩ : ∃ x, Hid (x = takeS x2 l2 s2) := ⟨_, rfl⟩
  have b3 : Hid (l3.length ≤ l2.length) := by show _ ≤ _; rw [hl3.out]; exact takeB_le _ _
  rw [← hnm.out] at hv3
  rw [← hl3.out, ← hs3.out] at H3
  have hbr3 := hv3.br.below H3.below
  have hcv := hbr3.convert
  replace H3 := hide H3
  clear k2 M2 hv3 hbr3
  go_wp2_with fail
  refine (rnumber_any w0 _ r l3 s3 H3.out 4 (by decide)).mono ?_
  rintro e w4 ⟨rfl, H4, M4⟩
  have k4 := hide (M4.blk k3.out hne)
  replace M4 := hide (M3.out.trans M4)
  obtain ⟨x4, hx4⟩ : ∃ x, Hid (x = numR (takeA 4 l3)) := ⟨_, rfl⟩
  obtain ⟨l4, hl4⟩ : ∃ x, Hid (x = takeB 4 l3) := ⟨_, rfl⟩
  obtain ⟨s4, hs4⟩ : ∃ x, Hid (x = takeS 4 l3 s3) := ⟨_, rfl⟩
  have b4 : Hid (l4.length ≤ l3.length) := by show _ ≤ _; rw [hl4.out]; exact takeB_le _ _
  rw [← hx4.out]
  rw [← hl4.out, ← hs4.out] at H4
  replace H4 := hide H4
  clear k3 M3 hcv
  go_wp2_with fail
  refine (rnumber_any w0 _ r l4 s4 H4.out 4 (by decide)).mono ?_
  rintro e w5 ⟨rfl, H5, M5⟩
  have k5 := hide (M5.blk k4.out hne)
  replace M5 := hide (M4.out.trans M5)
  obtain ⟨x5, hx5⟩ : ∃ x, Hid (x = numR (takeA 4 l4)) := ⟨_, rfl⟩
  obtain ⟨l5, hl5⟩ : ∃ x, Hid (x = takeB 4 l4) := ⟨_, rfl⟩
  obtain ⟨s5, hs5⟩ : ∃ x, Hid (x = takeS 4 l4 s4) := ⟨_, rfl⟩
  have b5 : Hid (l5.length ≤ l4.length) := by show _ ≤ _; rw [hl5.out]; exact takeB_le _ _
  have bx5 : Hid (x5 < 4294967296) := by show _ < _; rw [hx5.out]; exact numR_lt _ (takeA_length _ _)
  rw [← hx5.out]
  rw [← hl5.out, ← hs5.out] at H5
  replace H5 := hide H5
  clear k4 M4
  go_wp2_with fail
  refine (rtake_any w0 _ r l5 s5 H5.out x5 (by have := bx5.out; omega)).mono ?_
  rintro e w6 ⟨v6, rfl, hv6, H6, M6⟩
  have k6 := hide (M6.blk k5.out hne)
  replace M6 := hide (M5.out.trans M6)
  obtain ⟨bs, hbs⟩ : ∃ x, Hid (x = takeA x5 l5) := ⟨_, rfl⟩
  obtain ⟨l6, hl6⟩ : ∃ x, Hid (x = takeB x5 l5) := ⟨_, rfl⟩
  obtain ⟨s6, hs6⟩ : ∃ x, Hid (x = takeS x5 l5 s5) := ⟨_, rfl⟩
  have bb : Hid (bs.length ≤ 1000000) := by
    show _ ≤ _
    have h1 := takeA_le x5 l5
    rw [← hbs.out] at h1
    have := b1.out
    have := b2.out
    have := b3.out
    have := b4.out
    have := b5.out
    omega
  rw [← hbs.out] at hv6
  rw [← hl6.out, ← hs6.out] at H6
  have hbr6 := hv6.br.below H6.below
  replace H6 := hide H6
  clear k5 M5 hv6
  go_wp2_with fail
  refine (cloneB_any bs _ w6 hbr6 bb.out).mono ?_
  rintro e w7 ⟨v7, rfl, T7⟩
  have k7 := k6.out.below T7.1 k6.out.lt
  have H7 := hide (H6.out.then T7.1)
  have M7 := hide (M6.out.then T7.1)
  have hc7 := k7.cell
  have hf7 := k7.frozen
  have K7 := hide k7
  have hsz := hide M6.out.size
  have hk6' := hide k6.out.lt
  have hv7 : Hid (∀ A n c, v7 = .slice (some A) n c → w6.heap.size ≤ A.block) := by
    obtain ⟨_, G, hr, hg⟩ := T7
    rintro A n c rfl
    rcases hr.2 with ⟨h, _⟩ | ⟨g, o, cap, hG, hv, _⟩
    · cases h
    · cases hv
      exact hg _ hG
  have T7' := hide T7
  obtain ⟨A7, c7, rfl, _⟩ := BR.form T7.br
  clear T7 k7 hbr6 k6 M6 H6
  go_wp2
  have hro : readOp rest short = ⟨x1, nm, x4, bs, l6, s6⟩ := by
    rw [hl6.out, hs6.out, hbs.out, hx5.out, hl5.out, hs5.out, hx4.out, hl4.out, hs4.out, hnm.out, hl3.out, hs3.out, hx2.out, hl2.out, hs2.out, hx1.out, hl1.out, hs1.out]
    rfl
  rw [hro]
  have k8 := (((K7.out.set 0 (.int .i64 x1)).set 1 (.string ⟨nm.toArray⟩)).set 2 (.int .i64 x4)).set 3 (.slice A7 bs.length c7)
  have m8 : Mvs (fun k => k = w.heap.size) w7 ((((w7.setCell ⟨w.heap.size, 0, none⟩ (.int .i64 x1)).setCell ⟨w.heap.size, 1, none⟩ (.string ⟨nm.toArray⟩)).setCell ⟨w.heap.size, 2, none⟩ (.int .i64 x4)).setCell ⟨w.heap.size, 3, none⟩ (.slice A7 bs.length c7)) :=
    ((((Mvs.refl (fun k => k = w.heap.size) w7).setCell ⟨w.heap.size, 0, none⟩ _ (fun _ => rfl)).setCell ⟨w.heap.size, 1, none⟩ _ (fun _ => rfl)).setCell ⟨w.heap.size, 2, none⟩ _ (fun _ => rfl)).setCell ⟨w.heap.size, 3, none⟩ _ (fun _ => rfl)
  generalize (((w7.setCell ⟨w.heap.size, 0, none⟩ _).setCell ⟨w.heap.size, 1, none⟩ _).setCell ⟨w.heap.size, 2, none⟩ _).setCell ⟨w.heap.size, 3, none⟩ _ = W at *
  have hbc := k8.cell
  have hw06 : w0.heap.size ≤ w.heap.size := by have := H1.out.low; omega
  have hs6' := hsz.out
  have hk7 := K7.out.lt
  refine bodyPost_ret (v := .agg #[.int .i64 x1, .string ⟨nm.toArray⟩, .int .i64 x4, .slice A7 bs.length c7]) (by simp [results, Tryz.results34, go_sem, hbc]) rfl ⟨_, rfl, ?_, ?_, ?_, ?_⟩
  · refine AR.keep T7'.out.br m8 (fun A n c e e' => ?_)
    have := hv7.out A n c e
    have := hk6'.out
    omega
  · exact H7.out.keep m8 (fun e => hne2 e) (fun k e => by subst e; exact hw06)
  · exact M7.out.trans' m8 (fun i hi e => by omega)
  · intro A n c e
    have := hv7.out A n c e
    omega
end Go.Proofs.YtcbkmcagnmpifaaGreatDoor

end
section
namespace Go.Proofs.YtcbkmcagnmpifaaGreatDoor
open Go.RowKit
def OpA.erase (x : OpA) : OpA := ⟨x.kind, x.name, x.at_, .slice none 0 0, x.bytes⟩
def Rdd.bare (x : Rdd) : OpA := ⟨x.kind, x.name, x.at_, .slice none 0 0, x.bytes⟩
theorem Rdd.op_erase (x : Rdd) (v : Value) : (x.op v).erase = x.bare := rfl
/-- So many operations, read one behind the other. -/
def readOps : Nat → List UInt8 → Bool → List OpA
  | 0, _, _ => []
  | n + 1, l, s => (readOp l s).bare :: readOps n (readOp l s).rest (readOp l s).short
def restOps : Nat → List UInt8 → Bool → List UInt8 × Bool
  | 0, l, s => (l, s)
  | n + 1, l, s => restOps n (readOp l s).rest (readOp l s).short
theorem readOps_snoc : ∀ (n : Nat) (l : List UInt8) (s : Bool), readOps (n + 1) l s = readOps n l s ++ [(readOp (restOps n l s).1 (restOps n l s).2).bare]
  | 0, l, s => rfl
  | n + 1, l, s => by
    rw [readOps, readOps_snoc n, readOps]
    rfl
theorem restOps_snoc : ∀ (n : Nat) (l : List UInt8) (s : Bool), restOps (n + 1) l s = ((readOp (restOps n l s).1 (restOps n l s).2).rest, (readOp (restOps n l s).1 (restOps n l s).2).short)
  | 0, l, s => rfl
  | n + 1, l, s => by
    rw [restOps, restOps_snoc n]
    rfl
theorem readOp_rest_le (l : List UInt8) (s : Bool) : (readOp l s).rest.length ≤ l.length := by
  unfold readOp
  simp only
  refine Nat.le_trans (takeB_le _ _) (Nat.le_trans (takeB_le _ _) (Nat.le_trans (takeB_le _ _) (Nat.le_trans (takeB_le _ _) (Nat.le_trans (takeB_le _ _) (takeB_le _ _)))))
theorem restOps_le : ∀ (n : Nat) (l : List UInt8) (s : Bool), (restOps n l s).1.length ≤ l.length
  | 0, _, _ => Nat.le_refl _
  | n + 1, l, s => Nat.le_trans (restOps_le n _ _) (readOp_rest_le l s)
/-- A row of n operations in block g, of which the first are xs; what they hold lies above B and in neither r nor g. -/
structure OR (wr : World) (B r g n : Nat) (xs : List OpA) : Prop where
  blk : ∃ cs : Array Value, Blk wr g cs 35 ∧ cs.size = n * 4 ∧ ∀ i (hi : i < xs.length), cs[i * 4]? = some (.int .i64 xs[i].kind) ∧ cs[i * 4 + 1]? = some (.string ⟨xs[i].name.toArray⟩) ∧ cs[i * 4 + 2]? = some (.int .i64 xs[i].at_) ∧ cs[i * 4 + 3]? = some xs[i].val
  vals : ∀ x ∈ xs, BR wr x.val x.bytes
  apart : ∀ x ∈ xs, ∀ A m c, x.val = .slice (some A) m c → B ≤ A.block ∧ A.block ≠ r ∧ A.block ≠ g
section
variable {wr w' : World} {B r g n : Nat} {xs : List OpA}
theorem OR.keepR (h : OR wr B r g n xs) (hm : Mvs (fun k => k = r) wr w') (hg : g ≠ r) : OR w' B r g n xs := by
  obtain ⟨cs, hk, hs, hc⟩ := h.blk
  exact ⟨⟨cs, hm.blk hk hg, hs, hc⟩, fun x hx => (h.vals x hx).keep hm (fun A m c e => (h.apart x hx A m c e).2.1), h.apart⟩
/-- One more. -/
theorem OR.snoc (h : OR wr B r g n xs) (x : OpA) (hlt : xs.length < n) (hv : BR wr x.val x.bytes) (ha : ∀ A m c, x.val = .slice (some A) m c → B ≤ A.block ∧ A.block ≠ r ∧ A.block ≠ g) :
    OR ((((wr.setCell ⟨g, xs.length * 4, none⟩ (.int .i64 x.kind)).setCell ⟨g, xs.length * 4 + 1, none⟩ (.string ⟨x.name.toArray⟩)).setCell ⟨g, xs.length * 4 + 2, none⟩ (.int .i64 x.at_)).setCell ⟨g, xs.length * 4 + 3, none⟩ x.val) B r g n (xs ++ [x]) := by
  obtain ⟨cs, hk, hs, hc⟩ := h.blk
  have hm : Mvs (fun k => k = g) wr ((((wr.setCell ⟨g, xs.length * 4, none⟩ (.int .i64 x.kind)).setCell ⟨g, xs.length * 4 + 1, none⟩ (.string ⟨x.name.toArray⟩)).setCell ⟨g, xs.length * 4 + 2, none⟩ (.int .i64 x.at_)).setCell ⟨g, xs.length * 4 + 3, none⟩ x.val) :=
    ((((Mvs.refl (fun k => k = g) wr).setCell ⟨g, xs.length * 4, none⟩ _ (fun _ => rfl)).setCell ⟨g, xs.length * 4 + 1, none⟩ _ (fun _ => rfl)).setCell ⟨g, xs.length * 4 + 2, none⟩ _ (fun _ => rfl)).setCell ⟨g, xs.length * 4 + 3, none⟩ _ (fun _ => rfl)
  have apart' : ∀ y ∈ xs ++ [x], ∀ A m c, y.val = .slice (some A) m c → B ≤ A.block ∧ A.block ≠ r ∧ A.block ≠ g := fun y hy => by
    rcases List.mem_append.1 hy with hy | hy
    · exact h.apart y hy
    · rw [List.mem_singleton.1 hy]
      exact ha
  refine ⟨⟨_, (((hk.set (xs.length * 4) _).set (xs.length * 4 + 1) _).set (xs.length * 4 + 2) _).set (xs.length * 4 + 3) _, by simp [hs], fun i hi => ?_⟩, fun y hy => ?_, apart'⟩
  · rw [List.length_append, List.length_singleton] at hi
    by_cases hlt' : i < xs.length
    · rw [List.getElem_append_left hlt']
      obtain ⟨c0, c1, c2, c3⟩ := hc i hlt'
      refine ⟨?_, ?_, ?_, ?_⟩
      · rw [Array.getElem?_setIfInBounds_ne (by omega), Array.getElem?_setIfInBounds_ne (by omega), Array.getElem?_setIfInBounds_ne (by omega), Array.getElem?_setIfInBounds_ne (by omega)]
        exact c0
      · rw [Array.getElem?_setIfInBounds_ne (by omega), Array.getElem?_setIfInBounds_ne (by omega), Array.getElem?_setIfInBounds_ne (by omega), Array.getElem?_setIfInBounds_ne (by omega)]
        exact c1
      · rw [Array.getElem?_setIfInBounds_ne (by omega), Array.getElem?_setIfInBounds_ne (by omega), Array.getElem?_setIfInBounds_ne (by omega), Array.getElem?_setIfInBounds_ne (by omega)]
        exact c2
      · rw [Array.getElem?_setIfInBounds_ne (by omega), Array.getElem?_setIfInBounds_ne (by omega), Array.getElem?_setIfInBounds_ne (by omega), Array.getElem?_setIfInBounds_ne (by omega)]
        exact c3
    · have hi' : i = xs.length := by omega
      subst hi'
      rw [List.getElem_append_right (Nat.le_refl _)]
      simp only [Nat.sub_self, List.getElem_cons_zero]
      refine ⟨?_, ?_, ?_, ?_⟩
      · rw [Array.getElem?_setIfInBounds_ne (by omega), Array.getElem?_setIfInBounds_ne (by omega), Array.getElem?_setIfInBounds_ne (by omega), Array.getElem?_setIfInBounds_self_of_lt (by omega)]
      · rw [Array.getElem?_setIfInBounds_ne (by omega), Array.getElem?_setIfInBounds_ne (by omega), Array.getElem?_setIfInBounds_self_of_lt (by simp; omega)]
      · rw [Array.getElem?_setIfInBounds_ne (by omega), Array.getElem?_setIfInBounds_self_of_lt (by simp; omega)]
      · rw [Array.getElem?_setIfInBounds_self_of_lt (by simp; omega)]
  · rcases List.mem_append.1 hy with hy' | hy'
    · exact (h.vals y hy').keep hm (fun A m c e => (h.apart y hy' A m c e).2.2)
    · rw [List.mem_singleton.1 hy']
      exact AR.keep hv hm (fun A m c e => (ha A m c e).2.2)
theorem OR.ops (h : OR wr B r g n xs) (hn : xs.length = n) (hm : n ≤ 1000) : OPs wr (.slice (some ⟨g, 0, none⟩) n n) xs := by
  obtain ⟨cs, hk, hs, hc⟩ := h.blk
  subst hn
  refine ⟨_, xs.length, rfl, Nat.le_refl _, by simp only [maxLen]; omega, (fun e => by cases e), fun _ => ⟨g, 0, rfl, hk.lt, fun i hi => ?_⟩⟩
  obtain ⟨c0, c1, c2, c3⟩ := hc i hi
  refine ⟨?_, ?_, ?_, ?_, h.vals _ (List.getElem_mem hi)⟩
  · rw [hk.cell, Nat.zero_add]; exact c0
  · rw [hk.cell, Nat.zero_add]; exact c1
  · rw [hk.cell, Nat.zero_add]; exact c2
  · rw [hk.cell, Nat.zero_add]; exact c3
end
/-- Operations whose memory lies above B. -/
def OPn (B : Nat) (w : World) (v : Value) (ops : List OpA) : Prop := OPs w v ops ∧ (∀ A n c, v = .slice (some A) n c → B ≤ A.block) ∧ ∀ x ∈ ops, ∀ A n c, x.val = .slice (some A) n c → B ≤ A.block
end Go.Proofs.YtcbkmcagnmpifaaGreatDoor

end
