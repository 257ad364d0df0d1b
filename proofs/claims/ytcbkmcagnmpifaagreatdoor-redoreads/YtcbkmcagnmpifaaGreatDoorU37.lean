/- A change's bytes are read as it was written, and what is read is written as it was. -/
/- The numbers of a disk's state, step by step. -/
import Derived.Test.YtcbkmcagnmpifaaGreatDoorU28
import Derived.Test.YtcbkmcagnmpifaaGreatDoorU36
section
namespace Go.Proofs.YtcbkmcagnmpifaaGreatDoor
open Go.RowKit
theorem take_app {n : Nat} {l r : List UInt8} (h : l.length = n) : takeA n (l ++ r) = l ∧ takeB n (l ++ r) = r ∧ ∀ s, takeS n (l ++ r) s = s := by
  subst h
  have hn : ¬ (l ++ r).length < l.length := by rw [List.length_append]; omega
  refine ⟨?_, ?_, fun s => if_neg hn⟩
  · rw [takeA, if_neg hn, List.take_left']
    rfl
  · rw [takeB, if_neg hn, List.drop_left']
    rfl
theorem numR_one (k : Nat) (h : k < 256) : numR [UInt8.ofNat k] = k := by
  show 0 * 256 + (UInt8.ofNat k).toNat = k
  rw [UInt8.toNat_ofNat']
  omega
theorem numR_four (n : Nat) (h : n < 4294967296) : numR (fourB n) = n := by
  show (((0 * 256 + (UInt8.ofNat (n / 16777216)).toNat) * 256 + (UInt8.ofNat (n / 65536)).toNat) * 256 + (UInt8.ofNat (n / 256)).toNat) * 256 + (UInt8.ofNat n).toNat = n
  rw [UInt8.toNat_ofNat', UInt8.toNat_ofNat', UInt8.toNat_ofNat', UInt8.toNat_ofNat']
  omega
theorem readOp_opB (x : OpA) (hf : opForm x = true) (hb : x.bytes.length < 4294967296) (r : List UInt8) (s : Bool) : readOp (opB x ++ r) s = ⟨x.kind.toNat, x.name, x.at_.toNat, x.bytes, r, s⟩ := by
  obtain ⟨o1, o2, o3, o4, o5⟩ := opForm_parts hf
  have e1 : opB x ++ r = [UInt8.ofNat x.kind.toNat] ++ ([UInt8.ofNat x.name.length] ++ (x.name ++ (fourB x.at_.toNat ++ (fourB x.bytes.length ++ (x.bytes ++ r))))) := by
    unfold opB
    simp
  obtain ⟨a1, b1, c1⟩ := take_app (n := 1) (l := [UInt8.ofNat x.kind.toNat]) (r := [UInt8.ofNat x.name.length] ++ (x.name ++ (fourB x.at_.toNat ++ (fourB x.bytes.length ++ (x.bytes ++ r))))) rfl
  obtain ⟨a2, b2, c2⟩ := take_app (n := 1) (l := [UInt8.ofNat x.name.length]) (r := x.name ++ (fourB x.at_.toNat ++ (fourB x.bytes.length ++ (x.bytes ++ r)))) rfl
  obtain ⟨a3, b3, c3⟩ := take_app (n := x.name.length) (l := x.name) (r := fourB x.at_.toNat ++ (fourB x.bytes.length ++ (x.bytes ++ r))) rfl
  obtain ⟨a4, b4, c4⟩ := take_app (n := 4) (l := fourB x.at_.toNat) (r := fourB x.bytes.length ++ (x.bytes ++ r)) rfl
  obtain ⟨a5, b5, c5⟩ := take_app (n := 4) (l := fourB x.bytes.length) (r := x.bytes ++ r) rfl
  obtain ⟨a6, b6, c6⟩ := take_app (n := x.bytes.length) (l := x.bytes) (r := r) rfl
  rw [e1]
  unfold readOp
  simp only
  rw [a1, b1, c1, a2, b2, c2, numR_one _ (show x.kind.toNat < 256 by omega), numR_one _ (show x.name.length < 256 by omega), a3, b3, c3, a4, b4, c4, numR_four _ (by omega), a5, b5, c5, numR_four _ hb, a6, b6, c6]
theorem bare_opB (x : OpA) (hf : opForm x = true) (r : List UInt8) (s : Bool) : (⟨x.kind.toNat, x.name, x.at_.toNat, x.bytes, r, s⟩ : Rdd).bare = x.erase := by
  obtain ⟨o1, o2, o3, o4, o5⟩ := opForm_parts hf
  unfold Rdd.bare OpA.erase
  simp only [OpA.mk.injEq]
  exact ⟨by omega, trivial, by omega, trivial, trivial⟩
theorem readOps_flat : ∀ (ops : List OpA), (∀ x ∈ ops, opForm x = true ∧ x.bytes.length < 4294967296) → ∀ (r : List UInt8) (s : Bool), readOps ops.length (ops.flatMap opB ++ r) s = ops.map OpA.erase ∧ restOps ops.length (ops.flatMap opB ++ r) s = (r, s)
  | [], _, r, s => ⟨rfl, rfl⟩
  | x :: ops, h, r, s => by
    obtain ⟨h1, h2⟩ := h x (by simp)
    obtain ⟨i1, i2⟩ := readOps_flat ops (fun y hy => h y (by simp [hy])) r s
    have e : (x :: ops).flatMap opB ++ r = opB x ++ (ops.flatMap opB ++ r) := by simp
    have hr := readOp_opB x h1 h2 (ops.flatMap opB ++ r) s
    rw [e, List.length_cons, readOps, restOps, hr, bare_opB x h1, List.map_cons]
    simp only
    rw [i1, i2]
    exact ⟨rfl, rfl⟩
theorem opsOf_opsB (ops : List OpA) (hf : formB ops = true) : opsOf (opsB ops) = some (ops.map OpA.erase) := by
  obtain ⟨h1, h16, hgood, hsz⟩ := form_parts hf
  obtain ⟨a1, b1, c1⟩ := take_app (n := 1) (l := [UInt8.ofNat ops.length]) (r := ops.flatMap opB) rfl
  have hall : ∀ x ∈ ops, opForm x = true ∧ x.bytes.length < 4294967296 := fun x hx => ⟨good_all ops [] hgood x hx, by
    obtain ⟨i, hi, rfl⟩ := List.getElem_of_mem hx
    have := sizeOps_at ops i hi
    unfold opSize at this
    omega⟩
  obtain ⟨i1, i2⟩ := readOps_flat ops hall [] false
  rw [List.append_nil] at i1 i2
  unfold opsOf opsB
  rw [a1, b1, c1, numR_one _ (by omega), i1, i2, form_erase, hf, if_neg (by simp)]
/-- The other way round. -/
theorem four_numR : ∀ (l : List UInt8), l.length = 4 → fourB (numR l) = l
  | [a, b, c, d], _ => by
    have ha := UInt8.toNat_lt a
    have hb := UInt8.toNat_lt b
    have hc := UInt8.toNat_lt c
    have hd := UInt8.toNat_lt d
    have e : numR [a, b, c, d] = ((a.toNat * 256 + b.toNat) * 256 + c.toNat) * 256 + d.toNat := by
      show (((0 * 256 + a.toNat) * 256 + b.toNat) * 256 + c.toNat) * 256 + d.toNat = _
      omega
    unfold fourB
    rw [e]
    have z : ∀ (m : Nat) (x : UInt8), m % 256 = x.toNat → UInt8.ofNat m = x := fun m x h => by
      apply UInt8.toNat_inj.1
      rw [UInt8.toNat_ofNat']
      omega
    rw [z _ a (by omega), z _ b (by omega), z _ c (by omega), z _ d (by omega)]
theorem one_numR : ∀ (l : List UInt8), l.length = 1 → [UInt8.ofNat (numR l)] = l
  | [a], _ => by
    have e : numR [a] = a.toNat := by
      show 0 * 256 + a.toNat = _
      omega
    rw [e]
    congr 1
    exact UInt8.ofNat_toNat
theorem readOp_back {l : List UInt8} {s : Bool} (h : (readOp l s).short = false) : opB (readOp l s).bare ++ (readOp l s).rest = l := by
  unfold readOp at h ⊢
  simp only at h ⊢
  obtain ⟨h6, k6, a6, b6⟩ := takeS_no h
  obtain ⟨h5, k5, a5, b5⟩ := takeS_no h6
  obtain ⟨h4, k4, a4, b4⟩ := takeS_no h5
  obtain ⟨h3, k3, a3, b3⟩ := takeS_no h4
  obtain ⟨h2, k2, a2, b2⟩ := takeS_no h3
  obtain ⟨h1, k1, a1, b1⟩ := takeS_no h2
  have f : ∀ {n : Nat} {l : List UInt8}, n ≤ l.length → takeA n l = l.take n → takeB n l = l.drop n → takeA n l ++ takeB n l = l ∧ (takeA n l).length = n := fun hk ha hb => by
    rw [ha, hb]
    exact ⟨List.take_append_drop _ _, by rw [List.length_take]; omega⟩
  obtain ⟨e1, m1⟩ := f k1 a1 b1
  obtain ⟨e2, m2⟩ := f k2 a2 b2
  obtain ⟨e3, m3⟩ := f k3 a3 b3
  obtain ⟨e4, m4⟩ := f k4 a4 b4
  obtain ⟨e5, m5⟩ := f k5 a5 b5
  obtain ⟨e6, m6⟩ := f k6 a6 b6
  unfold opB Rdd.bare
  simp only [Int.toNat_natCast]
  have g1 := one_numR _ m1
  have g2 := one_numR _ m2
  have g4 := four_numR _ m4
  have g5 := four_numR _ m5
  rw [m3, m6, g4, g5]
  have t : ∀ (a b : UInt8) (x y z u v : List UInt8), [a, b] ++ x ++ y ++ z ++ u ++ v = [a] ++ ([b] ++ (x ++ (y ++ (z ++ (u ++ v))))) := fun a b x y z u v => by simp
  rw [t, g1, g2, e6, e5, e4, e3, e2, e1]
theorem readOps_back : ∀ (n : Nat) (l : List UInt8) (s : Bool), (restOps n l s).2 = false → (readOps n l s).flatMap opB ++ (restOps n l s).1 = l
  | 0, l, s, _ => rfl
  | n + 1, l, s, h => by
    have h' : (restOps n (readOp l s).rest (readOp l s).short).2 = false := h
    have ih := readOps_back n _ _ h'
    have hs := (readOps_size n _ _ h').1
    rw [readOps, restOps, List.flatMap_cons, List.append_assoc, ih]
    exact readOp_back hs
theorem readOps_length : ∀ (n : Nat) (l : List UInt8) (s : Bool), (readOps n l s).length = n
  | 0, _, _ => rfl
  | n + 1, l, s => by rw [readOps, List.length_cons, readOps_length n]
theorem opsOf_back {b : List UInt8} {ys : List OpA} (h : opsOf b = some ys) : opsB ys = b ∧ formB ys = true := by
  unfold opsOf at h
  split at h
  · cases h
  · rename_i hn
    have h1 : (restOps (numR (takeA 1 b)) (takeB 1 b) (takeS 1 b false)).2 = false := by
      cases hb : (restOps (numR (takeA 1 b)) (takeB 1 b) (takeS 1 b false)).2 with
      | false => rfl
      | true => exact absurd (.inl hb) hn
    have h2 : (restOps (numR (takeA 1 b)) (takeB 1 b) (takeS 1 b false)).1 = [] := by
      by_cases hb : (restOps (numR (takeA 1 b)) (takeB 1 b) (takeS 1 b false)).1 = []
      · exact hb
      · exact absurd (.inr (.inl hb)) hn
    have h3 : formB (readOps (numR (takeA 1 b)) (takeB 1 b) (takeS 1 b false)) = true := by
      cases hb : formB (readOps (numR (takeA 1 b)) (takeB 1 b) (takeS 1 b false)) with
      | true => rfl
      | false => exact absurd (.inr (.inr hb)) hn
    have hk := readOps_back _ _ _ h1
    rw [h2, List.append_nil] at hk
    obtain ⟨_, k1, a1, b1⟩ := takeS_no (readOps_size _ _ _ h1).1
    simp only [Option.some.injEq] at h
    subst h
    refine ⟨?_, h3⟩
    unfold opsB
    rw [readOps_length, hk, one_numR _ (by rw [a1, List.length_take]; omega), a1, b1]
    exact List.take_append_drop _ _
theorem whole_rec (b : List UInt8) (h : b.length ≤ 400000) : wholeN (recB b) = some b.length := by
  have hl := recB_length b
  have e1 : numN (recB b) = b.length := by
    unfold recB
    rw [List.append_assoc]
    exact numN_four _ (by omega) _
  have e2 : (recB b).drop 4 = fourB (sumN 1 b) ++ b := by
    unfold recB
    rw [List.append_assoc]
    exact List.drop_left' (fourB_length _)
  have e3 : (recB b).drop 8 = b := by
    unfold recB
    exact List.drop_left' (by rw [List.length_append, fourB_length, fourB_length])
  unfold wholeN
  rw [if_neg (by omega), e1, e2, e3, List.take_of_length_le (Nat.le_refl _), numN_four _ (sumN_lt 1 b), if_pos ⟨h, by omega, rfl⟩]
theorem rec_payload (b : List UInt8) : ((recB b).drop 8).take b.length = b := by
  have e3 : (recB b).drop 8 = b := by
    unfold recB
    exact List.drop_left' (by rw [List.length_append, fourB_length, fourB_length])
  rw [e3, List.take_of_length_le (Nat.le_refl _)]
end Go.Proofs.YtcbkmcagnmpifaaGreatDoor

end
section
namespace Go.Proofs.YtcbkmcagnmpifaaGreatDoor
open Go.RowKit Go.Maps Go.Sort
structure Sm (s : St) (D Ds ch : DataW Unit) (ns : Nat) (cr op st ar : Int) (off : Bool) (q : Int) (N : Nat) : Prop where
  D : s.D = D
  Ds : s.Ds = Ds
  ch : s.ch = ch
  ns : s.ns = ns
  ls : s.ls = []
  cr : s.created = cr
  op : s.opened = op
  st : s.steps = st
  ar : s.armed = ar
  off : s.off = off
  q : s.quota = q
  N : s.N = N
section
variable {s : St} {D Ds ch : DataW Unit} {ns : Nat} {cr op st ar : Int} {off : Bool} {q : Int} {N : Nat}
theorem Sm.empty (q : Int) : Sm (emptySt q) (.map []) (.map []) (.map []) 0 0 0 0 (-1) false q 0 := ⟨rfl, rfl, rfl, rfl, rfl, rfl, rfl, rfl, rfl, rfl, rfl, rfl⟩
theorem Sm.madeG (h : Sm s D Ds ch ns cr op st ar off q N) (name : List UInt8) (f : Nat) : Sm (s.madeG name f) (D.put (.string name) (pd f)) Ds ch (ns + 1) (cr + 1) (op + 1) (st + 1) (dec ar) off q (N + 1) := by
  obtain ⟨rfl, rfl, rfl, rfl, h1, rfl, rfl, rfl, rfl, rfl, rfl, rfl⟩ := h
  exact ⟨rfl, rfl, rfl, rfl, h1, rfl, rfl, rfl, rfl, rfl, rfl, rfl⟩
theorem Sm.putG (h : Sm s D Ds ch ns cr op st ar off q N) (b : Nat) (fa : FA) (news : List UInt8) : Sm (s.putG b fa news) D Ds (ch.put (.int .i64 fa.num) (pd b)) ns cr (op + 1) (st + 1) (dec ar) off q (N + 1) := by
  obtain ⟨rfl, rfl, rfl, rfl, h1, rfl, rfl, rfl, rfl, rfl, rfl, rfl⟩ := h
  exact ⟨rfl, rfl, rfl, rfl, h1, rfl, rfl, rfl, rfl, rfl, rfl, rfl⟩
theorem Sm.cutG (h : Sm s D Ds ch ns cr op st ar off q N) (b : Nat) (fa : FA) : Sm (s.cutG b fa) D Ds (ch.put (.int .i64 fa.num) (pd b)) ns cr (op + 1) (st + 1) (dec ar) off q (N + 1) := by
  obtain ⟨rfl, rfl, rfl, rfl, h1, rfl, rfl, rfl, rfl, rfl, rfl, rfl⟩ := h
  exact ⟨rfl, rfl, rfl, rfl, h1, rfl, rfl, rfl, rfl, rfl, rfl, rfl⟩
theorem Sm.syncd (h : Sm s D Ds ch ns cr op st ar off q N) (b : Nat) (fa : FA) : Sm (s.syncd b fa) D Ds (ch.del (.int .i64 fa.num)) ns cr (op - fa.opn.length) (st + 1) (dec ar) off q (N + 1) := by
  obtain ⟨rfl, rfl, rfl, rfl, h1, rfl, rfl, rfl, rfl, rfl, rfl, rfl⟩ := h
  exact ⟨rfl, rfl, rfl, rfl, h1, rfl, rfl, rfl, rfl, rfl, rfl, rfl⟩
theorem Sm.syncedG (h : Sm s D Ds ch ns cr op st ar off q N) : Sm s.syncedG D D ch 0 cr (op - ns) (st + 1) (dec ar) off q N := by
  obtain ⟨rfl, rfl, rfl, rfl, h1, rfl, rfl, rfl, rfl, rfl, rfl, rfl⟩ := h
  exact ⟨rfl, rfl, rfl, rfl, h1, rfl, rfl, rfl, rfl, rfl, rfl, rfl⟩
theorem Sm.gone (h : Sm s D Ds ch ns cr op st ar off q N) : Sm s.gone D Ds ch ns cr op st ar true q N := by
  obtain ⟨rfl, rfl, rfl, rfl, h1, rfl, rfl, rfl, rfl, rfl, rfl, rfl⟩ := h
  exact ⟨rfl, rfl, rfl, rfl, h1, rfl, rfl, rfl, rfl, rfl, rfl, rfl⟩
theorem Sm.arm (h : Sm s D Ds ch ns cr op st ar off q N) (n : Int) : Sm { s with armed := n } D Ds ch ns cr op st n off q N := by
  obtain ⟨rfl, rfl, rfl, rfl, h1, rfl, rfl, rfl, rfl, rfl, rfl, rfl⟩ := h
  exact ⟨rfl, rfl, rfl, rfl, h1, rfl, rfl, rfl, rfl, rfl, rfl, rfl⟩
theorem Sm.quota (h : Sm s D Ds ch ns cr op st ar off q N) (n : Int) : Sm { s with quota := n } D Ds ch ns cr op st ar off n N := by
  obtain ⟨rfl, rfl, rfl, rfl, h1, rfl, rfl, rfl, rfl, rfl, rfl, rfl⟩ := h
  exact ⟨rfl, rfl, rfl, rfl, h1, rfl, rfl, rfl, rfl, rfl, rfl, rfl⟩
theorem Sm.crashed (h : Sm s D Ds ch ns cr op st ar off q N) (b : Nat) (fa : FA) : Sm (s.crashed b fa) Ds Ds (.map []) 0 cr 0 st (-1) false q N := by
  obtain ⟨rfl, rfl, rfl, rfl, h1, rfl, rfl, rfl, rfl, rfl, rfl, rfl⟩ := h
  exact ⟨rfl, rfl, rfl, rfl, rfl, rfl, rfl, rfl, rfl, rfl, rfl, rfl⟩
theorem Sm.small (h : Sm s D Ds ch ns cr op st ar false q N) (h1 : ar ≠ 0) (h2 : ar ≤ 1000000000) (h3 : 0 ≤ st) (h4 : st ≤ 1000000) (h5 : 0 ≤ op) (h6 : op ≤ 1000000) (h7 : N ≤ 100000) (h8 : 0 ≤ q) (h9 : q ≤ 1073741824) (hu : usedOf s ≤ 1000000) : s.SmallG where
  armed := by rw [h.ar]; exact h1
  armed1 := by rw [h.ar]; exact h2
  s0 := by rw [h.st]; exact h3
  s1 := by rw [h.st]; exact h4
  o0 := by rw [h.op]; exact h5
  o1 := by rw [h.op]; exact h6
  n := by rw [h.N]; exact h7
  off := h.off
  q0 := by rw [h.q]; exact h8
  q1 := by rw [h.q]; exact h9
  u := hu
theorem Sm.used (h : Sm s D Ds ch ns cr op st ar off q N) : usedOf s = sumD (lenD s.φ) D := by rw [usedOf, h.D]
end
theorem rightRedo : rightB redoN = true := by decide
theorem rightBb : rightB [98] = true := by decide
/-- Files by their blocks. -/
def files1 (f0 : Nat) : DataW Unit := .map [(.string redoN, pd f0)]
def files2 (f0 f1 : Nat) : DataW Unit := .map [(.string [97], pd f1), (.string redoN, pd f0)]
def files3 (f0 f1 f2 : Nat) : DataW Unit := .map [(.string [97], pd f1), (.string [98], pd f2), (.string redoN, pd f0)]
theorem files1_put (f0 : Nat) : (DataW.map [] : DataW Unit).put (.string redoN) (pd f0) = files1 f0 := rfl
theorem files2_put (f0 f1 : Nat) : (files1 f0).put (.string [97]) (pd f1) = files2 f0 f1 := rfl
theorem files3_put (f0 f1 f2 : Nat) : (files2 f0 f1).put (.string [98]) (pd f2) = files3 f0 f1 f2 := rfl
theorem files1_redo (f0 : Nat) : (files1 f0).atKey (.string redoN) .nil = pd f0 := rfl
theorem files1_a (f0 : Nat) : (files1 f0).atKey (.string [97]) .nil = .nil := rfl
theorem files2_a (f0 f1 : Nat) : (files2 f0 f1).atKey (.string [97]) .nil = pd f1 := rfl
theorem files2_b (f0 f1 : Nat) : (files2 f0 f1).atKey (.string [98]) .nil = .nil := rfl
theorem files3_b (f0 f1 f2 : Nat) : (files3 f0 f1 f2).atKey (.string [98]) .nil = pd f2 := rfl
theorem files3_a (f0 f1 f2 : Nat) : (files3 f0 f1 f2).atKey (.string [97]) .nil = pd f1 := rfl
theorem files3_redo (f0 f1 f2 : Nat) : (files3 f0 f1 f2).atKey (.string redoN) .nil = pd f0 := rfl
theorem files1_sum {φ : Nat → Option FA} {f0 : Nat} {a0 : FA} (h0 : φ f0 = some a0) : sumD (lenD φ) (files1 f0) = a0.bytes.length := by
  show lenD φ (pd f0) + 0 = _
  rw [lenD_pd h0, Nat.add_zero]
theorem files2_sum {φ : Nat → Option FA} {f0 f1 : Nat} {a0 a1 : FA} (h0 : φ f0 = some a0) (h1 : φ f1 = some a1) : sumD (lenD φ) (files2 f0 f1) = a0.bytes.length + a1.bytes.length := by
  show lenD φ (pd f1) + (lenD φ (pd f0) + 0) = _
  rw [lenD_pd h0, lenD_pd h1]
  omega
theorem files3_sum {φ : Nat → Option FA} {f0 f1 f2 : Nat} {a0 a1 a2 : FA} (h0 : φ f0 = some a0) (h1 : φ f1 = some a1) (h2 : φ f2 = some a2) : sumD (lenD φ) (files3 f0 f1 f2) = a0.bytes.length + (a1.bytes.length + a2.bytes.length) := by
  show lenD φ (pd f1) + (lenD φ (pd f2) + (lenD φ (pd f0) + 0)) = _
  rw [lenD_pd h0, lenD_pd h1, lenD_pd h2]
  omega
theorem ch_put (n : Int) (f : Nat) : (DataW.map [] : DataW Unit).put (.int .i64 n) (pd f) = .map [(.int .i64 n, pd f)] := rfl
theorem ch_del0 (f : Nat) : (DataW.map [(.int .i64 0, pd f)] : DataW Unit).del (.int .i64 0) = .map [] := rfl
theorem ch_del1 (f : Nat) : (DataW.map [(.int .i64 1, pd f)] : DataW Unit).del (.int .i64 1) = .map [] := rfl
theorem ch_del2 (f : Nat) : (DataW.map [(.int .i64 2, pd f)] : DataW Unit).del (.int .i64 2) = .map [] := rfl
/-- The block of a file is one of the disk's: it lies in the world. -/
theorem DK.flt {w0 w : World} {d : Nat} {ρ : Nat → Option Role} {s : St} (h : DK w0 w d ρ s) {b : Nat} {fa : FA} (hφ : s.φ b = some fa) : b < w.heap.size := by
  obtain ⟨bn, bs, bc, vs, vl, Gs, Gl, cs, h⟩ := h
  obtain ⟨_, _, _, _, _, hF⟩ := h.files b fa hφ
  exact hF.blk.lt
end Go.Proofs.YtcbkmcagnmpifaaGreatDoor

end
