/- What the document's Ops reads, and when it reads a change; operations in a row that grows. -/
import Derived.Test.YtcbkmcagnmpifaaGreatDoorU41
import Derived.Test.YtcbkmcagnmpifaaGreatDoorU31
import Derived.Test.YtcbkmcagnmpifaaGreatDoorU37
namespace Go.Proofs.YtcbkmcagnmpifaaGreatDoor
open Go.RowKit
theorem takeS_true (n : Nat) (l : List UInt8) : takeS n l true = true := by
  unfold takeS
  split <;> rfl
theorem readOp_true (l : List UInt8) : (readOp l true).short = true := by
  unfold readOp
  simp only [takeS_true]
theorem rest_true : ∀ (n : Nat) (l : List UInt8), (restOps n l true).2 = true
  | 0, l => rfl
  | n + 1, l => by
    have h := readOp_true l
    show (restOps n (readOp l true).rest (readOp l true).short).2 = true
    rw [h]
    exact rest_true n _
theorem restOps_add : ∀ (k m : Nat) (l : List UInt8) (s : Bool), restOps (k + m) l s = restOps m (restOps k l s).1 (restOps k l s).2
  | 0, m, l, s => by
    rw [Nat.zero_add]
    rfl
  | k + 1, m, l, s => by
    rw [Nat.add_right_comm]
    show restOps (k + m) (readOp l s).rest (readOp l s).short = _
    exact restOps_add k m _ _
theorem readOp_nil : (readOp [] false).short = true := rfl
theorem doc_ends {b : List UInt8} {ys : List OpA} (h : opsOf b = some ys) : ∃ n, readOps n (b.drop 1) false = ys ∧ ∀ k r, restOps k (b.drop 1) false = (r, false) → (k = n ∧ r = []) ∨ (r ≠ [] ∧ (readOp r false).short = false) := by
  unfold opsOf at h
  split at h
  · cases h
  · rename_i hc
    have h1 : (restOps (numR (takeA 1 b)) (takeB 1 b) (takeS 1 b false)).2 = false := by
      cases e : (restOps (numR (takeA 1 b)) (takeB 1 b) (takeS 1 b false)).2 with
      | false => rfl
      | true => exact absurd (.inl e) hc
    have h2 : (restOps (numR (takeA 1 b)) (takeB 1 b) (takeS 1 b false)).1 = [] := by
      by_cases e : (restOps (numR (takeA 1 b)) (takeB 1 b) (takeS 1 b false)).1 = []
      · exact e
      · exact absurd (.inr (.inl e)) hc
    obtain ⟨h3, _⟩ := readOps_size _ _ _ h1
    obtain ⟨_, h4, _, h5⟩ := takeS_no h3
    rw [h3, h5] at h1 h2 h
    generalize numR (takeA 1 b) = n at h1 h2 h
    refine ⟨n, Option.some.inj h, fun k r hr => ?_⟩
    have hn : restOps n (b.drop 1) false = ([], false) := Prod.ext h2 h1
    rcases Nat.lt_trichotomy k n with hlt | rfl | hlt
    · right
      obtain ⟨j, rfl⟩ : ∃ j, n = k + (j + 1) := ⟨n - k - 1, by omega⟩
      rw [restOps_add, hr] at hn
      have hn' : restOps j (readOp r false).rest (readOp r false).short = ([], false) := hn
      have hs : (readOp r false).short = false := by
        cases e : (readOp r false).short with
        | false => rfl
        | true =>
          rw [e] at hn'
          have := rest_true j (readOp r false).rest
          rw [hn'] at this
          cases this
      refine ⟨fun e => ?_, hs⟩
      subst e
      rw [readOp_nil] at hs
      cases hs
    · left
      rw [hn] at hr
      exact ⟨rfl, (congrArg Prod.fst hr).symm⟩
    · exfalso
      obtain ⟨j, rfl⟩ : ∃ j, k = n + (j + 1) := ⟨k - n - 1, by omega⟩
      rw [restOps_add, hn] at hr
      have hr' : restOps j (readOp [] false).rest (readOp [] false).short = (r, false) := hr
      rw [readOp_nil] at hr'
      have := rest_true j (readOp [] false).rest
      rw [hr'] at this
      cases this
theorem doc_fail {b : List UInt8} {k : Nat} {r : List UInt8} (hr : restOps k (b.drop 1) false = (r, false)) (h0 : r ≠ []) (hs : (readOp r false).short = true) : opsOf b = none := by
  cases h : opsOf b with
  | none => rfl
  | some ys =>
    obtain ⟨n, _, hn⟩ := doc_ends h
    rcases hn k r hr with ⟨_, e⟩ | ⟨_, e⟩
    · exact absurd e h0
    · rw [hs] at e
      cases e
theorem doc_done {b : List UInt8} {k : Nat} {xs : List OpA} (hr : restOps k (b.drop 1) false = ([], false)) (hx : xs.map OpA.erase = readOps k (b.drop 1) false) : (opsOf b).isSome = (formB xs && decide (opsB xs = b)) := by
  cases h : opsOf b with
  | none =>
    cases hf : formB xs with
    | false => rfl
    | true =>
      have hne : opsB xs ≠ b := fun e => by
        have := opsOf_opsB xs hf
        rw [e, h] at this
        cases this
      rw [decide_eq_false hne]
      rfl
  | some ys =>
    obtain ⟨n, hy, hn⟩ := doc_ends h
    rcases hn k [] hr with ⟨rfl, _⟩ | ⟨e, _⟩
    · obtain ⟨e1, e2⟩ := opsOf_back h
      rw [← hy, ← hx] at e1 e2
      rw [opsB_erase] at e1
      rw [form_erase] at e2
      rw [e2, decide_eq_true e1]
      rfl
    · exact absurd rfl e
section
variable {b : List UInt8} {i n : Nat}
theorem tk (h : i + n ≤ b.length) : takeA n (b.drop i) = (b.drop i).take n ∧ takeB n (b.drop i) = b.drop (i + n) ∧ ∀ s, takeS n (b.drop i) s = s := by
  have hn : ¬ (b.drop i).length < n := by rw [List.length_drop]; omega
  exact ⟨if_neg hn, by rw [takeB, if_neg hn, List.drop_drop], fun s => if_neg hn⟩
theorem tk_short (h : b.length < i + n) (hi : i ≤ b.length) (s : Bool) : takeS n (b.drop i) s = true := if_pos (by rw [List.length_drop]; omega)
theorem one_num (h : i < b.length) : numR ((b.drop i).take 1) = b[i].toNat := by
  rw [List.drop_eq_getElem_cons h]
  show 0 * 256 + b[i].toNat = _
  omega
theorem four_num (h : i + 4 ≤ b.length) : numR ((b.drop i).take 4) = b[i].toNat * 16777216 + b[i + 1].toNat * 65536 + b[i + 2].toNat * 256 + b[i + 3].toNat := by
  rw [List.drop_eq_getElem_cons (show i < b.length by omega), List.drop_eq_getElem_cons (show i + 1 < b.length by omega), List.drop_eq_getElem_cons (show i + 1 + 1 < b.length by omega), List.drop_eq_getElem_cons (show i + 1 + 1 + 1 < b.length by omega)]
  show (((0 * 256 + b[i].toNat) * 256 + b[i + 1].toNat) * 256 + b[i + 2].toNat) * 256 + b[i + 3].toNat = _
  omega
end
section
variable {b : List UInt8} {p n : Nat}
theorem doc_short1 (h1 : p < b.length) (h : b.length < p + 2) : (readOp (b.drop p) false).short = true := by
  obtain ⟨_, t2, t3⟩ := tk (b := b) (i := p) (n := 1) (by omega)
  have := tk_short (b := b) (i := p + 1) (n := 1) (by omega) (by omega) false
  unfold readOp
  simp only [t2, t3, this, takeS_true]
theorem doc_short2 (h2 : p + 2 ≤ b.length) (hn : n = b[p + 1].toNat) (h : b.length < p + 10 + n) : (readOp (b.drop p) false).short = true := by
  obtain ⟨_, t2, t3⟩ := tk (b := b) (i := p) (n := 1) (by omega)
  obtain ⟨u1, u2, u3⟩ := tk (b := b) (i := p + 1) (n := 1) (by omega)
  have e1 := one_num (b := b) (i := p + 1) (by omega)
  rw [← u1, ← hn] at e1
  unfold readOp
  simp only [t2, t3, u2, u3, e1]
  by_cases c1 : b.length < p + 1 + 1 + n
  · rw [tk_short c1 (by omega)]
    simp only [takeS_true]
  · obtain ⟨_, v2, v3⟩ := tk (b := b) (i := p + 1 + 1) (n := n) (by omega)
    rw [v2, v3]
    by_cases c2 : b.length < p + 1 + 1 + n + 4
    · rw [tk_short c2 (by omega)]
      simp only [takeS_true]
    · obtain ⟨_, y2, y3⟩ := tk (b := b) (i := p + 1 + 1 + n) (n := 4) (by omega)
      rw [y2, y3, tk_short (by omega) (by omega)]
      simp only [takeS_true]
theorem doc_full (h2 : p + 2 ≤ b.length) (hn : n = b[p + 1].toNat) (h : p + 10 + n ≤ b.length) {m : Nat} (hm : m = numR ((b.drop (p + 6 + n)).take 4)) :
    readOp (b.drop p) false = ⟨b[p].toNat, (b.drop (p + 2)).take n, numR ((b.drop (p + 2 + n)).take 4), takeA m (b.drop (p + 10 + n)), takeB m (b.drop (p + 10 + n)), takeS m (b.drop (p + 10 + n)) false⟩ := by
  obtain ⟨t1, t2, t3⟩ := tk (b := b) (i := p) (n := 1) (by omega)
  obtain ⟨u1, u2, u3⟩ := tk (b := b) (i := p + 1) (n := 1) (by omega)
  have e0 := one_num (b := b) (i := p) (by omega)
  have e1 := one_num (b := b) (i := p + 1) (by omega)
  rw [← u1, ← hn] at e1
  rw [← t1] at e0
  obtain ⟨v1, v2, v3⟩ := tk (b := b) (i := p + 1 + 1) (n := n) (by omega)
  obtain ⟨y1, y2, y3⟩ := tk (b := b) (i := p + 1 + 1 + n) (n := 4) (by omega)
  obtain ⟨z1, z2, z3⟩ := tk (b := b) (i := p + 1 + 1 + n + 4) (n := 4) (by omega)
  have a1 : p + 1 + 1 + n + 4 = p + 6 + n := by omega
  have a2 : p + 1 + 1 + n + 4 + 4 = p + 10 + n := by omega
  unfold readOp
  simp only [t2, t3, u2, u3, e0, e1, v1, v2, v3, y1, y2, y3, z1, z2, z3]
  rw [a1, ← hm, show p + 6 + n + 4 = p + 10 + n by omega, show p + 1 + 1 + n = p + 2 + n by omega]
end
/-- The cells of operations, one behind the other. -/
def cellsL (xs : List OpA) : List Value := xs.flatMap fun x => x.cells.toList
theorem cellsL_length (xs : List OpA) : (cellsL xs).length = xs.length * 4 := by
  induction xs with
  | nil => rfl
  | cons x r ih =>
    rw [cellsL, List.flatMap_cons, List.length_append, List.length_cons]
    rw [cellsL] at ih
    rw [ih]
    show 4 + r.length * 4 = _
    omega
theorem cellsL_at : ∀ (xs : List OpA) (i : Nat) (hi : i < xs.length) (j : Nat), j < 4 → (cellsL xs)[i * 4 + j]? = xs[i].cells[j]?
  | x :: r, 0, _, j, hj => by
    rw [cellsL, List.flatMap_cons, Nat.zero_mul, Nat.zero_add, List.getElem?_append_left (show j < x.cells.toList.length from hj)]
    simp
  | x :: r, i + 1, hi, j, hj => by
    have ih := cellsL_at r i (by simpa using hi) j hj
    rw [cellsL, List.flatMap_cons, List.getElem?_append_right (show x.cells.toList.length ≤ _ by show 4 ≤ _; omega), show (i + 1) * 4 + j - x.cells.toList.length = i * 4 + j by show (i + 1) * 4 + j - 4 = _; omega]
    exact ih
structure OW (w wr : World) (v : Value) (xs : List OpA) (G : Option Nat) : Prop where
  row : Rw wr 4 v xs.length (cellsL xs) G
  low : ∀ g, G = some g → w.heap.size ≤ g
  apart : ∀ x ∈ xs, ∀ A m c, x.val = .slice (some A) m c → w.heap.size ≤ A.block ∧ A.block < wr.heap.size ∧ G ≠ some A.block
  vals : ∀ x ∈ xs, BR wr x.val x.bytes
section
variable {w wr w' : World} {v : Value} {xs : List OpA} {G : Option Nat}
theorem OW.below (h : OW w wr v xs G) (hb : Below wr.heap.size wr w') : OW w w' v xs G :=
  ⟨h.row.keep (S := fun _ => False) (Mvs.of_below hb) (fun _ _ c => c), h.low, fun x hx A m c e => by
    obtain ⟨h1, h2, h3⟩ := h.apart x hx A m c e
    exact ⟨h1, Nat.lt_of_lt_of_le h2 hb.size, h3⟩, fun x hx => (h.vals x hx).below hb⟩
theorem OW.snoc {v' : Value} {G' : Option Nat} (h : OW w wr v xs G) (x : OpA) (hr : Rw w' 4 v' (xs.length + 1) (cellsL xs ++ x.cells.toList) G') (hm : Mvs (fun k => some k = G) wr w') (hG : G' = G ∨ G' = some wr.heap.size)
    (hw : w.heap.size ≤ wr.heap.size) (hv : BR wr x.val x.bytes) (ha : ∀ A m c, x.val = .slice (some A) m c → w.heap.size ≤ A.block ∧ A.block < wr.heap.size ∧ G ≠ some A.block) : OW w w' v' (xs ++ [x]) G' := by
  have hap : ∀ y ∈ xs ++ [x], ∀ A m c, y.val = .slice (some A) m c → w.heap.size ≤ A.block ∧ A.block < wr.heap.size ∧ G ≠ some A.block := fun y hy => by
    rcases List.mem_append.1 hy with hy | hy
    · exact h.apart y hy
    · rw [List.mem_singleton.1 hy]
      exact ha
  refine ⟨?_, ?_, ?_, ?_⟩
  · rw [List.length_append, List.length_singleton]
    have : cellsL (xs ++ [x]) = cellsL xs ++ x.cells.toList := by
      unfold cellsL
      rw [List.flatMap_append]
      simp
    rw [this]
    exact hr
  · rintro g rfl
    rcases hG with e | e
    · exact h.low g e.symm
    · cases e
      exact hw
  · intro y hy A m c e
    obtain ⟨h1, h2, h3⟩ := hap y hy A m c e
    refine ⟨h1, Nat.lt_of_lt_of_le h2 hm.size, ?_⟩
    rcases hG with e | e
    · rw [e]
      exact h3
    · rw [e]
      intro e'
      have := Option.some.inj e'
      omega
  · intro y hy
    have hbr : BR wr y.val y.bytes := by
      rcases List.mem_append.1 hy with hy | hy
      · exact h.vals y hy
      · rw [List.mem_singleton.1 hy]
        exact hv
    exact AR.keep hbr hm (fun A m c e => fun hk => (hap y hy A m c e).2.2 hk.symm)
theorem OW.ops (h : OW w wr v xs G) : OPs wr v xs := by
  rcases h.row.2 with ⟨rfl, h0, _⟩ | ⟨g, o, cap, rfl, rfl, h1, h2, h3, h4, h5⟩
  · have : xs = [] := List.length_eq_zero_iff.1 h0
    subst this
    exact ⟨none, 0, rfl, Nat.le_refl _, Nat.zero_le _, fun _ => rfl, fun h => absurd rfl h⟩
  · refine ⟨_, cap, rfl, h1, h2, (fun e => by cases e), fun _ => ⟨g, o, rfl, h3, fun i hi => ?_⟩⟩
    have hc : ∀ j u, j < 4 → xs[i].cells[j]? = some u → wr.cell? ⟨g, o + i * 4 + j, none⟩ = some u := fun j u hj hu => by
      rw [Nat.add_assoc]
      exact h4 _ _ ((cellsL_at xs i hi j hj).trans hu)
    exact ⟨hc 0 _ (by decide) rfl, hc 1 _ (by decide) rfl, hc 2 _ (by decide) rfl, hc 3 _ (by decide) rfl, h.vals _ (List.getElem_mem hi)⟩
end
theorem OW.new (w : World) : OW w (w.alloc (.cells #[] 35)) (.slice (some ⟨w.heap.size, 0, none⟩) 0 0) [] (some w.heap.size) :=
  ⟨Rw.new (e := 35) [] [] (Blk.new w #[] 35) rfl rfl (Nat.le_refl _) (Nat.zero_le _), (fun g e => by cases e; exact Nat.le_refl _), (fun x hx => by cases hx), (fun x hx => by cases hx)⟩
theorem Bts.place {w wr : World} {v : Value} {bs : List UInt8} (h : Bts w wr v bs) : ∀ A m c, v = .slice (some A) m c → w.heap.size ≤ A.block ∧ A.block < wr.heap.size := by
  obtain ⟨_, G, hr, hg⟩ := h
  rintro A m c rfl
  rcases hr.2 with ⟨e, _⟩ | ⟨g, o, cap, rfl, e, _, _, h3, _⟩
  · cases e
  · cases e
    exact ⟨hg g rfl, h3⟩
theorem src_op {w : World} (kd at_ : Int) (nm : List UInt8) (A : Option Addr) (n k : Nat) {c : Nat} : Src Tryz.prog 4 22 (.slice (some ⟨w.heap.size, 0, none⟩) 1 c) 1 [.int .i64 kd, .string ⟨nm.toArray⟩, .int .i64 at_, .slice A n k] (w.alloc (.cells #[.int .i64 kd, .string ⟨nm.toArray⟩, .int .i64 at_, .slice A n k] 35)) := by
  refine Src.ofSlice _ Tryz.underlying22 ⟨w.heap.size, 0, none⟩ 1 c _ (by simp) (fun j u hu => ?_) (by simp [Value.oneCell'])
  rw [Go.WideShapes.add_plain, Nat.zero_add, World.cell?_alloc_mark]
  rw [← hu, ← List.getElem?_toArray]
end Go.Proofs.YtcbkmcagnmpifaaGreatDoor
