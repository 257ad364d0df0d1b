/- Lines as they are told, one after the other: of whatever pieces the bytes come in. -/
import Derived.Test.YtkcailfpanmhdaaDoorLAlive
namespace Go.Proofs.YtkcailfpanmhdaaDoor
open Go.RowKit
/-- A line: its text, and whether it is long. -/
abbrev Ln := List UInt8 × Bool
def lineP (p : List UInt8) : Ln := if 1000 < p.length then ([], true) else (trimCr p, false)
def lnV (x : Ln) : Value := .agg #[.string ⟨x.1.toArray⟩, .bool x.2]
theorem lineT_eq (p : List UInt8) : lineT p = lnV (lineP p) := by
  unfold lineT lnV lineP lineV
  split <;> rfl
/-- A line's two cells. -/
def lnC (x : Ln) : List Value := [.string ⟨x.1.toArray⟩, .bool x.2]
def lnCs (xs : List Ln) : List Value := xs.flatMap lnC
theorem lnCs_length (xs : List Ln) : (lnCs xs).length = xs.length * 2 := by
  induction xs with
  | nil => rfl
  | cons x xs ih =>
    show (lnC x ++ lnCs xs).length = _
    rw [List.length_append, ih, List.length_cons]
    simp [lnC]
    omega
theorem lnCs_append (xs ys : List Ln) : lnCs (xs ++ ys) = lnCs xs ++ lnCs ys := by simp [lnCs]
theorem lnCs_at0 : ∀ (xs : List Ln) (i : Nat) (h : i < xs.length), (lnCs xs)[i * 2]? = some (.string ⟨(xs[i]).1.toArray⟩)
  | x :: xs, 0, _ => rfl
  | x :: xs, i + 1, h => by
    show (lnC x ++ lnCs xs)[(i + 1) * 2]? = _
    rw [List.getElem?_append_right (by simp [lnC]; omega)]
    have := lnCs_at0 xs i (by simpa using h)
    simp only [lnC, List.length_cons, List.length_nil]
    rw [show (i + 1) * 2 - (0 + 1 + 1) = i * 2 by omega]
    exact this
theorem lnCs_at1 : ∀ (xs : List Ln) (i : Nat) (h : i < xs.length), (lnCs xs)[i * 2 + 1]? = some (.bool (xs[i]).2)
  | x :: xs, 0, _ => rfl
  | x :: xs, i + 1, h => by
    show (lnC x ++ lnCs xs)[(i + 1) * 2 + 1]? = _
    rw [List.getElem?_append_right (by simp [lnC]; omega)]
    have := lnCs_at1 xs i (by simpa using h)
    simp only [lnC, List.length_cons, List.length_nil]
    rw [show (i + 1) * 2 + 1 - (0 + 1 + 1) = i * 2 + 1 by omega]
    exact this

/-- Of the bytes l the lines xs were told, and r is held. -/
inductive Told : List UInt8 → List Ln → List UInt8 → Prop
  | nil (l : List UInt8) : Told l [] l
  | more {l p r r' : List UInt8} {xs : List Ln} (h : cut10 l = some (p, r)) (t : Told r xs r') : Told l (lineP p :: xs) r'
theorem cut10_append : ∀ {l p r : List UInt8} (x : List UInt8), cut10 l = some (p, r) → cut10 (l ++ x) = some (p, r ++ x)
  | [], _, _, _, h => by cases h
  | c :: l, p, r, x, h => by
    show cut10 (c :: (l ++ x)) = _
    unfold cut10 at h ⊢
    split at h
    · next hc =>
      cases h
      rw [if_pos hc]
    · next hc =>
      obtain ⟨⟨p', r'⟩, h1, h2⟩ := Option.map_eq_some_iff.1 h
      cases h2
      rw [if_neg hc, cut10_append x h1]
      rfl
theorem cut10_len : ∀ {l p r : List UInt8}, cut10 l = some (p, r) → r.length < l.length := by
  intro l p r h
  rw [(cut10_some h).1]
  simp
  omega
theorem Told.append {l r : List UInt8} {xs : List Ln} (h : Told l xs r) (x : List UInt8) : Told (l ++ x) xs (r ++ x) := by
  induction h with
  | nil l => exact .nil _
  | more h _ ih => exact .more (cut10_append x h) ih
theorem Told.snoc {l r p r2 : List UInt8} {xs : List Ln} (h : Told l xs r) (hc : cut10 r = some (p, r2)) : Told l (xs ++ [lineP p]) r2 := by
  induction h with
  | nil l => exact .more hc (.nil _)
  | more h _ ih => exact .more h (ih hc)
theorem Told.one {l r r' : List UInt8} {xs ys : List Ln} (h : Told l xs r) (hr : cut10 r = none) (k : Told l ys r') (hr' : cut10 r' = none) : xs = ys ∧ r = r' := by
  induction h generalizing ys r' with
  | nil l =>
    cases k with
    | nil => exact ⟨rfl, rfl⟩
    | more h _ => rw [hr] at h; cases h
  | more h _ ih =>
    cases k with
    | nil => rw [hr'] at h; cases h
    | more h2 k2 =>
      rw [h] at h2
      cases h2
      obtain ⟨rfl, rfl⟩ := ih hr k2 hr'
      exact ⟨rfl, rfl⟩
theorem Told.len {l r : List UInt8} {xs : List Ln} (h : Told l xs r) : xs.length + r.length ≤ l.length := by
  induction h with
  | nil l => simp
  | more h _ ih =>
    have := cut10_len h
    simp
    omega

/-- What a loop that asks a reader for lines and keeps them in a row holds to: the blocks St are as they were in w0; the reader in block b holds r; the row v holds xs. -/
structure LS (St : Nat → Prop) (w0 wr : World) (b : Nat) (G : Option Nat) (r : List UInt8) (v : Value) (xs : List Ln) (Gr : Option Nat) : Prop where
  rd : RD wr b G r 0
  row : Rw wr 2 v xs.length (lnCs xs) Gr
  rdSt : ∀ k, own b G k → ¬ St k
  rowSt : ∀ k, Gr = some k → ¬ St k ∧ ¬ own b G k
  mv : Mvs (fun k => ¬ St k) w0 wr
  stLt : ∀ k, St k → k < w0.heap.size
section
variable {St : Nat → Prop} {w0 wr w1 : World} {b : Nat} {G Gr : Option Nat} {r : List UInt8} {v : Value} {xs : List Ln}
theorem LS.alloc (h : LS St w0 wr b G r v xs Gr) (o : Obj) : LS St w0 (wr.alloc o) b G r v xs Gr :=
  ⟨h.rd.keep (S := fun _ => False) ((Mvs.refl _ _).alloc _) (fun _ _ c => c), h.row.keep (S := fun _ => False) ((Mvs.refl _ _).alloc _) (fun _ _ c => c), h.rdSt, h.rowSt, h.mv.alloc o, h.stLt⟩
theorem LS.lined {r' : List UInt8} (h : LS St w0 wr b G r v xs Gr) (hl : Lined wr w1 b G r' 0) : ∃ G', LS St w0 w1 b G' r' v xs Gr := by
  obtain ⟨G', hk, hm, hg⟩ := hl
  refine ⟨G', hk, h.row.keep hm (fun g hg e => (h.rowSt g hg).2 (.inl e)), fun k hk => h.rdSt k (own_sub hg hk), fun k hk => ⟨(h.rowSt k hk).1, fun c => (h.rowSt k hk).2 (own_sub hg c)⟩, ?_, h.stLt⟩
  exact h.mv.trans' hm (fun k hk e => by subst e; exact h.rdSt _ (.inl rfl))
theorem LS.grown {x : Ln} {v1 : Value} {G1 : Option Nat} (h : LS St w0 wr b G r v xs Gr) (hr : Rw w1 2 v1 (xs.length + 1) (lnCs xs ++ lnC x) G1) (hm : Mvs (fun k => some k = Gr) wr w1) (hG : G1 = Gr ∨ G1 = some wr.heap.size) :
    LS St w0 w1 b G r v1 (xs ++ [x]) G1 := by
  have hno : ∀ k, own b G k → some k ≠ Gr := fun k hk e => (h.rowSt k e.symm).2 hk
  refine ⟨h.rd.keep hm hno, ?_, h.rdSt, fun k hk => ?_, ?_, h.stLt⟩
  · rw [List.length_append, lnCs_append]
    simpa [lnCs] using hr
  · rcases hG with rfl | rfl
    · exact h.rowSt k hk
    · cases hk
      refine ⟨fun c => ?_, fun c => ?_⟩
      · have := h.stLt _ c
        have := h.mv.size
        omega
      · have := h.rd.lt _ c
        omega
  · exact h.mv.trans' hm (fun k _ e => (h.rowSt k e.symm).1)
end
theorem lnInfo : (Tryd.prog.info? 36).map (fun i => (i.zero, i.size, i.bytes)) = some (some (.agg #[.string ⟨#[]⟩, .bool false]), 2, 24) := by kernel_rfl
theorem src_line {w : World} (x : Ln) {c : Nat} : Src Tryd.prog 2 49 (.slice (some ⟨w.heap.size, 0, none⟩) 1 c) 1 (lnC x) (w.alloc (.cells #[.string ⟨x.1.toArray⟩, .bool x.2] 36)) := by
  refine Src.ofSlice _ Tryd.underlying49 ⟨w.heap.size, 0, none⟩ 1 c (lnC x) rfl (fun j u hu => ?_) (fun u hu => ?_)
  · rw [Go.WideShapes.add_plain, Nat.zero_add, (Blk.new w _ _).cell]
    rw [← hu]
    unfold lnC
    rw [← List.getElem?_toArray]
  · simp [lnC] at hu
    rcases hu with rfl | rfl <;> rfl
theorem src_line1 {w : World} {o : Obj} (x : Ln) {c : Nat} : Src Tryd.prog 2 49 (.slice (some ⟨w.heap.size + 1, 0, none⟩) 1 c) 1 (lnC x) ((w.alloc o).alloc (.cells #[.string ⟨x.1.toArray⟩, .bool x.2] 36)) := by
  have := src_line (w := w.alloc o) x (c := c)
  rw [World.size_alloc] at this
  exact this
end Go.Proofs.YtkcailfpanmhdaaDoor
