/- Rows of rows of bytes; Records. -/
import Derived.Test.YtblopcpiapenpaaCT
import Derived.Test.YtblopcpiapenpaaCO
namespace Go.Proofs.Ytblopcpiapenpaa
open Go.RowKit
theorem rowInfo : (Try.prog.info? 23).map (fun i => (i.zero, i.size, i.bytes)) = some (some (.slice none 0 0), 1, 24) := by kernel_rfl
def lenOf : Value → Nat | .slice _ n _ => n | _ => 0
/-- The slice u lies beneath B, and not in block G. -/
def Off (B : Nat) (G : Option Nat) (u : Value) : Prop := ∀ A n c, u = .slice (some A) n c → A.block < B ∧ some A.block ≠ G
/-- A row of this call's own, of slices that read as ds. -/
structure GLs (w wr : World) (v : Value) (ds : List (List UInt8)) (G : Option Nat) (vs : List Value) : Prop where
  below : Below w.heap.size w wr
  len : vs.length = ds.length
  row : Rw wr 1 v ds.length vs G
  own : ∀ g, G = some g → w.heap.size ≤ g
  reads : ∀ i (h1 : i < vs.length) (h2 : i < ds.length), BR wr vs[i] ds[i]
  off : ∀ u ∈ vs, Off wr.heap.size G u
  one : ∀ u ∈ vs, u.oneCell' = true
def GL (w wr : World) (v : Value) (ds : List (List UInt8)) : Prop := ∃ G vs, GLs w wr v ds G vs
section
variable {w wr w1 : World} {v : Value} {ds : List (List UInt8)} {G : Option Nat} {vs : List Value}
theorem GLs.then (h : GLs w wr v ds G vs) (hb : Below wr.heap.size wr w1) : GLs w w1 v ds G vs :=
  ⟨h.below.trans (hb.mono h.below.size), h.len, h.row.keep (S := fun _ => False) (Mvs.of_below hb) (fun _ _ c => c), h.own, fun i h1 h2 => (h.reads i h1 h2).below hb, fun u hu A n c e => ⟨Nat.lt_of_lt_of_le (h.off u hu A n c e).1 hb.size, (h.off u hu A n c e).2⟩, h.one⟩
theorem GL.below (h : GL w wr v ds) : Below w.heap.size w wr := by
  obtain ⟨G, vs, h⟩ := h
  exact h.below
theorem GL.nil (w : World) : GL w w (.slice none 0 0) [] := ⟨none, [], Below.refl _ _, rfl, Rw.nil _ _, (fun _ h => by cases h), (fun i h => by simp at h), (fun _ h => by cases h), (fun _ h => by cases h)⟩
theorem BR.one {bs : List UInt8} (h : BR w v bs) : v.oneCell' = true := by
  obtain ⟨A, c, rfl, _⟩ := BR.form h
  rfl
/-- One more. -/
theorem GLs.grow {u v1 : Value} {d : List UInt8} {G1 : Option Nat} (h : GLs w wr v ds G vs) (hu : BR wr u d) (ho : Off wr.heap.size G u) (hr : Rw w1 1 v1 (ds.length + 1) (vs ++ [u]) G1) (hm : Mvs (fun k => some k = G) wr w1) (hG : G1 = G ∨ G1 = some wr.heap.size) : GL w w1 v1 (ds ++ [d]) := by
  have hkeep : ∀ (x : Value) (bs : List UInt8), BR wr x bs → Off wr.heap.size G x → BR w1 x bs := fun x bs hx hox => AR.keep hx hm (fun A n c e => (hox A n c e).2)
  have hoff : ∀ x, Off wr.heap.size G x → Off w1.heap.size G1 x := fun x hox A n c e => ⟨Nat.lt_of_lt_of_le (hox A n c e).1 hm.size, by
    rcases hG with rfl | rfl
    · exact (hox A n c e).2
    · intro hh
      have hh := Option.some.inj hh
      have := (hox A n c e).1
      omega⟩
  refine ⟨G1, vs ++ [u], below_mvs h.below hm (fun k hk e => by have := h.own k e.symm; omega) (Nat.le_refl _), by simp [h.len], by rw [List.length_append]; exact hr, ?_, fun i h1 h2 => ?_, fun x hx => ?_, fun x hx => ?_⟩
  · rintro g rfl
    rcases hG with hh | hh
    · exact h.own g hh.symm
    · cases hh
      exact h.below.size
  · by_cases hlt : i < vs.length
    · rw [List.getElem_append_left hlt, List.getElem_append_left (by rw [← h.len]; exact hlt)]
      exact hkeep _ _ (h.reads i hlt (by rw [← h.len]; exact hlt)) (h.off _ (List.getElem_mem hlt))
    · have hi : i = vs.length := by simp at h1; omega
      subst hi
      rw [List.getElem_append_right (Nat.le_refl _), List.getElem_append_right (by rw [h.len]; exact Nat.le_refl _)]
      simp only [h.len, Nat.sub_self, List.getElem_cons_zero]
      exact hkeep u d hu ho
  · rcases List.mem_append.1 hx with hx | hx
    · exact hoff x (h.off x hx)
    · rw [List.mem_singleton.1 hx]
      exact hoff u ho
  · rcases List.mem_append.1 hx with hx | hx
    · exact h.one x hx
    · rw [List.mem_singleton.1 hx]
      exact BR.one hu
end
/-- A literal of one slice. -/
theorem src_row {w : World} (u : Value) (hu : u.oneCell' = true) {c : Nat} : Src Try.prog 1 35 (.slice (some ⟨w.heap.size, 0, none⟩) 1 c) 1 [u] (w.alloc (.cells #[u] 23)) := by
  refine Src.ofSlice _ Try.underlying35 ⟨w.heap.size, 0, none⟩ 1 c [u] rfl (fun j x hx => ?_) (fun x hx => by rw [List.mem_singleton.1 hx]; exact hu)
  rw [Go.WideShapes.add_plain, Nat.zero_add, (Blk.new w _ _).cell, ← hx]
  rw [← List.getElem?_toArray]
/-- Records, one behind the other. -/
def allB (ys : List (List UInt8)) : List UInt8 := ys.flatMap recB
theorem allB_cons (y : List UInt8) (ys : List (List UInt8)) : allB (y :: ys) = recB y ++ allB ys := by simp [allB]
theorem allB_append (xs ys : List (List UInt8)) : allB (xs ++ ys) = allB xs ++ allB ys := by simp [allB]
theorem allB_drop (ys : List (List UInt8)) (k : Nat) (h : k < ys.length) (t : List UInt8) : allB (ys.drop k) ++ t = recB ys[k] ++ (allB (ys.drop (k + 1)) ++ t) := by
  rw [List.drop_eq_getElem_cons h, allB_cons, List.append_assoc]
theorem whole_recr (bs r : List UInt8) (h : bs.length ≤ 400000) : wholeN (recB bs ++ r) = some bs.length := by
  have hn : numN (recB bs ++ r) = bs.length := by
    unfold recB
    rw [List.append_assoc, List.append_assoc]
    exact numN_four _ (by omega) _
  have h4 : numN ((recB bs ++ r).drop 4) = sumN 1 bs := by
    have : (recB bs ++ r).drop 4 = fourB (sumN 1 bs) ++ (bs ++ r) := by
      show (fourB bs.length ++ fourB (sumN 1 bs) ++ bs ++ r).drop 4 = _
      rw [List.append_assoc, List.append_assoc]
      rfl
    rw [this]
    exact numN_four _ (sumN_lt _ _) _
  have h8 : (recB bs ++ r).drop 8 = bs ++ r := by
    show (fourB bs.length ++ fourB (sumN 1 bs) ++ bs ++ r).drop 8 = _
    rw [List.append_assoc]
    rfl
  have := whole_yes (bs := recB bs ++ r) (by rw [List.length_append, recB_length]; omega) ⟨by omega, by rw [List.length_append, recB_length]; omega, by rw [hn, h4, h8, List.take_left']; rfl⟩
  rw [hn] at this
  exact this
theorem recr_held (bs r : List UInt8) : ((recB bs ++ r).drop 8).take bs.length = bs := by
  have h8 : (recB bs ++ r).drop 8 = bs ++ r := by
    show (fourB bs.length ++ fourB (sumN 1 bs) ++ bs ++ r).drop 8 = _
    rw [List.append_assoc]
    rfl
  rw [h8, List.take_left']
  rfl
theorem recr_rest (bs r : List UInt8) : (recB bs ++ r).drop (8 + bs.length) = r := by
  rw [List.drop_append_of_le_length (by rw [recB_length]; omega), List.drop_eq_nil_of_le (by rw [recB_length]; omega), List.nil_append]
/-- What a slice in old memory reads as now, it read as before. -/
theorem BR.back {w wr : World} {a : Addr} {n c : Nat} {bs : List UInt8} (h : BR wr (.slice (some a) n c) bs) (hb : Below w.heap.size w wr) (ha : a.block < w.heap.size) : BR w (.slice (some a) n c) bs := by
  obtain ⟨A, cap, hv, h1, h2, h3, h4⟩ := h
  simp only [Value.slice.injEq] at hv
  obtain ⟨rfl, rfl, rfl⟩ := hv
  refine ⟨_, _, rfl, h1, h2, h3, fun hne => ?_⟩
  obtain ⟨g, o, hA, hg, h5⟩ := h4 hne
  cases hA
  exact ⟨g, o, rfl, ha, fun j u hu => by rw [← hb.cell (p := ⟨g, o + j, none⟩) ha]; exact h5 j u hu⟩
theorem BR.block {w : World} {v : Value} {bs : List UInt8} (h : BR w v bs) (h0 : bs ≠ []) : ∃ a k c, v = .slice (some a) k c ∧ a.block < w.heap.size := by
  obtain ⟨A, cap, rfl, h1, h2, h3, h4⟩ := h
  obtain ⟨g, o, rfl, hg, _⟩ := h4 (by simpa using h0)
  exact ⟨_, _, _, rfl, hg⟩
theorem Bts.off {w wr : World} {u : Value} {d : List UInt8} (h : Bts w wr u d) {G : Option Nat} (hG : ∀ g, G = some g → g < w.heap.size) : Off wr.heap.size G u := by
  obtain ⟨_, G', hr, hg⟩ := h
  intro A n c e
  subst e
  rcases hr.2 with ⟨h, _⟩ | ⟨g, o, cap, k1, k2, _, _, h3, _⟩
  · cases h
  · simp only [Value.slice.injEq, Option.some.injEq] at k2
    obtain ⟨rfl, _, _⟩ := k2
    refine ⟨h3, fun hh => ?_⟩
    have := hG g hh.symm
    have := hg g k1
    omega
theorem allB_len (ys : List (List UInt8)) (hy : ∀ y ∈ ys, y.length ≤ 2000) : (allB ys).length ≤ ys.length * 2008 := by
  induction ys with
  | nil => simp [allB]
  | cons y ys ih =>
    have h1 := hy y (by simp)
    have h2 := ih (fun z hz => hy z (by simp [hz]))
    rw [allB_cons, List.length_append, recB_length, List.length_cons]
    omega
end Go.Proofs.Ytblopcpiapenpaa
