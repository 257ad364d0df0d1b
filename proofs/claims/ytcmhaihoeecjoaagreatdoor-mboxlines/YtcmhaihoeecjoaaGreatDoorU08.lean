/- One line more: where entries stand. -/
import Derived.Test.YtcmhaihoeecjoaaGreatDoorU07
namespace Go.Proofs.YtcmhaihoeecjoaaGreatDoor
open Go.RowKit
theorem flat_len {pre : List (List UInt8)} (h : (grp pre).1 = []) : (flatG (grp pre).2).length = pre.flatten.length := by
  have := grp_flat pre
  rw [h] at this
  rw [← this]
  simp
theorem step_sep {pre : List (List UInt8)} {x : List UInt8} (h : (grp pre).1 = []) (hx : sepB x = true) :
    spans 0 (grp (pre ++ [x])).2 = spans 0 (grp pre).2 ++ [⟨pre.flatten.length, pre.flatten.length + x.length, pre.flatten.length + x.length⟩] ∧ (grp (pre ++ [x])).1 = [] := by
  rw [grp_snoc_sep pre hx]
  refine ⟨?_, h⟩
  rw [spans_app, flat_len h]
  simp [spans]
theorem step_non {pre : List (List UInt8)} {x : List UInt8} (h : (grp pre).1 = []) (hx : sepB x = false) (hn : spans 0 (grp pre).2 ≠ []) :
    ∃ xs p, spans 0 (grp pre).2 = xs ++ [p] ∧ spans 0 (grp (pre ++ [x])).2 = xs ++ [⟨p.h, p.b, pre.flatten.length + x.length⟩] ∧ (grp (pre ++ [x])).1 = [] := by
  have hl := flat_len h
  rcases List.eq_nil_or_concat (grp pre).2 with e | ⟨gs, ⟨y, b⟩, e⟩
  · rw [e] at hn
    exact (hn rfl).elim
  · rw [List.concat_eq_append] at e
    rw [grp_snoc_non pre hx e, e]
    rw [e, flatG_app] at hl
    refine ⟨spans 0 gs, ⟨(flatG gs).length, (flatG gs).length + y.length, (flatG gs).length + y.length + b.flatten.length⟩, ?_, ?_, h⟩
    · rw [spans_app]
      simp [spans]
    · rw [spans_app]
      simp only [spans, Nat.zero_add]
      simp [flatG] at hl
      simp
      simp [flatG]
      omega
theorem step_bad {pre post : List (List UInt8)} {x s : List UInt8} (h : (grp pre).1 = []) (hx : sepB x = false) (hn : spans 0 (grp pre).2 = []) (he : pre ++ x :: post = splitS s) : scanV s = none := by
  have h2 : (grp pre).2 = [] := by
    have := congrArg List.length hn
    rw [spans_len] at this
    exact List.eq_nil_of_length_eq_zero this
  have h0 : pre = [] := grp_none (Prod.ext h h2)
  subst h0
  unfold scanV restV
  rw [← he, List.nil_append, grp_non hx, if_neg (by simp)]
/-- What the last look at the spans says. -/
theorem scan_of {s : List UInt8} (h : (grp (splitS s)).1 = []) : scanV s = if (spans 0 (grp (splitS s)).2).all (holdsB s) then some (spans 0 (grp (splitS s)).2) else none := by
  have e : okG (grp (splitS s)).2 = (spans 0 (grp (splitS s)).2).all (holdsB s) := by
    have hc := scan_cut h
    unfold okG
    have h1 : (grp (splitS s)).2.all (fun g => g.2.flatten.getLast? == some 10) = ((grp (splitS s)).2.map fun g => g.2.flatten).all (fun t => t.getLast? == some 10) := by rw [List.all_map]; rfl
    rw [h1, ← hc, List.all_map]
    congr 1
    funext p
    simp [holdsB, Bool.beq_eq_decide_eq]
  unfold scanV restV
  rw [e]
  simp [h]
theorem grp_count : ∀ (r : List (List UInt8)), (grp r).2.length ≤ r.length
  | [] => Nat.le_refl _
  | x :: r => by
    have := grp_count r
    cases hx : sepB x with
    | true => rw [grp_sep hx]; simp; exact this
    | false => rw [grp_non hx]; simp; omega
theorem src_sp {w : World} (a b c : Int) {k : Nat} : Src Tryz.prog 3 34 (.slice (some ⟨w.heap.size, 0, none⟩) 1 k) 1 [.int .i64 a, .int .i64 b, .int .i64 c] (w.alloc (.cells #[.int .i64 a, .int .i64 b, .int .i64 c] 42)) := by
  refine Src.ofSlice _ Tryz.underlying34 ⟨w.heap.size, 0, none⟩ 1 k _ (by simp) (fun j u hu => ?_) (by simp [Value.oneCell'])
  rw [Go.WideShapes.add_plain, Nat.zero_add, World.cell?_alloc_mark]
  rw [← hu, ← List.getElem?_toArray]
theorem spInfo : (Tryz.prog.info? 42).map (fun i => (i.zero, i.size, i.bytes)) = some (some (.agg #[.int .i64 0, .int .i64 0, .int .i64 0]), 3, 24) := by kernel_rfl
theorem info_three {i : Option TypeInfo} {z : Value} {n m : Nat} (h : i.map (fun i => (i.zero, i.size, i.bytes)) = some (some z, n, m)) : ∃ i0, i = some i0 ∧ i0.zero = some z ∧ i0.size = n ∧ i0.bytes = m := by
  cases i with
  | none => cases h
  | some i0 =>
    simp only [Option.map_some, Option.some.injEq, Prod.mk.injEq] at h
    exact ⟨i0, rfl, h.1, h.2.1, h.2.2⟩
end Go.Proofs.YtcmhaihoeecjoaaGreatDoor
