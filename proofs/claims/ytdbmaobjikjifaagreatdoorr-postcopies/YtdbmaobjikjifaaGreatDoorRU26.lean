/- Package post: a state that shares no list with another one. -/
/- Package post: whether two lists are the same (of Box). -/
/- Package post: whether two lists are the same (of Item). -/
import Derived.Test.YtdbmaobjikjifaaGreatDoorRU23
import Derived.Test.YtdbmaobjikjifaaGreatDoorRU25
import Derived.Test.YtdbmaobjikjifaaGreatDoorRU06
section
set_option linter.unusedVariables false
set_option linter.unusedSimpArgs false
namespace Go.Proofs.YtdbmaobjikjifaaGreatDoorR
open Go.RowKit
theorem rdb_list {w : World} {A : Option Addr} {c : Nat} {bs : List Bx} (h : RdE 5 BxAt w (.slice A bs.length c) bs) : ∃ lb : List BL, lb.map BL.b = bs ∧ (∀ x ∈ lb, x.G = none ∧ RdE 4 MsgAt w x.v x.b.msgs) ∧ ∀ i (hi : i < lb.length), ∃ g o, A = some ⟨g, o, none⟩ ∧ g < w.heap.size ∧ ∀ j, j < 5 → w.cell? ⟨g, o + i * 5 + j, none⟩ = (blC lb[i])[j]? := by
  obtain ⟨l, hl, hp⟩ := exists_list (n := bs.length) (P := fun i hi (x : BL) => x.b = bs[i] ∧ x.G = none ∧ RdE 4 MsgAt w x.v x.b.msgs ∧ ∃ g o, A = some ⟨g, o, none⟩ ∧ g < w.heap.size ∧ ∀ j, j < 5 → w.cell? ⟨g, o + i * 5 + j, none⟩ = (blC x)[j]?) (fun i hi => by
    obtain ⟨g, o, e, hg, q0, q1, q2, q3, mv, q4, qm⟩ := h.at hi
    refine ⟨⟨bs[i], mv, none⟩, rfl, rfl, qm, g, o, e, hg, fun j hj => ?_⟩
    rcases (by omega : j = 0 ∨ j = 1 ∨ j = 2 ∨ j = 3 ∨ j = 4) with rfl | rfl | rfl | rfl | rfl
    · exact q0
    · exact q1
    · exact q2
    · exact q3
    · exact q4)
  refine ⟨l, List.ext_getElem (by simp [hl]) (fun i h1 h2 => ?_), fun x hx => ?_, fun i hi => (hp i (by omega) hi).2.2.2⟩
  · rw [List.getElem_map]
    exact (hp i h2 (by simpa using h1)).1
  · obtain ⟨i, hi, rfl⟩ := List.mem_iff_getElem.1 hx
    exact ⟨(hp i (by omega) hi).2.1, (hp i (by omega) hi).2.2.1⟩
theorem rdq_list {w : World} {A : Option Addr} {c : Nat} {qs : List It} (h : RdE 7 ItAt w (.slice A qs.length c) qs) : ∃ lq : List QL, lq.map QL.q = qs ∧ (∀ x ∈ lq, x.G = none ∧ RdE 1 IntAt w x.v x.q.fr) ∧ ∀ i (hi : i < lq.length), ∃ g o, A = some ⟨g, o, none⟩ ∧ g < w.heap.size ∧ ∀ j, j < 7 → w.cell? ⟨g, o + i * 7 + j, none⟩ = (qlC lq[i])[j]? := by
  obtain ⟨l, hl, hp⟩ := exists_list (n := qs.length) (P := fun i hi (x : QL) => x.q = qs[i] ∧ x.G = none ∧ RdE 1 IntAt w x.v x.q.fr ∧ ∃ g o, A = some ⟨g, o, none⟩ ∧ g < w.heap.size ∧ ∀ j, j < 7 → w.cell? ⟨g, o + i * 7 + j, none⟩ = (qlC x)[j]?) (fun i hi => by
    obtain ⟨g, o, e, hg, q0, q1, ⟨mv, q2, qm⟩, q3, q4, q5, q6⟩ := h.at hi
    refine ⟨⟨qs[i], mv, none⟩, rfl, rfl, qm, g, o, e, hg, fun j hj => ?_⟩
    rcases (by omega : j = 0 ∨ j = 1 ∨ j = 2 ∨ j = 3 ∨ j = 4 ∨ j = 5 ∨ j = 6) with rfl | rfl | rfl | rfl | rfl | rfl | rfl
    · exact q0
    · exact q1
    · exact q2
    · exact q3
    · exact q4
    · exact q5
    · exact q6)
  refine ⟨l, List.ext_getElem (by simp [hl]) (fun i h1 h2 => ?_), fun x hx => ?_, fun i hi => (hp i (by omega) hi).2.2.2⟩
  · rw [List.getElem_map]
    exact (hp i h2 (by simpa using h1)).1
  · obtain ⟨i, hi, rfl⟩ := List.mem_iff_getElem.1 hx
    exact ⟨(hp i (by omega) hi).2.1, (hp i (by omega) hi).2.2.1⟩
theorem pclMsg_rd {w : World} {v : Value} {xs : List Msg} (h : RdE 4 MsgAt w v xs) (hl : xs.length ≤ 1000000) : Calls Tryz.prog 22 #[v] w fun e w' => ∃ v' G, e = .returned v' ∧ Below w.heap.size w w' ∧ Rw w' 4 v' xs.length (xs.flatMap msC) G ∧ ∀ g, G = some g → w.heap.size ≤ g := by
  obtain ⟨A, c, rfl⟩ := h.form
  refine pclMessage_any hl (fun i hi => ?_) (fun x _ => msC_one x)
  obtain ⟨g, o, e, hg, q0, q1, q2, q3⟩ := h.at hi
  refine ⟨g, o, e, hg, fun j hj => ?_⟩
  rcases (by omega : j = 0 ∨ j = 1 ∨ j = 2 ∨ j = 3) with rfl | rfl | rfl | rfl
  · exact q0
  · exact q1
  · exact q2
  · exact q3
theorem pclSub_rd {w : World} {v : Value} {xs : List Sb} (h : RdE 2 SbAt w v xs) (hl : xs.length ≤ 1000000) : Calls Tryz.prog 23 #[v] w fun e w' => ∃ v' G, e = .returned v' ∧ Below w.heap.size w w' ∧ Rw w' 2 v' xs.length (xs.flatMap sbC) G ∧ ∀ g, G = some g → w.heap.size ≤ g := by
  obtain ⟨A, c, rfl⟩ := h.form
  refine pclSub_any hl (fun i hi => ?_) (fun x _ => sbC_one x)
  obtain ⟨g, o, e, hg, q0, q1⟩ := h.at hi
  refine ⟨g, o, e, hg, fun j hj => ?_⟩
  rcases (by omega : j = 0 ∨ j = 1) with rfl | rfl
  · exact q0
  · exact q1
theorem pclInt_rd {w : World} {v : Value} {xs : List Int} (h : RdE 1 IntAt w v xs) (hl : xs.length ≤ 1000000) : Calls Tryz.prog 25 #[v] w fun e w' => ∃ v' G, e = .returned v' ∧ Below w.heap.size w w' ∧ Rw w' 1 v' xs.length (xs.flatMap inC) G ∧ ∀ g, G = some g → w.heap.size ≤ g := by
  obtain ⟨A, c, rfl⟩ := h.form
  refine pclint_any hl (fun i hi => ?_) (fun x _ => inC_one x)
  obtain ⟨g, o, e, hg, q0⟩ := h.at hi
  refine ⟨g, o, e, hg, fun j hj => ?_⟩
  obtain rfl : j = 0 := by omega
  exact q0
/-- The boxes' lists up to k are the call's own; the others are those of before. -/
structure CB (w : World) (M : Nat) (wr : World) (bs : List Bx) (vb : Value) (gb : Option Nat) (k : Nat) (lb : List BL) : Prop where
  row : Rw wr 5 vb lb.length (lb.flatMap blC) gb
  gbB : ∀ g, gb = some g → M ≤ g
  boxes : lb.map BL.b = bs
  mine : ∀ i (hi : i < lb.length), i < k → Rw wr 4 lb[i].v lb[i].b.msgs.length (lb[i].b.msgs.flatMap msC) lb[i].G
  old : ∀ i (hi : i < lb.length), k ≤ i → lb[i].G = none ∧ RdE 4 MsgAt w lb[i].v lb[i].b.msgs
  own : ∀ x ∈ lb, ∀ g, x.G = some g → M ≤ g ∧ gb ≠ some g
  sep : Sep (lb.map BL.G)
theorem CB.keep {w wr w1 : World} {M : Nat} {bs : List Bx} {vb : Value} {gb : Option Nat} {k : Nat} {lb : List BL} (h : CB w M wr bs vb gb k lb) {S : Nat → Prop} (hm : Mvs S wr w1) (hS : ∀ j, M ≤ j → j < wr.heap.size → ¬ S j) : CB w M w1 bs vb gb k lb :=
  ⟨h.row.keep hm (fun g e => hS g (h.gbB g e) (h.row.lt g e)), h.gbB, h.boxes, fun i hi hik => (h.mine i hi hik).keep hm (fun g e => hS g (h.own _ (List.getElem_mem hi) g e).1 ((h.mine i hi hik).lt g e)), h.old, h.own, h.sep⟩
theorem sep_set {l : List (Option Nat)} {k N : Nat} (h : Sep l) (hn : ∀ b ∈ l, b ≠ some N) {G' : Option Nat} (hG : ∀ g, G' = some g → g = N) : Sep (l.set k G') := by
  unfold Sep at h ⊢
  rw [List.pairwise_iff_getElem] at h ⊢
  intro i j hi hj hij g e e'
  rw [List.length_set] at hi hj
  by_cases h1 : i = k
  · subst h1
    rw [List.getElem_set_self] at e
    rw [List.getElem_set_ne (by omega)] at e'
    rw [hG g e] at e'
    exact hn (l[j]'(by simpa using hj)) (List.getElem_mem _) e'
  · rw [List.getElem_set_ne (fun h => h1 h.symm)] at e
    by_cases h2 : j = k
    · subst h2
      rw [List.getElem_set_self] at e'
      rw [hG g e'] at e
      exact hn (l[i]'(by simpa using hi)) (List.getElem_mem _) e
    · rw [List.getElem_set_ne (fun h => h2 h.symm)] at e'
      exact h i j hi hj hij g e e'
/-- The next box's list is copied, and stored. -/
theorem CB.step {w wr w1 : World} {M : Nat} {bs : List Bx} {cap gb0 o k : Nat} {lb : List BL} {v' : Value} {G' : Option Nat} (h : CB w M wr bs (.slice (some ⟨gb0, o, none⟩) lb.length cap) (some gb0) k lb) (hk : k < lb.length) (hb : Below wr.heap.size wr w1) (hr : Rw w1 4 v' lb[k].b.msgs.length (lb[k].b.msgs.flatMap msC) G') (hG : ∀ g, G' = some g → wr.heap.size ≤ g) (hw : M ≤ wr.heap.size) :
    CB w M (w1.setCell ⟨gb0, o + k * 5 + 4, none⟩ v') bs (.slice (some ⟨gb0, o, none⟩) lb.length cap) (some gb0) (k + 1) (lb.set k ⟨lb[k].b, v', G'⟩) := by
  have h1 := h.keep (Mvs.of_below (S := fun _ => False) hb) (fun _ _ _ c => c)
  have hmS : Mvs (fun j => j = gb0) w1 (w1.setCell ⟨gb0, o + k * 5 + 4, none⟩ v') := (Mvs.refl _ _).setCell _ _ (fun _ => rfl)
  have hlt := h.row.lt gb0 rfl
  refine ⟨?_, h.gbB, ?_, fun i hi hik => ?_, fun i hi hik => ?_, fun x hx g e => ?_, ?_⟩
  · rw [List.length_set]
    exact rw_set blC_len h1.row k 4 hk (by omega) _ _ rfl
  · rw [List.map_set]
    show (lb.map BL.b).set k lb[k].b = bs
    rw [← h.boxes]
    apply List.ext_getElem (by simp)
    intro i h1 h2
    rw [List.getElem_set]
    split
    · subst_vars; simp
    · rfl
  · rw [List.length_set] at hi
    by_cases e : i = k
    · subst e
      rw [List.getElem_set_self]
      exact hr.keep hmS (fun g e e2 => by have := hG g e; omega)
    · rw [List.getElem_set_ne (fun h => e h.symm)]
      exact (h1.mine i hi (by omega)).keep hmS (fun g e2 e3 => by subst e3; exact (h.own _ (List.getElem_mem hi) g e2).2 rfl)
  · rw [List.length_set] at hi
    rw [List.getElem_set_ne (by omega)]
    exact h.old i hi (by omega)
  · rcases List.mem_or_eq_of_mem_set hx with hx | rfl
    · exact h.own x hx g e
    · have := hG g e
      exact ⟨by omega, fun e2 => by cases e2; omega⟩
  · rw [List.map_set]
    cases hGe : G' with
    | none => exact sep_set (N := wr.heap.size) h.sep (fun b hb e => by
        obtain ⟨x, hx, e2⟩ := List.mem_map.1 hb
        obtain ⟨i, hi, rfl⟩ := List.mem_iff_getElem.1 hx
        rw [e] at e2
        rcases Nat.lt_or_ge i k with hik | hik
        · have := (h.mine i hi hik).lt _ e2
          omega
        · rw [(h.old i hi hik).1] at e2
          cases e2) (fun g e => by cases e)
    | some g0 => exact sep_set (N := g0) h.sep (fun b hb e => by
        obtain ⟨x, hx, e2⟩ := List.mem_map.1 hb
        obtain ⟨i, hi, rfl⟩ := List.mem_iff_getElem.1 hx
        rw [e] at e2
        have := hG g0 hGe
        rcases Nat.lt_or_ge i k with hik | hik
        · have := (h.mine i hi hik).lt _ e2
          omega
        · rw [(h.old i hi hik).1] at e2
          cases e2) (fun g e => by cases e; rfl)
/-- The items' lists up to k are the call's own; the others are those of before. -/
structure CQ (w : World) (M : Nat) (wr : World) (bs : List It) (vb : Value) (gb : Option Nat) (k : Nat) (lb : List QL) : Prop where
  row : Rw wr 7 vb lb.length (lb.flatMap qlC) gb
  gbB : ∀ g, gb = some g → M ≤ g
  boxes : lb.map QL.q = bs
  mine : ∀ i (hi : i < lb.length), i < k → Rw wr 1 lb[i].v lb[i].q.fr.length (lb[i].q.fr.flatMap inC) lb[i].G
  old : ∀ i (hi : i < lb.length), k ≤ i → lb[i].G = none ∧ RdE 1 IntAt w lb[i].v lb[i].q.fr
  own : ∀ x ∈ lb, ∀ g, x.G = some g → M ≤ g ∧ gb ≠ some g
  sep : Sep (lb.map QL.G)
theorem CQ.keep {w wr w1 : World} {M : Nat} {bs : List It} {vb : Value} {gb : Option Nat} {k : Nat} {lb : List QL} (h : CQ w M wr bs vb gb k lb) {S : Nat → Prop} (hm : Mvs S wr w1) (hS : ∀ j, M ≤ j → j < wr.heap.size → ¬ S j) : CQ w M w1 bs vb gb k lb :=
  ⟨h.row.keep hm (fun g e => hS g (h.gbB g e) (h.row.lt g e)), h.gbB, h.boxes, fun i hi hik => (h.mine i hi hik).keep hm (fun g e => hS g (h.own _ (List.getElem_mem hi) g e).1 ((h.mine i hi hik).lt g e)), h.old, h.own, h.sep⟩
/-- The next item's list is copied, and stored. -/
theorem CQ.step {w wr w1 : World} {M : Nat} {bs : List It} {cap gb0 o k : Nat} {lb : List QL} {v' : Value} {G' : Option Nat} (h : CQ w M wr bs (.slice (some ⟨gb0, o, none⟩) lb.length cap) (some gb0) k lb) (hk : k < lb.length) (hb : Below wr.heap.size wr w1) (hr : Rw w1 1 v' lb[k].q.fr.length (lb[k].q.fr.flatMap inC) G') (hG : ∀ g, G' = some g → wr.heap.size ≤ g) (hw : M ≤ wr.heap.size) :
    CQ w M (w1.setCell ⟨gb0, o + k * 7 + 2, none⟩ v') bs (.slice (some ⟨gb0, o, none⟩) lb.length cap) (some gb0) (k + 1) (lb.set k ⟨lb[k].q, v', G'⟩) := by
  have h1 := h.keep (Mvs.of_below (S := fun _ => False) hb) (fun _ _ _ c => c)
  have hmS : Mvs (fun j => j = gb0) w1 (w1.setCell ⟨gb0, o + k * 7 + 2, none⟩ v') := (Mvs.refl _ _).setCell _ _ (fun _ => rfl)
  have hlt := h.row.lt gb0 rfl
  refine ⟨?_, h.gbB, ?_, fun i hi hik => ?_, fun i hi hik => ?_, fun x hx g e => ?_, ?_⟩
  · rw [List.length_set]
    exact rw_set qlC_len h1.row k 2 hk (by omega) _ _ rfl
  · rw [List.map_set]
    show (lb.map QL.q).set k lb[k].q = bs
    rw [← h.boxes]
    apply List.ext_getElem (by simp)
    intro i h1 h2
    rw [List.getElem_set]
    split
    · subst_vars; simp
    · rfl
  · rw [List.length_set] at hi
    by_cases e : i = k
    · subst e
      rw [List.getElem_set_self]
      exact hr.keep hmS (fun g e e2 => by have := hG g e; omega)
    · rw [List.getElem_set_ne (fun h => e h.symm)]
      exact (h1.mine i hi (by omega)).keep hmS (fun g e2 e3 => by subst e3; exact (h.own _ (List.getElem_mem hi) g e2).2 rfl)
  · rw [List.length_set] at hi
    rw [List.getElem_set_ne (by omega)]
    exact h.old i hi (by omega)
  · rcases List.mem_or_eq_of_mem_set hx with hx | rfl
    · exact h.own x hx g e
    · have := hG g e
      exact ⟨by omega, fun e2 => by cases e2; omega⟩
  · rw [List.map_set]
    cases hGe : G' with
    | none => exact sep_set (N := wr.heap.size) h.sep (fun b hb e => by
        obtain ⟨x, hx, e2⟩ := List.mem_map.1 hb
        obtain ⟨i, hi, rfl⟩ := List.mem_iff_getElem.1 hx
        rw [e] at e2
        rcases Nat.lt_or_ge i k with hik | hik
        · have := (h.mine i hi hik).lt _ e2
          omega
        · rw [(h.old i hi hik).1] at e2
          cases e2) (fun g e => by cases e)
    | some g0 => exact sep_set (N := g0) h.sep (fun b hb e => by
        obtain ⟨x, hx, e2⟩ := List.mem_map.1 hb
        obtain ⟨i, hi, rfl⟩ := List.mem_iff_getElem.1 hx
        rw [e] at e2
        have := hG g0 hGe
        rcases Nat.lt_or_ge i k with hik | hik
        · have := (h.mine i hi hik).lt _ e2
          omega
        · rw [(h.old i hi hik).1] at e2
          cases e2) (fun g e => by cases e; rfl)
end Go.Proofs.YtdbmaobjikjifaaGreatDoorR

end
section
set_option linter.unusedVariables false
set_option linter.unusedSimpArgs false
namespace Go.Proofs.YtdbmaobjikjifaaGreatDoorR
open Go.RowKit

end Go.Proofs.YtdbmaobjikjifaaGreatDoorR

end
section
set_option linter.unusedVariables false
set_option linter.unusedSimpArgs false
namespace Go.Proofs.YtdbmaobjikjifaaGreatDoorR
open Go.RowKit

end Go.Proofs.YtdbmaobjikjifaaGreatDoorR

end
