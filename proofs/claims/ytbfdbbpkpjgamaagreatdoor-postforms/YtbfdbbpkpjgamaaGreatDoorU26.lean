/- Package post: a state that shares no list with another one. -/
/- Package post: whether two lists are the same (of Box). -/
/- Package post: whether two lists are the same (of Item). -/
import Derived.Test.YtbfdbbpkpjgamaaGreatDoorU23
import Derived.Test.YtbfdbbpkpjgamaaGreatDoorU25
import Derived.Test.YtbfdbbpkpjgamaaGreatDoorU06
section
set_option linter.unusedVariables false
set_option linter.unusedSimpArgs false
namespace Go.Proofs.YtbfdbbpkpjgamaaGreatDoor
open Go.RowKit
theorem rdb_list {w : World} {A : Option Addr} {c : Nat} {bs : List Bx} (h : RdE 5 BxAt w (.slice A bs.length c) bs) : ∃ lb : List BL, lb.map BL.b = bs ∧ (∀ x ∈ lb, x.G = none ∧ RdE 4 MsgAt w x.v x.b.msgs) ∧ ∀ i (hi : i < lb.length), ∃ g o, A = some ⟨g, o, none⟩ ∧ g < w.heap.size ∧ ∀ j, j < 5 → w.cell? ⟨g, o + i * 5 + j, none⟩ = (blC lb[i])[j]? := by
  obtain ⟨l, hl, hp⟩ := exists_list (n := bs.length) (P := fun i hi (x : BL) => x.b = bs[i] ∧ x.G = none ∧ RdE 4 MsgAt w x.v x.b.msgs ∧ ∃ g o, A = some ⟨g, o, none⟩ ∧ g < w.heap.size ∧ ∀ j, j < 5 → w.cell? ⟨g, o + i * 5 + j, none⟩ = (blC x)[j]?) (fun i hi => by
    obtain ⟨g, o, e, hg, q0, q1, q2, q3, mv, q4, qm⟩ := h.at hi
    refine ⟨⟨bs[i], mv, none⟩, rfl, rfl, qm, g, o, e, hg, fun j hj => ?_⟩
    rcases (by omega : j = 0 ∨ j = 1 ∨ j = 2 ∨ j = 3 ∨ j = 4) with rfl | rfl | rfl | rfl | rfl
    · exact q0
    · exact q1
    · exact q2
    · exact q3
    · exact q4)
  refine ⟨l, List.ext_getElem (by simp [hl]) (fun i h1 h2 => ?_), fun x hx => ?_, fun i hi => (hp i (by omega) hi).2.2.2⟩
  · rw [List.getElem_map]
    exact (hp i h2 (by simpa using h1)).1
  · obtain ⟨i, hi, rfl⟩ := List.mem_iff_getElem.1 hx
    exact ⟨(hp i (by omega) hi).2.1, (hp i (by omega) hi).2.2.1⟩
theorem rdq_list {w : World} {A : Option Addr} {c : Nat} {qs : List It} (h : RdE 7 ItAt w (.slice A qs.length c) qs) : ∃ lq : List QL, lq.map QL.q = qs ∧ (∀ x ∈ lq, x.G = none ∧ RdE 1 IntAt w x.v x.q.fr) ∧ ∀ i (hi : i < lq.length), ∃ g o, A = some ⟨g, o, none⟩ ∧ g < w.heap.size ∧ ∀ j, j < 7 → w.cell? ⟨g, o + i * 7 + j, none⟩ = (qlC lq[i])[j]? := by
  obtain ⟨l, hl, hp⟩ := exists_list (n := qs.length) (P := fun i hi (x : QL) => x.q = qs[i] ∧ x.G = none ∧ RdE 1 IntAt w x.v x.q.fr ∧ ∃ g o, A = some ⟨g, o, none⟩ ∧ g < w.heap.size ∧ ∀ j, j < 7 → w.cell? ⟨g, o + i * 7 + j, none⟩ = (qlC x)[j]?) (fun i hi => by
    obtain ⟨g, o, e, hg, q0, q1, ⟨mv, q2, qm⟩, q3, q4, q5, q6⟩ := h.at hi
    refine ⟨⟨qs[i], mv, none⟩, rfl, rfl, qm, g, o, e, hg, fun j hj => ?_⟩
    rcases (by omega : j = 0 ∨ j = 1 ∨ j = 2 ∨ j = 3 ∨ j = 4 ∨ j = 5 ∨ j = 6) with rfl | rfl | rfl | rfl | rfl | rfl | rfl
    · exact q0
    · exact q1
    · exact q2
    · exact q3
    · exact q4
    · exact q5
    · exact q6)
  refine ⟨l, List.ext_getElem (by simp [hl]) (fun i h1 h2 => ?_), fun x hx => ?_, fun i hi => (hp i (by omega) hi).2.2.2⟩
  · rw [List.getElem_map]
    exact (hp i h2 (by simpa using h1)).1
  · obtain ⟨i, hi, rfl⟩ := List.mem_iff_getElem.1 hx
    exact ⟨(hp i (by omega) hi).2.1, (hp i (by omega) hi).2.2.1⟩
theorem pclMsg_rd {w : World} {v : Value} {xs : List Msg} (h : RdE 4 MsgAt w v xs) (hl : xs.length ≤ 1000000) : Calls Tryz.prog 55 #[v] w fun e w' => ∃ v' G, e = .returned v' ∧ Below w.heap.size w w' ∧ Rw w' 4 v' xs.length (xs.flatMap msC) G ∧ ∀ g, G = some g → w.heap.size ≤ g := by
  obtain ⟨A, c, rfl⟩ := h.form
  refine pclMessage_any hl (fun i hi => ?_) (fun x _ => msC_one x)
  obtain ⟨g, o, e, hg, q0, q1, q2, q3⟩ := h.at hi
  refine ⟨g, o, e, hg, fun j hj => ?_⟩
  rcases (by omega : j = 0 ∨ j = 1 ∨ j = 2 ∨ j = 3) with rfl | rfl | rfl | rfl
  · exact q0
  · exact q1
  · exact q2
  · exact q3
theorem pclSub_rd {w : World} {v : Value} {xs : List Sb} (h : RdE 2 SbAt w v xs) (hl : xs.length ≤ 1000000) : Calls Tryz.prog 56 #[v] w fun e w' => ∃ v' G, e = .returned v' ∧ Below w.heap.size w w' ∧ Rw w' 2 v' xs.length (xs.flatMap sbC) G ∧ ∀ g, G = some g → w.heap.size ≤ g := by
  obtain ⟨A, c, rfl⟩ := h.form
  refine pclSub_any hl (fun i hi => ?_) (fun x _ => sbC_one x)
  obtain ⟨g, o, e, hg, q0, q1⟩ := h.at hi
  refine ⟨g, o, e, hg, fun j hj => ?_⟩
  rcases (by omega : j = 0 ∨ j = 1) with rfl | rfl
  · exact q0
  · exact q1
theorem pclInt_rd {w : World} {v : Value} {xs : List Int} (h : RdE 1 IntAt w v xs) (hl : xs.length ≤ 1000000) : Calls Tryz.prog 58 #[v] w fun e w' => ∃ v' G, e = .returned v' ∧ Below w.heap.size w w' ∧ Rw w' 1 v' xs.length (xs.flatMap inC) G ∧ ∀ g, G = some g → w.heap.size ≤ g := by
  obtain ⟨A, c, rfl⟩ := h.form
  refine pclint_any hl (fun i hi => ?_) (fun x _ => inC_one x)
  obtain ⟨g, o, e, hg, q0⟩ := h.at hi
  refine ⟨g, o, e, hg, fun j hj => ?_⟩
  obtain rfl : j = 0 := by omega
  exact q0
/-- The boxes' lists up to k are the call's own; the others are those of before. -/
structure CB (w : World) (M : Nat) (wr : World) (bs : List Bx) (vb : Value) (gb : Option Nat) (k : Nat) (lb : List BL) : Prop where
  row : Rw wr 5 vb lb.length (lb.flatMap blC) gb
  gbB : ∀ g, gb = some g → M ≤ g
  boxes : lb.map BL.b = bs
  mine : ∀ i (hi : i < lb.length), i < k → Rw wr 4 lb[i].v lb[i].b.msgs.length (lb[i].b.msgs.flatMap msC) lb[i].G
  old : ∀ i (hi : i < lb.length), k ≤ i → lb[i].G = none ∧ RdE 4 MsgAt w lb[i].v lb[i].b.msgs
  own : ∀ x ∈ lb, ∀ g, x.G = some g → M ≤ g ∧ gb ≠ some g
  sep : Sep (lb.map BL.G)
theorem CB.keep {w wr w1 : World} {M : Nat} {bs : List Bx} {vb : Value} {gb : Option Nat} {k : Nat} {lb : List BL} (h : CB w M wr bs vb gb k lb) {S : Nat → Prop} (hm : Mvs S wr w1) (hS : ∀ j, M ≤ j → j < wr.heap.size → ¬ S j) : CB w M w1 bs vb gb k lb :=
  ⟨h.row.keep hm (fun g e => hS g (h.gbB g e) (h.row.lt g e)), h.gbB, h.boxes, fun i hi hik => (h.mine i hi hik).keep hm (fun g e => hS g (h.own _ (List.getElem_mem hi) g e).1 ((h.mine i hi hik).lt g e)), h.old, h.own, h.sep⟩
theorem sep_set {l : List (Option Nat)} {k N : Nat} (h : Sep l) (hn : ∀ b ∈ l, b ≠ some N) {G' : Option Nat} (hG : ∀ g, G' = some g → g = N) : Sep (l.set k G') := by
  unfold Sep at h ⊢
  rw [List.pairwise_iff_getElem] at h ⊢
  intro i j hi hj hij g e e'
  rw [List.length_set] at hi hj
  by_cases h1 : i = k
  · subst h1
    rw [List.getElem_set_self] at e
    rw [List.getElem_set_ne (by omega)] at e'
    rw [hG g e] at e'
    exact hn (l[j]'(by simpa using hj)) (List.getElem_mem _) e'
  · rw [List.getElem_set_ne (fun h => h1 h.symm)] at e
    by_cases h2 : j = k
    · subst h2
      rw [List.getElem_set_self] at e'
      rw [hG g e'] at e
      exact hn (l[i]'(by simpa using hi)) (List.getElem_mem _) e
    · rw [List.getElem_set_ne (fun h => h2 h.symm)] at e'
      exact h i j hi hj hij g e e'
/-- The next box's list is copied, and stored. -/
theorem CB.step {w wr w1 : World} {M : Nat} {bs : List Bx} {cap gb0 o k : Nat} {lb : List BL} {v' : Value} {G' : Option Nat} (h : CB w M wr bs (.slice (some ⟨gb0, o, none⟩) lb.length cap) (some gb0) k lb) (hk : k < lb.length) (hb : Below wr.heap.size wr w1) (hr : Rw w1 4 v' lb[k].b.msgs.length (lb[k].b.msgs.flatMap msC) G') (hG : ∀ g, G' = some g → wr.heap.size ≤ g) (hw : M ≤ wr.heap.size) :
    CB w M (w1.setCell ⟨gb0, o + k * 5 + 4, none⟩ v') bs (.slice (some ⟨gb0, o, none⟩) lb.length cap) (some gb0) (k + 1) (lb.set k ⟨lb[k].b, v', G'⟩) := by
  have h1 := h.keep (Mvs.of_below (S := fun _ => False) hb) (fun _ _ _ c => c)
  have hmS : Mvs (fun j => j = gb0) w1 (w1.setCell ⟨gb0, o + k * 5 + 4, none⟩ v') := (Mvs.refl _ _).setCell _ _ (fun _ => rfl)
  have hlt := h.row.lt gb0 rfl
  refine ⟨?_, h.gbB, ?_, fun i hi hik => ?_, fun i hi hik => ?_, fun x hx g e => ?_, ?_⟩
  · rw [List.length_set]
    exact rw_set blC_len h1.row k 4 hk (by omega) _ _ rfl
  · rw [List.map_set]
    show (lb.map BL.b).set k lb[k].b = bs
    rw [← h.boxes]
    apply List.ext_getElem (by simp)
    intro i h1 h2
    rw [List.getElem_set]
    split
    · subst_vars; simp
    · rfl
  · rw [List.length_set] at hi
    by_cases e : i = k
    · subst e
      rw [List.getElem_set_self]
      exact hr.keep hmS (fun g e e2 => by have := hG g e; omega)
    · rw [List.getElem_set_ne (fun h => e h.symm)]
      exact (h1.mine i hi (by omega)).keep hmS (fun g e2 e3 => by subst e3; exact (h.own _ (List.getElem_mem hi) g e2).2 rfl)
  · rw [List.length_set] at hi
    rw [List.getElem_set_ne (by omega)]
    exact h.old i hi (by omega)
  · rcases List.mem_or_eq_of_mem_set hx with hx | rfl
    · exact h.own x hx g e
    · have := hG g e
      exact ⟨by omega, fun e2 => by cases e2; omega⟩
  · rw [List.map_set]
    cases hGe : G' with
    | none => exact sep_set (N := wr.heap.size) h.sep (fun b hb e => by
        obtain ⟨x, hx, e2⟩ := List.mem_map.1 hb
        obtain ⟨i, hi, rfl⟩ := List.mem_iff_getElem.1 hx
        rw [e] at e2
        rcases Nat.lt_or_ge i k with hik | hik
        · have := (h.mine i hi hik).lt _ e2
          omega
        · rw [(h.old i hi hik).1] at e2
          cases e2) (fun g e => by cases e)
    | some g0 => exact sep_set (N := g0) h.sep (fun b hb e => by
        obtain ⟨x, hx, e2⟩ := List.mem_map.1 hb
        obtain ⟨i, hi, rfl⟩ := List.mem_iff_getElem.1 hx
        rw [e] at e2
        have := hG g0 hGe
        rcases Nat.lt_or_ge i k with hik | hik
        · have := (h.mine i hi hik).lt _ e2
          omega
        · rw [(h.old i hi hik).1] at e2
          cases e2) (fun g e => by cases e; rfl)
/-- The items' lists up to k are the call's own; the others are those of before. -/
structure CQ (w : World) (M : Nat) (wr : World) (bs : List It) (vb : Value) (gb : Option Nat) (k : Nat) (lb : List QL) : Prop where
  row : Rw wr 7 vb lb.length (lb.flatMap qlC) gb
  gbB : ∀ g, gb = some g → M ≤ g
  boxes : lb.map QL.q = bs
  mine : ∀ i (hi : i < lb.length), i < k → Rw wr 1 lb[i].v lb[i].q.fr.length (lb[i].q.fr.flatMap inC) lb[i].G
  old : ∀ i (hi : i < lb.length), k ≤ i → lb[i].G = none ∧ RdE 1 IntAt w lb[i].v lb[i].q.fr
  own : ∀ x ∈ lb, ∀ g, x.G = some g → M ≤ g ∧ gb ≠ some g
  sep : Sep (lb.map QL.G)
theorem CQ.keep {w wr w1 : World} {M : Nat} {bs : List It} {vb : Value} {gb : Option Nat} {k : Nat} {lb : List QL} (h : CQ w M wr bs vb gb k lb) {S : Nat → Prop} (hm : Mvs S wr w1) (hS : ∀ j, M ≤ j → j < wr.heap.size → ¬ S j) : CQ w M w1 bs vb gb k lb :=
  ⟨h.row.keep hm (fun g e => hS g (h.gbB g e) (h.row.lt g e)), h.gbB, h.boxes, fun i hi hik => (h.mine i hi hik).keep hm (fun g e => hS g (h.own _ (List.getElem_mem hi) g e).1 ((h.mine i hi hik).lt g e)), h.old, h.own, h.sep⟩
/-- The next item's list is copied, and stored. -/
theorem CQ.step {w wr w1 : World} {M : Nat} {bs : List It} {cap gb0 o k : Nat} {lb : List QL} {v' : Value} {G' : Option Nat} (h : CQ w M wr bs (.slice (some ⟨gb0, o, none⟩) lb.length cap) (some gb0) k lb) (hk : k < lb.length) (hb : Below wr.heap.size wr w1) (hr : Rw w1 1 v' lb[k].q.fr.length (lb[k].q.fr.flatMap inC) G') (hG : ∀ g, G' = some g → wr.heap.size ≤ g) (hw : M ≤ wr.heap.size) :
    CQ w M (w1.setCell ⟨gb0, o + k * 7 + 2, none⟩ v') bs (.slice (some ⟨gb0, o, none⟩) lb.length cap) (some gb0) (k + 1) (lb.set k ⟨lb[k].q, v', G'⟩) := by
  have h1 := h.keep (Mvs.of_below (S := fun _ => False) hb) (fun _ _ _ c => c)
  have hmS : Mvs (fun j => j = gb0) w1 (w1.setCell ⟨gb0, o + k * 7 + 2, none⟩ v') := (Mvs.refl _ _).setCell _ _ (fun _ => rfl)
  have hlt := h.row.lt gb0 rfl
  refine ⟨?_, h.gbB, ?_, fun i hi hik => ?_, fun i hi hik => ?_, fun x hx g e => ?_, ?_⟩
  · rw [List.length_set]
    exact rw_set qlC_len h1.row k 2 hk (by omega) _ _ rfl
  · rw [List.map_set]
    show (lb.map QL.q).set k lb[k].q = bs
    rw [← h.boxes]
    apply List.ext_getElem (by simp)
    intro i h1 h2
    rw [List.getElem_set]
    split
    · subst_vars; simp
    · rfl
  · rw [List.length_set] at hi
    by_cases e : i = k
    · subst e
      rw [List.getElem_set_self]
      exact hr.keep hmS (fun g e e2 => by have := hG g e; omega)
    · rw [List.getElem_set_ne (fun h => e h.symm)]
      exact (h1.mine i hi (by omega)).keep hmS (fun g e2 e3 => by subst e3; exact (h.own _ (List.getElem_mem hi) g e2).2 rfl)
  · rw [List.length_set] at hi
    rw [List.getElem_set_ne (by omega)]
    exact h.old i hi (by omega)
  · rcases List.mem_or_eq_of_mem_set hx with hx | rfl
    · exact h.own x hx g e
    · have := hG g e
      exact ⟨by omega, fun e2 => by cases e2; omega⟩
  · rw [List.map_set]
    cases hGe : G' with
    | none => exact sep_set (N := wr.heap.size) h.sep (fun b hb e => by
        obtain ⟨x, hx, e2⟩ := List.mem_map.1 hb
        obtain ⟨i, hi, rfl⟩ := List.mem_iff_getElem.1 hx
        rw [e] at e2
        rcases Nat.lt_or_ge i k with hik | hik
        · have := (h.mine i hi hik).lt _ e2
          omega
        · rw [(h.old i hi hik).1] at e2
          cases e2) (fun g e => by cases e)
    | some g0 => exact sep_set (N := g0) h.sep (fun b hb e => by
        obtain ⟨x, hx, e2⟩ := List.mem_map.1 hb
        obtain ⟨i, hi, rfl⟩ := List.mem_iff_getElem.1 hx
        rw [e] at e2
        have := hG g0 hGe
        rcases Nat.lt_or_ge i k with hik | hik
        · have := (h.mine i hi hik).lt _ e2
          omega
        · rw [(h.old i hi hik).1] at e2
          cases e2) (fun g e => by cases e; rfl)
end Go.Proofs.YtbfdbbpkpjgamaaGreatDoor

end
section
set_option linter.unusedVariables false
set_option linter.unusedSimpArgs false
namespace Go.Proofs.YtbfdbbpkpjgamaaGreatDoor
open Go.RowKit

set_option maxRecDepth 20000 in
set_option maxHeartbeats 4000000 in
theorem peqfBox_any {xs ys : List Bx} {v u : Value} {w : World} (h : RdE 5 BxAt w v xs) (h' : RdE 5 BxAt w u ys) (hl : xs.length ≤ 1000000) (p : Bx → Bx → Bool) (F : Nat) (eg : ∀ args w, (callFunc F args).run Tryz.prog w = .ok (.enter F args) w)
    (hp : ∀ i (hi : i < xs.length) (hj : i < ys.length) u v W, BxV W u xs[i] → BxV W v ys[i] → Calls Tryz.prog F #[u, v] W fun e w' => e = .returned (.bool (p xs[i] ys[i])) ∧ Below W.heap.size W w') :
    Calls Tryz.prog 29 #[v, u, .func (.func F) #[] #[]] w fun e w' => e = .returned (.bool (eqL p xs ys)) ∧ Below w.heap.size w w' := by
  have HO := hide h
  have HO' := hide h'
  obtain ⟨A, c, rfl⟩ := h.form
  obtain ⟨A', c', rfl⟩ := h'.form
  clear h h'
  replace hp := hide hp
  obtain ⟨R, hR⟩ : ∃ R, Hid (R = eqL p xs ys) := ⟨_, hide rfl⟩
  rw [← hR.out]
  by_cases hlen : xs.length = ys.length
  · obtain ⟨n, hn⟩ : ∃ n, Hid (xs.length = n) := ⟨_, hide rfl⟩
    have hny : Hid (ys.length = n) := by show _ = _; rw [← hlen, hn.out]
    have HAx : Hid (∀ wr, Below w.heap.size w wr → ∀ k (hk : k < xs.length), ∃ g o, A = some ⟨g, o, none⟩ ∧ g < wr.heap.size ∧ BxAt wr g (o + k * 5) xs[k]) := fun wr hb k hk => (HO.out.below stb_bx hb).at hk
    have HAy : Hid (∀ wr, Below w.heap.size w wr → ∀ k (hk : k < ys.length), ∃ g o, A' = some ⟨g, o, none⟩ ∧ g < wr.heap.size ∧ BxAt wr g (o + k * 5) ys[k]) := fun wr hb k hk => (HO'.out.below stb_bx hb).at hk
    clear HO HO'
    rw [hn.out] at hl ⊢
    rw [hny.out]
    clear hlen
    go_enter Tryz.func29, Tryz.ntmps29
    go_wp2
    go_loopw [7, 8, 9, 17] (fun _ _ _ u wr => ∃ k : Nat, k ≤ n ∧ u = .int .i64 k ∧ Hid (Below w.heap.size w wr) ∧ Hid (R = eqL p (xs.drop k) (ys.drop k))) (fun _ _ _ u _ => n - (intOf u).toNat)
    case atStart => exact ⟨0, Nat.zero_le _, rfl, Below.refl _ _, hR.out⟩
    case round =>
      obtain ⟨k, hkl, rfl, hB, hA⟩ := hrel
      by_cases hltn : k < n
      · have hltz : (k : Int) < (n : Int) := by omega
        have hlt : k < xs.length := by rw [hn.out]; exact hltn
        have hlt' : k < ys.length := by rw [hny.out]; exact hltn
        obtain ⟨g, o, rfl, hgl, q0a, q1a, q2a, q3a, mva, q4a, qma⟩ := HAx.out wr hB.out k hlt
        obtain ⟨g', o', rfl, hgl', q0b, q1b, q2b, q3b, mvb, q4b, qmb⟩ := HAy.out wr hB.out k hlt'
        have p0a : wr.cell? ⟨g, o + (k) * 5, none⟩ = some (.int .i64 (xs[k]).user) := q0a
        have p1a : wr.cell? ⟨g, o + (k) * 5 + 1, none⟩ = some (.string ⟨(xs[k]).name.toArray⟩) := q1a
        have p2a : wr.cell? ⟨g, o + (k) * 5 + 2, none⟩ = some (.int .i64 (xs[k]).valid) := q2a
        have p3a : wr.cell? ⟨g, o + (k) * 5 + 3, none⟩ = some (.int .i64 (xs[k]).next) := q3a
        have p4a : wr.cell? ⟨g, o + (k) * 5 + 4, none⟩ = some (mva) := q4a
        have p0b : wr.cell? ⟨g', o' + k * 5, none⟩ = some (.int .i64 ys[k].user) := q0b
        have p1b : wr.cell? ⟨g', o' + k * 5 + 1, none⟩ = some (.string ⟨ys[k].name.toArray⟩) := q1b
        have p2b : wr.cell? ⟨g', o' + k * 5 + 2, none⟩ = some (.int .i64 ys[k].valid) := q2b
        have p3b : wr.cell? ⟨g', o' + k * 5 + 3, none⟩ = some (.int .i64 ys[k].next) := q3b
        have p4b : wr.cell? ⟨g', o' + k * 5 + 4, none⟩ = some (mvb) := q4b
        have HC := hide (hp.out k hlt hlt')
        have HD := hide (eqL_drop p xs ys k hlt hlt')
        clear q0a q0b q1a q1b q2a q2b q3a q3b q4a q4b
        generalize xs[k] = x at *
        generalize ys[k] = y at *
        clear hlt hlt'
        obtain ⟨Aa, ca, rfl⟩ := qma.form
        obtain ⟨Ab, cb, rfl⟩ := qmb.form
        have HBx : Hid (Below wr.heap.size wr ((wr.alloc (.cells #[.int .i64 x.user, .string ⟨x.name.toArray⟩, .int .i64 x.valid, .int .i64 x.next, .slice Aa x.msgs.length ca] 39)).alloc (.cells #[.int .i64 y.user, .string ⟨y.name.toArray⟩, .int .i64 y.valid, .int .i64 y.next, .slice Ab y.msgs.length cb] 39))) := ((Below.refl _ _).alloc (Nat.le_refl _) _).alloc (by simp) _
        have p0y : (wr.alloc (.cells #[.int .i64 x.user, .string ⟨x.name.toArray⟩, .int .i64 x.valid, .int .i64 x.next, .slice Aa x.msgs.length ca] 39)).cell? ⟨g', o' + k * 5, none⟩ = some (.int .i64 y.user) := by rw [((Below.refl wr.heap.size wr).alloc (Nat.le_refl _) _).cell hgl']; exact p0b
        have HC0 := hide (HC.out (.agg #[.int .i64 x.user, .string ⟨x.name.toArray⟩, .int .i64 x.valid, .int .i64 x.next, .slice Aa x.msgs.length ca]) (.agg #[.int .i64 y.user, .string ⟨y.name.toArray⟩, .int .i64 y.valid, .int .i64 y.next, .slice Ab y.msgs.length cb]) _ ⟨_, rfl, qma.below stb_msg HBx.out⟩ ⟨_, rfl, qmb.below stb_msg HBx.out⟩)
        clear HC p0y
        cases hq : p x y with
        | true =>
          rw [hq] at HC0
          go_wp2_with (go_at_fn F; refine HC0.out.mono ?_; rintro e w' ⟨rfl, hb'⟩; replace hb' := hide hb')
          go_roundw
          case rel =>
            refine ⟨k + 1, by omega, by go_num, hB.out.trans ((HBx.out.trans (hb'.out.mono HBx.out.size)).mono hB.out.size), ?_⟩
            show _ = _
            rw [hA.out, HD.out, hq]
            rfl
          case measure => simp [intOf]; omega
        | false =>
          rw [hq] at HC0
          have HF : Hid (R = false) := by show _ = _; rw [hA.out, HD.out, hq]; rfl
          go_wp2_with (go_at_fn F; refine HC0.out.mono ?_; rintro e w' ⟨rfl, hb'⟩; replace hb' := hide hb')
          go_ret
          exact ⟨by rw [HF.out]; rfl, hB.out.trans ((HBx.out.trans (hb'.out.mono HBx.out.size)).mono hB.out.size)⟩
      · have hltz : ¬ (k : Int) < (n : Int) := by omega
        have HF : Hid (R = true) := by show _ = _; rw [hA.out, List.drop_eq_nil_of_le (by rw [hn.out]; omega), List.drop_eq_nil_of_le (by rw [hny.out]; omega)]; rfl
        go_wp2
        go_ret
        exact ⟨by rw [HF.out]; rfl, hB.out⟩
  · have hlz : ¬ (xs.length : Int) = (ys.length : Int) := by omega
    have HF : Hid (R = false) := by show _ = _; rw [hR.out]; exact eqL_len p xs ys hlen
    clear hp
    go_enter Tryz.func29, Tryz.ntmps29
    go_wp2
    go_ret
    exact ⟨by rw [HF.out]; rfl, Below.refl _ _⟩
end Go.Proofs.YtbfdbbpkpjgamaaGreatDoor

end
section
set_option linter.unusedVariables false
set_option linter.unusedSimpArgs false
namespace Go.Proofs.YtbfdbbpkpjgamaaGreatDoor
open Go.RowKit

set_option maxRecDepth 20000 in
set_option maxHeartbeats 4000000 in
theorem peqfItem_any {xs ys : List It} {v u : Value} {w : World} (h : RdE 7 ItAt w v xs) (h' : RdE 7 ItAt w u ys) (hl : xs.length ≤ 1000000) (p : It → It → Bool) (F : Nat) (eg : ∀ args w, (callFunc F args).run Tryz.prog w = .ok (.enter F args) w)
    (hp : ∀ i (hi : i < xs.length) (hj : i < ys.length) u v W, ItV W u xs[i] → ItV W v ys[i] → Calls Tryz.prog F #[u, v] W fun e w' => e = .returned (.bool (p xs[i] ys[i])) ∧ Below W.heap.size W w') :
    Calls Tryz.prog 32 #[v, u, .func (.func F) #[] #[]] w fun e w' => e = .returned (.bool (eqL p xs ys)) ∧ Below w.heap.size w w' := by
  have HO := hide h
  have HO' := hide h'
  obtain ⟨A, c, rfl⟩ := h.form
  obtain ⟨A', c', rfl⟩ := h'.form
  clear h h'
  replace hp := hide hp
  obtain ⟨R, hR⟩ : ∃ R, Hid (R = eqL p xs ys) := ⟨_, hide rfl⟩
  rw [← hR.out]
  by_cases hlen : xs.length = ys.length
  · obtain ⟨n, hn⟩ : ∃ n, Hid (xs.length = n) := ⟨_, hide rfl⟩
    have hny : Hid (ys.length = n) := by show _ = _; rw [← hlen, hn.out]
    have HAx : Hid (∀ wr, Below w.heap.size w wr → ∀ k (hk : k < xs.length), ∃ g o, A = some ⟨g, o, none⟩ ∧ g < wr.heap.size ∧ ItAt wr g (o + k * 7) xs[k]) := fun wr hb k hk => (HO.out.below stb_it hb).at hk
    have HAy : Hid (∀ wr, Below w.heap.size w wr → ∀ k (hk : k < ys.length), ∃ g o, A' = some ⟨g, o, none⟩ ∧ g < wr.heap.size ∧ ItAt wr g (o + k * 7) ys[k]) := fun wr hb k hk => (HO'.out.below stb_it hb).at hk
    clear HO HO'
    rw [hn.out] at hl ⊢
    rw [hny.out]
    clear hlen
    go_enter Tryz.func32, Tryz.ntmps32
    go_wp2
    go_loopw [7, 8, 9, 17] (fun _ _ _ u wr => ∃ k : Nat, k ≤ n ∧ u = .int .i64 k ∧ Hid (Below w.heap.size w wr) ∧ Hid (R = eqL p (xs.drop k) (ys.drop k))) (fun _ _ _ u _ => n - (intOf u).toNat)
    case atStart => exact ⟨0, Nat.zero_le _, rfl, Below.refl _ _, hR.out⟩
    case round =>
      obtain ⟨k, hkl, rfl, hB, hA⟩ := hrel
      by_cases hltn : k < n
      · have hltz : (k : Int) < (n : Int) := by omega
        have hlt : k < xs.length := by rw [hn.out]; exact hltn
        have hlt' : k < ys.length := by rw [hny.out]; exact hltn
        obtain ⟨g, o, rfl, hgl, q0a, q1a, ⟨mva, q2a, qma⟩, q3a, q4a, q5a, q6a⟩ := HAx.out wr hB.out k hlt
        obtain ⟨g', o', rfl, hgl', q0b, q1b, ⟨mvb, q2b, qmb⟩, q3b, q4b, q5b, q6b⟩ := HAy.out wr hB.out k hlt'
        have p0a : wr.cell? ⟨g, o + (k) * 7, none⟩ = some (.int .i64 (xs[k]).id) := q0a
        have p1a : wr.cell? ⟨g, o + (k) * 7 + 1, none⟩ = some (.string ⟨(xs[k]).frm.toArray⟩) := q1a
        have p2a : wr.cell? ⟨g, o + (k) * 7 + 2, none⟩ = some (mva) := q2a
        have p3a : wr.cell? ⟨g, o + (k) * 7 + 3, none⟩ = some (.int .i64 (xs[k]).born) := q3a
        have p4a : wr.cell? ⟨g, o + (k) * 7 + 4, none⟩ = some (.int .i64 (xs[k]).tries) := q4a
        have p5a : wr.cell? ⟨g, o + (k) * 7 + 5, none⟩ = some (.int .i64 (xs[k]).due) := q5a
        have p6a : wr.cell? ⟨g, o + (k) * 7 + 6, none⟩ = some (.string ⟨(xs[k]).body.toArray⟩) := q6a
        have p0b : wr.cell? ⟨g', o' + k * 7, none⟩ = some (.int .i64 ys[k].id) := q0b
        have p1b : wr.cell? ⟨g', o' + k * 7 + 1, none⟩ = some (.string ⟨ys[k].frm.toArray⟩) := q1b
        have p2b : wr.cell? ⟨g', o' + k * 7 + 2, none⟩ = some (mvb) := q2b
        have p3b : wr.cell? ⟨g', o' + k * 7 + 3, none⟩ = some (.int .i64 ys[k].born) := q3b
        have p4b : wr.cell? ⟨g', o' + k * 7 + 4, none⟩ = some (.int .i64 ys[k].tries) := q4b
        have p5b : wr.cell? ⟨g', o' + k * 7 + 5, none⟩ = some (.int .i64 ys[k].due) := q5b
        have p6b : wr.cell? ⟨g', o' + k * 7 + 6, none⟩ = some (.string ⟨ys[k].body.toArray⟩) := q6b
        have HC := hide (hp.out k hlt hlt')
        have HD := hide (eqL_drop p xs ys k hlt hlt')
        clear q0a q0b q1a q1b q2a q2b q3a q3b q4a q4b q5a q5b q6a q6b
        generalize xs[k] = x at *
        generalize ys[k] = y at *
        clear hlt hlt'
        obtain ⟨Aa, ca, rfl⟩ := qma.form
        obtain ⟨Ab, cb, rfl⟩ := qmb.form
        have HBx : Hid (Below wr.heap.size wr ((wr.alloc (.cells #[.int .i64 x.id, .string ⟨x.frm.toArray⟩, .slice Aa x.fr.length ca, .int .i64 x.born, .int .i64 x.tries, .int .i64 x.due, .string ⟨x.body.toArray⟩] 62)).alloc (.cells #[.int .i64 y.id, .string ⟨y.frm.toArray⟩, .slice Ab y.fr.length cb, .int .i64 y.born, .int .i64 y.tries, .int .i64 y.due, .string ⟨y.body.toArray⟩] 62))) := ((Below.refl _ _).alloc (Nat.le_refl _) _).alloc (by simp) _
        have p0y : (wr.alloc (.cells #[.int .i64 x.id, .string ⟨x.frm.toArray⟩, .slice Aa x.fr.length ca, .int .i64 x.born, .int .i64 x.tries, .int .i64 x.due, .string ⟨x.body.toArray⟩] 62)).cell? ⟨g', o' + k * 7, none⟩ = some (.int .i64 y.id) := by rw [((Below.refl wr.heap.size wr).alloc (Nat.le_refl _) _).cell hgl']; exact p0b
        have HC0 := hide (HC.out (.agg #[.int .i64 x.id, .string ⟨x.frm.toArray⟩, .slice Aa x.fr.length ca, .int .i64 x.born, .int .i64 x.tries, .int .i64 x.due, .string ⟨x.body.toArray⟩]) (.agg #[.int .i64 y.id, .string ⟨y.frm.toArray⟩, .slice Ab y.fr.length cb, .int .i64 y.born, .int .i64 y.tries, .int .i64 y.due, .string ⟨y.body.toArray⟩]) _ ⟨_, rfl, qma.below stb_int HBx.out⟩ ⟨_, rfl, qmb.below stb_int HBx.out⟩)
        clear HC p0y
        cases hq : p x y with
        | true =>
          rw [hq] at HC0
          go_wp2_with (go_at_fn F; refine HC0.out.mono ?_; rintro e w' ⟨rfl, hb'⟩; replace hb' := hide hb')
          go_roundw
          case rel =>
            refine ⟨k + 1, by omega, by go_num, hB.out.trans ((HBx.out.trans (hb'.out.mono HBx.out.size)).mono hB.out.size), ?_⟩
            show _ = _
            rw [hA.out, HD.out, hq]
            rfl
          case measure => simp [intOf]; omega
        | false =>
          rw [hq] at HC0
          have HF : Hid (R = false) := by show _ = _; rw [hA.out, HD.out, hq]; rfl
          go_wp2_with (go_at_fn F; refine HC0.out.mono ?_; rintro e w' ⟨rfl, hb'⟩; replace hb' := hide hb')
          go_ret
          exact ⟨by rw [HF.out]; rfl, hB.out.trans ((HBx.out.trans (hb'.out.mono HBx.out.size)).mono hB.out.size)⟩
      · have hltz : ¬ (k : Int) < (n : Int) := by omega
        have HF : Hid (R = true) := by show _ = _; rw [hA.out, List.drop_eq_nil_of_le (by rw [hn.out]; omega), List.drop_eq_nil_of_le (by rw [hny.out]; omega)]; rfl
        go_wp2
        go_ret
        exact ⟨by rw [HF.out]; rfl, hB.out⟩
  · have hlz : ¬ (xs.length : Int) = (ys.length : Int) := by omega
    have HF : Hid (R = false) := by show _ = _; rw [hR.out]; exact eqL_len p xs ys hlen
    clear hp
    go_enter Tryz.func32, Tryz.ntmps32
    go_wp2
    go_ret
    exact ⟨by rw [HF.out]; rfl, Below.refl _ _⟩
end Go.Proofs.YtbfdbbpkpjgamaaGreatDoor

end
