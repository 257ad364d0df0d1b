/- Rows of structs in memory, of whatever shape. -/
/- Type of package mime, whatever the text. -/
import Derived.Test.YtegplihhbdmnbaaGreatDoorU05
import Derived.WideShapes
import Derived.Test.YtegplihhbdmnbaaGreatDoorU18
import Derived.Defers
import Derived.Recover
import Derived.Deep.LoopGhost
section
namespace Go.Proofs.YtegplihhbdmnbaaGreatDoor
open Go.RowKit
section
variable {α : Type} {f : α → List Value} {sz : Nat}
theorem flat_len (hf : ∀ x, (f x).length = sz) : ∀ (xs : List α), (xs.flatMap f).length = xs.length * sz
  | [] => by simp
  | x :: r => by
    rw [List.flatMap_cons, List.length_append, hf, flat_len hf r, List.length_cons, Nat.add_mul]
    omega
theorem flat_at (hf : ∀ x, (f x).length = sz) : ∀ (xs : List α) (i : Nat) (hi : i < xs.length) (j : Nat), j < sz → (xs.flatMap f)[i * sz + j]? = (f xs[i])[j]?
  | x :: r, 0, _, j, hj => by
    rw [List.flatMap_cons, List.getElem?_append_left (by rw [hf]; omega)]
    simp
  | x :: r, i + 1, hi, j, hj => by
    have h1 : (i + 1) * sz + j = sz + (i * sz + j) := by rw [Nat.add_mul]; omega
    rw [List.flatMap_cons, List.getElem?_append_right (by rw [hf, h1]; omega), hf, h1, show sz + (i * sz + j) - sz = i * sz + j by omega, flat_at hf r i (by simpa using hi) j hj]
    rfl
/-- A slice that reads as these, in a block from B on (or nil), which is this call's own. -/
def RowOf (f : α → List Value) (sz B : Nat) (w : World) (v : Value) (xs : List α) : Prop := ∃ G, Rw w sz v xs.length (xs.flatMap f) G ∧ ∀ g, G = some g → B ≤ g
theorem RowOf.nil (f : α → List Value) (sz B : Nat) (w : World) : RowOf f sz B w (.slice none 0 0) [] := ⟨none, Rw.nil w sz, fun _ h => by cases h⟩
section
variable {B B' : Nat} {w w' : World} {v : Value} {xs : List α} {S : Nat → Prop}
theorem RowOf.keep (h : RowOf f sz B w v xs) (hm : Mvs S w w') (hs : ∀ k, B ≤ k → ¬ S k) : RowOf f sz B w' v xs := by
  obtain ⟨G, hr, hg⟩ := h
  exact ⟨G, hr.keep hm (fun g e => hs g (hg g e)), hg⟩
theorem RowOf.below (h : RowOf f sz B w v xs) (hb : Below w.heap.size w w') : RowOf f sz B w' v xs := h.keep (S := fun _ => False) (Mvs.of_below hb) (fun _ _ c => c)
theorem RowOf.mono (h : RowOf f sz B w v xs) (hb : B' ≤ B) : RowOf f sz B' w v xs := by
  obtain ⟨G, hr, hg⟩ := h
  exact ⟨G, hr, fun g e => Nat.le_trans hb (hg g e)⟩
theorem RowOf.form (h : RowOf f sz B w v xs) : ∃ A c, v = .slice A xs.length c := by
  obtain ⟨G, hr, _⟩ := h
  exact hr.form
theorem RowOf.read (hf : ∀ x, (f x).length = sz) (h : RowOf f sz B w v xs) (i : Nat) (hi : i < xs.length) : ∃ g o cap, v = .slice (some ⟨g, o, none⟩) xs.length cap ∧ xs.length ≤ cap ∧ cap ≤ maxLen ∧ B ≤ g ∧ g < w.heap.size ∧ ∀ j, j < sz → w.cell? ⟨g, o + i * sz + j, none⟩ = (f xs[i])[j]? := by
  obtain ⟨G, hr, hg⟩ := h
  rcases hr.2 with ⟨_, h0, _⟩ | ⟨g, o, cap, e, hv, h1, h2, h3, h4, _⟩
  · omega
  · refine ⟨g, o, cap, hv, h1, h2, hg g e, h3, fun j hj => ?_⟩
    have ha := flat_at hf xs i hi j hj
    have hj' : j < (f xs[i]).length := by rw [hf]; exact hj
    rw [List.getElem?_eq_getElem hj'] at ha
    rw [Nat.add_assoc, h4 _ _ ha, List.getElem?_eq_getElem hj']
/-- Behind an append of one more. -/
theorem RowOf.grow {x : α} {wr w1 : World} {v1 : Value} {G G1 : Option Nat} (hg : ∀ g, G = some g → B ≤ g) (hr : Rw w1 sz v1 (xs.length + 1) (xs.flatMap f ++ f x) G1) (hG : G1 = G ∨ G1 = some wr.heap.size) (hB : B ≤ wr.heap.size) : RowOf f sz B w1 v1 (xs ++ [x]) := by
  refine ⟨G1, ?_, ?_⟩
  · rw [List.length_append, List.flatMap_append]
    simpa using hr
  · rintro g rfl
    rcases hG with h | h
    · exact hg g h.symm
    · cases h
      exact hB
theorem RowOf.growN {x : α} {w1 : World} {v1 : Value} {G G1 : Option Nat} {N : Nat} (hg : ∀ g, G = some g → B ≤ g) (hr : Rw w1 sz v1 (xs.length + 1) (xs.flatMap f ++ f x) G1) (hG : G1 = G ∨ G1 = some N) (hB : B ≤ N) : RowOf f sz B w1 v1 (xs ++ [x]) := by
  refine ⟨G1, ?_, ?_⟩
  · rw [List.length_append, List.flatMap_append]
    simpa using hr
  · rintro g rfl
    rcases hG with h | h
    · exact hg g h.symm
    · cases h
      exact hB
/-- A slice that reads as these, whoever's it is. -/
def ReadOf (f : α → List Value) (sz : Nat) (w : World) (v : Value) (xs : List α) : Prop := ∃ A cap, v = .slice A xs.length cap ∧ ∀ i (hi : i < xs.length), ∃ g o, A = some ⟨g, o, none⟩ ∧ g < w.heap.size ∧ ∀ j, j < sz → w.cell? ⟨g, o + i * sz + j, none⟩ = (f xs[i])[j]?
theorem RowOf.reads (hf : ∀ x, (f x).length = sz) (h : RowOf f sz B w v xs) : ReadOf f sz w v xs := by
  obtain ⟨A, c, rfl⟩ := h.form
  refine ⟨A, c, rfl, fun i hi => ?_⟩
  obtain ⟨g, o, cap, e, _, _, _, h3, h4⟩ := h.read hf i hi
  exact ⟨g, o, by cases e; rfl, h3, h4⟩
theorem ReadOf.nil (f : α → List Value) (sz : Nat) (w : World) : ReadOf f sz w (.slice none 0 0) [] := ⟨none, 0, rfl, fun i hi => by simp at hi⟩
theorem ReadOf.below (h : ReadOf f sz w v xs) (hb : Below w.heap.size w w') : ReadOf f sz w' v xs := by
  obtain ⟨A, c, rfl, h⟩ := h
  refine ⟨A, c, rfl, fun i hi => ?_⟩
  obtain ⟨g, o, e, hg, hc⟩ := h i hi
  exact ⟨g, o, e, Nat.lt_of_lt_of_le hg hb.size, fun j hj => (hb.cell (p := ⟨g, _, none⟩) hg).trans (hc j hj)⟩
theorem ReadOf.belowB (h : ReadOf f sz w v xs) (hb : Below B w w') (hlt : ∀ A n c, v = .slice (some A) n c → A.block < B) : ReadOf f sz w' v xs := by
  obtain ⟨A, c, rfl, h⟩ := h
  refine ⟨A, c, rfl, fun i hi => ?_⟩
  obtain ⟨g, o, rfl, hg, hc⟩ := h i hi
  have : g < B := hlt _ _ _ rfl
  exact ⟨g, o, rfl, Nat.lt_of_lt_of_le hg hb.size, fun j hj => (hb.cell (p := ⟨g, o + i * sz + j, none⟩) this).trans (hc j hj)⟩
end
end
end Go.Proofs.YtegplihhbdmnbaaGreatDoor

end
section
namespace Go.Proofs.YtegplihhbdmnbaaGreatDoor
open Go.RowKit Go.Shelf
def Pm.cs (p : Pm) : List Value := [.string ⟨p.name.toArray⟩, .string ⟨p.value.toArray⟩]
theorem pm_len (p : Pm) : p.cs.length = 2 := rfl
theorem src_pm {w : World} (p : Pm) {k : Nat} : Src Tryz.prog 2 37 (.slice (some ⟨w.heap.size, 0, none⟩) 1 k) 1 p.cs (w.alloc (.cells #[.string ⟨p.name.toArray⟩, .string ⟨p.value.toArray⟩] 65)) := by
  refine Src.ofSlice _ Tryz.underlying37 ⟨w.heap.size, 0, none⟩ 1 k _ (by simp [Pm.cs]) (fun j u hu => ?_) (by simp [Value.oneCell', Pm.cs])
  rw [Go.WideShapes.add_plain, Nat.zero_add, World.cell?_alloc_mark]
  rw [← hu, ← List.getElem?_toArray]
  rfl
theorem pmInfo : (Tryz.prog.info? 65).map (fun i => (i.zero, i.size, i.bytes)) = some (some (.agg #[.string ⟨#[]⟩, .string ⟨#[]⟩]), 2, 32) := by kernel_rfl
/-- The error of what isn't in form. -/
structure EFm (w : World) (a : Addr) : Prop where
  cell : w.cell? ⟨0, 0, none⟩ = some (.iface 183 (.pointer (some a)))
  low : 0 < w.heap.size
theorem EFm.below {w w' : World} {a : Addr} (h : EFm w a) (hb : Below w.heap.size w w') : EFm w' a := ⟨(hb.cell (p := ⟨0, 0, none⟩) h.low).trans h.cell, Nat.lt_of_lt_of_le h.low hb.size⟩
/-- The four cells of the results. -/
structure TC (w wr : World) (x0 x1 x2 : Value) : Prop where
  b0 : Blk wr w.heap.size #[x0] 9
  b1 : Blk wr (w.heap.size + 1) #[x1] 9
  b2 : Blk wr (w.heap.size + 1 + 1) #[x2] 37
  b3 : Blk wr (w.heap.size + 1 + 1 + 1) #[.nilIface] 28
  low : Below w.heap.size w wr
section
variable {w wr w' : World} {x0 x1 x2 : Value}
theorem TC.mv (h : TC w wr x0 x1 x2) (hm : Mvs (fun k => k = w.heap.size + 1 + 1 + 1 + 1) wr w') : TC w w' x0 x1 x2 :=
  ⟨hm.blk h.b0 (by omega), hm.blk h.b1 (by omega), hm.blk h.b2 (by omega), hm.blk h.b3 (by omega), h.low.trans (hm.below (fun k hk => by omega) h.low.size)⟩
theorem TC.set0 (h : TC w wr x0 x1 x2) (v : Value) : TC w (wr.setCell ⟨w.heap.size, 0, none⟩ v) v x1 x2 :=
  ⟨h.b0.set 0 v, h.b1.set_other _ _ (by dsimp only; omega), h.b2.set_other _ _ (by dsimp only; omega), h.b3.set_other _ _ (by dsimp only; omega), h.low.setCell (p := ⟨w.heap.size, 0, none⟩) (by dsimp only; omega) _⟩
theorem TC.set1 (h : TC w wr x0 x1 x2) (v : Value) : TC w (wr.setCell ⟨w.heap.size + 1, 0, none⟩ v) x0 v x2 :=
  ⟨h.b0.set_other _ _ (by dsimp only; omega), h.b1.set 0 v, h.b2.set_other _ _ (by dsimp only; omega), h.b3.set_other _ _ (by dsimp only; omega), h.low.setCell (p := ⟨w.heap.size + 1, 0, none⟩) (by dsimp only; omega) _⟩
theorem TC.set2 (h : TC w wr x0 x1 x2) (v : Value) : TC w (wr.setCell ⟨w.heap.size + 1 + 1, 0, none⟩ v) x0 x1 v :=
  ⟨h.b0.set_other _ _ (by dsimp only; omega), h.b1.set_other _ _ (by dsimp only; omega), h.b2.set 0 v, h.b3.set_other _ _ (by dsimp only; omega), h.low.setCell (p := ⟨w.heap.size + 1 + 1, 0, none⟩) (by dsimp only; omega) _⟩
end
theorem typeIdle (p q r s : Addr) (w : World) :
    CallsD Tryz.prog 53 #[.pointer (some p), .pointer (some q), .pointer (some r), .pointer (some s)] .returning w fun e u' w' => e = .returned (.tuple #[]) ∧ u' = .returning ∧ w' = w := by
  refine callsD_of_wpS Tryz.func53 rfl fun c₀ cs hu => ?_
  apply wpS_seq
  apply wpS_region
  simp [wpOpsS, go_sem, recoverD, hu, Tryz.ntmps53, Exit.thenS]
  refine wpS_cond (t := false) (by simp [Act.eval, Array.replicate]) ?_
  simp only [Bool.false_eq_true, if_false]
  refine wpS_of_wp (wp_skip ?_)
  cases c₀
  simp_all [bodyPostS, results, Tryz.results53]
theorem typeCatch {w w1 : World} {x0 x1 x2 : Value} (h : TC w w1 x0 x1 x2) (ef : Addr) (hF : EFm w ef) :
    CallsD Tryz.prog 53 #[.pointer (some ⟨w.heap.size, 0, none⟩), .pointer (some ⟨w.heap.size + 1, 0, none⟩), .pointer (some ⟨w.heap.size + 1 + 1, 0, none⟩), .pointer (some ⟨w.heap.size + 1 + 1 + 1, 0, none⟩)] (.panicking pnc) w1 fun e u' w' =>
      e = .returned (.tuple #[]) ∧ u' = .panicking [{ v := .iface 9 (.string ⟨#[110, 111, 116, 32, 105, 110, 32, 102, 111, 114, 109]⟩), recovered := true }] ∧ w'.cell? ⟨w.heap.size, 0, none⟩ = some (.string ⟨#[]⟩) ∧ w'.cell? ⟨w.heap.size + 1, 0, none⟩ = some (.string ⟨#[]⟩) ∧ w'.cell? ⟨w.heap.size + 1 + 1, 0, none⟩ = some (.slice none 0 0) ∧ w'.cell? ⟨w.heap.size + 1 + 1 + 1, 0, none⟩ = some (.iface 183 (.pointer (some ef))) ∧ Below w.heap.size w w' := by
  have hF1 : w1.cell? ⟨0, 0, none⟩ = some (.iface 183 (.pointer (some ef))) := (h.low.cell (p := ⟨0, 0, none⟩) hF.low).trans hF.cell
  have k0 := h.set0 (.string ⟨#[]⟩)
  have k1 := k0.set1 (.string ⟨#[]⟩)
  have k2 := k1.set2 (.slice none 0 0)
  have c0 := h.b0.cell 0
  have f0 := h.b0.frozen 0
  have c1 := k0.b1.cell 0
  have f1 := k0.b1.frozen 0
  have c2 := k1.b2.cell 0
  have f2 := k1.b2.frozen 0
  have c3 := k2.b3.cell 0
  have f3 := k2.b3.frozen 0
  have HR : Hid (∀ v, ((((w1.setCell ⟨w.heap.size, 0, none⟩ (.string ⟨#[]⟩)).setCell ⟨w.heap.size + 1, 0, none⟩ (.string ⟨#[]⟩)).setCell ⟨w.heap.size + 1 + 1, 0, none⟩ (.slice none 0 0)).setCell ⟨w.heap.size + 1 + 1 + 1, 0, none⟩ v).cell? ⟨w.heap.size, 0, none⟩ = some (.string ⟨#[]⟩) ∧ ((((w1.setCell ⟨w.heap.size, 0, none⟩ (.string ⟨#[]⟩)).setCell ⟨w.heap.size + 1, 0, none⟩ (.string ⟨#[]⟩)).setCell ⟨w.heap.size + 1 + 1, 0, none⟩ (.slice none 0 0)).setCell ⟨w.heap.size + 1 + 1 + 1, 0, none⟩ v).cell? ⟨w.heap.size + 1, 0, none⟩ = some (.string ⟨#[]⟩) ∧ ((((w1.setCell ⟨w.heap.size, 0, none⟩ (.string ⟨#[]⟩)).setCell ⟨w.heap.size + 1, 0, none⟩ (.string ⟨#[]⟩)).setCell ⟨w.heap.size + 1 + 1, 0, none⟩ (.slice none 0 0)).setCell ⟨w.heap.size + 1 + 1 + 1, 0, none⟩ v).cell? ⟨w.heap.size + 1 + 1, 0, none⟩ = some (.slice none 0 0) ∧ ((((w1.setCell ⟨w.heap.size, 0, none⟩ (.string ⟨#[]⟩)).setCell ⟨w.heap.size + 1, 0, none⟩ (.string ⟨#[]⟩)).setCell ⟨w.heap.size + 1 + 1, 0, none⟩ (.slice none 0 0)).setCell ⟨w.heap.size + 1 + 1 + 1, 0, none⟩ v).cell? ⟨w.heap.size + 1 + 1 + 1, 0, none⟩ = some v ∧ Below w.heap.size w ((((w1.setCell ⟨w.heap.size, 0, none⟩ (.string ⟨#[]⟩)).setCell ⟨w.heap.size + 1, 0, none⟩ (.string ⟨#[]⟩)).setCell ⟨w.heap.size + 1 + 1, 0, none⟩ (.slice none 0 0)).setCell ⟨w.heap.size + 1 + 1 + 1, 0, none⟩ v)) := fun v =>
    ⟨(k2.b0.set_other _ _ (by dsimp only; omega)).cell 0, (k2.b1.set_other _ _ (by dsimp only; omega)).cell 0, (k2.b2.set_other _ _ (by dsimp only; omega)).cell 0, (k2.b3.set 0 v).cell 0, k2.low.setCell (p := ⟨w.heap.size + 1 + 1 + 1, 0, none⟩) (by dsimp only; omega) _⟩
  clear k0 k1 k2 h
  refine callsD_of_wpS Tryz.func53 rfl fun c₀ cs hu => ?_
  apply wpS_seq
  apply wpS_region
  simp [wpOpsS, go_sem, recoverD, hu, Tryz.ntmps53, Exit.thenS, pnc]
  refine wpS_cond (t := true) (by simp [Act.eval, Array.replicate]) ?_
  simp only [if_true]
  apply wpS_region
  have hR := HR.out (.iface 183 (.pointer (some ef)))
  clear HR
  simp [wpOpsS, go_sem, c0, f0, c1, f1, c2, f2, c3, f3, hF1, bodyPostS, results, Tryz.results53]
  exact hR.2.2.2.2
end Go.Proofs.YtegplihhbdmnbaaGreatDoor

end
