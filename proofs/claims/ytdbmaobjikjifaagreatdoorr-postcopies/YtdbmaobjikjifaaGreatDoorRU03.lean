/- Worlds that differ in some blocks alone; rows of cells that a slice reaches, wherever they lie in their block; append to such a row. -/
/- Rows of structs in memory, of whatever shape. -/
/- How mail, and an act, lie in memory: what a slice reads as, each element as a relation says of the place where it lies. -/
import Derived.Test.YtdbmaobjikjifaaGreatDoorRU02
import Derived.Deep.Upon
import Derived.Deep.MidRow
import Derived.WideShapes
section
namespace Go.Proofs.YtdbmaobjikjifaaGreatDoorR
open Go.RowKit

/-- w' is w but for the blocks S, and for new blocks. -/
structure Mvs (S : Nat → Prop) (w w' : World) : Prop where
  os : w'.os = w.os
  tape : w'.tape = w.tape
  output : w'.output = w.output
  size : w.heap.size ≤ w'.heap.size
  block : ∀ k, k < w.heap.size → ¬ S k → w'.heap[k]? = w.heap[k]?
section
variable {S S' : Nat → Prop} {x y z : World}
theorem Mvs.refl (S : Nat → Prop) (w : World) : Mvs S w w := ⟨rfl, rfl, rfl, Nat.le_refl _, fun _ _ _ => rfl⟩
theorem Mvs.trans' (h : Mvs S x y) (k : Mvs S' y z) (hs : ∀ i, i < x.heap.size → S' i → S i) : Mvs S x z :=
  ⟨k.os.trans h.os, k.tape.trans h.tape, k.output.trans h.output, Nat.le_trans h.size k.size, fun i hi hb => (k.block i (Nat.lt_of_lt_of_le hi h.size) (fun c => hb (hs i hi c))).trans (h.block i hi hb)⟩
theorem Mvs.trans (h : Mvs S x y) (k : Mvs S y z) : Mvs S x z := h.trans' k fun _ _ c => c
theorem Mvs.mono (h : Mvs S x y) (hs : ∀ i, i < x.heap.size → S i → S' i) : Mvs S' x y := ⟨h.os, h.tape, h.output, h.size, fun i hi hb => h.block i hi fun c => hb (hs i hi c)⟩
theorem Mvs.of_below (h : Below x.heap.size x y) : Mvs S x y := ⟨h.os, h.tape, h.output, h.size, fun i hi _ => h.block i hi⟩
theorem Mvs.then (h : Mvs S x y) (k : Below y.heap.size y z) : Mvs S x z := h.trans (Mvs.of_below k)
theorem Mvs.setCell (h : Mvs S x y) (a : Addr) (v : Value) (hs : a.block < x.heap.size → S a.block) : Mvs S x (y.setCell a v) :=
  ⟨h.os, h.tape, h.output, by simpa [World.setCell] using h.size, fun i hi hb => (Below.heap_setCell _ _ _ _ (fun e => hb (by subst e; exact hs hi))).trans (h.block i hi hb)⟩
theorem Mvs.drew (h : Mvs S x y) : Mvs S x y.drew := ⟨h.os, h.tape, h.output, h.size, h.block⟩
theorem Mvs.drewN (h : Mvs S x y) (n : Nat) : Mvs S x (y.drewN n) := ⟨h.os, h.tape, h.output, h.size, h.block⟩
theorem Mvs.of_drew (h : Mvs S x.drew y) : Mvs S x y := ⟨h.os, h.tape, h.output, h.size, h.block⟩
theorem Mvs.alloc (h : Mvs S x y) (o : Obj) : Mvs S x (y.alloc o) := h.then ((Below.refl _ _).alloc (Nat.le_refl _) _)
theorem Mvs.below {B : Nat} (h : Mvs S x y) (hs : ∀ k, k < B → ¬ S k) (hB : B ≤ x.heap.size) : Below B x y :=
  ⟨h.os, h.tape, h.output, h.size, fun i hi => h.block i (by omega) (hs i hi)⟩
theorem Mvs.blk {b : Nat} {vs : Array Value} {t : TypeId} (h : Mvs S x y) (k : Blk x b vs t) (hs : ¬ S b) : Blk y b vs t := (h.block b k.lt hs).trans k
theorem Mvs.cell (h : Mvs S x y) {a : Addr} (hb : a.block < x.heap.size) (hs : ¬ S a.block) : y.cell? a = x.cell? a := World.cell?_of_block (h.block _ hb hs)
theorem Mvs.frozen (h : Mvs S x y) {a : Addr} (hb : a.block < x.heap.size) (hs : ¬ S a.block) : y.frozen? a = x.frozen? a := World.frozen?_of_block (h.block _ hb hs)
end
theorem Mvs.setCells (w : World) (g o : Nat) (vs : List Value) : Mvs (fun k => some k = some g) w (w.setCells g o vs) := by
  induction vs generalizing w o with
  | nil => exact Mvs.refl _ _
  | cons v vs ih => exact ((Mvs.refl (fun k => some k = some g) w).setCell ⟨g, o, none⟩ v (fun _ => rfl)).trans (ih _ _)

/-- The slice v reaches n elements of sz cells each, which hold cs; it lies in block G (none: nil); all of its room is there, and can be written. -/
def Rw (w : World) (sz : Nat) (v : Value) (n : Nat) (cs : List Value) (G : Option Nat) : Prop :=
  cs.length = n * sz ∧ ((v = .slice none 0 0 ∧ n = 0 ∧ G = none) ∨
    ∃ g o cap, G = some g ∧ v = .slice (some ⟨g, o, none⟩) n cap ∧ n ≤ cap ∧ cap ≤ maxLen ∧ g < w.heap.size ∧ (∀ j u, cs[j]? = some u → w.cell? ⟨g, o + j, none⟩ = some u) ∧
      ∀ j, j < cap * sz → (w.cell? ⟨g, o + j, none⟩).isSome = true ∧ w.frozen? ⟨g, o + j, none⟩ = false)
section
variable {w w' : World} {sz n : Nat} {v : Value} {cs : List Value} {G : Option Nat} {S : Nat → Prop}
theorem Rw.nil (w : World) (sz : Nat) : Rw w sz (.slice none 0 0) 0 [] none := ⟨by simp, .inl ⟨rfl, rfl, rfl⟩⟩
theorem Rw.keep (h : Rw w sz v n cs G) (hm : Mvs S w w') (hG : ∀ g, G = some g → ¬ S g) : Rw w' sz v n cs G := by
  refine ⟨h.1, h.2.imp id ?_⟩
  rintro ⟨g, o, cap, rfl, rfl, h1, h2, h3, h4, h5⟩
  have hs := hG g rfl
  refine ⟨g, o, cap, rfl, rfl, h1, h2, Nat.lt_of_lt_of_le h3 hm.size, fun j u hu => ?_, fun j hj => ?_⟩
  · rw [hm.cell h3 hs]
    exact h4 j u hu
  · rw [hm.cell h3 hs, hm.frozen h3 hs]
    exact h5 j hj
theorem Rw.lt (h : Rw w sz v n cs G) : ∀ g, G = some g → g < w.heap.size := by
  rintro g rfl
  rcases h.2 with ⟨_, _, h⟩ | ⟨g', o, cap, h, _, _, _, h3, _⟩
  · cases h
  · cases h
    exact h3
theorem Rw.form (h : Rw w sz v n cs G) : ∃ A c, v = .slice A n c := by
  rcases h.2 with ⟨h1, h2, _⟩ | ⟨g, o, cap, _, h2, _⟩
  · exact ⟨_, _, by rw [h1, h2]⟩
  · exact ⟨_, _, h2⟩
theorem Rw.max (h : Rw w sz v n cs G) : n ≤ maxLen := by
  rcases h.2 with ⟨_, h, _⟩ | ⟨g', o, cap, h, _, h1, h2, h3, _⟩
  · omega
  · omega
/-- A block made just now, of whose cells the first are the row. -/
theorem Rw.new {e : TypeId} {g cap : Nat} (cs zs : List Value) (hb : w.heap[g]? = some (.cells (cs ++ zs).toArray e (0, 0))) (hn : cs.length = n * sz) (hc : (cs ++ zs).length = cap * sz) (hle : n ≤ cap) (hm : cap ≤ maxLen) :
    Rw w sz (.slice (some ⟨g, 0, none⟩) n cap) n cs (some g) := by
  have hk : Blk w g (cs ++ zs).toArray e := hb
  refine ⟨hn, .inr ⟨g, 0, cap, rfl, rfl, hle, hm, hk.lt, fun j u hu => ?_, fun j hj => ⟨?_, hk.frozen _⟩⟩⟩
  · rw [hk.cell, List.getElem?_toArray, Nat.zero_add, List.getElem?_append_left (List.getElem?_eq_some_iff.1 hu).1, hu]
  · rw [hk.cell, List.getElem?_toArray, Nat.zero_add, List.getElem?_eq_getElem (by omega)]
    rfl
end

section
variable {P : Program}
theorem run_append_rw {w : World} (t tx ty e : TypeId) (i : TypeInfo) (z : Value) (size bytes : Nat) (ht : P.underlying t = some (.slice e)) (hi : P.info? e = some i) (hz : i.zero = some z) (hsize : i.size = size) (hby : i.bytes = bytes) (hzs : z.cells.size = size)
    {v : Value} {n : Nat} {cs : List Value} {G : Option Nat} (h : Rw w size v n cs G) (x : Value) (m : Nat) (news : List Value) (hs : Src P size tx x m news w) (h63 : n + m ≤ maxLen) (hbytes : (n + m) * bytes ≤ 140737488355328) :
    ∃ v' w' G', (Builtin.append_ #[t, tx] ty #[v, x]).run P w = .ok v' w' ∧ Rw w' size v' (n + m) (cs ++ news) G' ∧ Mvs (fun k => some k = G) w w' ∧ (G' = G ∨ G' = some w.heap.size) := by
  subst hsize
  subst hby
  have hl : (cs ++ news).length = (n + m) * i.size := by rw [List.length_append, h.1, hs.newsLen, Nat.add_mul]
  have grow : ∀ (bs : Option Addr) (sc : Nat), v = .slice bs n sc → sc < n + m → (Builtin.firstCells i.size n (.slice bs n sc)).run P w.drew = .ok cs.toArray w.drew →
      ∃ v' w' G', (Builtin.append_ #[t, tx] ty #[v, x]).run P w = .ok v' w' ∧ Rw w' i.size v' (n + m) (cs ++ news) G' ∧ Mvs (fun k => some k = G) w w' ∧ (G' = G ∨ G' = some w.heap.size) := by
    rintro bs sc rfl hg hold
    have hrun := run_append_grow_src (P := P) w t tx ty e i z ht hi hz bs n sc cs hold x m news hs hg (by simp only [maxLen] at h63; omega) (growslice_fits hg hbytes)
    have hge := grownCap_ge w (n + m) sc e
    have hcm := grownCap_le_maxLen w (n + m) sc e h63
    refine ⟨_, _, some w.heap.size, hrun, ?_, (Mvs.refl _ _).drew.alloc _, .inr rfl⟩
    refine Rw.new (e := e) (cs ++ news) (Builtin.zeroCells z.cells (grownCap w (n + m) sc e - (n + m))).toList ?_ hl ?_ hge hcm
    · have := Blk.new w.drew ((cs ++ news).toArray ++ Builtin.zeroCells z.cells (grownCap w (n + m) sc e - (n + m))) e
      unfold Blk at this
      rw [show w.drew.heap.size = w.heap.size from rfl] at this
      rw [this]
      simp
    · rw [List.length_append, hl, Array.length_toList, size_zeroCells, hzs, ← Nat.add_mul]
      congr 1
      omega
  rcases h.2 with ⟨rfl, hn, rfl⟩ | ⟨g, o, cap, rfl, rfl, h1, h2, h3, h4, h5⟩
  · subst hn
    have hc0 : cs = [] := List.length_eq_zero_iff.1 (by simpa using h.1)
    subst hc0
    rcases Nat.eq_zero_or_pos m with rfl | hm
    · have hn0 : news = [] := List.length_eq_zero_iff.1 (by simpa using hs.newsLen)
      subst hn0
      exact ⟨_, _, none, run_append_nothing w t tx ty e i ht hi none 0 0 (Nat.le_refl _) x hs, Rw.nil w _, Mvs.refl _ _, .inl rfl⟩
    · exact grow none 0 rfl (by omega) (run_firstCells_none w.drew i.size 0 0 0)
  · by_cases hr : n + m ≤ cap
    · have hnl := hs.newsLen
      have hin : n * i.size + news.length ≤ cap * i.size := by rw [hnl, ← Nat.add_mul]; exact Nat.mul_le_mul_right _ hr
      have hrun := run_append_room_src (P := P) w t tx ty e i ht hi g o n cap x m news hs hr (fun j hj => by have := (h5 (n * i.size + j) (by omega)).1; rwa [← Nat.add_assoc] at this) (fun j hj => by have := (h5 (n * i.size + j) (by omega)).2; rwa [← Nat.add_assoc] at this)
      refine ⟨_, _, some g, hrun, ⟨hl, .inr ⟨g, o, cap, rfl, rfl, hr, h2, Nat.lt_of_lt_of_le h3 (Mvs.setCells w g _ news).size, fun j u hu => ?_, fun j hj => ⟨?_, ?_⟩⟩⟩, Mvs.setCells _ _ _ _, .inl rfl⟩
      · by_cases hjn : j < cs.length
        · rw [List.getElem?_append_left hjn] at hu
          rw [World.cell?_setCells_out g news _ w ⟨g, o + j, none⟩ (fun _ _ => .inl (by have := h.1; show o + j < o + n * i.size; omega))]
          exact h4 j u hu
        · rw [List.getElem?_append_right (by omega)] at hu
          have hj2 := (List.getElem?_eq_some_iff.1 hu).1
          have := World.cell?_setCells_in g news (o + n * i.size) w (fun k hk => by have := (h5 (n * i.size + k) (by omega)).1; rwa [← Nat.add_assoc] at this) (j - cs.length) hj2
          have e1 : o + n * i.size + (j - cs.length) = o + j := by have := h.1; omega
          rw [e1] at this
          rw [this, ← hu, List.getElem?_eq_getElem hj2]
      · exact World.isSome_setCells g news _ w _ (h5 j hj).1
      · rw [World.frozen?_setCells]
        exact (h5 j hj).2
    · exact grow (some ⟨g, o, none⟩) cap rfl (by omega) (run_firstCells_some w.drew i.size n ⟨g, o, none⟩ n cap cs h.1 (fun j u hu => by
        have := h4 j u hu
        simpa [Addr.add_lit] using this))

theorem wpList_append_rw {w : World} {ops : Array Oper} {rest : List Oper} {o : Oper} {a : Act} {Q : Exit → Act → World → Prop} (hgd : o.guard = none) (s x : Operand) (t tx : TypeId)
    (ho : o.op = .call { callee := .builtin .append, args := #[s, x], argTypes := #[t, tx] })
    (e : TypeId) (i : TypeInfo) (z : Value) (size bytes : Nat) (ht : P.underlying t = some (.slice e)) (hi : P.info? e = some i) (hz : i.zero = some z) (hsize : i.size = size) (hby : i.bytes = bytes) (hzs : z.cells.size = size)
    {v : Value} {n : Nat} {cs : List Value} {G : Option Nat} (hv : a.eval s = v) (h : Rw w size v n cs G) (xv : Value) (m : Nat) (news : List Value) (hx : a.eval x = xv) (hs : Src P size tx xv m news w) (h63 : n + m ≤ maxLen) (hbytes : (n + m) * bytes ≤ 140737488355328)
    (hK : ∀ v' w' G', Rw w' size v' (n + m) (cs ++ news) G' → Mvs (fun k => some k = G) w w' → (G' = G ∨ G' = some w.heap.size) → wpList P ops Q rest (a.put o.dst v') w') : wpList P ops Q (o :: rest) a w := by
  refine wpList_plain hgd fun K hK' => ?_
  obtain ⟨v', w', G', hrun, r1, r2, r3⟩ := run_append_rw (P := P) t tx o.type e i z size bytes ht hi hz hsize hby hzs h xv m news hs h63 hbytes
  unfold Oper.wp
  simp [execOp, ho, resolve, invoke, builtin, hv, hx, hrun, Result.andThen]
  exact hK' _ _ (hK v' w' G' r1 r2 r3)
end
end Go.Proofs.YtdbmaobjikjifaaGreatDoorR

end
section
namespace Go.Proofs.YtdbmaobjikjifaaGreatDoorR
open Go.RowKit
section
variable {α : Type} {f : α → List Value} {sz : Nat}
theorem flat_len (hf : ∀ x, (f x).length = sz) : ∀ (xs : List α), (xs.flatMap f).length = xs.length * sz
  | [] => by simp
  | x :: r => by
    rw [List.flatMap_cons, List.length_append, hf, flat_len hf r, List.length_cons, Nat.add_mul]
    omega
theorem flat_at (hf : ∀ x, (f x).length = sz) : ∀ (xs : List α) (i : Nat) (hi : i < xs.length) (j : Nat), j < sz → (xs.flatMap f)[i * sz + j]? = (f xs[i])[j]?
  | x :: r, 0, _, j, hj => by
    rw [List.flatMap_cons, List.getElem?_append_left (by rw [hf]; omega)]
    simp
  | x :: r, i + 1, hi, j, hj => by
    have h1 : (i + 1) * sz + j = sz + (i * sz + j) := by rw [Nat.add_mul]; omega
    rw [List.flatMap_cons, List.getElem?_append_right (by rw [hf, h1]; omega), hf, h1, show sz + (i * sz + j) - sz = i * sz + j by omega, flat_at hf r i (by simpa using hi) j hj]
    rfl
/-- A slice that reads as these, in a block from B on (or nil), which is this call's own. -/
def RowOf (f : α → List Value) (sz B : Nat) (w : World) (v : Value) (xs : List α) : Prop := ∃ G, Rw w sz v xs.length (xs.flatMap f) G ∧ ∀ g, G = some g → B ≤ g
theorem RowOf.nil (f : α → List Value) (sz B : Nat) (w : World) : RowOf f sz B w (.slice none 0 0) [] := ⟨none, Rw.nil w sz, fun _ h => by cases h⟩
section
variable {B B' : Nat} {w w' : World} {v : Value} {xs : List α} {S : Nat → Prop}
theorem RowOf.keep (h : RowOf f sz B w v xs) (hm : Mvs S w w') (hs : ∀ k, B ≤ k → ¬ S k) : RowOf f sz B w' v xs := by
  obtain ⟨G, hr, hg⟩ := h
  exact ⟨G, hr.keep hm (fun g e => hs g (hg g e)), hg⟩
theorem RowOf.below (h : RowOf f sz B w v xs) (hb : Below w.heap.size w w') : RowOf f sz B w' v xs := h.keep (S := fun _ => False) (Mvs.of_below hb) (fun _ _ c => c)
theorem RowOf.mono (h : RowOf f sz B w v xs) (hb : B' ≤ B) : RowOf f sz B' w v xs := by
  obtain ⟨G, hr, hg⟩ := h
  exact ⟨G, hr, fun g e => Nat.le_trans hb (hg g e)⟩
theorem RowOf.form (h : RowOf f sz B w v xs) : ∃ A c, v = .slice A xs.length c := by
  obtain ⟨G, hr, _⟩ := h
  exact hr.form
theorem RowOf.read (hf : ∀ x, (f x).length = sz) (h : RowOf f sz B w v xs) (i : Nat) (hi : i < xs.length) : ∃ g o cap, v = .slice (some ⟨g, o, none⟩) xs.length cap ∧ xs.length ≤ cap ∧ cap ≤ maxLen ∧ B ≤ g ∧ g < w.heap.size ∧ ∀ j, j < sz → w.cell? ⟨g, o + i * sz + j, none⟩ = (f xs[i])[j]? := by
  obtain ⟨G, hr, hg⟩ := h
  rcases hr.2 with ⟨_, h0, _⟩ | ⟨g, o, cap, e, hv, h1, h2, h3, h4, _⟩
  · omega
  · refine ⟨g, o, cap, hv, h1, h2, hg g e, h3, fun j hj => ?_⟩
    have ha := flat_at hf xs i hi j hj
    have hj' : j < (f xs[i]).length := by rw [hf]; exact hj
    rw [List.getElem?_eq_getElem hj'] at ha
    rw [Nat.add_assoc, h4 _ _ ha, List.getElem?_eq_getElem hj']
/-- Behind an append of one more. -/
theorem RowOf.grow {x : α} {wr w1 : World} {v1 : Value} {G G1 : Option Nat} (hg : ∀ g, G = some g → B ≤ g) (hr : Rw w1 sz v1 (xs.length + 1) (xs.flatMap f ++ f x) G1) (hG : G1 = G ∨ G1 = some wr.heap.size) (hB : B ≤ wr.heap.size) : RowOf f sz B w1 v1 (xs ++ [x]) := by
  refine ⟨G1, ?_, ?_⟩
  · rw [List.length_append, List.flatMap_append]
    simpa using hr
  · rintro g rfl
    rcases hG with h | h
    · exact hg g h.symm
    · cases h
      exact hB
theorem RowOf.growN {x : α} {w1 : World} {v1 : Value} {G G1 : Option Nat} {N : Nat} (hg : ∀ g, G = some g → B ≤ g) (hr : Rw w1 sz v1 (xs.length + 1) (xs.flatMap f ++ f x) G1) (hG : G1 = G ∨ G1 = some N) (hB : B ≤ N) : RowOf f sz B w1 v1 (xs ++ [x]) := by
  refine ⟨G1, ?_, ?_⟩
  · rw [List.length_append, List.flatMap_append]
    simpa using hr
  · rintro g rfl
    rcases hG with h | h
    · exact hg g h.symm
    · cases h
      exact hB
/-- A slice that reads as these, whoever's it is. -/
def ReadOf (f : α → List Value) (sz : Nat) (w : World) (v : Value) (xs : List α) : Prop := ∃ A cap, v = .slice A xs.length cap ∧ ∀ i (hi : i < xs.length), ∃ g o, A = some ⟨g, o, none⟩ ∧ g < w.heap.size ∧ ∀ j, j < sz → w.cell? ⟨g, o + i * sz + j, none⟩ = (f xs[i])[j]?
theorem RowOf.reads (hf : ∀ x, (f x).length = sz) (h : RowOf f sz B w v xs) : ReadOf f sz w v xs := by
  obtain ⟨A, c, rfl⟩ := h.form
  refine ⟨A, c, rfl, fun i hi => ?_⟩
  obtain ⟨g, o, cap, e, _, _, _, h3, h4⟩ := h.read hf i hi
  exact ⟨g, o, by cases e; rfl, h3, h4⟩
theorem ReadOf.nil (f : α → List Value) (sz : Nat) (w : World) : ReadOf f sz w (.slice none 0 0) [] := ⟨none, 0, rfl, fun i hi => by simp at hi⟩
theorem ReadOf.below (h : ReadOf f sz w v xs) (hb : Below w.heap.size w w') : ReadOf f sz w' v xs := by
  obtain ⟨A, c, rfl, h⟩ := h
  refine ⟨A, c, rfl, fun i hi => ?_⟩
  obtain ⟨g, o, e, hg, hc⟩ := h i hi
  exact ⟨g, o, e, Nat.lt_of_lt_of_le hg hb.size, fun j hj => (hb.cell (p := ⟨g, _, none⟩) hg).trans (hc j hj)⟩
theorem ReadOf.belowB (h : ReadOf f sz w v xs) (hb : Below B w w') (hlt : ∀ A n c, v = .slice (some A) n c → A.block < B) : ReadOf f sz w' v xs := by
  obtain ⟨A, c, rfl, h⟩ := h
  refine ⟨A, c, rfl, fun i hi => ?_⟩
  obtain ⟨g, o, rfl, hg, hc⟩ := h i hi
  have : g < B := hlt _ _ _ rfl
  exact ⟨g, o, rfl, Nat.lt_of_lt_of_le hg hb.size, fun j hj => (hb.cell (p := ⟨g, o + i * sz + j, none⟩) this).trans (hc j hj)⟩
end
end
end Go.Proofs.YtdbmaobjikjifaaGreatDoorR

end
section
set_option linter.unusedVariables false
namespace Go.Proofs.YtdbmaobjikjifaaGreatDoorR
open Go.RowKit
section
variable {α : Type}
/-- A slice that reads as these: element i lies at its place as E says. -/
def RdE (sz : Nat) (E : World → Nat → Nat → α → Prop) (w : World) (v : Value) (xs : List α) : Prop :=
  ∃ A cap, v = .slice A xs.length cap ∧ ∀ i (hi : i < xs.length), ∃ g o, A = some ⟨g, o, none⟩ ∧ g < w.heap.size ∧ E w g (o + i * sz) xs[i]
/-- What E says of old memory stands. -/
def Stb (E : World → Nat → Nat → α → Prop) : Prop := ∀ (w w' : World) (g o : Nat) (x : α), g < w.heap.size → Below w.heap.size w w' → E w g o x → E w' g o x
variable {sz : Nat} {E : World → Nat → Nat → α → Prop} {w w' : World} {v : Value} {xs : List α}
theorem RdE.below (hE : Stb E) (h : RdE sz E w v xs) (hb : Below w.heap.size w w') : RdE sz E w' v xs := by
  obtain ⟨A, c, rfl, h⟩ := h
  refine ⟨A, c, rfl, fun i hi => ?_⟩
  obtain ⟨g, o, e, hg, h1⟩ := h i hi
  exact ⟨g, o, e, Nat.lt_of_lt_of_le hg hb.size, hE w w' g _ _ hg hb h1⟩
theorem RdE.form (h : RdE sz E w v xs) : ∃ A c, v = .slice A xs.length c := by
  obtain ⟨A, c, e, _⟩ := h
  exact ⟨A, c, e⟩
theorem RdE.at {A : Option Addr} {c : Nat} (h : RdE sz E w (.slice A xs.length c) xs) {i : Nat} (hi : i < xs.length) : ∃ g o, A = some ⟨g, o, none⟩ ∧ g < w.heap.size ∧ E w g (o + i * sz) xs[i] := by
  obtain ⟨A', c', e, h⟩ := h
  cases e
  exact h i hi
theorem RdE.nil (w : World) (c : Nat) (A : Option Addr) : RdE sz E w (.slice A 0 c) [] := ⟨A, c, rfl, fun i hi => by simp at hi⟩
/-- The first k. -/
theorem RdE.take {A : Option Addr} {c : Nat} (h : RdE sz E w (.slice A xs.length c) xs) (k : Nat) (hk : k ≤ xs.length) (c' : Nat) : RdE sz E w (.slice A k c') (xs.take k) := by
  refine ⟨A, c', by rw [List.length_take, Nat.min_eq_left hk], fun i hi => ?_⟩
  rw [List.length_take] at hi
  obtain ⟨g, o, e, hg, h1⟩ := h.at (i := i) (by omega)
  exact ⟨g, o, e, hg, by rw [List.getElem_take]; exact h1⟩
end
section
variable {w w' : World} {v : Value}
theorem cell_belowP {g o : Nat} {u : Value} (hb : Below w.heap.size w w') (hg : g < w.heap.size) (h : w.cell? ⟨g, o, none⟩ = some u) : w'.cell? ⟨g, o, none⟩ = some u := (hb.cell (p := ⟨g, o, none⟩) hg).trans h
def IntAt (w : World) (g o : Nat) (x : Int) : Prop := w.cell? ⟨g, o, none⟩ = some (.int .i64 x)
def StrAt (w : World) (g o : Nat) (x : List UInt8) : Prop := w.cell? ⟨g, o, none⟩ = some (.string ⟨x.toArray⟩)
def MsgAt (w : World) (g o : Nat) (m : Msg) : Prop := IntAt w g o m.uid ∧ IntAt w g (o + 1) m.flags ∧ IntAt w g (o + 2) m.date ∧ StrAt w g (o + 3) m.body
def SbAt (w : World) (g o : Nat) (x : Sb) : Prop := IntAt w g o x.user ∧ StrAt w g (o + 1) x.name
def BxAt (w : World) (g o : Nat) (b : Bx) : Prop := IntAt w g o b.user ∧ StrAt w g (o + 1) b.name ∧ IntAt w g (o + 2) b.valid ∧ IntAt w g (o + 3) b.next ∧ ∃ v, w.cell? ⟨g, o + 4, none⟩ = some v ∧ RdE 4 MsgAt w v b.msgs
def ItAt (w : World) (g o : Nat) (q : It) : Prop := IntAt w g o q.id ∧ StrAt w g (o + 1) q.frm ∧ (∃ v, w.cell? ⟨g, o + 2, none⟩ = some v ∧ RdE 1 IntAt w v q.fr) ∧ IntAt w g (o + 3) q.born ∧ IntAt w g (o + 4) q.tries ∧ IntAt w g (o + 5) q.due ∧ StrAt w g (o + 6) q.body
theorem stb_int : Stb IntAt := fun w w' g o x hg hb h => cell_belowP hb hg h
theorem stb_str : Stb StrAt := fun w w' g o x hg hb h => cell_belowP hb hg h
theorem stb_msg : Stb MsgAt := fun w w' g o x hg hb ⟨h0, h1, h2, h3⟩ => ⟨cell_belowP hb hg h0, cell_belowP hb hg h1, cell_belowP hb hg h2, cell_belowP hb hg h3⟩
theorem stb_sb : Stb SbAt := fun w w' g o x hg hb ⟨h0, h1⟩ => ⟨cell_belowP hb hg h0, cell_belowP hb hg h1⟩
theorem stb_bx : Stb BxAt := fun w w' g o x hg hb ⟨h0, h1, h2, h3, v, h4, h5⟩ => ⟨cell_belowP hb hg h0, cell_belowP hb hg h1, cell_belowP hb hg h2, cell_belowP hb hg h3, v, cell_belowP hb hg h4, h5.below stb_msg hb⟩
theorem stb_it : Stb ItAt := fun w w' g o x hg hb ⟨h0, h1, ⟨v, h2, h2'⟩, h3, h4, h5, h6⟩ => ⟨cell_belowP hb hg h0, cell_belowP hb hg h1, ⟨v, cell_belowP hb hg h2, h2'.below stb_int hb⟩, cell_belowP hb hg h3, cell_belowP hb hg h4, cell_belowP hb hg h5, cell_belowP hb hg h6⟩
/-- A state. -/
def StR (w : World) (v : Value) (s : Stt) : Prop := ∃ bv sv qv, v = .agg #[bv, sv, qv, .int .i64 s.nextValid, .int .i64 s.nextItem] ∧ RdE 5 BxAt w bv s.boxes ∧ RdE 2 SbAt w sv s.subs ∧ RdE 7 ItAt w qv s.queue
theorem StR.below {s : Stt} (h : StR w v s) (hb : Below w.heap.size w w') : StR w' v s := by
  obtain ⟨bv, sv, qv, e, h1, h2, h3⟩ := h
  exact ⟨bv, sv, qv, e, h1.below stb_bx hb, h2.below stb_sb hb, h3.below stb_it hb⟩
theorem StR.zero (w : World) : StR w (.agg #[.slice none 0 0, .slice none 0 0, .slice none 0 0, .int .i64 0, .int .i64 0]) stt0 := ⟨_, _, _, rfl, RdE.nil _ _ _, RdE.nil _ _ _, RdE.nil _ _ _⟩
/-- An act. -/
def AcR (w : World) (v : Value) (a : Ac) : Prop := ∃ uv fv, v = .agg #[.int .i64 a.kind, .int .i64 a.user, .int .i64 a.n, .int .i64 a.how, .int .i64 a.flags, .int .i64 a.date, .string ⟨a.name.toArray⟩, .string ⟨a.dst.toArray⟩, .string ⟨a.frm.toArray⟩, .string ⟨a.body.toArray⟩, uv, fv] ∧ RdE 1 IntAt w uv a.uids ∧ RdE 1 IntAt w fv a.fr
theorem AcR.below {a : Ac} (h : AcR w v a) (hb : Below w.heap.size w w') : AcR w' v a := by
  obtain ⟨uv, fv, e, h1, h2⟩ := h
  exact ⟨uv, fv, e, h1.below stb_int hb, h2.below stb_int hb⟩
end
end Go.Proofs.YtdbmaobjikjifaaGreatDoorR

end
