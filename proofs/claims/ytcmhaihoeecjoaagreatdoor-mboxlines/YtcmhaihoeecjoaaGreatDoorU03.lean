/- Worlds that differ in some blocks alone; rows of cells that a slice reaches, wherever they lie in their block; append to such a row. -/
/- A range over strings.Lines: one law for every body. -/
import Derived.Test.YtcmhaihoeecjoaaGreatDoorU01
import Derived.Deep.Upon
import Derived.Deep.MidRow
import Derived.Test.YtcmhaihoeecjoaaGreatDoorU02
section
namespace Go.Proofs.YtcmhaihoeecjoaaGreatDoor
open Go.RowKit

/-- w' is w but for the blocks S, and for new blocks. -/
structure Mvs (S : Nat → Prop) (w w' : World) : Prop where
  os : w'.os = w.os
  tape : w'.tape = w.tape
  output : w'.output = w.output
  size : w.heap.size ≤ w'.heap.size
  block : ∀ k, k < w.heap.size → ¬ S k → w'.heap[k]? = w.heap[k]?
section
variable {S S' : Nat → Prop} {x y z : World}
theorem Mvs.refl (S : Nat → Prop) (w : World) : Mvs S w w := ⟨rfl, rfl, rfl, Nat.le_refl _, fun _ _ _ => rfl⟩
theorem Mvs.trans' (h : Mvs S x y) (k : Mvs S' y z) (hs : ∀ i, i < x.heap.size → S' i → S i) : Mvs S x z :=
  ⟨k.os.trans h.os, k.tape.trans h.tape, k.output.trans h.output, Nat.le_trans h.size k.size, fun i hi hb => (k.block i (Nat.lt_of_lt_of_le hi h.size) (fun c => hb (hs i hi c))).trans (h.block i hi hb)⟩
theorem Mvs.trans (h : Mvs S x y) (k : Mvs S y z) : Mvs S x z := h.trans' k fun _ _ c => c
theorem Mvs.mono (h : Mvs S x y) (hs : ∀ i, i < x.heap.size → S i → S' i) : Mvs S' x y := ⟨h.os, h.tape, h.output, h.size, fun i hi hb => h.block i hi fun c => hb (hs i hi c)⟩
theorem Mvs.of_below (h : Below x.heap.size x y) : Mvs S x y := ⟨h.os, h.tape, h.output, h.size, fun i hi _ => h.block i hi⟩
theorem Mvs.then (h : Mvs S x y) (k : Below y.heap.size y z) : Mvs S x z := h.trans (Mvs.of_below k)
theorem Mvs.setCell (h : Mvs S x y) (a : Addr) (v : Value) (hs : a.block < x.heap.size → S a.block) : Mvs S x (y.setCell a v) :=
  ⟨h.os, h.tape, h.output, by simpa [World.setCell] using h.size, fun i hi hb => (Below.heap_setCell _ _ _ _ (fun e => hb (by subst e; exact hs hi))).trans (h.block i hi hb)⟩
theorem Mvs.drew (h : Mvs S x y) : Mvs S x y.drew := ⟨h.os, h.tape, h.output, h.size, h.block⟩
theorem Mvs.drewN (h : Mvs S x y) (n : Nat) : Mvs S x (y.drewN n) := ⟨h.os, h.tape, h.output, h.size, h.block⟩
theorem Mvs.of_drew (h : Mvs S x.drew y) : Mvs S x y := ⟨h.os, h.tape, h.output, h.size, h.block⟩
theorem Mvs.alloc (h : Mvs S x y) (o : Obj) : Mvs S x (y.alloc o) := h.then ((Below.refl _ _).alloc (Nat.le_refl _) _)
theorem Mvs.below {B : Nat} (h : Mvs S x y) (hs : ∀ k, k < B → ¬ S k) (hB : B ≤ x.heap.size) : Below B x y :=
  ⟨h.os, h.tape, h.output, h.size, fun i hi => h.block i (by omega) (hs i hi)⟩
theorem Mvs.blk {b : Nat} {vs : Array Value} {t : TypeId} (h : Mvs S x y) (k : Blk x b vs t) (hs : ¬ S b) : Blk y b vs t := (h.block b k.lt hs).trans k
theorem Mvs.cell (h : Mvs S x y) {a : Addr} (hb : a.block < x.heap.size) (hs : ¬ S a.block) : y.cell? a = x.cell? a := World.cell?_of_block (h.block _ hb hs)
theorem Mvs.frozen (h : Mvs S x y) {a : Addr} (hb : a.block < x.heap.size) (hs : ¬ S a.block) : y.frozen? a = x.frozen? a := World.frozen?_of_block (h.block _ hb hs)
end
theorem Mvs.setCells (w : World) (g o : Nat) (vs : List Value) : Mvs (fun k => some k = some g) w (w.setCells g o vs) := by
  induction vs generalizing w o with
  | nil => exact Mvs.refl _ _
  | cons v vs ih => exact ((Mvs.refl (fun k => some k = some g) w).setCell ⟨g, o, none⟩ v (fun _ => rfl)).trans (ih _ _)

/-- The slice v reaches n elements of sz cells each, which hold cs; it lies in block G (none: nil); all of its room is there, and can be written. -/
def Rw (w : World) (sz : Nat) (v : Value) (n : Nat) (cs : List Value) (G : Option Nat) : Prop :=
  cs.length = n * sz ∧ ((v = .slice none 0 0 ∧ n = 0 ∧ G = none) ∨
    ∃ g o cap, G = some g ∧ v = .slice (some ⟨g, o, none⟩) n cap ∧ n ≤ cap ∧ cap ≤ maxLen ∧ g < w.heap.size ∧ (∀ j u, cs[j]? = some u → w.cell? ⟨g, o + j, none⟩ = some u) ∧
      ∀ j, j < cap * sz → (w.cell? ⟨g, o + j, none⟩).isSome = true ∧ w.frozen? ⟨g, o + j, none⟩ = false)
section
variable {w w' : World} {sz n : Nat} {v : Value} {cs : List Value} {G : Option Nat} {S : Nat → Prop}
theorem Rw.nil (w : World) (sz : Nat) : Rw w sz (.slice none 0 0) 0 [] none := ⟨by simp, .inl ⟨rfl, rfl, rfl⟩⟩
theorem Rw.keep (h : Rw w sz v n cs G) (hm : Mvs S w w') (hG : ∀ g, G = some g → ¬ S g) : Rw w' sz v n cs G := by
  refine ⟨h.1, h.2.imp id ?_⟩
  rintro ⟨g, o, cap, rfl, rfl, h1, h2, h3, h4, h5⟩
  have hs := hG g rfl
  refine ⟨g, o, cap, rfl, rfl, h1, h2, Nat.lt_of_lt_of_le h3 hm.size, fun j u hu => ?_, fun j hj => ?_⟩
  · rw [hm.cell h3 hs]
    exact h4 j u hu
  · rw [hm.cell h3 hs, hm.frozen h3 hs]
    exact h5 j hj
theorem Rw.lt (h : Rw w sz v n cs G) : ∀ g, G = some g → g < w.heap.size := by
  rintro g rfl
  rcases h.2 with ⟨_, _, h⟩ | ⟨g', o, cap, h, _, _, _, h3, _⟩
  · cases h
  · cases h
    exact h3
theorem Rw.form (h : Rw w sz v n cs G) : ∃ A c, v = .slice A n c := by
  rcases h.2 with ⟨h1, h2, _⟩ | ⟨g, o, cap, _, h2, _⟩
  · exact ⟨_, _, by rw [h1, h2]⟩
  · exact ⟨_, _, h2⟩
theorem Rw.max (h : Rw w sz v n cs G) : n ≤ maxLen := by
  rcases h.2 with ⟨_, h, _⟩ | ⟨g', o, cap, h, _, h1, h2, h3, _⟩
  · omega
  · omega
/-- A block made just now, of whose cells the first are the row. -/
theorem Rw.new {e : TypeId} {g cap : Nat} (cs zs : List Value) (hb : w.heap[g]? = some (.cells (cs ++ zs).toArray e (0, 0))) (hn : cs.length = n * sz) (hc : (cs ++ zs).length = cap * sz) (hle : n ≤ cap) (hm : cap ≤ maxLen) :
    Rw w sz (.slice (some ⟨g, 0, none⟩) n cap) n cs (some g) := by
  have hk : Blk w g (cs ++ zs).toArray e := hb
  refine ⟨hn, .inr ⟨g, 0, cap, rfl, rfl, hle, hm, hk.lt, fun j u hu => ?_, fun j hj => ⟨?_, hk.frozen _⟩⟩⟩
  · rw [hk.cell, List.getElem?_toArray, Nat.zero_add, List.getElem?_append_left (List.getElem?_eq_some_iff.1 hu).1, hu]
  · rw [hk.cell, List.getElem?_toArray, Nat.zero_add, List.getElem?_eq_getElem (by omega)]
    rfl
end

section
variable {P : Program}
theorem run_append_rw {w : World} (t tx ty e : TypeId) (i : TypeInfo) (z : Value) (size bytes : Nat) (ht : P.underlying t = some (.slice e)) (hi : P.info? e = some i) (hz : i.zero = some z) (hsize : i.size = size) (hby : i.bytes = bytes) (hzs : z.cells.size = size)
    {v : Value} {n : Nat} {cs : List Value} {G : Option Nat} (h : Rw w size v n cs G) (x : Value) (m : Nat) (news : List Value) (hs : Src P size tx x m news w) (h63 : n + m ≤ maxLen) (hbytes : (n + m) * bytes ≤ 140737488355328) :
    ∃ v' w' G', (Builtin.append_ #[t, tx] ty #[v, x]).run P w = .ok v' w' ∧ Rw w' size v' (n + m) (cs ++ news) G' ∧ Mvs (fun k => some k = G) w w' ∧ (G' = G ∨ G' = some w.heap.size) := by
  subst hsize
  subst hby
  have hl : (cs ++ news).length = (n + m) * i.size := by rw [List.length_append, h.1, hs.newsLen, Nat.add_mul]
  have grow : ∀ (bs : Option Addr) (sc : Nat), v = .slice bs n sc → sc < n + m → (Builtin.firstCells i.size n (.slice bs n sc)).run P w.drew = .ok cs.toArray w.drew →
      ∃ v' w' G', (Builtin.append_ #[t, tx] ty #[v, x]).run P w = .ok v' w' ∧ Rw w' i.size v' (n + m) (cs ++ news) G' ∧ Mvs (fun k => some k = G) w w' ∧ (G' = G ∨ G' = some w.heap.size) := by
    rintro bs sc rfl hg hold
    have hrun := run_append_grow_src (P := P) w t tx ty e i z ht hi hz bs n sc cs hold x m news hs hg (by simp only [maxLen] at h63; omega) (growslice_fits hg hbytes)
    have hge := grownCap_ge w (n + m) sc e
    have hcm := grownCap_le_maxLen w (n + m) sc e h63
    refine ⟨_, _, some w.heap.size, hrun, ?_, (Mvs.refl _ _).drew.alloc _, .inr rfl⟩
    refine Rw.new (e := e) (cs ++ news) (Builtin.zeroCells z.cells (grownCap w (n + m) sc e - (n + m))).toList ?_ hl ?_ hge hcm
    · have := Blk.new w.drew ((cs ++ news).toArray ++ Builtin.zeroCells z.cells (grownCap w (n + m) sc e - (n + m))) e
      unfold Blk at this
      rw [show w.drew.heap.size = w.heap.size from rfl] at this
      rw [this]
      simp
    · rw [List.length_append, hl, Array.length_toList, size_zeroCells, hzs, ← Nat.add_mul]
      congr 1
      omega
  rcases h.2 with ⟨rfl, hn, rfl⟩ | ⟨g, o, cap, rfl, rfl, h1, h2, h3, h4, h5⟩
  · subst hn
    have hc0 : cs = [] := List.length_eq_zero_iff.1 (by simpa using h.1)
    subst hc0
    rcases Nat.eq_zero_or_pos m with rfl | hm
    · have hn0 : news = [] := List.length_eq_zero_iff.1 (by simpa using hs.newsLen)
      subst hn0
      exact ⟨_, _, none, run_append_nothing w t tx ty e i ht hi none 0 0 (Nat.le_refl _) x hs, Rw.nil w _, Mvs.refl _ _, .inl rfl⟩
    · exact grow none 0 rfl (by omega) (run_firstCells_none w.drew i.size 0 0 0)
  · by_cases hr : n + m ≤ cap
    · have hnl := hs.newsLen
      have hin : n * i.size + news.length ≤ cap * i.size := by rw [hnl, ← Nat.add_mul]; exact Nat.mul_le_mul_right _ hr
      have hrun := run_append_room_src (P := P) w t tx ty e i ht hi g o n cap x m news hs hr (fun j hj => by have := (h5 (n * i.size + j) (by omega)).1; rwa [← Nat.add_assoc] at this) (fun j hj => by have := (h5 (n * i.size + j) (by omega)).2; rwa [← Nat.add_assoc] at this)
      refine ⟨_, _, some g, hrun, ⟨hl, .inr ⟨g, o, cap, rfl, rfl, hr, h2, Nat.lt_of_lt_of_le h3 (Mvs.setCells w g _ news).size, fun j u hu => ?_, fun j hj => ⟨?_, ?_⟩⟩⟩, Mvs.setCells _ _ _ _, .inl rfl⟩
      · by_cases hjn : j < cs.length
        · rw [List.getElem?_append_left hjn] at hu
          rw [World.cell?_setCells_out g news _ w ⟨g, o + j, none⟩ (fun _ _ => .inl (by have := h.1; show o + j < o + n * i.size; omega))]
          exact h4 j u hu
        · rw [List.getElem?_append_right (by omega)] at hu
          have hj2 := (List.getElem?_eq_some_iff.1 hu).1
          have := World.cell?_setCells_in g news (o + n * i.size) w (fun k hk => by have := (h5 (n * i.size + k) (by omega)).1; rwa [← Nat.add_assoc] at this) (j - cs.length) hj2
          have e1 : o + n * i.size + (j - cs.length) = o + j := by have := h.1; omega
          rw [e1] at this
          rw [this, ← hu, List.getElem?_eq_getElem hj2]
      · exact World.isSome_setCells g news _ w _ (h5 j hj).1
      · rw [World.frozen?_setCells]
        exact (h5 j hj).2
    · exact grow (some ⟨g, o, none⟩) cap rfl (by omega) (run_firstCells_some w.drew i.size n ⟨g, o, none⟩ n cap cs h.1 (fun j u hu => by
        have := h4 j u hu
        simpa [Addr.add_lit] using this))

theorem wpList_append_rw {w : World} {ops : Array Oper} {rest : List Oper} {o : Oper} {a : Act} {Q : Exit → Act → World → Prop} (hgd : o.guard = none) (s x : Operand) (t tx : TypeId)
    (ho : o.op = .call { callee := .builtin .append, args := #[s, x], argTypes := #[t, tx] })
    (e : TypeId) (i : TypeInfo) (z : Value) (size bytes : Nat) (ht : P.underlying t = some (.slice e)) (hi : P.info? e = some i) (hz : i.zero = some z) (hsize : i.size = size) (hby : i.bytes = bytes) (hzs : z.cells.size = size)
    {v : Value} {n : Nat} {cs : List Value} {G : Option Nat} (hv : a.eval s = v) (h : Rw w size v n cs G) (xv : Value) (m : Nat) (news : List Value) (hx : a.eval x = xv) (hs : Src P size tx xv m news w) (h63 : n + m ≤ maxLen) (hbytes : (n + m) * bytes ≤ 140737488355328)
    (hK : ∀ v' w' G', Rw w' size v' (n + m) (cs ++ news) G' → Mvs (fun k => some k = G) w w' → (G' = G ∨ G' = some w.heap.size) → wpList P ops Q rest (a.put o.dst v') w') : wpList P ops Q (o :: rest) a w := by
  refine wpList_plain hgd fun K hK' => ?_
  obtain ⟨v', w', G', hrun, r1, r2, r3⟩ := run_append_rw (P := P) t tx o.type e i z size bytes ht hi hz hsize hby hzs h xv m news hs h63 hbytes
  unfold Oper.wp
  simp [execOp, ho, resolve, invoke, builtin, hv, hx, hrun, Result.andThen]
  exact hK' _ _ (hK v' w' G' r1 r2 r3)
end
end Go.Proofs.YtcmhaihoeecjoaaGreatDoor

end
section
namespace Go.Proofs.YtcmhaihoeecjoaaGreatDoor
open Go.RowKit Go.Shelf
/-- The three blocks that the loop itself turns: the text's cell, the block for deferred calls, the record. -/
def Own3 (Bs B : Nat) (k : Nat) : Prop := k = Bs ∨ k = B ∨ k = B + 1
/-- A round leaves these three as they were. -/
def Kept3 (Bs B : Nat) (W W' : World) : Prop := ∀ k, Own3 Bs B k → W'.heap[k]? = W.heap[k]?
theorem Kept3.refl (Bs B : Nat) (W : World) : Kept3 Bs B W W := fun _ _ => rfl
theorem Kept3.trans {Bs B : Nat} {X Y Z : World} (h : Kept3 Bs B X Y) (k : Kept3 Bs B Y Z) : Kept3 Bs B X Z := fun i hi => (k i hi).trans (h i hi)
theorem Kept3.mvs {Bs B : Nat} {S : Nat → Prop} {W W' : World} (h : Mvs S W W') (hs : ∀ k, Own3 Bs B k → k < W.heap.size ∧ ¬ S k) : Kept3 Bs B W W' := fun k hk => h.block k (hs k hk).1 (hs k hk).2
/-- None of the three is a row of bytes. -/
def NoRow (Bs B : Nat) (W : World) : Prop := ∀ k, Own3 Bs B k → ∀ c fz, W.heap[k]? ≠ some (.cells c 5 fz)
theorem NoRow.mk3 {Bs B : Nat} {W : World} (h1 : ∃ v, Blk W Bs #[v] 9) (h2 : W.heap[B]? = some (.deferred (some []))) (h3 : ∃ r, W.heap[B + 1]? = some (.loop r)) : NoRow Bs B W := by
  obtain ⟨v, h1⟩ := h1
  obtain ⟨r, h3⟩ := h3
  rintro k (rfl | rfl | rfl) c fz h
  · have h1' : W.heap[k]? = _ := h1
    rw [h1'] at h
    simp at h
  · rw [h2] at h
    simp at h
  · rw [h3] at h
    simp at h
theorem NoRow.start {Bs : Nat} {W : World} {v : Value} (h1 : Blk W Bs #[v] 9) : NoRow Bs W.heap.size W := by
  rintro k (rfl | rfl | rfl) c fz h
  · have h1' : W.heap[k]? = _ := h1
    rw [h1'] at h
    simp at h
  · simp at h
  · simp at h
/-- A builder is one still, where no row of bytes has turned, and not its own block. -/
theorem isBuilder_mvs {S : Nat → Prop} {B b : Nat} {bs : List Value} {W W' : World} (h : Lib.IsBuilderF 67 5 B b bs W) (hm : Mvs S W W') (hb : ¬ S b) (hr : ∀ k, S k → ∀ c fz, W.heap[k]? ≠ some (.cells c 5 fz)) : Lib.IsBuilderF 67 5 B b bs W' := by
  have key : ∀ p, Lib.BuilderAtF 67 5 B b p bs W → Lib.BuilderAtF 67 5 B b p bs W' := by
    rintro p ⟨hB, v, hbk, hown, hne⟩
    refine ⟨hB, v, (hm.block b (Array.getElem?_eq_some_iff.1 hbk).1 hb).trans hbk, ⟨hown.1, ?_⟩, hne⟩
    rcases hown.2 with h0 | ⟨g, cap, cur, fz, rfl, hbg, hg, rest⟩
    · exact .inl h0
    · exact .inr ⟨g, cap, cur, fz, rfl, hbg, (hm.block g (Array.getElem?_eq_some_iff.1 hg).1 (fun hs => hr g hs _ _ hg)).trans hg, rest⟩
  exact h.elim (fun x => .inl (key _ x)) (fun x => .inr (key _ x))
theorem kept3_others {Bs B b : Nat} {W W' : World} (h : Lib.OthersKept 5 (some b) W W') (h1 : ∃ v, Blk W Bs #[v] 9) (h2 : W.heap[B]? = some (.deferred (some []))) (h3 : ∃ r, W.heap[B + 1]? = some (.loop r)) (hb : ¬ Own3 Bs B b) : Kept3 Bs B W W' := by
  obtain ⟨v, h1⟩ := h1
  obtain ⟨r, h3⟩ := h3
  have hne : ∀ k, Own3 Bs B k → some k ≠ some b := fun k hk e => hb (by cases e; exact hk)
  rintro k (rfl | rfl | rfl)
  · have h1' : W.heap[k]? = _ := h1
    rw [h1']
    exact h k _ h1' (hne _ (.inl rfl)) (fun c fz e => by cases e)
  · rw [h2]
    exact h k _ h2 (hne _ (.inr (.inl rfl))) (fun c fz e => by cases e)
  · rw [h3]
    exact h _ _ h3 (hne _ (.inr (.inr rfl))) (fun c fz e => by cases e)
/-- How the body of a round may be left. -/
def rndPost (Bs B : Nat) (I : World → Prop) (Ix : Code → World → Prop) (W : World) : Exit → Act → World → Prop
  | .normal, _, W' => Kept3 Bs B W W' ∧ I W'
  | .ret, _, W' => Kept3 Bs B W W' ∧ Ix .ret W'
  | .exit id, _, W' => Kept3 Bs B W W' ∧ Ix (.exit id) W'
  | .goto t, _, W' => Kept3 Bs B W W' ∧ Ix (.goto t) W'
  | .panic _, _, _ => False
  | .outgrown, _, _ => False
theorem mvs_putObj {S : Nat → Prop} (W : World) (l : Nat) (o : Obj) (hs : S l) : Mvs S W (W.putObj l o) :=
  ⟨rfl, rfl, rfl, by simp, fun _ _ hk => World.putObj_heap_other (fun e => hk (e ▸ hs))⟩
theorem heap_setCell_other {W : World} {b k : Nat} {v : Value} (h : k ≠ b) : (W.setCell ⟨b, 0, none⟩ v).heap[k]? = W.heap[k]? := Below.heap_setCell _ _ _ _ h
set_option maxHeartbeats 1000000 in
theorem range_lines {n : Nat} (h2 : 2 ≤ n) {g : Operand} {ps : Array Tmp} {assign body : Code} {Q : Exit → Act → World → Prop} {a : Act} {w : World} {Bs : Nat} {s : List UInt8} (hsl : s.length ≤ 1000000000)
    (hg : a.eval g = .func (.func 73) #[] #[.pointer (some ⟨Bs, 0, none⟩)]) (hps : ps.size = 1) (hB : Blk w Bs #[.string ⟨s.toArray⟩] 9)
    (I : List (List UInt8) → World → Prop) (Ix : Code → World → Prop)
    (hI : ∀ pre W W', I pre W → NoRow Bs w.heap.size W → Mvs (Own3 Bs w.heap.size) W W' → I pre W') (hIx : ∀ c W W', Ix c W → NoRow Bs w.heap.size W → Mvs (Own3 Bs w.heap.size) W W' → Ix c W') (h0 : I [] w) (a₁ : List UInt8 → Act)
    (hassign : ∀ (l : Nat) (x : List UInt8) (W : World) (K : Act → World → Prop), K (a₁ x) W →
      assign.wpIn (Fence.wide.inRound l) (n - 1 - 1) Tryz.prog (Exit.then K (fun _ _ _ => False)) { tmps := (ps.zip #[.string ⟨x.toArray⟩]).foldl (fun t (p, v) => t.setIfInBounds p v) a.tmps, defers := [] } W)
    (hbody : ∀ (l : Nat) (pre : List (List UInt8)) (x : List UInt8) (W : World), I pre W → (∃ post, pre ++ x :: post = splitS s) → w.heap.size + 1 < W.heap.size → (∃ r, W.heap[w.heap.size + 1]? = some (.loop r)) → (∃ v, Blk W Bs #[v] 9) → W.heap[w.heap.size]? = some (.deferred (some [])) →
      body.wpIn (Fence.wide.inRound l) (n - 1 - 1) Tryz.prog (rndPost Bs w.heap.size (I (pre ++ [x])) Ix W) (a₁ x) W)
    (hdone : ∀ (W : World), I (splitS s) W → W.heap[w.heap.size]? = some (.deferred (some [])) → Q .normal { a with defers := { target := .collected w.heap.size, args := #[] } :: a.defers } W)
    (hstop : ∀ (c : Code) (W : World), Ix c W → W.heap[w.heap.size]? = some (.deferred (some [])) → c.wpIn Fence.wide n Tryz.prog Q { a with defers := { target := .collected w.heap.size, args := #[] } :: a.defers } W) :
    (Code.rangeFunc g ps assign body).wpIn Fence.wide n Tryz.prog Q a w := by
  have hBlt := hB.lt
  refine wpIn_rangeFunc ?_
  intro fn hfn
  show ∃ l mark w₁ d w₁' f args w₂, (Instr.enterLoop fn a.tmps ps assign body none).run Tryz.prog w = _ ∧ _
  obtain ⟨rec, hrec⟩ : ∃ rec : LoopState → Option Code → Loop, rec = fun st pe => { state := st, pending := pe, fn, tmps := a.tmps, params := ps, assign, body, defers := w.heap.size } := ⟨_, rfl⟩
  obtain ⟨W1, hW1⟩ : ∃ W1, (w.alloc (.deferred (some []))).alloc (.loop (rec .ready none)) = W1 := ⟨_, rfl⟩
  have hL1 : W1.heap[w.heap.size + 1]? = some (.loop (rec .ready none)) := by
    rw [← hW1]; have := World.alloc_heap_new (w.alloc (.deferred (some []))) (.loop (rec .ready none)); rwa [World.size_alloc] at this
  have hK1 : W1.heap[w.heap.size]? = some (.deferred (some [])) := by
    rw [← hW1]; exact (Below.heap_alloc _ _ _ (by simp)).trans (World.alloc_heap_new w _)
  have hI1 : I [] W1 := by rw [← hW1]; exact hI _ _ _ h0 (NoRow.start hB) (((Mvs.refl _ _).alloc _).alloc _)
  have hB1 : Blk W1 Bs #[.string ⟨s.toArray⟩] 9 := by rw [← hW1]; exact (hB.alloc _).alloc _
  refine ⟨w.heap.size + 1, [{ target := .collected w.heap.size, args := #[] }], W1, { target := .fn (.func 73) #[.pointer (some ⟨Bs, 0, none⟩)], args := #[.func (.yield (w.heap.size + 1)) #[] #[]] }, W1, 73,
    #[.func (.yield (w.heap.size + 1)) #[] #[]] ++ #[.pointer (some ⟨Bs, 0, none⟩)], W1, ?_, ?_, ?_, ?_, fun _ => by omega, ?_⟩
  · rw [← hW1, hrec]; exact run_enterLoop_outer _ _ _ _ _
  · simp only [resolve, hg]
    simp [go_sem]
  · intro f' _; trivial
  · simp [invoke, go_sem]
  · refine (lines_iter (n - 1) (w.heap.size + 1) Bs (by omega) s hsl
      (fun pre W => I pre W ∧ W.heap[w.heap.size + 1]? = some (.loop (rec .ready none)) ∧ W.heap[w.heap.size]? = some (.deferred (some [])) ∧ ∃ v, Blk W Bs #[v] 9)
      (fun _ W => ∃ c, Ix c W ∧ W.heap[w.heap.size + 1]? = some (.loop (rec .done (some c))) ∧ W.heap[w.heap.size]? = some (.deferred (some [])) ∧ ∃ v, Blk W Bs #[v] 9)
      ?_ ?_ ?_ W1 hB1 ⟨hI1, hL1, hK1, _, hB1⟩).mono ?_
    · rintro pre W v ⟨hi, hl, hk, u, hu⟩
      exact ⟨hI _ _ _ hi (NoRow.mk3 ⟨u, hu⟩ hk ⟨_, hl⟩) ((Mvs.refl _ _).setCell _ _ (fun _ => .inl rfl)), (heap_setCell_other (by omega)).trans hl, (heap_setCell_other (by omega)).trans hk, _, hu.set 0 v⟩
    · rintro pre W ⟨hi, hl, hk, hu⟩
      exact ⟨hI _ _ _ hi (NoRow.mk3 hu hk ⟨_, hl⟩) (Mvs.refl _ _).drew, hl, hk, hu⟩
    · rintro pre x W ⟨hi, hl, hk, hu⟩ hpost
      have hlt : w.heap.size + 1 < W.heap.size := (Array.getElem?_eq_some_iff.1 hl).1
      have hy := run_yield (P := Tryz.prog) (args := #[.string ⟨x.toArray⟩]) hl (by rw [hrec]; exact hps.symm)
      rw [hrec] at hy
      refine ⟨fn, _, assign, body, hy, roundIn_of_wpIn hfn (hassign _ x W _ ⟨_, run_beginRound hl (by rw [hrec]), ?_⟩)⟩
      have hl2 : (W.putObj (w.heap.size + 1) (.loop { rec .ready none with state := .busy })).heap[w.heap.size + 1]? = some (.loop { rec .ready none with state := .busy }) := World.putObj_heap_same hlt
      have hk2 : (W.putObj (w.heap.size + 1) (.loop { rec .ready none with state := .busy })).heap[w.heap.size]? = some (.deferred (some [])) := (World.putObj_heap_other (by omega)).trans hk
      have hu2 : ∃ v, Blk (W.putObj (w.heap.size + 1) (.loop { rec .ready none with state := .busy })) Bs #[v] 9 := hu.imp fun v hv => (World.putObj_heap_other (by omega)).trans hv
      have hs2 : (W.putObj (w.heap.size + 1) (.loop { rec .ready none with state := .busy })).heap[Bs]? = W.heap[Bs]? := World.putObj_heap_other (by omega)
      refine wpIn_mono (hbody _ pre x _ (hI _ _ _ hi (NoRow.mk3 hu hk ⟨_, hl⟩) (mvs_putObj _ _ _ (.inr (.inr rfl)))) hpost (by simpa using hlt) ⟨_, hl2⟩ hu2 hk2) ?_
      have fin : ∀ (jump : Option Code) (W3 : World), Kept3 Bs w.heap.size (W.putObj (w.heap.size + 1) (.loop { rec .ready none with state := .busy })) W3 →
          (Instr.endRound (w.heap.size + 1) jump).run Tryz.prog W3 = .ok (.bool jump.isNone) (W3.putObj (w.heap.size + 1) (.loop (rec (if jump.isNone then .ready else .done) jump))) ∧
          (W3.putObj (w.heap.size + 1) (.loop (rec (if jump.isNone then .ready else .done) jump))).heap[w.heap.size + 1]? = some (.loop (rec (if jump.isNone then .ready else .done) jump)) ∧
          (W3.putObj (w.heap.size + 1) (.loop (rec (if jump.isNone then .ready else .done) jump))).heap[w.heap.size]? = some (.deferred (some [])) ∧
          (W3.putObj (w.heap.size + 1) (.loop (rec (if jump.isNone then .ready else .done) jump))).heap[Bs]? = W.heap[Bs]? ∧ NoRow Bs w.heap.size W3 := fun jump W3 hk3 => by
        have hl3 := (hk3 _ (.inr (.inr rfl))).trans hl2
        have hnr : NoRow Bs w.heap.size W3 := NoRow.mk3 (hu2.imp fun v hv => (hk3 _ (.inl rfl)).trans hv) ((hk3 _ (.inr (.inl rfl))).trans hk2) ⟨_, hl3⟩
        have := run_endRound (P := Tryz.prog) jump hl3
        rw [hrec] at this ⊢
        exact ⟨this, World.putObj_heap_same (Array.getElem?_eq_some_iff.1 hl3).1, (World.putObj_heap_other (by omega)).trans ((hk3 _ (.inr (.inl rfl))).trans hk2), (World.putObj_heap_other (by omega)).trans ((hk3 _ (.inl rfl)).trans hs2), hnr⟩
      rintro e a3 W3 hp
      cases e with
      | normal =>
        obtain ⟨hk3, hi3⟩ := hp
        obtain ⟨hr, hl4, hk4, hs4, hnr⟩ := fin none W3 hk3
        exact ⟨_, _, hr, .inl ⟨rfl, ⟨hI _ _ _ hi3 hnr (mvs_putObj _ _ _ (.inr (.inr rfl))), hl4, hk4, hu.imp fun v hv => hs4.trans hv⟩, hs4⟩⟩
      | ret =>
        obtain ⟨hk3, hi3⟩ := hp
        obtain ⟨hr, hl4, hk4, hs4, hnr⟩ := fin (some .ret) W3 hk3
        exact ⟨_, _, hr, .inr ⟨rfl, .ret, hIx _ _ _ hi3 hnr (mvs_putObj _ _ _ (.inr (.inr rfl))), hl4, hk4, hu.imp fun v hv => hs4.trans hv⟩⟩
      | exit id =>
        obtain ⟨hk3, hi3⟩ := hp
        obtain ⟨hr, hl4, hk4, hs4, hnr⟩ := fin (some (.exit id)) W3 hk3
        exact ⟨_, _, hr, .inr ⟨rfl, .exit id, hIx _ _ _ hi3 hnr (mvs_putObj _ _ _ (.inr (.inr rfl))), hl4, hk4, hu.imp fun v hv => hs4.trans hv⟩⟩
      | goto t =>
        obtain ⟨hk3, hi3⟩ := hp
        obtain ⟨hr, hl4, hk4, hs4, hnr⟩ := fin (some (.goto t)) W3 hk3
        exact ⟨_, _, hr, .inr ⟨rfl, .goto t, hIx _ _ _ hi3 hnr (mvs_putObj _ _ _ (.inr (.inr rfl))), hl4, hk4, hu.imp fun v hv => hs4.trans hv⟩⟩
      | panic ch => exact hp.elim
      | outgrown => exact hp.elim
    · rintro e W2 ⟨⟨v, rfl⟩, (⟨hi, hl, hk, hu⟩ | ⟨_, c, hi, hl, hk, hu⟩)⟩
      · exact ⟨none, _, by have := run_endLoop (P := Tryz.prog) hl (by rw [hrec]; simp); rw [hrec] at this; exact this, hdone _ (hI _ _ _ hi (NoRow.mk3 hu hk ⟨_, hl⟩) (mvs_putObj _ _ _ (.inr (.inr rfl)))) ((World.putObj_heap_other (by omega)).trans hk)⟩
      · exact ⟨some c, _, by have := run_endLoop (P := Tryz.prog) hl (by rw [hrec]; simp); rw [hrec] at this; exact this, hstop c _ (hIx _ _ _ hi (NoRow.mk3 hu hk ⟨_, hl⟩) (mvs_putObj _ _ _ (.inr (.inr rfl)))) ((World.putObj_heap_other (by omega)).trans hk)⟩
end Go.Proofs.YtcmhaihoeecjoaaGreatDoor

end
