/- A range over places of package header: one law for every body. -/
import Derived.Test.YtbjencibkkhbhaaGreatDoorHd3
namespace Go.Proofs.YtbjencibkkhbhaaGreatDoor
open Go.RowKit Go.Shelf
/-- The three blocks that the loop itself turns: the text's cell, the block for deferred calls, the record. -/
def Own3 (Bs B : Nat) (k : Nat) : Prop := k = Bs ∨ k = B ∨ k = B + 1
/-- A round leaves these three as they were. -/
def Kept3 (Bs B : Nat) (W W' : World) : Prop := ∀ k, Own3 Bs B k → W'.heap[k]? = W.heap[k]?
theorem Kept3.refl (Bs B : Nat) (W : World) : Kept3 Bs B W W := fun _ _ => rfl
theorem Kept3.trans {Bs B : Nat} {X Y Z : World} (h : Kept3 Bs B X Y) (k : Kept3 Bs B Y Z) : Kept3 Bs B X Z := fun i hi => (k i hi).trans (h i hi)
theorem Kept3.mvs {Bs B : Nat} {S : Nat → Prop} {W W' : World} (h : Mvs S W W') (hs : ∀ k, Own3 Bs B k → k < W.heap.size ∧ ¬ S k) : Kept3 Bs B W W' := fun k hk => h.block k (hs k hk).1 (hs k hk).2
/-- None of the three is a row of bytes. -/
def NoRow (Bs B : Nat) (W : World) : Prop := ∀ k, Own3 Bs B k → ∀ c fz, W.heap[k]? ≠ some (.cells c 5 fz)
theorem NoRow.mk3 {Bs B : Nat} {W : World} (h1 : ∃ v, Blk W Bs #[v] 9) (h2 : W.heap[B]? = some (.deferred (some []))) (h3 : ∃ r, W.heap[B + 1]? = some (.loop r)) : NoRow Bs B W := by
  obtain ⟨v, h1⟩ := h1
  obtain ⟨r, h3⟩ := h3
  rintro k (rfl | rfl | rfl) c fz h
  · have h1' : W.heap[k]? = _ := h1
    rw [h1'] at h
    simp at h
  · rw [h2] at h
    simp at h
  · rw [h3] at h
    simp at h
theorem NoRow.start {Bs : Nat} {W : World} {v : Value} (h1 : Blk W Bs #[v] 9) : NoRow Bs W.heap.size W := by
  rintro k (rfl | rfl | rfl) c fz h
  · have h1' : W.heap[k]? = _ := h1
    rw [h1'] at h
    simp at h
  · simp at h
  · simp at h
/-- A builder is one still, where no row of bytes has turned, and not its own block. -/
theorem isBuilder_mvs {S : Nat → Prop} {B b : Nat} {bs : List Value} {W W' : World} (h : Lib.IsBuilderF 85 5 B b bs W) (hm : Mvs S W W') (hb : ¬ S b) (hr : ∀ k, S k → ∀ c fz, W.heap[k]? ≠ some (.cells c 5 fz)) : Lib.IsBuilderF 85 5 B b bs W' := by
  have key : ∀ p, Lib.BuilderAtF 85 5 B b p bs W → Lib.BuilderAtF 85 5 B b p bs W' := by
    rintro p ⟨hB, v, hbk, hown, hne⟩
    refine ⟨hB, v, (hm.block b (Array.getElem?_eq_some_iff.1 hbk).1 hb).trans hbk, ⟨hown.1, ?_⟩, hne⟩
    rcases hown.2 with h0 | ⟨g, cap, cur, fz, rfl, hbg, hg, rest⟩
    · exact .inl h0
    · exact .inr ⟨g, cap, cur, fz, rfl, hbg, (hm.block g (Array.getElem?_eq_some_iff.1 hg).1 (fun hs => hr g hs _ _ hg)).trans hg, rest⟩
  exact h.elim (fun x => .inl (key _ x)) (fun x => .inr (key _ x))
theorem kept3_others {Bs B b : Nat} {W W' : World} (h : Lib.OthersKept 5 (some b) W W') (h1 : ∃ v, Blk W Bs #[v] 9) (h2 : W.heap[B]? = some (.deferred (some []))) (h3 : ∃ r, W.heap[B + 1]? = some (.loop r)) (hb : ¬ Own3 Bs B b) : Kept3 Bs B W W' := by
  obtain ⟨v, h1⟩ := h1
  obtain ⟨r, h3⟩ := h3
  have hne : ∀ k, Own3 Bs B k → some k ≠ some b := fun k hk e => hb (by cases e; exact hk)
  rintro k (rfl | rfl | rfl)
  · have h1' : W.heap[k]? = _ := h1
    rw [h1']
    exact h k _ h1' (hne _ (.inl rfl)) (fun c fz e => by cases e)
  · rw [h2]
    exact h k _ h2 (hne _ (.inr (.inl rfl))) (fun c fz e => by cases e)
  · rw [h3]
    exact h _ _ h3 (hne _ (.inr (.inr rfl))) (fun c fz e => by cases e)
/-- How the body of a round may be left. -/
def rndPost (Bs B : Nat) (I : World → Prop) (Ix : Code → World → Prop) (W : World) : Exit → Act → World → Prop
  | .normal, _, W' => Kept3 Bs B W W' ∧ I W'
  | .ret, _, W' => Kept3 Bs B W W' ∧ Ix .ret W'
  | .exit id, _, W' => Kept3 Bs B W W' ∧ Ix (.exit id) W'
  | .goto t, _, W' => Kept3 Bs B W W' ∧ Ix (.goto t) W'
  | .panic _, _, _ => False
  | .outgrown, _, _ => False
theorem mvs_putObj {S : Nat → Prop} (W : World) (l : Nat) (o : Obj) (hs : S l) : Mvs S W (W.putObj l o) :=
  ⟨rfl, rfl, rfl, by simp, fun _ _ hk => World.putObj_heap_other (fun e => hk (e ▸ hs))⟩
theorem heap_setCell_other {W : World} {b k : Nat} {v : Value} (h : k ≠ b) : (W.setCell ⟨b, 0, none⟩ v).heap[k]? = W.heap[k]? := Below.heap_setCell _ _ _ _ h
/-- What a field's place is in memory. -/
def plc (x : Fd) : Array Value := #[.int .i64 (x.from' : Nat), .int .i64 (x.to : Nat)]
end Go.Proofs.YtbjencibkkhbhaaGreatDoor
