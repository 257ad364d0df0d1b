/- What LinesPlays holds to in its loop: the two readers; the script that came in; append inside a statement that draws its order. -/
import Derived.Test.YtkcailfpanmhdaaDoorLPl1
import Derived.Deep.RegionLaw
namespace Go.Proofs.YtkcailfpanmhdaaDoor
open Go.RowKit
/-- Both readers, apart, of this call's own. -/
structure PS (w wr : World) (br : Nat) (Gr : Option Nat) (l : List UInt8) (a : Nat) (bm : Nat) (Gm : Option Nat) (L : List UInt8) (p a2 : Nat) : Prop where
  rd : RD wr br Gr l a
  rf : RF wr bm Gm L p a2
  apart : ∀ k, own br Gr k → ¬ own bm Gm k
  rbase : ∀ k, own br Gr k → w.heap.size ≤ k
  mbase : ∀ k, own bm Gm k → w.heap.size ≤ k
  below : Below w.heap.size w wr
section
variable {w wr w1 : World} {br bm : Nat} {Gr Gm : Option Nat} {l L : List UInt8} {a p a2 : Nat}
theorem PS.keep {S : Nat → Prop} (h : PS w wr br Gr l a bm Gm L p a2) (hm : Mvs S wr w1) (h1 : ∀ k, own br Gr k → ¬ S k) (h2 : ∀ k, own bm Gm k → ¬ S k) (h3 : ∀ k, k < w.heap.size → ¬ S k) : PS w w1 br Gr l a bm Gm L p a2 :=
  ⟨h.rd.keep hm h1, h.rf.keep hm h2, h.apart, h.rbase, h.mbase, below_mvs h.below hm h3 (Nat.le_refl _)⟩
theorem PS.then (h : PS w wr br Gr l a bm Gm L p a2) (hb : Below wr.heap.size wr w1) : PS w w1 br Gr l a bm Gm L p a2 := h.keep (S := fun _ => False) (Mvs.of_below hb) (fun _ _ c => c) (fun _ _ c => c) (fun _ _ c => c)
theorem PS.alloc (h : PS w wr br Gr l a bm Gm L p a2) (o : Obj) : PS w (wr.alloc o) br Gr l a bm Gm L p a2 := h.then ((Below.refl _ _).alloc (Nat.le_refl _) _)
theorem PS.drewN (h : PS w wr br Gr l a bm Gm L p a2) (n : Nat) : PS w (wr.drewN n) br Gr l a bm Gm L p a2 := h.then (below_drewN _ _)
theorem PS.reads {Gr' : Option Nat} {l' : List UInt8} {a' : Nat} (h : PS w wr br Gr l a bm Gm L p a2) (hk : RD w1 br Gr' l' a') (hm : Mvs (own br Gr) wr w1) (hg : ∀ k, own br Gr' k → own br Gr k ∨ k = wr.heap.size) : PS w w1 br Gr' l' a' bm Gm L p a2 := by
  refine ⟨hk, h.rf.keep hm (fun k hk c => h.apart k c hk), fun k hk c => ?_, fun k hk => ?_, h.mbase, below_mvs h.below hm (fun k hk c => by have := h.rbase k c; omega) (Nat.le_refl _)⟩
  · rcases hg k hk with h1 | rfl
    · exact h.apart k h1 c
    · have := h.rf.lt _ c
      omega
  · rcases hg k hk with h1 | rfl
    · exact h.rbase k h1
    · exact h.below.size
theorem PS.refs {Gm' : Option Nat} {L' : List UInt8} {p' a' : Nat} (h : PS w wr br Gr l a bm Gm L p a2) (hk : RF w1 bm Gm' L' p' a') (hm : Mvs (own bm Gm) wr w1) (hg : ∀ k, own bm Gm' k → own bm Gm k ∨ k = wr.heap.size) : PS w w1 br Gr l a bm Gm' L' p' a' := by
  refine ⟨h.rd.keep hm (fun k hk c => h.apart k hk c), hk, fun k hk c => ?_, h.rbase, fun k hk => ?_, below_mvs h.below hm (fun k hk c => by have := h.mbase k c; omega) (Nat.le_refl _)⟩
  · rcases hg k c with h1 | rfl
    · exact h.apart k hk h1
    · have := h.rd.lt _ hk
      omega
  · rcases hg k hk with h1 | rfl
    · exact h.mbase k h1
    · exact h.below.size
theorem PS.lined {l' : List UInt8} {a' : Nat} (h : PS w wr br Gr l a bm Gm L p a2) (hl : Lined wr w1 br Gr l' a') : ∃ Gr', PS w w1 br Gr' l' a' bm Gm L p a2 := by
  obtain ⟨Gr', hk, hm, hg⟩ := hl
  exact ⟨Gr', h.reads hk (hm.mono (fun k _ e => .inl e)) (fun k hk => .inl (own_sub hg hk))⟩
theorem PS.told {r : List UInt8} {a' : Nat} (h : PS w wr br Gr l a bm Gm L p a2) (hl : RTold wr w1 bm Gm L r a') : ∃ p', L.drop p' = r ∧ PS w w1 br Gr l a bm Gm L p' a' := by
  obtain ⟨p', hk, hd, hm⟩ := hl
  exact ⟨p', hd, h.refs hk (hm.mono (fun k _ e => .inl e)) (fun k hk => .inl hk)⟩
end
theorem step_append_rw {P : Program} {ops : Array Oper} {o : Oper} {a : Act} {w : World} {K : Act → World → Prop} {Q : Exit → Act → World → Prop} {E : Prop}
    (hg : o.guard = none) (s x : Operand) (t tx : TypeId) (hop : o.op = Op.call { callee := Callee.builtin Builtin.append, args := #[s, x], argTypes := #[t, tx] })
    (e : TypeId) (i : TypeInfo) (z : Value) (size bytes : Nat) (ht : P.underlying t = some (.slice e)) (hi : P.info? e = some i) (hz : i.zero = some z) (hsize : i.size = size) (hby : i.bytes = bytes) (hzs : z.cells.size = size)
    {v : Value} {n : Nat} {cs : List Value} {G : Option Nat} (hv : a.eval s = v) (h : Rw w size v n cs G) (xv : Value) (m : Nat) (news : List Value) (hx : a.eval x = xv) (hs : Src P size tx xv m news w) (h63 : n + m ≤ maxLen) (hbytes : (n + m) * bytes ≤ 140737488355328)
    (hK : ∀ v' w' G', Rw w' size v' (n + m) (cs ++ news) G' → Mvs (fun k => some k = G) w w' → (G' = G ∨ G' = some w.heap.size) → K (a.put o.dst v') w') :
    if Region.wanted o (yielded ops a.tmps) = true then Oper.wp P o a w K Q else E := by
  have hw : Region.wanted o (yielded ops a.tmps) = true := by simp [Region.wanted, hg]
  rw [if_pos hw]
  obtain ⟨v', w', G', hrun, r1, r2, r3⟩ := run_append_rw (P := P) t tx o.type e i z size bytes ht hi hz hsize hby hzs h xv m news hs h63 hbytes
  unfold Oper.wp
  simp [execOp, hop, resolve, invoke, builtin, hv, hx, hrun, Result.andThen]
  exact hK v' w' G' r1 r2 r3
/-- The n-th call of a script: its kind, its number, its bytes. -/
structure Step where
  kind : Int
  num : Int
  val : Value
  bytes : List UInt8
/-- The script that came in. -/
def Scr (w : World) (v : Value) (ss : List Step) : Prop := ∃ A cap, v = .slice A ss.length cap ∧ ss.length ≤ cap ∧ cap ≤ maxLen ∧ (ss ≠ [] → ∃ g o, A = some ⟨g, o, none⟩ ∧ g < w.heap.size ∧ ∀ i (hi : i < ss.length),
  w.cell? ⟨g, o + i * 3, none⟩ = some (.int .i64 ss[i].kind) ∧ w.cell? ⟨g, o + i * 3 + 1, none⟩ = some (.int .i64 ss[i].num) ∧ w.cell? ⟨g, o + i * 3 + 2, none⟩ = some ss[i].val ∧ AR w ss[i].val (ss[i].bytes.map bv))
end Go.Proofs.YtkcailfpanmhdaaDoor
