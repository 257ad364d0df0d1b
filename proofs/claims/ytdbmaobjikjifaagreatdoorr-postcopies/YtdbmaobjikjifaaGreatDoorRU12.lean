/- A range over places of package header: one law for every body. -/
/- Fields in memory; what is true of every field of a message. -/
/- Fields of package header. -/
import Derived.Test.YtdbmaobjikjifaaGreatDoorRU11
import Derived.Test.YtdbmaobjikjifaaGreatDoorRU04
import Derived.WideShapes
section
namespace Go.Proofs.YtdbmaobjikjifaaGreatDoorR
open Go.RowKit Go.Shelf
/-- The three blocks that the loop itself turns: the text's cell, the block for deferred calls, the record. -/
def Own3 (Bs B : Nat) (k : Nat) : Prop := k = Bs ∨ k = B ∨ k = B + 1
/-- A round leaves these three as they were. -/
def Kept3 (Bs B : Nat) (W W' : World) : Prop := ∀ k, Own3 Bs B k → W'.heap[k]? = W.heap[k]?
theorem Kept3.refl (Bs B : Nat) (W : World) : Kept3 Bs B W W := fun _ _ => rfl
theorem Kept3.trans {Bs B : Nat} {X Y Z : World} (h : Kept3 Bs B X Y) (k : Kept3 Bs B Y Z) : Kept3 Bs B X Z := fun i hi => (k i hi).trans (h i hi)
theorem Kept3.mvs {Bs B : Nat} {S : Nat → Prop} {W W' : World} (h : Mvs S W W') (hs : ∀ k, Own3 Bs B k → k < W.heap.size ∧ ¬ S k) : Kept3 Bs B W W' := fun k hk => h.block k (hs k hk).1 (hs k hk).2
/-- None of the three is a row of bytes. -/
def NoRow (Bs B : Nat) (W : World) : Prop := ∀ k, Own3 Bs B k → ∀ c fz, W.heap[k]? ≠ some (.cells c 5 fz)
theorem NoRow.mk3 {Bs B : Nat} {W : World} (h1 : ∃ v, Blk W Bs #[v] 9) (h2 : W.heap[B]? = some (.deferred (some []))) (h3 : ∃ r, W.heap[B + 1]? = some (.loop r)) : NoRow Bs B W := by
  obtain ⟨v, h1⟩ := h1
  obtain ⟨r, h3⟩ := h3
  rintro k (rfl | rfl | rfl) c fz h
  · have h1' : W.heap[k]? = _ := h1
    rw [h1'] at h
    simp at h
  · rw [h2] at h
    simp at h
  · rw [h3] at h
    simp at h
theorem NoRow.start {Bs : Nat} {W : World} {v : Value} (h1 : Blk W Bs #[v] 9) : NoRow Bs W.heap.size W := by
  rintro k (rfl | rfl | rfl) c fz h
  · have h1' : W.heap[k]? = _ := h1
    rw [h1'] at h
    simp at h
  · simp at h
  · simp at h
theorem kept3_others {Bs B b : Nat} {W W' : World} (h : Lib.OthersKept 5 (some b) W W') (h1 : ∃ v, Blk W Bs #[v] 9) (h2 : W.heap[B]? = some (.deferred (some []))) (h3 : ∃ r, W.heap[B + 1]? = some (.loop r)) (hb : ¬ Own3 Bs B b) : Kept3 Bs B W W' := by
  obtain ⟨v, h1⟩ := h1
  obtain ⟨r, h3⟩ := h3
  have hne : ∀ k, Own3 Bs B k → some k ≠ some b := fun k hk e => hb (by cases e; exact hk)
  rintro k (rfl | rfl | rfl)
  · have h1' : W.heap[k]? = _ := h1
    rw [h1']
    exact h k _ h1' (hne _ (.inl rfl)) (fun c fz e => by cases e)
  · rw [h2]
    exact h k _ h2 (hne _ (.inr (.inl rfl))) (fun c fz e => by cases e)
  · rw [h3]
    exact h _ _ h3 (hne _ (.inr (.inr rfl))) (fun c fz e => by cases e)
/-- How the body of a round may be left. -/
def rndPost (Bs B : Nat) (I : World → Prop) (Ix : Code → World → Prop) (W : World) : Exit → Act → World → Prop
  | .normal, _, W' => Kept3 Bs B W W' ∧ I W'
  | .ret, _, W' => Kept3 Bs B W W' ∧ Ix .ret W'
  | .exit id, _, W' => Kept3 Bs B W W' ∧ Ix (.exit id) W'
  | .goto t, _, W' => Kept3 Bs B W W' ∧ Ix (.goto t) W'
  | .panic _, _, _ => False
  | .outgrown, _, _ => False
theorem mvs_putObj {S : Nat → Prop} (W : World) (l : Nat) (o : Obj) (hs : S l) : Mvs S W (W.putObj l o) :=
  ⟨rfl, rfl, rfl, by simp, fun _ _ hk => World.putObj_heap_other (fun e => hk (e ▸ hs))⟩
theorem heap_setCell_other {W : World} {b k : Nat} {v : Value} (h : k ≠ b) : (W.setCell ⟨b, 0, none⟩ v).heap[k]? = W.heap[k]? := Below.heap_setCell _ _ _ _ h
/-- What a field's place is in memory. -/
def plc (x : Fd) : Array Value := #[.int .i64 (x.from' : Nat), .int .i64 (x.to : Nat)]
end Go.Proofs.YtdbmaobjikjifaaGreatDoorR

end
section
namespace Go.Proofs.YtdbmaobjikjifaaGreatDoorR
open Go.RowKit Go.Shelf
theorem below_mvs {B : Nat} {w x y : World} {S : Nat → Prop} (h : Below B w x) (hm : Mvs S x y) (hs : ∀ k, k < B → ¬ S k) (hB : B ≤ w.heap.size) : Below B w y := h.trans (hm.below hs (Nat.le_trans hB h.size))
theorem Blk.new2 (w : World) (o o' : Obj) (vs : Array Value) (t : TypeId) : Blk (((w.alloc o).alloc o').alloc (.cells vs t)) (w.heap.size + 1 + 1) vs t := by
  have := Blk.new ((w.alloc o).alloc o') vs t
  simpa using this
theorem Blk.putObj {w : World} {b : Nat} {vs : Array Value} {t : TypeId} (h : Blk w b vs t) {l : Nat} (o : Obj) (hl : l ≠ b) : Blk (w.putObj l o) b vs t := (World.putObj_heap_other (fun e => hl e.symm)).trans h
theorem wrap_nat {x : Int} (h0 : 0 ≤ x) (h1 : x ≤ 4000000) : IntKind.i64.wrap x = x := by
  simp [IntKind.wrap, IntKind.signed, IntKind.bits]
  split <;> omega
/-- An error that errors.New has made. -/
def errP (a : Addr) : Value := .iface 216 (.pointer (some a))
/-- The package-level variable ErrFull holds such an error. -/
structure EF (w : World) (a : Addr) : Prop where
  cell : w.cell? ⟨5, 0, none⟩ = some (.iface 216 (.pointer (some a)))
  low : 5 < w.heap.size
theorem EF.below {w w' : World} {a : Addr} (h : EF w a) (hb : Below w.heap.size w w') : EF w' a := ⟨(hb.cell (p := ⟨5, 0, none⟩) h.low).trans h.cell, Nat.lt_of_lt_of_le h.low hb.size⟩
/-- A field's four cells. -/
def Fd.cs (p : Fd) : List Value := [.string ⟨p.name.toArray⟩, .string ⟨p.value.toArray⟩, .int .i64 (p.from' : Nat), .int .i64 (p.to : Nat)]
def fdC (xs : List Fd) : List Value := xs.flatMap Fd.cs
theorem fdC_len (xs : List Fd) : (fdC xs).length = xs.length * 4 := by
  unfold fdC
  induction xs with
  | nil => rfl
  | cons x xs ih =>
    rw [List.flatMap_cons, List.length_append, ih, List.length_cons]
    show 4 + _ = _
    omega
theorem fdC_snoc (xs : List Fd) (p : Fd) : fdC (xs ++ [p]) = fdC xs ++ p.cs := by simp [fdC]
theorem fdC_app (xs ys : List Fd) : fdC (xs ++ ys) = fdC xs ++ fdC ys := by simp [fdC]
theorem fdC_at (xs : List Fd) (i : Nat) (hi : i < xs.length) (j : Nat) (hj : j < 4) : (fdC xs)[i * 4 + j]? = xs[i].cs[j]? := by
  have e : xs = xs.take i ++ (xs[i] :: xs.drop (i + 1)) := by rw [← List.drop_eq_getElem_cons hi, List.take_append_drop]
  have h : fdC xs = fdC (xs.take i) ++ (xs[i].cs ++ fdC (xs.drop (i + 1))) := by
    conv => lhs; rw [e]
    rw [fdC_app]
    rfl
  rw [h, List.getElem?_append_right (by rw [fdC_len, List.length_take]; omega), fdC_len, List.length_take, Nat.min_eq_left (by omega), Nat.add_sub_cancel_left, List.getElem?_append_left (by show j < 4; exact hj)]
/-- Fields in a row of this call's own. -/
def Fds (B : Nat) (w : World) (v : Value) (xs : List Fd) : Prop := ∃ G, Rw w 4 v xs.length (fdC xs) G ∧ ∀ g, G = some g → B ≤ g
theorem Fds.nil (B : Nat) (w : World) : Fds B w (.slice none 0 0) [] := ⟨none, Rw.nil w 4, fun _ h => by cases h⟩
theorem Fds.keep {B : Nat} {w w' : World} {v : Value} {xs : List Fd} {S : Nat → Prop} (h : Fds B w v xs) (hm : Mvs S w w') (hs : ∀ k, B ≤ k → ¬ S k) : Fds B w' v xs := by
  obtain ⟨G, hr, hg⟩ := h
  exact ⟨G, hr.keep hm fun g e => hs g (hg g e), hg⟩
theorem Fds.below {B : Nat} {w w' : World} {v : Value} {xs : List Fd} (h : Fds B w v xs) (hb : Below w.heap.size w w') : Fds B w' v xs := h.keep (S := fun _ => False) (Mvs.of_below hb) (fun _ _ c => c)
theorem Fds.mono {B B' : Nat} {w : World} {v : Value} {xs : List Fd} (h : Fds B w v xs) (hb : B' ≤ B) : Fds B' w v xs := by
  obtain ⟨G, hr, hg⟩ := h
  exact ⟨G, hr, fun g e => Nat.le_trans hb (hg g e)⟩
theorem Fds.form {B : Nat} {w : World} {v : Value} {xs : List Fd} (h : Fds B w v xs) : ∃ A c, v = .slice A xs.length c := by
  obtain ⟨G, hr, _⟩ := h
  exact hr.form
/-- A slice of fields, to be read. -/
theorem Fds.read {B : Nat} {w : World} {v : Value} {xs : List Fd} (h : Fds B w v xs) (i : Nat) (hi : i < xs.length) : ∃ g o cap, v = .slice (some ⟨g, o, none⟩) xs.length cap ∧ xs.length ≤ cap ∧ cap ≤ maxLen ∧ B ≤ g ∧ g < w.heap.size ∧
    w.cell? ⟨g, o + i * 4, none⟩ = some (.string ⟨xs[i].name.toArray⟩) ∧ w.cell? ⟨g, o + i * 4 + 1, none⟩ = some (.string ⟨xs[i].value.toArray⟩) ∧ w.cell? ⟨g, o + i * 4 + 2, none⟩ = some (.int .i64 (xs[i].from' : Nat)) ∧ w.cell? ⟨g, o + i * 4 + 3, none⟩ = some (.int .i64 (xs[i].to : Nat)) := by
  obtain ⟨G, hr, hg⟩ := h
  rcases hr.2 with ⟨_, h0, _⟩ | ⟨g, o, cap, rfl, rfl, h1, h2, h3, h4, h5⟩
  · omega
  · have hc : ∀ j u, j < 4 → xs[i].cs[j]? = some u → w.cell? ⟨g, o + i * 4 + j, none⟩ = some u := fun j u hj hu => by
      rw [Nat.add_assoc]
      exact h4 _ _ ((fdC_at xs i hi j hj).trans hu)
    exact ⟨g, o, cap, rfl, h1, h2, hg g rfl, h3, hc 0 _ (by decide) rfl, hc 1 _ (by decide) rfl, hc 2 _ (by decide) rfl, hc 3 _ (by decide) rfl⟩
theorem info_three {i : Option TypeInfo} {z : Value} {n m : Nat} (h : i.map (fun i => (i.zero, i.size, i.bytes)) = some (some z, n, m)) : ∃ i0, i = some i0 ∧ i0.zero = some z ∧ i0.size = n ∧ i0.bytes = m := by
  cases i with
  | none => cases h
  | some i0 =>
    simp only [Option.map_some, Option.some.injEq, Prod.mk.injEq] at h
    exact ⟨i0, rfl, h.1, h.2.1, h.2.2⟩
theorem step_append_rw {P : Program} {ops : Array Oper} {o : Oper} {a : Act} {w : World} {K : Act → World → Prop} {Q : Exit → Act → World → Prop} {E : Prop}
    (hg : o.guard = none) (s x : Operand) (t tx : TypeId) (hop : o.op = Op.call { callee := Callee.builtin Builtin.append, args := #[s, x], argTypes := #[t, tx] })
    (e : TypeId) (i : TypeInfo) (z : Value) (size bytes : Nat) (ht : P.underlying t = some (.slice e)) (hi : P.info? e = some i) (hz : i.zero = some z) (hsize : i.size = size) (hby : i.bytes = bytes) (hzs : z.cells.size = size)
    {v : Value} {n : Nat} {cs : List Value} {G : Option Nat} (hv : a.eval s = v) (h : Rw w size v n cs G) (xv : Value) (m : Nat) (news : List Value) (hx : a.eval x = xv) (hs : Src P size tx xv m news w) (h63 : n + m ≤ maxLen) (hbytes : (n + m) * bytes ≤ 140737488355328)
    (hK : ∀ v' w' G', Rw w' size v' (n + m) (cs ++ news) G' → Mvs (fun k => some k = G) w w' → (G' = G ∨ G' = some w.heap.size) → K (a.put o.dst v') w') :
    if Region.wanted o (yielded ops a.tmps) = true then Oper.wp P o a w K Q else E := by
  have hw : Region.wanted o (yielded ops a.tmps) = true := by simp [Region.wanted, hg]
  rw [if_pos hw]
  obtain ⟨v', w', G', hrun, r1, r2, r3⟩ := run_append_rw (P := P) t tx o.type e i z size bytes ht hi hz hsize hby hzs h xv m news hs h63 hbytes
  unfold Oper.wp
  simp [execOp, hop, resolve, invoke, builtin, hv, hx, hrun, Result.andThen]
  exact hK v' w' G' r1 r2 r3
/-- What a field's places are in its message. -/
structure Good (m : List UInt8) (f : Fd) : Prop where
  lo : f.from' + f.name.length + 1 ≤ f.to
  hi : f.to ≤ m.length
  val : valB ((m.drop (f.from' + f.name.length + 1)).take (f.to - (f.from' + f.name.length + 1))) = f.value
theorem good_all : ∀ (n : Nat) (m pre : List UInt8) (ls : List (List UInt8)), ls.length ≤ n → AtL m pre ls → ∀ f ∈ (hd ls pre.length).1, Good m f
  | _, m, pre, [], _, _, f, hf => by
    rw [hd_nil] at hf
    cases hf
  | n + 1, m, pre, x :: r, hn, hA, f, hf => by
    by_cases ht : txt x = []
    · rw [hd_stop ht] at hf
      cases hf
    · rw [hd_cons ht] at hf
      have hg := List.takeWhile_append_dropWhile (p := blB) (l := r)
      have hL := dropWhile_len r
      have hA1 := hA.next
      have hA2 : AtL m ((pre ++ x) ++ (r.takeWhile blB).flatten) (r.dropWhile blB) := by
        refine AtL.skip (g := r.takeWhile blB) ?_
        rw [hg]
        exact hA1
      have hK2 : ((pre ++ x) ++ (r.takeWhile blB).flatten).length = pre.length + x.length + (r.takeWhile blB).flatten.length := by
        rw [List.length_append, List.length_append]
      rcases List.mem_append.1 hf with hf | hf
      · unfold fdOf at hf
        cases hnm : nameO (txt x) with
        | none =>
          rw [hnm] at hf
          cases hf
        | some p =>
          rw [hnm] at hf
          simp only [Option.map_some, Option.toList_some, List.mem_singleton] at hf
          have hok : LOK (x :: r.takeWhile blB) := by
            have := hA.ok
            rw [← hg] at this
            exact LOK.left (a := x :: r.takeWhile blB) (b := r.dropWhile blB) (by simpa using this)
          obtain ⟨h1, h2, h3⟩ := val_field hok hnm
          have hml : m.length = pre.length + x.length + (r.takeWhile blB).flatten.length + (r.dropWhile blB).flatten.length := by
            rw [hA2.eq, List.length_append, hK2]
          subst hf
          refine ⟨by show pre.length + p.length + 1 ≤ pre.length + x.length + _; omega, by show pre.length + x.length + _ ≤ _; omega, ?_⟩
          show valB ((m.drop (pre.length + p.length + 1)).take (pre.length + x.length + (r.takeWhile blB).flatten.length - (pre.length + p.length + 1))) = _
          rw [← h1]
          congr 1
          have hm : m = pre ++ (x ++ ((r.takeWhile blB).flatten ++ (r.dropWhile blB).flatten)) := by
            rw [hA2.eq]
            simp
          rw [hm, show pre.length + p.length + 1 = pre.length + (p.length + 1) from by omega, ← List.drop_drop, List.drop_left' rfl, List.drop_append, show p.length + 1 - x.length = 0 from by omega, List.drop_zero, ← List.append_assoc, List.take_left']
          rw [List.length_append, List.length_drop]
          omega
      · refine good_all n m _ _ (by simp at hn; omega) hA2 f ?_
        rw [hK2]
        exact hf
theorem good_hd {m : List UInt8} {f : Fd} (h : f ∈ (hd (splitS m) 0).1) : Good m f := good_all _ m [] (splitS m) (Nat.le_refl _) (AtL.start m) f h
theorem vac {b : Bool} {p : Prop} (h : b = true) : b = false → p := fun h' => by rw [h] at h'; cases h'
end Go.Proofs.YtdbmaobjikjifaaGreatDoorR

end
section
namespace Go.Proofs.YtdbmaobjikjifaaGreatDoorR
open Go.RowKit Go.Shelf
attribute [local go_sem] Oper.semAt_some
/-- What Fields answers. -/
def FOut (m : List UInt8) (ea : Addr) (w : World) (e : Ending) (w' : World) : Prop := Below w.heap.size w w' ∧
  ((200 < (hd (splitS m) 0).1.length ∧ e = .returned (.tuple #[.slice none 0 0, errP ea])) ∨
   ((hd (splitS m) 0).1.length ≤ 200 ∧ ∃ v, e = .returned (.tuple #[v, .nilIface]) ∧ Fds w.heap.size w' v (hd (splitS m) 0).1))
end Go.Proofs.YtdbmaobjikjifaaGreatDoorR

end
