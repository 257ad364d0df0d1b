/- A region that draws its order, inside a round of a range over a function: the plain orders serve; what the loads read is held until the first store comes up. -/
/- Fields in memory; what is true of every field of a message. -/
import Derived.Test.YtelpjiiladbigaaDoorU06
import Derived.Deep.RegionHeld3
import Derived.RangeFuncNested
import Derived.RangeFuncCalls
import Derived.OrdersIn
import Derived.Test.YtelpjiiladbigaaDoorU11
import Derived.WideShapes
section
namespace Go.Proofs.YtelpjiiladbigaaDoor
open Go.RowKit
section
variable {P : Program} {md : Region.Mode} {ops : Array Oper} {Q : Exit → Act → World → Prop} {c : Nat} {T : World → Prop}
/-- All orders; behind each operation ahead of number c the worlds keep to T. -/
def anyL (P : Program) (md : Region.Mode) (ops : Array Oper) (Q : Exit → Act → World → Prop) (c : Nat) (T : World → Prop) : Nat → Array Bool → Act → World → Prop
  | 0, L, a, w => Region.ready md ops L = [] ∧ Q .normal a w
  | f + 1, L, a, w => (Region.ready md ops L = [] → Q .normal a w) ∧ ∀ i ∈ Region.ready md ops L, wpOp P ops Q i (fun a' w' => ((L.setIfInBounds i true).getD c true = false → T w') ∧ anyL P md ops Q c T f (L.setIfInBounds i true) a' w') a w
theorem any_of_L : ∀ (f : Nat) (L : Array Bool) (a : Act) (w : World), anyL P md ops Q c T f L a w → wpAny P md ops Q f L a w
  | 0, _, _, _, h => h
  | f + 1, _, _, _, h => ⟨h.1, fun i hi => wpOp_mono (fun a' w' h' => any_of_L f _ a' w' h'.2) (h.2 i hi)⟩
/-- Number c waits for number i. -/
def waits (md : Region.Mode) (ops : Array Oper) (c i : Nat) : Bool := match ops[c]? with
  | some o => o.after.any (fun e => Region.binds md e && e.on == i)
  | none => false
theorem takeL_all {i : Nat} {oi : Oper} {v : Value} (hi : ops[i]? = some oi) (hsel : ∀ (j : Nat) (o : Oper) cs b, ops[j]? = some o → o.op ≠ .select cs b)
    (hQ : ∀ ch a w, Q (.panic ch) (a.put oi.dst v) w → Q (.panic ch) a w) (hw : waits md ops c i = true) :
    ∀ (f : Nat) (L : Array Bool) (a : Act) (w : World), L.getD c true = false →
      (∀ j oj, ops[j]? = some oj → j ≠ i → L.getD j true = false → (∀ e ∈ oj.after, Region.binds md e = true → e.on ≠ i) → oi.apart ops oj = true) →
      i ∈ Region.ready md ops L → YieldsIf P ops T oi v a → T w →
      anyL P md ops Q c T f (L.setIfInBounds i true) (a.put oi.dst v) w → anyL P md ops Q c T (f + 1) L a w := by
  -- while i has not come up, what comes up is not c
  have hnc : ∀ (L : Array Bool) j, i ∈ Region.ready md ops L → j ∈ Region.ready md ops L → j ≠ c ∧ ∀ oj, ops[j]? = some oj → ∀ e ∈ oj.after, Region.binds md e = true → e.on ≠ i := by
    intro L j hr hj
    obtain ⟨_, oj, hoj, hall⟩ := mem_ready.1 hj
    have hno : ∀ e ∈ oj.after, Region.binds md e = true → e.on ≠ i := fun e he hb heq => by
      have h1 := hall e he hb
      have h0 := (mem_ready.1 hr).1
      rw [heq] at h1
      rcases Nat.lt_or_ge i L.size with h' | h'
      · simp [h'] at h0 h1
        rw [h0] at h1
        cases h1
      · simp [Array.getElem?_eq_none h'] at h1
    refine ⟨?_, fun oj' h => by rw [hoj] at h; cases h; exact hno⟩
    rintro rfl
    unfold waits at hw
    rw [hoj] at hw
    obtain ⟨e, he, h2⟩ := Array.any_eq_true'.1 hw
    simp only [Bool.and_eq_true, beq_iff_eq] at h2
    exact hno e he h2.1 h2.2
  have hset : ∀ (L : Array Bool) j, j ≠ c → (L.setIfInBounds j true).getD c true = L.getD c true := fun L j h => getD_set_ne true h
  intro f
  induction f with
  | zero =>
    intro L a w _ _ hr hy hT H
    refine ⟨fun h => (by rw [h] at hr; cases hr), fun j hj => ?_⟩
    by_cases hji : j = i
    · subst hji
      exact hy.wpOp hi hT ⟨fun _ => hT, H⟩
    · have := ready_mono hj hji
      rw [H.1] at this
      cases this
  | succ f ih =>
    intro L a w hc hfree hr hy hT H
    refine ⟨fun h => (by rw [h] at hr; cases hr), fun j hj => ?_⟩
    by_cases hji : j = i
    · subst hji
      exact hy.wpOp hi hT ⟨fun _ => hT, H⟩
    · obtain ⟨hjun, oj, hoj, _⟩ := mem_ready.1 hj
      obtain ⟨hjc, hno⟩ := hnc L j hr hj
      obtain ⟨hic, _⟩ := hnc L i hr hr
      have h2 := wpOp_putIf hoj (hfree j oj hoj hji hjun (hno oj hoj)) (fun cs b => hsel i oi cs b hi) (fun cs b => hsel j oj cs b hoj) hQ hy (H.2 j (ready_mono hj hji))
      have hc1 : (L.setIfInBounds j true).getD c true = false := (hset L j hjc).trans hc
      refine wpOp_mono (fun a' w' h3 => ?_) h2
      have hT' : T w' := h3.2.1 (by rw [hset _ j hjc, hset _ i hic]; exact hc)
      refine ⟨fun _ => hT', ih (L.setIfInBounds j true) a' w' hc1 (fun k ok hk hki hun hno => ?_) (ready_mono hr (Ne.symm hji)) h3.1 hT' ?_⟩
      · refine hfree k ok hk hki ?_ hno
        by_cases hjk : j = k
        · subst hjk
          exact hjun
        · rw [getD_set_ne true hjk] at hun
          exact hun
      · rw [Array.setIfInBounds_comm _ _ hji]
        exact h3.2.2
/-- What yields in whatever world is taken first, whenever it comes up. -/
theorem takeW_all {i : Nat} {oi : Oper} {v : Value} (hi : ops[i]? = some oi) (hsel : ∀ (j : Nat) (o : Oper) cs b, ops[j]? = some o → o.op ≠ .select cs b)
    (hQ : ∀ ch a w, Q (.panic ch) (a.put oi.dst v) w → Q (.panic ch) a w) (hic : i ≠ c) :
    ∀ (f : Nat) (L : Array Bool) (a : Act) (w : World), (L.getD c true = false → T w) →
      (∀ j oj, ops[j]? = some oj → j ≠ i → L.getD j true = false → (∀ e ∈ oj.after, Region.binds md e = true → e.on ≠ i) → oi.apart ops oj = true) →
      i ∈ Region.ready md ops L → YieldsIf P ops (fun _ => True) oi v a →
      anyL P md ops Q c T f (L.setIfInBounds i true) (a.put oi.dst v) w → anyL P md ops Q c T (f + 1) L a w := by
  have hset : ∀ (L : Array Bool), (L.setIfInBounds i true).getD c true = L.getD c true := fun L => getD_set_ne true hic
  intro f
  induction f with
  | zero =>
    intro L a w hT _ hr hy H
    refine ⟨fun h => (by rw [h] at hr; cases hr), fun j hj => ?_⟩
    by_cases hji : j = i
    · subst hji
      exact hy.wpOp hi trivial ⟨fun h => hT ((hset L).symm.trans h), H⟩
    · have := ready_mono hj hji
      rw [H.1] at this
      cases this
  | succ f ih =>
    intro L a w hT hfree hr hy H
    refine ⟨fun h => (by rw [h] at hr; cases hr), fun j hj => ?_⟩
    by_cases hji : j = i
    · subst hji
      exact hy.wpOp hi trivial ⟨fun h => hT ((hset L).symm.trans h), H⟩
    · obtain ⟨hjun, oj, hoj, hall⟩ := mem_ready.1 hj
      have hno : ∀ e ∈ oj.after, Region.binds md e = true → e.on ≠ i := fun e he hb heq => by
        have h1 := hall e he hb
        have h0 := (mem_ready.1 hr).1
        rw [heq] at h1
        rcases Nat.lt_or_ge i L.size with h' | h'
        · simp [h'] at h0 h1
          rw [h0] at h1
          cases h1
        · simp [Array.getElem?_eq_none h'] at h1
      have h2 := wpOp_putIf hoj (hfree j oj hoj hji hjun hno) (fun cs b => hsel i oi cs b hi) (fun cs b => hsel j oj cs b hoj) hQ hy (H.2 j (ready_mono hj hji))
      refine wpOp_mono (fun a' w' h3 => ?_) h2
      have hT' : (L.setIfInBounds j true).getD c true = false → T w' := fun h => h3.2.1 (by rw [Array.setIfInBounds_comm _ _ (Ne.symm hji), hset]; exact h)
      refine ⟨hT', ih (L.setIfInBounds j true) a' w' hT' (fun k ok hk hki hun hno => ?_) (ready_mono hr (Ne.symm hji)) h3.1 ?_⟩
      · refine hfree k ok hk hki ?_ hno
        by_cases hjk : j = k
        · subst hjk
          exact hjun
        · rw [getD_set_ne true hjk] at hun
          exact hun
      · rw [Array.setIfInBounds_comm _ _ hji]
        exact h3.2.2
theorem takeL {i : Nat} {oi : Oper} {v : Value} {f : Nat} {L : Array Bool} {a : Act} {w : World} (hi : ops[i]? = some oi) (hs : Region.noSelect ops = true) (hf : Region.free md ops L i = true) (hr : (Region.ready md ops L).contains i = true)
    (hw : waits md ops c i = true) (hc : L.getD c true = false) (hQ : ∀ ch a w, Q (.panic ch) (a.put oi.dst v) w → Q (.panic ch) a w) (hT : T w) (hy : YieldsIf P ops T oi v a)
    (h : anyL P md ops Q c T f (L.setIfInBounds i true) (a.put oi.dst v) w) : anyL P md ops Q c T (f + 1) L a w :=
  takeL_all hi (Region.noSelect_spec hs) hQ hw f L a w hc (Region.free_spec hi hf) (by simpa using hr) hy hT h
theorem takeW {i : Nat} {oi : Oper} {v : Value} {f : Nat} {L : Array Bool} {a : Act} {w : World} (hi : ops[i]? = some oi) (hs : Region.noSelect ops = true) (hf : Region.free md ops L i = true) (hr : (Region.ready md ops L).contains i = true)
    (hic : (i == c) = false) (hQ : ∀ ch a w, Q (.panic ch) (a.put oi.dst v) w → Q (.panic ch) a w) (hT : L.getD c true = false → T w) (hy : YieldsIf P ops (fun _ => True) oi v a)
    (h : anyL P md ops Q c T f (L.setIfInBounds i true) (a.put oi.dst v) w) : anyL P md ops Q c T (f + 1) L a w :=
  takeW_all hi (Region.noSelect_spec hs) hQ (by simpa using hic) f L a w hT (Region.free_spec hi hf) (by simpa using hr) hy h
def AllL (P : Program) (md : Region.Mode) (ops : Array Oper) (Q : Exit → Act → World → Prop) (c : Nat) (T : World → Prop) (f : Nat) (L : Array Bool) (a : Act) (w : World) (rs : List Nat) : Prop :=
  ∀ i ∈ rs, wpOp P ops Q i (fun a' w' => ((L.setIfInBounds i true).getD c true = false → T w') ∧ anyL P md ops Q c T f (L.setIfInBounds i true) a' w') a w
theorem AllL.nil {f : Nat} {L : Array Bool} {a : Act} {w : World} : AllL P md ops Q c T f L a w [] := fun _ h => by cases h
theorem AllL.cons {f : Nat} {L : Array Bool} {a : Act} {w : World} {i : Nat} {o : Oper} {rs : List Nat} (ho : ops[i]? = some o)
    (h : ∀ K' : Act → World → Prop, Hid (∀ a w, ((L.setIfInBounds i true).getD c true = false → T w) → (((L.setIfInBounds i true).getD c true = false → T w) → anyL P md ops Q c T f (L.setIfInBounds i true) a w) → K' a w) → if Region.wanted o (yielded ops a.tmps) = true then Oper.wp P o a w K' Q else K' (a.put o.dst undef) w)
    (hs : AllL P md ops Q c T f L a w rs) : AllL P md ops Q c T f L a w (i :: rs) := fun j hj => by
  rcases List.mem_cons.1 hj with rfl | hj
  · exact wpOp_step ho (fun K' hK => h K' (fun a w hT hW => hK a w ⟨hT, hW hT⟩))
  · exact hs j hj
theorem readyL {rs : List Nat} {f : Nat} {L : Array Bool} {a : Act} {w : World} (hr : Region.ready md ops L = rs) (hne : rs ≠ []) (h : AllL P md ops Q c T f L a w rs) : anyL P md ops Q c T (f + 1) L a w :=
  ⟨fun h0 => absurd (hr ▸ h0) hne, hr ▸ h⟩
theorem doneL {L : Array Bool} {a : Act} {w : World} (hr : Region.ready md ops L = []) (h : Q .normal a w) : ∀ f, anyL P md ops Q c T f L a w
  | 0 => ⟨hr, h⟩
  | _ + 1 => ⟨fun _ => h, by rw [hr]; simp⟩
theorem regionL (c : Nat) (T : World → Prop) {id : Nat} {a : Act} {w : World} (hm : P.follows .mixedOrders = true) (h : anyL P .any ops Q c T ops.size (Array.replicate ops.size false) a w.drew) : (Code.region id ops true).wp P Q a w :=
  wp_region_any hm (any_of_L _ _ _ _ h)
end
section
variable {P : Program} {ops : Array Oper} {Q : Exit → Act → World → Prop}
def noDefer (ops : Array Oper) : Bool := ops.all fun o => match o.op with
  | .defer _ => false
  | _ => true
theorem noDefer_spec (h : noDefer ops = true) {i : Nat} {o : Oper} (ho : ops[i]? = some o) : ∀ c, o.op ≠ .defer c := by
  intro c hc
  unfold noDefer at h
  have := Array.all_eq_true'.1 h o (Array.mem_of_getElem? ho)
  rw [hc] at this
  cases this
theorem opsIn_of_ops (hd : noDefer ops = true) (l n : Nat) (hQ : ¬ LetsOut Q) : ∀ (s : List Nat) (a : Act) (w : World), wpOps P ops Q s a w → wpOpsIn (Fence.wide.inRound l) n P ops Q s a w
  | [], _, _, h => h
  | i :: s, a, w, h => by
    have ih := opsIn_of_ops hd l n hQ s
    rw [wpOps] at h
    rw [wpOpsIn]
    cases ho : ops[i]? with
    | none =>
      rw [ho] at h
      exact ih a w h
    | some o =>
      rw [ho] at h
      simp only at h ⊢
      by_cases hw : Region.wanted o (yielded ops a.tmps) = true
      · rw [if_pos hw] at h ⊢
        replace h := h.resolve_right (fun h => hQ h.2)
        refine ⟨fun _ _ => trivial, ?_⟩
        rw [show (Fence.wide.inRound l).round = some l from rfl, Oper.semAt_some l _ o (noDefer_spec hd ho)]
        unfold Oper.wp at h
        generalize (execOp a.eval o).run P w = r at h ⊢
        cases r with
        | ok x w' =>
          cases x with
          | value v => exact ih _ _ h
          | skip => exact ih _ _ h
          | defer d => exact ih _ _ h
          | enter f args =>
            refine ⟨fun h => (by cases h), CallsIn.inRound l (callsIn_wide.2 (Calls.mono h fun e w'' he => ?_))⟩
            cases e with
            | returned v => exact ih _ _ he
            | panicked ch => exact he
            | outgrown => exact he
          | row row args => exact ⟨fun h => (by cases h), fun c cs _ => let ⟨v, w2, hq, hs⟩ := h c cs; ⟨v, w2, ih _ _ hq, stepsIn_wide.2 hs⟩⟩
          | _ => exact h.elim
        | halt x w' =>
          cases x with
          | panic v => exact h
          | _ => exact h.elim
      · rw [if_neg hw] at h ⊢
        exact ⟨fun _ _ => trivial, ih _ _ h⟩
/-- A region in a round, by its orders outside of one. -/
theorem regionI (c : Nat) (T : World → Prop) {l n id : Nat} {a : Act} {w : World} (hm : P.follows .mixedOrders = true) (hd : noDefer ops = true)
    (h : anyL P .any ops (fun e a w => e = .normal ∧ Q .normal a w) c T ops.size (Array.replicate ops.size false) a w.drew) : (Code.region id ops true).wpIn (Fence.wide.inRound l) n P Q a w := by
  refine Go.wpIn_mono (Q := fun e a w => e = .normal ∧ Q .normal a w) (wpIn_region_draw fun t => ?_) (fun e a w hq => by obtain ⟨rfl, hq⟩ := hq; exact hq)
  refine opsIn_of_ops hd l n (fun ⟨_, _, hq⟩ => by cases hq.1) _ _ _ ?_
  simp only [Region.schedule, hm, Bool.true_or, if_true]
  exact wpAny_sound ops.size t _ a _ (any_of_L _ _ _ _ h)
end
end Go.Proofs.YtelpjiiladbigaaDoor

end
section
namespace Go.Proofs.YtelpjiiladbigaaDoor
open Go.RowKit Go.Shelf
theorem below_mvs {B : Nat} {w x y : World} {S : Nat → Prop} (h : Below B w x) (hm : Mvs S x y) (hs : ∀ k, k < B → ¬ S k) (hB : B ≤ w.heap.size) : Below B w y := h.trans (hm.below hs (Nat.le_trans hB h.size))
theorem Blk.new2 (w : World) (o o' : Obj) (vs : Array Value) (t : TypeId) : Blk (((w.alloc o).alloc o').alloc (.cells vs t)) (w.heap.size + 1 + 1) vs t := by
  have := Blk.new ((w.alloc o).alloc o') vs t
  simpa using this
theorem Blk.putObj {w : World} {b : Nat} {vs : Array Value} {t : TypeId} (h : Blk w b vs t) {l : Nat} (o : Obj) (hl : l ≠ b) : Blk (w.putObj l o) b vs t := (World.putObj_heap_other (fun e => hl e.symm)).trans h
theorem wrap_nat {x : Int} (h0 : 0 ≤ x) (h1 : x ≤ 4000000) : IntKind.i64.wrap x = x := by
  simp [IntKind.wrap, IntKind.signed, IntKind.bits]
  split <;> omega
/-- An error that errors.New has made. -/
def errP (a : Addr) : Value := .iface 134 (.pointer (some a))
/-- The package-level variable ErrFull holds such an error. -/
structure EF (w : World) (a : Addr) : Prop where
  cell : w.cell? ⟨10, 0, none⟩ = some (.iface 134 (.pointer (some a)))
  low : 10 < w.heap.size
theorem EF.below {w w' : World} {a : Addr} (h : EF w a) (hb : Below w.heap.size w w') : EF w' a := ⟨(hb.cell (p := ⟨10, 0, none⟩) h.low).trans h.cell, Nat.lt_of_lt_of_le h.low hb.size⟩
/-- A field's four cells. -/
def Fd.cs (p : Fd) : List Value := [.string ⟨p.name.toArray⟩, .string ⟨p.value.toArray⟩, .int .i64 (p.from' : Nat), .int .i64 (p.to : Nat)]
def fdC (xs : List Fd) : List Value := xs.flatMap Fd.cs
theorem fdC_len (xs : List Fd) : (fdC xs).length = xs.length * 4 := by
  unfold fdC
  induction xs with
  | nil => rfl
  | cons x xs ih =>
    rw [List.flatMap_cons, List.length_append, ih, List.length_cons]
    show 4 + _ = _
    omega
theorem fdC_snoc (xs : List Fd) (p : Fd) : fdC (xs ++ [p]) = fdC xs ++ p.cs := by simp [fdC]
theorem fdC_app (xs ys : List Fd) : fdC (xs ++ ys) = fdC xs ++ fdC ys := by simp [fdC]
theorem fdC_at (xs : List Fd) (i : Nat) (hi : i < xs.length) (j : Nat) (hj : j < 4) : (fdC xs)[i * 4 + j]? = xs[i].cs[j]? := by
  have e : xs = xs.take i ++ (xs[i] :: xs.drop (i + 1)) := by rw [← List.drop_eq_getElem_cons hi, List.take_append_drop]
  have h : fdC xs = fdC (xs.take i) ++ (xs[i].cs ++ fdC (xs.drop (i + 1))) := by
    conv => lhs; rw [e]
    rw [fdC_app]
    rfl
  rw [h, List.getElem?_append_right (by rw [fdC_len, List.length_take]; omega), fdC_len, List.length_take, Nat.min_eq_left (by omega), Nat.add_sub_cancel_left, List.getElem?_append_left (by show j < 4; exact hj)]
/-- Fields in a row of this call's own. -/
def Fds (B : Nat) (w : World) (v : Value) (xs : List Fd) : Prop := ∃ G, Rw w 4 v xs.length (fdC xs) G ∧ ∀ g, G = some g → B ≤ g
theorem Fds.nil (B : Nat) (w : World) : Fds B w (.slice none 0 0) [] := ⟨none, Rw.nil w 4, fun _ h => by cases h⟩
theorem Fds.keep {B : Nat} {w w' : World} {v : Value} {xs : List Fd} {S : Nat → Prop} (h : Fds B w v xs) (hm : Mvs S w w') (hs : ∀ k, B ≤ k → ¬ S k) : Fds B w' v xs := by
  obtain ⟨G, hr, hg⟩ := h
  exact ⟨G, hr.keep hm fun g e => hs g (hg g e), hg⟩
theorem Fds.below {B : Nat} {w w' : World} {v : Value} {xs : List Fd} (h : Fds B w v xs) (hb : Below w.heap.size w w') : Fds B w' v xs := h.keep (S := fun _ => False) (Mvs.of_below hb) (fun _ _ c => c)
theorem Fds.mono {B B' : Nat} {w : World} {v : Value} {xs : List Fd} (h : Fds B w v xs) (hb : B' ≤ B) : Fds B' w v xs := by
  obtain ⟨G, hr, hg⟩ := h
  exact ⟨G, hr, fun g e => Nat.le_trans hb (hg g e)⟩
theorem Fds.form {B : Nat} {w : World} {v : Value} {xs : List Fd} (h : Fds B w v xs) : ∃ A c, v = .slice A xs.length c := by
  obtain ⟨G, hr, _⟩ := h
  exact hr.form
/-- A slice of fields, to be read. -/
theorem Fds.read {B : Nat} {w : World} {v : Value} {xs : List Fd} (h : Fds B w v xs) (i : Nat) (hi : i < xs.length) : ∃ g o cap, v = .slice (some ⟨g, o, none⟩) xs.length cap ∧ xs.length ≤ cap ∧ cap ≤ maxLen ∧ B ≤ g ∧ g < w.heap.size ∧
    w.cell? ⟨g, o + i * 4, none⟩ = some (.string ⟨xs[i].name.toArray⟩) ∧ w.cell? ⟨g, o + i * 4 + 1, none⟩ = some (.string ⟨xs[i].value.toArray⟩) ∧ w.cell? ⟨g, o + i * 4 + 2, none⟩ = some (.int .i64 (xs[i].from' : Nat)) ∧ w.cell? ⟨g, o + i * 4 + 3, none⟩ = some (.int .i64 (xs[i].to : Nat)) := by
  obtain ⟨G, hr, hg⟩ := h
  rcases hr.2 with ⟨_, h0, _⟩ | ⟨g, o, cap, rfl, rfl, h1, h2, h3, h4, h5⟩
  · omega
  · have hc : ∀ j u, j < 4 → xs[i].cs[j]? = some u → w.cell? ⟨g, o + i * 4 + j, none⟩ = some u := fun j u hj hu => by
      rw [Nat.add_assoc]
      exact h4 _ _ ((fdC_at xs i hi j hj).trans hu)
    exact ⟨g, o, cap, rfl, h1, h2, hg g rfl, h3, hc 0 _ (by decide) rfl, hc 1 _ (by decide) rfl, hc 2 _ (by decide) rfl, hc 3 _ (by decide) rfl⟩
theorem info_three {i : Option TypeInfo} {z : Value} {n m : Nat} (h : i.map (fun i => (i.zero, i.size, i.bytes)) = some (some z, n, m)) : ∃ i0, i = some i0 ∧ i0.zero = some z ∧ i0.size = n ∧ i0.bytes = m := by
  cases i with
  | none => cases h
  | some i0 =>
    simp only [Option.map_some, Option.some.injEq, Prod.mk.injEq] at h
    exact ⟨i0, rfl, h.1, h.2.1, h.2.2⟩
theorem step_append_rw {P : Program} {ops : Array Oper} {o : Oper} {a : Act} {w : World} {K : Act → World → Prop} {Q : Exit → Act → World → Prop} {E : Prop}
    (hg : o.guard = none) (s x : Operand) (t tx : TypeId) (hop : o.op = Op.call { callee := Callee.builtin Builtin.append, args := #[s, x], argTypes := #[t, tx] })
    (e : TypeId) (i : TypeInfo) (z : Value) (size bytes : Nat) (ht : P.underlying t = some (.slice e)) (hi : P.info? e = some i) (hz : i.zero = some z) (hsize : i.size = size) (hby : i.bytes = bytes) (hzs : z.cells.size = size)
    {v : Value} {n : Nat} {cs : List Value} {G : Option Nat} (hv : a.eval s = v) (h : Rw w size v n cs G) (xv : Value) (m : Nat) (news : List Value) (hx : a.eval x = xv) (hs : Src P size tx xv m news w) (h63 : n + m ≤ maxLen) (hbytes : (n + m) * bytes ≤ 140737488355328)
    (hK : ∀ v' w' G', Rw w' size v' (n + m) (cs ++ news) G' → Mvs (fun k => some k = G) w w' → (G' = G ∨ G' = some w.heap.size) → K (a.put o.dst v') w') :
    if Region.wanted o (yielded ops a.tmps) = true then Oper.wp P o a w K Q else E := by
  have hw : Region.wanted o (yielded ops a.tmps) = true := by simp [Region.wanted, hg]
  rw [if_pos hw]
  obtain ⟨v', w', G', hrun, r1, r2, r3⟩ := run_append_rw (P := P) t tx o.type e i z size bytes ht hi hz hsize hby hzs h xv m news hs h63 hbytes
  unfold Oper.wp
  simp [execOp, hop, resolve, invoke, builtin, hv, hx, hrun, Result.andThen]
  exact hK v' w' G' r1 r2 r3
/-- What a field's places are in its message. -/
structure Good (m : List UInt8) (f : Fd) : Prop where
  lo : f.from' + f.name.length + 1 ≤ f.to
  hi : f.to ≤ m.length
  val : valB ((m.drop (f.from' + f.name.length + 1)).take (f.to - (f.from' + f.name.length + 1))) = f.value
theorem good_all : ∀ (n : Nat) (m pre : List UInt8) (ls : List (List UInt8)), ls.length ≤ n → AtL m pre ls → ∀ f ∈ (hd ls pre.length).1, Good m f
  | _, m, pre, [], _, _, f, hf => by
    rw [hd_nil] at hf
    cases hf
  | n + 1, m, pre, x :: r, hn, hA, f, hf => by
    by_cases ht : txt x = []
    · rw [hd_stop ht] at hf
      cases hf
    · rw [hd_cons ht] at hf
      have hg := List.takeWhile_append_dropWhile (p := blB) (l := r)
      have hL := dropWhile_len r
      have hA1 := hA.next
      have hA2 : AtL m ((pre ++ x) ++ (r.takeWhile blB).flatten) (r.dropWhile blB) := by
        refine AtL.skip (g := r.takeWhile blB) ?_
        rw [hg]
        exact hA1
      have hK2 : ((pre ++ x) ++ (r.takeWhile blB).flatten).length = pre.length + x.length + (r.takeWhile blB).flatten.length := by
        rw [List.length_append, List.length_append]
      rcases List.mem_append.1 hf with hf | hf
      · unfold fdOf at hf
        cases hnm : nameO (txt x) with
        | none =>
          rw [hnm] at hf
          cases hf
        | some p =>
          rw [hnm] at hf
          simp only [Option.map_some, Option.toList_some, List.mem_singleton] at hf
          have hok : LOK (x :: r.takeWhile blB) := by
            have := hA.ok
            rw [← hg] at this
            exact LOK.left (a := x :: r.takeWhile blB) (b := r.dropWhile blB) (by simpa using this)
          obtain ⟨h1, h2, h3⟩ := val_field hok hnm
          have hml : m.length = pre.length + x.length + (r.takeWhile blB).flatten.length + (r.dropWhile blB).flatten.length := by
            rw [hA2.eq, List.length_append, hK2]
          subst hf
          refine ⟨by show pre.length + p.length + 1 ≤ pre.length + x.length + _; omega, by show pre.length + x.length + _ ≤ _; omega, ?_⟩
          show valB ((m.drop (pre.length + p.length + 1)).take (pre.length + x.length + (r.takeWhile blB).flatten.length - (pre.length + p.length + 1))) = _
          rw [← h1]
          congr 1
          have hm : m = pre ++ (x ++ ((r.takeWhile blB).flatten ++ (r.dropWhile blB).flatten)) := by
            rw [hA2.eq]
            simp
          rw [hm, show pre.length + p.length + 1 = pre.length + (p.length + 1) from by omega, ← List.drop_drop, List.drop_left' rfl, List.drop_append, show p.length + 1 - x.length = 0 from by omega, List.drop_zero, ← List.append_assoc, List.take_left']
          rw [List.length_append, List.length_drop]
          omega
      · refine good_all n m _ _ (by simp at hn; omega) hA2 f ?_
        rw [hK2]
        exact hf
theorem good_hd {m : List UInt8} {f : Fd} (h : f ∈ (hd (splitS m) 0).1) : Good m f := good_all _ m [] (splitS m) (Nat.le_refl _) (AtL.start m) f h
theorem vac {b : Bool} {p : Prop} (h : b = true) : b = false → p := fun h' => by rw [h] at h'; cases h'
end Go.Proofs.YtelpjiiladbigaaDoor

end
