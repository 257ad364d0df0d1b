/- A region that draws its order, inside a round of a range over a function: the plain orders serve; what the loads read is held until the first store comes up. -/
/- A region that draws its order, which reads memory that was there and whose calls may make memory: one walk in the order of the text, in whatever world that keeps the old blocks. -/
/- A region that draws its order, whose first operations read old memory or make new one, and whose number c waits for all of them: one walk of the first ones, in whatever world that keeps the old blocks; then all orders of the rest. -/
import Derived.Test.YtdbmaobjikjifaaGreatDoorRU03
import Derived.Deep.RegionHeld3
import Derived.RangeFuncNested
import Derived.RangeFuncCalls
import Derived.OrdersIn
import Derived.Test.YtdbmaobjikjifaaGreatDoorRU02
import Derived.Deep.QuietTactic
import Derived.BigQuiet
section
namespace Go.Proofs.YtdbmaobjikjifaaGreatDoorR
open Go.RowKit
section
variable {P : Program} {md : Region.Mode} {ops : Array Oper} {Q : Exit → Act → World → Prop} {c : Nat} {T : World → Prop}
/-- All orders; behind each operation ahead of number c the worlds keep to T. -/
def anyL (P : Program) (md : Region.Mode) (ops : Array Oper) (Q : Exit → Act → World → Prop) (c : Nat) (T : World → Prop) : Nat → Array Bool → Act → World → Prop
  | 0, L, a, w => Region.ready md ops L = [] ∧ Q .normal a w
  | f + 1, L, a, w => (Region.ready md ops L = [] → Q .normal a w) ∧ ∀ i ∈ Region.ready md ops L, wpOp P ops Q i (fun a' w' => ((L.setIfInBounds i true).getD c true = false → T w') ∧ anyL P md ops Q c T f (L.setIfInBounds i true) a' w') a w
theorem any_of_L : ∀ (f : Nat) (L : Array Bool) (a : Act) (w : World), anyL P md ops Q c T f L a w → wpAny P md ops Q f L a w
  | 0, _, _, _, h => h
  | f + 1, _, _, _, h => ⟨h.1, fun i hi => wpOp_mono (fun a' w' h' => any_of_L f _ a' w' h'.2) (h.2 i hi)⟩
/-- Number c waits for number i. -/
def waits (md : Region.Mode) (ops : Array Oper) (c i : Nat) : Bool := match ops[c]? with
  | some o => o.after.any (fun e => Region.binds md e && e.on == i)
  | none => false
theorem takeL_all {i : Nat} {oi : Oper} {v : Value} (hi : ops[i]? = some oi) (hsel : ∀ (j : Nat) (o : Oper) cs b, ops[j]? = some o → o.op ≠ .select cs b)
    (hQ : ∀ ch a w, Q (.panic ch) (a.put oi.dst v) w → Q (.panic ch) a w) (hw : waits md ops c i = true) :
    ∀ (f : Nat) (L : Array Bool) (a : Act) (w : World), L.getD c true = false →
      (∀ j oj, ops[j]? = some oj → j ≠ i → L.getD j true = false → (∀ e ∈ oj.after, Region.binds md e = true → e.on ≠ i) → oi.apart ops oj = true) →
      i ∈ Region.ready md ops L → YieldsIf P ops T oi v a → T w →
      anyL P md ops Q c T f (L.setIfInBounds i true) (a.put oi.dst v) w → anyL P md ops Q c T (f + 1) L a w := by
  -- while i has not come up, what comes up is not c
  have hnc : ∀ (L : Array Bool) j, i ∈ Region.ready md ops L → j ∈ Region.ready md ops L → j ≠ c ∧ ∀ oj, ops[j]? = some oj → ∀ e ∈ oj.after, Region.binds md e = true → e.on ≠ i := by
    intro L j hr hj
    obtain ⟨_, oj, hoj, hall⟩ := mem_ready.1 hj
    have hno : ∀ e ∈ oj.after, Region.binds md e = true → e.on ≠ i := fun e he hb heq => by
      have h1 := hall e he hb
      have h0 := (mem_ready.1 hr).1
      rw [heq] at h1
      rcases Nat.lt_or_ge i L.size with h' | h'
      · simp [h'] at h0 h1
        rw [h0] at h1
        cases h1
      · simp [Array.getElem?_eq_none h'] at h1
    refine ⟨?_, fun oj' h => by rw [hoj] at h; cases h; exact hno⟩
    rintro rfl
    unfold waits at hw
    rw [hoj] at hw
    obtain ⟨e, he, h2⟩ := Array.any_eq_true'.1 hw
    simp only [Bool.and_eq_true, beq_iff_eq] at h2
    exact hno e he h2.1 h2.2
  have hset : ∀ (L : Array Bool) j, j ≠ c → (L.setIfInBounds j true).getD c true = L.getD c true := fun L j h => getD_set_ne true h
  intro f
  induction f with
  | zero =>
    intro L a w _ _ hr hy hT H
    refine ⟨fun h => (by rw [h] at hr; cases hr), fun j hj => ?_⟩
    by_cases hji : j = i
    · subst hji
      exact hy.wpOp hi hT ⟨fun _ => hT, H⟩
    · have := ready_mono hj hji
      rw [H.1] at this
      cases this
  | succ f ih =>
    intro L a w hc hfree hr hy hT H
    refine ⟨fun h => (by rw [h] at hr; cases hr), fun j hj => ?_⟩
    by_cases hji : j = i
    · subst hji
      exact hy.wpOp hi hT ⟨fun _ => hT, H⟩
    · obtain ⟨hjun, oj, hoj, _⟩ := mem_ready.1 hj
      obtain ⟨hjc, hno⟩ := hnc L j hr hj
      obtain ⟨hic, _⟩ := hnc L i hr hr
      have h2 := wpOp_putIf hoj (hfree j oj hoj hji hjun (hno oj hoj)) (fun cs b => hsel i oi cs b hi) (fun cs b => hsel j oj cs b hoj) hQ hy (H.2 j (ready_mono hj hji))
      have hc1 : (L.setIfInBounds j true).getD c true = false := (hset L j hjc).trans hc
      refine wpOp_mono (fun a' w' h3 => ?_) h2
      have hT' : T w' := h3.2.1 (by rw [hset _ j hjc, hset _ i hic]; exact hc)
      refine ⟨fun _ => hT', ih (L.setIfInBounds j true) a' w' hc1 (fun k ok hk hki hun hno => ?_) (ready_mono hr (Ne.symm hji)) h3.1 hT' ?_⟩
      · refine hfree k ok hk hki ?_ hno
        by_cases hjk : j = k
        · subst hjk
          exact hjun
        · rw [getD_set_ne true hjk] at hun
          exact hun
      · rw [Array.setIfInBounds_comm _ _ hji]
        exact h3.2.2
/-- What yields in whatever world is taken first, whenever it comes up. -/
theorem takeW_all {i : Nat} {oi : Oper} {v : Value} (hi : ops[i]? = some oi) (hsel : ∀ (j : Nat) (o : Oper) cs b, ops[j]? = some o → o.op ≠ .select cs b)
    (hQ : ∀ ch a w, Q (.panic ch) (a.put oi.dst v) w → Q (.panic ch) a w) (hic : i ≠ c) :
    ∀ (f : Nat) (L : Array Bool) (a : Act) (w : World), (L.getD c true = false → T w) →
      (∀ j oj, ops[j]? = some oj → j ≠ i → L.getD j true = false → (∀ e ∈ oj.after, Region.binds md e = true → e.on ≠ i) → oi.apart ops oj = true) →
      i ∈ Region.ready md ops L → YieldsIf P ops (fun _ => True) oi v a →
      anyL P md ops Q c T f (L.setIfInBounds i true) (a.put oi.dst v) w → anyL P md ops Q c T (f + 1) L a w := by
  have hset : ∀ (L : Array Bool), (L.setIfInBounds i true).getD c true = L.getD c true := fun L => getD_set_ne true hic
  intro f
  induction f with
  | zero =>
    intro L a w hT _ hr hy H
    refine ⟨fun h => (by rw [h] at hr; cases hr), fun j hj => ?_⟩
    by_cases hji : j = i
    · subst hji
      exact hy.wpOp hi trivial ⟨fun h => hT ((hset L).symm.trans h), H⟩
    · have := ready_mono hj hji
      rw [H.1] at this
      cases this
  | succ f ih =>
    intro L a w hT hfree hr hy H
    refine ⟨fun h => (by rw [h] at hr; cases hr), fun j hj => ?_⟩
    by_cases hji : j = i
    · subst hji
      exact hy.wpOp hi trivial ⟨fun h => hT ((hset L).symm.trans h), H⟩
    · obtain ⟨hjun, oj, hoj, hall⟩ := mem_ready.1 hj
      have hno : ∀ e ∈ oj.after, Region.binds md e = true → e.on ≠ i := fun e he hb heq => by
        have h1 := hall e he hb
        have h0 := (mem_ready.1 hr).1
        rw [heq] at h1
        rcases Nat.lt_or_ge i L.size with h' | h'
        · simp [h'] at h0 h1
          rw [h0] at h1
          cases h1
        · simp [Array.getElem?_eq_none h'] at h1
      have h2 := wpOp_putIf hoj (hfree j oj hoj hji hjun hno) (fun cs b => hsel i oi cs b hi) (fun cs b => hsel j oj cs b hoj) hQ hy (H.2 j (ready_mono hj hji))
      refine wpOp_mono (fun a' w' h3 => ?_) h2
      have hT' : (L.setIfInBounds j true).getD c true = false → T w' := fun h => h3.2.1 (by rw [Array.setIfInBounds_comm _ _ (Ne.symm hji), hset]; exact h)
      refine ⟨hT', ih (L.setIfInBounds j true) a' w' hT' (fun k ok hk hki hun hno => ?_) (ready_mono hr (Ne.symm hji)) h3.1 ?_⟩
      · refine hfree k ok hk hki ?_ hno
        by_cases hjk : j = k
        · subst hjk
          exact hjun
        · rw [getD_set_ne true hjk] at hun
          exact hun
      · rw [Array.setIfInBounds_comm _ _ hji]
        exact h3.2.2
theorem takeL {i : Nat} {oi : Oper} {v : Value} {f : Nat} {L : Array Bool} {a : Act} {w : World} (hi : ops[i]? = some oi) (hs : Region.noSelect ops = true) (hf : Region.free md ops L i = true) (hr : (Region.ready md ops L).contains i = true)
    (hw : waits md ops c i = true) (hc : L.getD c true = false) (hQ : ∀ ch a w, Q (.panic ch) (a.put oi.dst v) w → Q (.panic ch) a w) (hT : T w) (hy : YieldsIf P ops T oi v a)
    (h : anyL P md ops Q c T f (L.setIfInBounds i true) (a.put oi.dst v) w) : anyL P md ops Q c T (f + 1) L a w :=
  takeL_all hi (Region.noSelect_spec hs) hQ hw f L a w hc (Region.free_spec hi hf) (by simpa using hr) hy hT h
theorem takeW {i : Nat} {oi : Oper} {v : Value} {f : Nat} {L : Array Bool} {a : Act} {w : World} (hi : ops[i]? = some oi) (hs : Region.noSelect ops = true) (hf : Region.free md ops L i = true) (hr : (Region.ready md ops L).contains i = true)
    (hic : (i == c) = false) (hQ : ∀ ch a w, Q (.panic ch) (a.put oi.dst v) w → Q (.panic ch) a w) (hT : L.getD c true = false → T w) (hy : YieldsIf P ops (fun _ => True) oi v a)
    (h : anyL P md ops Q c T f (L.setIfInBounds i true) (a.put oi.dst v) w) : anyL P md ops Q c T (f + 1) L a w :=
  takeW_all hi (Region.noSelect_spec hs) hQ (by simpa using hic) f L a w hT (Region.free_spec hi hf) (by simpa using hr) hy h
def AllL (P : Program) (md : Region.Mode) (ops : Array Oper) (Q : Exit → Act → World → Prop) (c : Nat) (T : World → Prop) (f : Nat) (L : Array Bool) (a : Act) (w : World) (rs : List Nat) : Prop :=
  ∀ i ∈ rs, wpOp P ops Q i (fun a' w' => ((L.setIfInBounds i true).getD c true = false → T w') ∧ anyL P md ops Q c T f (L.setIfInBounds i true) a' w') a w
theorem AllL.nil {f : Nat} {L : Array Bool} {a : Act} {w : World} : AllL P md ops Q c T f L a w [] := fun _ h => by cases h
theorem AllL.cons {f : Nat} {L : Array Bool} {a : Act} {w : World} {i : Nat} {o : Oper} {rs : List Nat} (ho : ops[i]? = some o)
    (h : ∀ K' : Act → World → Prop, Hid (∀ a w, ((L.setIfInBounds i true).getD c true = false → T w) → (((L.setIfInBounds i true).getD c true = false → T w) → anyL P md ops Q c T f (L.setIfInBounds i true) a w) → K' a w) → if Region.wanted o (yielded ops a.tmps) = true then Oper.wp P o a w K' Q else K' (a.put o.dst undef) w)
    (hs : AllL P md ops Q c T f L a w rs) : AllL P md ops Q c T f L a w (i :: rs) := fun j hj => by
  rcases List.mem_cons.1 hj with rfl | hj
  · exact wpOp_step ho (fun K' hK => h K' (fun a w hT hW => hK a w ⟨hT, hW hT⟩))
  · exact hs j hj
theorem readyL {rs : List Nat} {f : Nat} {L : Array Bool} {a : Act} {w : World} (hr : Region.ready md ops L = rs) (hne : rs ≠ []) (h : AllL P md ops Q c T f L a w rs) : anyL P md ops Q c T (f + 1) L a w :=
  ⟨fun h0 => absurd (hr ▸ h0) hne, hr ▸ h⟩
theorem doneL {L : Array Bool} {a : Act} {w : World} (hr : Region.ready md ops L = []) (h : Q .normal a w) : ∀ f, anyL P md ops Q c T f L a w
  | 0 => ⟨hr, h⟩
  | _ + 1 => ⟨fun _ => h, by rw [hr]; simp⟩
theorem regionL (c : Nat) (T : World → Prop) {id : Nat} {a : Act} {w : World} (hm : P.follows .mixedOrders = true) (h : anyL P .any ops Q c T ops.size (Array.replicate ops.size false) a w.drew) : (Code.region id ops true).wp P Q a w :=
  wp_region_any hm (any_of_L _ _ _ _ h)
end
section
variable {P : Program} {ops : Array Oper} {Q : Exit → Act → World → Prop}
def noDefer (ops : Array Oper) : Bool := ops.all fun o => match o.op with
  | .defer _ => false
  | _ => true
theorem noDefer_spec (h : noDefer ops = true) {i : Nat} {o : Oper} (ho : ops[i]? = some o) : ∀ c, o.op ≠ .defer c := by
  intro c hc
  unfold noDefer at h
  have := Array.all_eq_true'.1 h o (Array.mem_of_getElem? ho)
  rw [hc] at this
  cases this
theorem opsIn_of_ops (hd : noDefer ops = true) (l n : Nat) (hQ : ¬ LetsOut Q) : ∀ (s : List Nat) (a : Act) (w : World), wpOps P ops Q s a w → wpOpsIn (Fence.wide.inRound l) n P ops Q s a w
  | [], _, _, h => h
  | i :: s, a, w, h => by
    have ih := opsIn_of_ops hd l n hQ s
    rw [wpOps] at h
    rw [wpOpsIn]
    cases ho : ops[i]? with
    | none =>
      rw [ho] at h
      exact ih a w h
    | some o =>
      rw [ho] at h
      simp only at h ⊢
      by_cases hw : Region.wanted o (yielded ops a.tmps) = true
      · rw [if_pos hw] at h ⊢
        replace h := h.resolve_right (fun h => hQ h.2)
        refine ⟨fun _ _ => trivial, ?_⟩
        rw [show (Fence.wide.inRound l).round = some l from rfl, Oper.semAt_some l _ o (noDefer_spec hd ho)]
        unfold Oper.wp at h
        generalize (execOp a.eval o).run P w = r at h ⊢
        cases r with
        | ok x w' =>
          cases x with
          | value v => exact ih _ _ h
          | skip => exact ih _ _ h
          | defer d => exact ih _ _ h
          | enter f args =>
            refine ⟨fun h => (by cases h), CallsIn.inRound l (callsIn_wide.2 (Calls.mono h fun e w'' he => ?_))⟩
            cases e with
            | returned v => exact ih _ _ he
            | panicked ch => exact he
            | outgrown => exact he
          | row row args => exact ⟨fun h => (by cases h), fun c cs _ => let ⟨v, w2, hq, hs⟩ := h c cs; ⟨v, w2, ih _ _ hq, stepsIn_wide.2 hs⟩⟩
          | _ => exact h.elim
        | halt x w' =>
          cases x with
          | panic v => exact h
          | _ => exact h.elim
      · rw [if_neg hw] at h ⊢
        exact ⟨fun _ _ => trivial, ih _ _ h⟩
/-- A region in a round, by its orders outside of one. -/
theorem regionI (c : Nat) (T : World → Prop) {l n id : Nat} {a : Act} {w : World} (hm : P.follows .mixedOrders = true) (hd : noDefer ops = true)
    (h : anyL P .any ops (fun e a w => e = .normal ∧ Q .normal a w) c T ops.size (Array.replicate ops.size false) a w.drew) : (Code.region id ops true).wpIn (Fence.wide.inRound l) n P Q a w := by
  refine Go.wpIn_mono (Q := fun e a w => e = .normal ∧ Q .normal a w) (wpIn_region_draw fun t => ?_) (fun e a w hq => by obtain ⟨rfl, hq⟩ := hq; exact hq)
  refine opsIn_of_ops hd l n (fun ⟨_, _, hq⟩ => by cases hq.1) _ _ _ ?_
  simp only [Region.schedule, hm, Bool.true_or, if_true]
  exact wpAny_sound ops.size t _ a _ (any_of_L _ _ _ _ h)
end
end Go.Proofs.YtdbmaobjikjifaaGreatDoorR

end
section
namespace Go.Proofs.YtdbmaobjikjifaaGreatDoorR
open Go.RowKit

/-- A world that holds all blocks of W as they were. -/
structure Ext (W : World) where
  w : World
  ok : Below W.heap.size W w

section
variable {P : Program} {W : World}
theorem ext_some (W : World) : Nonempty (Ext W) := ⟨⟨W, Below.refl _ _⟩⟩
theorem ext_cell (W : World) (u : Ext W) (b o : Nat) (h : b < W.heap.size) : u.w.cell? ⟨b, o, none⟩ = W.cell? ⟨b, o, none⟩ := u.ok.cell (p := ⟨b, o, none⟩) h
theorem wp_region_ext {id : Nat} {Q : Exit → Act → World → Prop} {a : Act} {l : List Oper} (hm : P.follows .mixedOrders = true) (hB : Region.lexB .any l.toArray = true)
    (h : wpQuiet P l.toArray (fun w' => ∃ u : Ext W, w' = u.w) (fun a' => ∀ w', (∃ u : Ext W, w' = u.w) → Q .normal a' w') l a) : (Code.region id l.toArray true).wp P Q a W :=
  wp_region_quiet (C := fun w' => ∃ u : Ext W, w' = u.w) hm hB ⟨⟨W.drew, (Below.refl _ _).drew⟩, rfl⟩ (by simpa using h)
/-- A call that makes memory and turns none. -/
theorem ext_call {f : FuncId} {args : Array Value} {u : Ext W} {v : Value} (h : Calls P f args u.w fun e w' => e = .returned v ∧ Below u.w.heap.size u.w w') :
    Calls P f args u.w fun e w'' => e = .returned v ∧ ∃ u' : Ext W, w'' = u'.w :=
  h.mono fun _ w' ⟨he, hb⟩ => ⟨he, ⟨w', u.ok.trans (hb.mono u.ok.size)⟩, rfl⟩
/-- A call that leaves the world as it was. -/
theorem ext_same {f : FuncId} {args : Array Value} {u : Ext W} {v : Value} (h : Calls P f args u.w fun e w' => e = .returned v ∧ w' = u.w) :
    Calls P f args u.w fun e w'' => e = .returned v ∧ ∃ u' : Ext W, w'' = u'.w :=
  h.mono fun _ _ ⟨he, hw⟩ => ⟨he, u, hw⟩
end
end Go.Proofs.YtdbmaobjikjifaaGreatDoorR

end
section
namespace Go.Proofs.YtdbmaobjikjifaaGreatDoorR
open Go.RowKit
section
variable {P : Program} {md : Region.Mode} {ops : Array Oper} {c : Nat} {C : World → Prop} {R : Nat → Array Bool → Act → Prop}
/-- All orders until c comes up: then nothing else may. -/
def anyE (P : Program) (md : Region.Mode) (ops : Array Oper) (C : World → Prop) (c : Nat) (R : Nat → Array Bool → Act → Prop) : Nat → Array Bool → Act → Prop
  | 0, _, _ => False
  | f + 1, L, a => (c ∈ Region.ready md ops L → Region.ready md ops L = [c] ∧ R f L a) ∧
    (c ∉ Region.ready md ops L → Region.ready md ops L ≠ [] ∧ ∀ i ∈ Region.ready md ops L, qOp P ops C i (anyE P md ops C c R f (L.setIfInBounds i true)) a)
/-- c waits for i, through operations that have not come up. -/
inductive Chn (md : Region.Mode) (ops : Array Oper) (c : Nat) (L : Array Bool) : Nat → Prop
  | dir {i : Nat} : waits md ops c i = true → Chn md ops c L i
  | step {i k : Nat} : waits md ops k i = true → L.getD k true = false → Chn md ops c L k → Chn md ops c L i
theorem not_ready {L : Array Bool} {j i : Nat} (hw : waits md ops j i = true) (hi : L.getD i true = false) : j ∉ Region.ready md ops L := fun hj => by
  obtain ⟨_, oj, hoj, hall⟩ := mem_ready.1 hj
  unfold waits at hw
  rw [hoj] at hw
  obtain ⟨e, he, h2⟩ := Array.any_eq_true'.1 hw
  simp only [Bool.and_eq_true, beq_iff_eq] at h2
  have h1 := hall e he h2.1
  rw [h2.2] at h1
  rcases Nat.lt_or_ge i L.size with h' | h'
  · simp [h'] at hi h1
    rw [hi] at h1
    cases h1
  · simp [Array.getElem?_eq_none h'] at h1
theorem Chn.no {L : Array Bool} {i : Nat} (h : Chn md ops c L i) : L.getD i true = false → c ∉ Region.ready md ops L := by
  induction h with
  | dir hw => exact fun hi => not_ready hw hi
  | step _ hk _ ih => exact fun _ => ih hk
theorem Chn.next {L : Array Bool} {i j : Nat} (h : Chn md ops c L i) (hj : j ∈ Region.ready md ops L) : L.getD i true = false → Chn md ops c (L.setIfInBounds j true) i := by
  induction h with
  | dir hw => exact fun _ => .dir hw
  | step hw hk _ ih =>
    intro hi
    refine .step hw ?_ (ih hk)
    rw [getD_set_ne true]
    · exact hk
    · rintro rfl
      exact not_ready hw hi hj
theorem anyE_first {i : Nat} {oi : Oper} {v : Value} (hi : ops[i]? = some oi) (hsel : ∀ (j : Nat) (o : Oper) cs b, ops[j]? = some o → o.op ≠ .select cs b) :
    ∀ (f : Nat) (L : Array Bool) (a : Act),
      (∀ j oj, ops[j]? = some oj → j ≠ i → L.getD j true = false → (∀ e ∈ oj.after, Region.binds md e = true → e.on ≠ i) → oi.apart ops oj = true) →
      i ∈ Region.ready md ops L → Chn md ops c L i → YieldsIn P ops C oi v a →
      anyE P md ops C c R f (L.setIfInBounds i true) (a.put oi.dst v) → anyE P md ops C c R (f + 1) L a := by
  intro f
  induction f with
  | zero => intro L a _ _ _ _ H; exact H.elim
  | succ f ih =>
    intro L a hfree hr hch hy H
    have hun := (mem_ready.1 hr).1
    have hnc := hch.no hun
    refine ⟨fun h => absurd h hnc, fun _ => ⟨(fun h => by rw [h] at hr; cases hr), fun j hj => ?_⟩⟩
    by_cases hji : j = i
    · subst hji
      exact hy.qOp hi H
    · have hj1 := ready_mono hj hji
      have hcn : c ∉ Region.ready md ops (L.setIfInBounds i true) := fun hc => by
        have := (H.1 hc).1
        rw [this] at hj1
        have := List.mem_singleton.1 hj1
        subst this
        exact hnc hj
      have h1 := (H.2 hcn).2 j hj1
      obtain ⟨hjun, oj, hoj, hall⟩ := mem_ready.1 hj
      have hnot : ∀ e ∈ oj.after, Region.binds md e = true → e.on ≠ i := fun e he hb heq => by
        have h1 := hall e he hb
        rw [heq] at h1
        rcases Nat.lt_or_ge i L.size with h' | h'
        · simp [h'] at hun h1
          rw [hun] at h1
          cases h1
        · simp [Array.getElem?_eq_none h'] at h1
      have h2 := qOp_put hoj (hfree j oj hoj hji hjun hnot) (fun cs b => hsel i oi cs b hi) (fun cs b => hsel j oj cs b hoj) hy h1
      have hfree' : ∀ k ok, ops[k]? = some ok → k ≠ i → (L.setIfInBounds j true).getD k true = false →
          (∀ e ∈ ok.after, Region.binds md e = true → e.on ≠ i) → oi.apart ops ok = true := fun k ok hk hki hun hno => by
        refine hfree k ok hk hki ?_ hno
        by_cases hjk : j = k
        · subst hjk
          exact hjun
        · rw [getD_set_ne true hjk] at hun
          exact hun
      refine qOp_mono (fun a' h3 => ih (L.setIfInBounds j true) a' hfree' (ready_mono hr (Ne.symm hji)) (hch.next hj hun) h3.1 ?_) h2
      rw [Array.setIfInBounds_comm _ _ hji]
      exact h3.2
/-- The chain, by looking. -/
def chnB (md : Region.Mode) (ops : Array Oper) (c : Nat) (L : Array Bool) : Nat → Nat → Bool
  | 0, i => waits md ops c i
  | n + 1, i => waits md ops c i || (List.range ops.size).any fun k => waits md ops k i && !L.getD k true && chnB md ops c L n k
theorem chnB_spec {L : Array Bool} : ∀ (n i : Nat), chnB md ops c L n i = true → Chn md ops c L i
  | 0, _, h => .dir h
  | n + 1, i, h => by
    unfold chnB at h
    rw [Bool.or_eq_true] at h
    rcases h with h | h
    · exact .dir h
    · obtain ⟨k, _, hk⟩ := List.any_eq_true.1 h
      simp only [Bool.and_eq_true, Bool.not_eq_true'] at hk
      exact .step hk.1.1 hk.1.2 (chnB_spec n k hk.2)
def lexE (md : Region.Mode) (ops : Array Oper) (c n : Nat) : Nat → Nat → Array Bool → Bool
  | 0, _, L => Region.ready md ops L == [c]
  | f + 1, k, L => (Region.ready md ops L).contains k && Region.free md ops L k && chnB md ops c L n k && lexE md ops c n f (k + 1) (L.setIfInBounds k true)
/-- What has come up behind the first ones. -/
def fstL : Nat → Nat → Array Bool → Array Bool
  | 0, _, L => L
  | f + 1, k, L => fstL f (k + 1) (L.setIfInBounds k true)
theorem anyE_lex {n : Nat} (hs : Region.noSelect ops = true) : ∀ (l : List Oper) (k f : Nat) (L : Array Bool) (a : Act), (∀ j o, l[j]? = some o → ops[k + j]? = some o) →
    lexE md ops c n l.length k L = true → wpQuiet P ops C (fun a' => R f (fstL l.length k L) a') l a → anyE P md ops C c R (l.length + (f + 1)) L a
  | [], k, f, L, a, _, hB, h => by
    have hB' : Region.ready md ops L = [c] := by simpa [lexE] using hB
    show anyE P md ops C c R (0 + (f + 1)) L a
    rw [Nat.zero_add]
    exact ⟨fun _ => ⟨hB', h⟩, fun hn => absurd (by rw [hB']; simp) hn⟩
  | o :: l, k, f, L, a, hl, hB, h => by
    have h0 : ops[k]? = some o := by simpa using hl 0 o rfl
    simp only [List.length_cons, lexE, Bool.and_eq_true] at hB
    obtain ⟨⟨⟨hr, hf⟩, hch⟩, hB'⟩ := hB
    have hst : qOp P ops C k (wpQuiet P ops C (fun a' => R f (fstL (l.length + 1) k L) a') l) a := by unfold qOp; simp only [h0]; exact h
    obtain ⟨v, hy, hK⟩ := yieldsIn_of_qOp h0 hst
    have := anyE_first h0 (Region.noSelect_spec hs) (l.length + (f + 1)) L a (Region.free_spec h0 hf) (by simpa using hr) (chnB_spec n k hch) hy
      (anyE_lex (n := n) hs l (k + 1) f _ _ (fun j o hj => by have := hl (j + 1) o hj; rwa [show k + 1 + j = k + (j + 1) by omega]) hB' hK)
    rw [List.length_cons, show l.length + 1 + (f + 1) = l.length + (f + 1) + 1 by omega]
    exact this
theorem any_of_E {Q : Exit → Act → World → Prop} (hR : ∀ f L a w, C w → R f L a → wpAny P md ops Q (f + 1) L a w) : ∀ (f : Nat) (L : Array Bool) (a : Act) (w : World), C w → anyE P md ops C c R f L a → wpAny P md ops Q f L a w
  | 0, _, _, _, _, h => h.elim
  | f + 1, L, a, w, hw, h => by
    by_cases hc : c ∈ Region.ready md ops L
    · exact hR f L a w hw (h.1 hc).2
    · obtain ⟨h1, h2⟩ := h.2 hc
      exact ⟨fun h0 => absurd h0 h1, fun i hi => wpOp_of_qOp hw (fun a' w' hw' => any_of_E hR f _ a' w' hw') (h2 i hi)⟩
/-- The first c operations by one walk; the others, from number c on, in all orders. -/
theorem wp_region_then {W : World} {id : Nat} {Q : Exit → Act → World → Prop} {a : Act} {l : List Oper} (c n f : Nat) (hm : P.follows .mixedOrders = true) (hs : Region.noSelect l.toArray = true) (hf : l.length = c + (f + 1))
    (hB : lexE .any l.toArray c n c 0 (Array.replicate l.length false) = true)
    (h : wpQuiet P l.toArray (fun w' => ∃ u : Ext W, w' = u.w) (fun a' => ∀ w', (∃ u : Ext W, w' = u.w) → anyL P .any l.toArray Q l.length (fun _ => True) (f + 1) (fstL c 0 (Array.replicate l.length false)) a' w') (l.take c) a) : (Code.region id l.toArray true).wp P Q a W := by
  have hlc : (l.take c).length = c := by rw [List.length_take]; omega
  refine wp_region_any hm (any_of_E (C := fun w' => ∃ u : Ext W, w' = u.w) (c := c) (R := fun f L a => ∀ w', (∃ u : Ext W, w' = u.w) → anyL P .any l.toArray Q l.length (fun _ => True) (f + 1) L a w') (fun f L a w hw hR => any_of_L _ _ _ _ (hR w hw)) _ _ _ _ ⟨⟨W.drew, (Below.refl _ _).drew⟩, rfl⟩ ?_)
  have := anyE_lex (P := P) (md := .any) (ops := l.toArray) (C := fun w' => ∃ u : Ext W, w' = u.w) (c := c) (n := n) (R := fun f L a => ∀ w', (∃ u : Ext W, w' = u.w) → anyL P .any l.toArray Q l.length (fun _ => True) (f + 1) L a w') hs (l.take c) 0 f (Array.replicate l.length false) a
    (fun j o hj => by
      rw [Nat.zero_add, List.getElem?_toArray]
      rw [List.getElem?_take] at hj
      split at hj
      · exact hj
      · cases hj) (by rw [hlc]; exact hB) (by rw [hlc]; exact h)
  rw [hlc] at this
  rw [List.size_toArray, hf]
  rw [hf] at this
  exact this
end
end Go.Proofs.YtdbmaobjikjifaaGreatDoorR

end
