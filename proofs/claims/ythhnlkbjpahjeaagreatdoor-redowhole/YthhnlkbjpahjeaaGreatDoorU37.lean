/- A log's names: List, without the log's own. -/
/- A log's names in order, and the plain rows of files. -/
/- A region that draws its order, whose last operations store what its first ones load: what the loads read is held until the first store comes up. -/
import Derived.Test.YthhnlkbjpahjeaaGreatDoorU36
import Derived.Test.YthhnlkbjpahjeaaGreatDoorDel
import Derived.Deep.RegionHeld3
section
namespace Go.Proofs.YthhnlkbjpahjeaaGreatDoor
open Go.RowKit Go.Maps Go.Sort
section
variable (w0 w : World) (d : Nat) (ρ : Nat → Option Role) (s : St)
set_option maxRecDepth 8000 in
set_option maxHeartbeats 2000000 in
theorem list_own (h : DK w0 w d ρ s) (hoff : s.off = false) (hN : s.N ≤ 1000000) :
    Calls Tryz.prog 55 #[pv d] w fun e w' => ∃ (v : Value) (ss : List (List UInt8)), e = .returned (.tuple #[v, .nilIface]) ∧ ss.Perm (strKeys s.D) ∧ w'.ownsRow (w.heap.size + 1) 9 1 v ss.length ((ss.mergeSort (fun x y => decide (x ≤ y))).map encStr) ∧ Below w.heap.size w w' := by
  obtain ⟨bn, bs, bc, vs, vl, Gs, Gl, cs, h⟩ := h
  have hc := h.blk.cell
  rw [hoff] at hc
  have hsz := h.names.size_le
  have HK := hide (callsIn_wide.1 (Tryz.maps_Keys_94 (some bn) w))
  have HS := hide (callsIn_wide.1 (Tryz.slices_Sorted_keys_93_94 bn s.N s.D ptrElem w h.names (by simp only [maxLen]; omega) (by omega)))
  clear h
  unfold pv
  go_enter Tryz.func55, Tryz.ntmps55
  go_wp2_with (first | (go_at_call 94; refine HK.out.mono ?_; rintro e w' ⟨rfl, rfl⟩) | (go_at_call 93; refine HS.out.mono ?_; rintro e w' ⟨v, ss, rfl, hS, hrow, hnil, hb⟩; replace hS := hide hS; replace hrow := hide hrow; replace hb := hide hb; clear hnil))
  go_ret2
  refine ⟨v, ss, rfl, hS.out, ?_, ((Below.refl _ w).alloc (Nat.le_refl _) _).trans (hb.out.mono (by simp))⟩
  have := hrow.out
  simpa using this
end
theorem pred_redo (x : List UInt8) (w : World) : Go.Proofs.FnGives Tryz.prog 57 #[] #[encStr x] (.bool (x == redoN)) w := by
  unfold Go.Proofs.FnGives encStr redoN
  show Calls Tryz.prog 57 #[.string ⟨x.toArray⟩] w _
  go_enter Tryz.func57, Tryz.ntmps57
  go_wp2
  go_ret
  exact ⟨by first | rfl | simp, 0, rfl⟩
theorem below_putRow {base g q : Nat} {w : World} (d : Array (List UInt8)) (hg : base ≤ g) : Below base w (putRow encStr (Sort.ahead w q) g 0 d) := by
  refine ⟨rfl, rfl, rfl, by simp [Sort.ahead], fun i hi => ?_⟩
  show (w.heap.modify g _)[i]? = w.heap[i]?
  rw [Array.getElem?_modify, if_neg (by omega)]
theorem deleteRedo (w : World) (base : Nat) (v : Value) (ss : List (List UInt8)) (h : w.ownsRow base 9 1 v ss.length (ss.map encStr)) (h0 : ss ≠ []) (hs : ss.length ≤ 1000000) :
    Calls Tryz.prog 56 #[v, .func (.func 57) #[] #[]] w fun e w' => ∃ v', e = .returned v' ∧ TR w' v' (ss.filter (fun x => !(x == redoN))) ∧ Below base w w' ∧ ∀ A n c, v' = .slice (some A) n c → base ≤ A.block := by
  rcases h.2 with ⟨_, h1⟩ | ⟨g, cap, cur, rfl, hg, hb, hn, hc, hsz, ht⟩
  · exact absurd (List.length_eq_zero_iff.1 h1) h0
  have hH : Holds encStr w g 0 ss.toArray := holds_of_block hb (by simpa using ht)
  have hlt : g < w.heap.size := (Array.getElem?_eq_some_iff.1 hb).1
  have key := AnyE.slices_DeleteFunc (P := Tryz.prog) Tryz.dels56 encStr (fun _ => rfl) (fun x => x == redoN) 57 #[] (enters_of Tryz.func57 (by kernel_rfl) rfl) [] (fun w => Tryz.zeroValue9 w) g 0 cap ss.toArray w (fun W x _ => pred_redo x W) (fun _ _ _ x _ => pred_redo x _) hH (by simp; omega) (by simpa using hn)
  have e1 : (ss.toArray).size = ss.length := by simp
  rw [e1] at key
  refine Calls.mono key ?_
  rintro e w' ⟨rfl, q, rfl⟩
  refine ⟨_, rfl, ?_, below_putRow _ hg, by rintro A n c e; cases e; exact hg⟩
  have hle : (ss.filter (fun x => !(x == redoN))).length ≤ ss.length := List.length_filter_le _ _
  obtain ⟨F, hF⟩ : ∃ F, F = ss.filter (fun x => !(x == redoN)) := ⟨_, rfl⟩
  rw [← hF] at hle ⊢
  have hh := holds_putRow encStr (Sort.ahead w q) g 0 ss.toArray (F ++ List.replicate (ss.length - F.length) []).toArray (fun j hj => hH j hj) (by simp; omega)
  refine ⟨some ⟨g, 0, none⟩, cap, by simp, by simp; omega, hc, (fun e => by cases e), fun _ => ⟨g, 0, rfl, by simpa [Sort.ahead] using hlt, fun j u hj => ?_⟩⟩
  have hj' : j < F.length := by
    have := (List.getElem?_eq_some_iff.1 hj).1
    simpa using this
  rw [(hh j (by simp; omega)).1]
  rw [List.getElem?_map, List.getElem?_eq_getElem hj'] at hj
  simp only [Option.map_some, Option.some.injEq] at hj
  rw [← hj]
  congr 2
  rw [getElem!_pos _ j (by simp; omega)]
  simp [List.getElem_append_left hj']
end Go.Proofs.YthhnlkbjpahjeaaGreatDoor

end
section
namespace Go.Proofs.YthhnlkbjpahjeaaGreatDoor
open Go.RowKit Go.Maps Go.Sort
/-- The rows ns, bs are the files W: in order. -/
structure Rep (W : Nm → Option (List UInt8)) (ns bs : List Nm) : Prop where
  ord : ns.Pairwise (· < ·)
  mem : ∀ n, n ∈ ns ↔ (W n).isSome = true
  by_ : bs = ns.map (fun n => (W n).getD [])
theorem ord_unique {ns ms : List Nm} (h1 : ns.Pairwise (· < ·)) (h2 : ms.Pairwise (· < ·)) (hm : ∀ n, n ∈ ns ↔ n ∈ ms) : ns = ms := by
  have n1 : ns.Nodup := h1.imp (fun h e => by rw [e] at h; exact List.lt_irrefl _ h)
  have n2 : ms.Nodup := h2.imp (fun h e => by rw [e] at h; exact List.lt_irrefl _ h)
  refine List.Perm.eq_of_pairwise (le := fun a b => a < b) (fun a b _ _ h h' => absurd (List.lt_trans h h') (List.lt_irrefl _)) h1 h2 ?_
  rw [List.perm_ext_iff_of_nodup n1 n2]
  exact hm
theorem Rep.unique {W : Nm → Option (List UInt8)} {ns bs ns' bs' : List Nm} (h : Rep W ns bs) (h' : Rep W ns' bs') : ns = ns' ∧ bs = bs' := by
  have := ord_unique h.ord h'.ord (fun n => (h.mem n).trans (h'.mem n).symm)
  subst this
  exact ⟨rfl, h.by_.trans h'.by_.symm⟩
theorem sorted_lt {ss : List Nm} (h : ss.Nodup) : (ss.mergeSort leB).Pairwise (· < ·) := by
  have tr : ∀ a b c : List UInt8, leB a b = true → leB b c = true → leB a c = true := fun a b c h1 h2 => by simp only [leB, decide_eq_true_eq] at *; exact List.le_trans h1 h2
  have to : ∀ a b : List UInt8, (leB a b || leB b a) = true := fun a b => by simp only [leB, Bool.or_eq_true, decide_eq_true_eq]; exact List.le_total a b
  have h1 := List.pairwise_mergeSort tr to ss
  have h2 : (ss.mergeSort leB).Nodup := (List.mergeSort_perm ss leB).nodup_iff.2 h
  have := h1.and h2
  refine this.imp ?_
  rintro a b ⟨h1, h2⟩
  simp only [leB, decide_eq_true_eq] at h1
  by_cases h : a < b
  · exact h
  · exact absurd (List.le_antisymm h1 (List.not_lt.1 h)) h2
section
variable {w0 w w' : World} {d : Nat} {ρ : Nat → Option Role} {s : St} {p : PD} {Al : List Nm} {B : Nm → Nat} {k j : Nat}
theorem OK.keys (h : OK w0 w d ρ s p Al B k j) : (strKeys s.D).Nodup ∧ ∀ n, n ∈ strKeys s.D ↔ (p.nm n).isSome = true := by
  obtain ⟨es, hes, hp⟩ := h.tidy
  have he := h.bd.eD
  have hnm := h.rel.nm
  rw [hes] at he hnm ⊢
  obtain ⟨ks, hk1, hk2⟩ := names_of es he
  have e0 : strKeys (DataW.map es) = ks := by
    show es.map (fun p => strOf p.1) = ks
    have : es.map (fun p => strOf p.1) = (es.map (fun p => p.1)).map strOf := by rw [List.map_map]; rfl
    rw [this, hk1, List.map_map]
    exact List.map_id'' (fun _ => rfl) _
  rw [e0]
  have hnd : ks.Nodup := by
    have : (ks.map Lit.string).Pairwise (· ≠ ·) := by
      rw [← hk1, List.pairwise_map]
      exact hp
    rw [List.pairwise_map] at this
    exact this.imp fun h e => h (by rw [e])
  refine ⟨hnd, fun n => ?_⟩
  rw [hnm]
  unfold nmF DataW.atKey
  cases hf : es.find? (fun p => p.1.sameKey (.string n)) with
  | none =>
    have hno : fileAt (DataW.nil : DataW Unit) = Option.none := by
      unfold fileAt
      rw [dif_neg]
      rintro ⟨b, e⟩
      cases e
    simp only [hf, hno]
    refine ⟨fun hn => ?_, fun h => by cases h⟩
    have : Lit.string n ∈ es.map (fun p => p.1) := by rw [hk1]; exact List.mem_map_of_mem hn
    obtain ⟨q, hq, e⟩ := List.mem_map.1 this
    have := List.find?_eq_none.1 hf q hq
    rw [e] at this
    simp [Lit.sameKey] at this
  | some q =>
    obtain ⟨m, hm, e, b, e2⟩ := he q (List.mem_of_find?_eq_some hf)
    have hs := List.find?_some hf
    have := WideAt.sameKey_eq (show q.1.sameKey (.string n) = true by simpa using hs)
    rw [e] at this
    cases this
    simp only [hf, e2, fileAt_pd, Option.isSome_some, iff_true]
    have : Lit.string n ∈ es.map (fun p => p.1) := List.mem_map.2 ⟨q, List.mem_of_find?_eq_some hf, e⟩
    rw [hk1] at this
    obtain ⟨m, hm, e⟩ := List.mem_map.1 this
    cases e
    exact hm
theorem OK.rep (h : OK w0 w d ρ s p Al B k j) {W : Nm → Option (List UInt8)} {x : List UInt8} (hC : Calm W redoN x p) (hW : W redoN = Option.none) {ss : List Nm} (hp : ss.Perm (strKeys s.D)) :
    ((ss.mergeSort leB).filter (fun x => !(x == redoN))).Pairwise (· < ·) ∧ ∀ n, n ∈ (ss.mergeSort leB).filter (fun x => !(x == redoN)) ↔ (W n).isSome = true := by
  obtain ⟨hk1, hk2⟩ := h.keys
  refine ⟨(sorted_lt (hp.nodup_iff.2 hk1)).filter _, fun n => ?_⟩
  rw [List.mem_filter, List.mem_mergeSort, hp.mem_iff, hk2 n, hC.eff]
  by_cases e : n = redoN
  · subst e
    simp [hW]
  · rw [← hC.rest n e]
    simp [e]
end
section
variable {w0 w : World} {l d : Nat} {dead : Bool} {ρ : Nat → Option Role} {s : St}
set_option maxRecDepth 8000 in
set_option maxHeartbeats 2000000 in
theorem logList_ok (h : LG w0 w l d dead ρ s) (hoff : s.off = false) (hN : s.N ≤ 1000000) (h0 : strKeys s.D ≠ []) (hk : (strKeys s.D).length ≤ 1000) :
    Calls Tryz.prog 29 #[pv l] w fun e w' => ∃ (v : Value) (ss : List (List UInt8)), e = .returned v ∧ ss.Perm (strKeys s.D) ∧ TR w' v ((ss.mergeSort leB).filter (fun x => !(x == redoN))) ∧ Below w.heap.size w w' ∧ ∀ A n c, v = .slice (some A) n c → w.heap.size ≤ A.block := by
  have HL := hide (list_own w0 w d ρ s h.dk hoff hN)
  have hcl := h.lb.cell
  have H0 := hide h0
  have HK := hide hk
  clear h h0 hk
  unfold pv at *
  go_enter Tryz.func29, Tryz.ntmps29
  go_wp2_with fail
  refine HL.out.mono ?_
  rintro e w1 ⟨v, ss, rfl, hs, ho, hb1⟩
  have HS := hide hs
  have HB := hide hb1
  have hle : ss.length = (ss.mergeSort (fun x y => decide (x ≤ y))).length := by rw [List.length_mergeSort]
  rw [hle] at ho
  have hlen : (ss.mergeSort (fun x y => decide (x ≤ y))).length ≤ 1000000 := by
    rw [← hle, HS.out.length_eq]
    have := HK.out
    omega
  have hne : ss.mergeSort (fun x y => decide (x ≤ y)) ≠ [] := by
    intro e
    rw [e] at hle
    exact H0.out (List.length_eq_zero_iff.1 (by rw [← HS.out.length_eq]; simpa using hle))
  have HD := hide (deleteRedo w1 _ v _ ho hne hlen)
  clear hs ho hb1 HL hcl hle hlen hne
  go_wp2_with (go_at_call 56; refine HD.out.mono ?_; rintro e w2 ⟨v', rfl, ht, hb2, hA⟩; replace ht := hide ht; replace hb2 := hide hb2; replace hA := hide hA)
  go_ret
  exact ⟨_, ss, rfl, HS.out, ht.out, HB.out.trans (hb2.out.mono (by omega)), fun A n c e => by have := hA.out A n c e; omega⟩
end
end Go.Proofs.YthhnlkbjpahjeaaGreatDoor

end
section
namespace Go.Proofs.YthhnlkbjpahjeaaGreatDoor
open Go.RowKit
section
variable {P : Program} {md : Region.Mode} {ops : Array Oper} {Q : Exit → Act → World → Prop} {c : Nat} {T : World → Prop}
/-- All orders; behind each operation ahead of number c the worlds keep to T. -/
def anyL (P : Program) (md : Region.Mode) (ops : Array Oper) (Q : Exit → Act → World → Prop) (c : Nat) (T : World → Prop) : Nat → Array Bool → Act → World → Prop
  | 0, L, a, w => Region.ready md ops L = [] ∧ Q .normal a w
  | f + 1, L, a, w => (Region.ready md ops L = [] → Q .normal a w) ∧ ∀ i ∈ Region.ready md ops L, wpOp P ops Q i (fun a' w' => ((L.setIfInBounds i true).getD c true = false → T w') ∧ anyL P md ops Q c T f (L.setIfInBounds i true) a' w') a w
theorem any_of_L : ∀ (f : Nat) (L : Array Bool) (a : Act) (w : World), anyL P md ops Q c T f L a w → wpAny P md ops Q f L a w
  | 0, _, _, _, h => h
  | f + 1, _, _, _, h => ⟨h.1, fun i hi => wpOp_mono (fun a' w' h' => any_of_L f _ a' w' h'.2) (h.2 i hi)⟩
/-- Number c waits for number i. -/
def waits (md : Region.Mode) (ops : Array Oper) (c i : Nat) : Bool := match ops[c]? with
  | some o => o.after.any (fun e => Region.binds md e && e.on == i)
  | none => false
theorem takeL_all {i : Nat} {oi : Oper} {v : Value} (hi : ops[i]? = some oi) (hsel : ∀ (j : Nat) (o : Oper) cs b, ops[j]? = some o → o.op ≠ .select cs b)
    (hQ : ∀ ch a w, Q (.panic ch) (a.put oi.dst v) w → Q (.panic ch) a w) (hw : waits md ops c i = true) :
    ∀ (f : Nat) (L : Array Bool) (a : Act) (w : World), L.getD c true = false →
      (∀ j oj, ops[j]? = some oj → j ≠ i → L.getD j true = false → (∀ e ∈ oj.after, Region.binds md e = true → e.on ≠ i) → oi.apart ops oj = true) →
      i ∈ Region.ready md ops L → YieldsIf P ops T oi v a → T w →
      anyL P md ops Q c T f (L.setIfInBounds i true) (a.put oi.dst v) w → anyL P md ops Q c T (f + 1) L a w := by
  -- while i has not come up, what comes up is not c
  have hnc : ∀ (L : Array Bool) j, i ∈ Region.ready md ops L → j ∈ Region.ready md ops L → j ≠ c ∧ ∀ oj, ops[j]? = some oj → ∀ e ∈ oj.after, Region.binds md e = true → e.on ≠ i := by
    intro L j hr hj
    obtain ⟨_, oj, hoj, hall⟩ := mem_ready.1 hj
    have hno : ∀ e ∈ oj.after, Region.binds md e = true → e.on ≠ i := fun e he hb heq => by
      have h1 := hall e he hb
      have h0 := (mem_ready.1 hr).1
      rw [heq] at h1
      rcases Nat.lt_or_ge i L.size with h' | h'
      · simp [h'] at h0 h1
        rw [h0] at h1
        cases h1
      · simp [Array.getElem?_eq_none h'] at h1
    refine ⟨?_, fun oj' h => by rw [hoj] at h; cases h; exact hno⟩
    rintro rfl
    unfold waits at hw
    rw [hoj] at hw
    obtain ⟨e, he, h2⟩ := Array.any_eq_true'.1 hw
    simp only [Bool.and_eq_true, beq_iff_eq] at h2
    exact hno e he h2.1 h2.2
  have hset : ∀ (L : Array Bool) j, j ≠ c → (L.setIfInBounds j true).getD c true = L.getD c true := fun L j h => getD_set_ne true h
  intro f
  induction f with
  | zero =>
    intro L a w _ _ hr hy hT H
    refine ⟨fun h => (by rw [h] at hr; cases hr), fun j hj => ?_⟩
    by_cases hji : j = i
    · subst hji
      exact hy.wpOp hi hT ⟨fun _ => hT, H⟩
    · have := ready_mono hj hji
      rw [H.1] at this
      cases this
  | succ f ih =>
    intro L a w hc hfree hr hy hT H
    refine ⟨fun h => (by rw [h] at hr; cases hr), fun j hj => ?_⟩
    by_cases hji : j = i
    · subst hji
      exact hy.wpOp hi hT ⟨fun _ => hT, H⟩
    · obtain ⟨hjun, oj, hoj, _⟩ := mem_ready.1 hj
      obtain ⟨hjc, hno⟩ := hnc L j hr hj
      obtain ⟨hic, _⟩ := hnc L i hr hr
      have h2 := wpOp_putIf hoj (hfree j oj hoj hji hjun (hno oj hoj)) (fun cs b => hsel i oi cs b hi) (fun cs b => hsel j oj cs b hoj) hQ hy (H.2 j (ready_mono hj hji))
      have hc1 : (L.setIfInBounds j true).getD c true = false := (hset L j hjc).trans hc
      refine wpOp_mono (fun a' w' h3 => ?_) h2
      have hT' : T w' := h3.2.1 (by rw [hset _ j hjc, hset _ i hic]; exact hc)
      refine ⟨fun _ => hT', ih (L.setIfInBounds j true) a' w' hc1 (fun k ok hk hki hun hno => ?_) (ready_mono hr (Ne.symm hji)) h3.1 hT' ?_⟩
      · refine hfree k ok hk hki ?_ hno
        by_cases hjk : j = k
        · subst hjk
          exact hjun
        · rw [getD_set_ne true hjk] at hun
          exact hun
      · rw [Array.setIfInBounds_comm _ _ hji]
        exact h3.2.2
/-- What yields in whatever world is taken first, whenever it comes up. -/
theorem takeW_all {i : Nat} {oi : Oper} {v : Value} (hi : ops[i]? = some oi) (hsel : ∀ (j : Nat) (o : Oper) cs b, ops[j]? = some o → o.op ≠ .select cs b)
    (hQ : ∀ ch a w, Q (.panic ch) (a.put oi.dst v) w → Q (.panic ch) a w) (hic : i ≠ c) :
    ∀ (f : Nat) (L : Array Bool) (a : Act) (w : World), (L.getD c true = false → T w) →
      (∀ j oj, ops[j]? = some oj → j ≠ i → L.getD j true = false → (∀ e ∈ oj.after, Region.binds md e = true → e.on ≠ i) → oi.apart ops oj = true) →
      i ∈ Region.ready md ops L → YieldsIf P ops (fun _ => True) oi v a →
      anyL P md ops Q c T f (L.setIfInBounds i true) (a.put oi.dst v) w → anyL P md ops Q c T (f + 1) L a w := by
  have hset : ∀ (L : Array Bool), (L.setIfInBounds i true).getD c true = L.getD c true := fun L => getD_set_ne true hic
  intro f
  induction f with
  | zero =>
    intro L a w hT _ hr hy H
    refine ⟨fun h => (by rw [h] at hr; cases hr), fun j hj => ?_⟩
    by_cases hji : j = i
    · subst hji
      exact hy.wpOp hi trivial ⟨fun h => hT ((hset L).symm.trans h), H⟩
    · have := ready_mono hj hji
      rw [H.1] at this
      cases this
  | succ f ih =>
    intro L a w hT hfree hr hy H
    refine ⟨fun h => (by rw [h] at hr; cases hr), fun j hj => ?_⟩
    by_cases hji : j = i
    · subst hji
      exact hy.wpOp hi trivial ⟨fun h => hT ((hset L).symm.trans h), H⟩
    · obtain ⟨hjun, oj, hoj, hall⟩ := mem_ready.1 hj
      have hno : ∀ e ∈ oj.after, Region.binds md e = true → e.on ≠ i := fun e he hb heq => by
        have h1 := hall e he hb
        have h0 := (mem_ready.1 hr).1
        rw [heq] at h1
        rcases Nat.lt_or_ge i L.size with h' | h'
        · simp [h'] at h0 h1
          rw [h0] at h1
          cases h1
        · simp [Array.getElem?_eq_none h'] at h1
      have h2 := wpOp_putIf hoj (hfree j oj hoj hji hjun hno) (fun cs b => hsel i oi cs b hi) (fun cs b => hsel j oj cs b hoj) hQ hy (H.2 j (ready_mono hj hji))
      refine wpOp_mono (fun a' w' h3 => ?_) h2
      have hT' : (L.setIfInBounds j true).getD c true = false → T w' := fun h => h3.2.1 (by rw [Array.setIfInBounds_comm _ _ (Ne.symm hji), hset]; exact h)
      refine ⟨hT', ih (L.setIfInBounds j true) a' w' hT' (fun k ok hk hki hun hno => ?_) (ready_mono hr (Ne.symm hji)) h3.1 ?_⟩
      · refine hfree k ok hk hki ?_ hno
        by_cases hjk : j = k
        · subst hjk
          exact hjun
        · rw [getD_set_ne true hjk] at hun
          exact hun
      · rw [Array.setIfInBounds_comm _ _ hji]
        exact h3.2.2
theorem takeL {i : Nat} {oi : Oper} {v : Value} {f : Nat} {L : Array Bool} {a : Act} {w : World} (hi : ops[i]? = some oi) (hs : Region.noSelect ops = true) (hf : Region.free md ops L i = true) (hr : (Region.ready md ops L).contains i = true)
    (hw : waits md ops c i = true) (hc : L.getD c true = false) (hQ : ∀ ch a w, Q (.panic ch) (a.put oi.dst v) w → Q (.panic ch) a w) (hT : T w) (hy : YieldsIf P ops T oi v a)
    (h : anyL P md ops Q c T f (L.setIfInBounds i true) (a.put oi.dst v) w) : anyL P md ops Q c T (f + 1) L a w :=
  takeL_all hi (Region.noSelect_spec hs) hQ hw f L a w hc (Region.free_spec hi hf) (by simpa using hr) hy hT h
theorem takeW {i : Nat} {oi : Oper} {v : Value} {f : Nat} {L : Array Bool} {a : Act} {w : World} (hi : ops[i]? = some oi) (hs : Region.noSelect ops = true) (hf : Region.free md ops L i = true) (hr : (Region.ready md ops L).contains i = true)
    (hic : (i == c) = false) (hQ : ∀ ch a w, Q (.panic ch) (a.put oi.dst v) w → Q (.panic ch) a w) (hT : L.getD c true = false → T w) (hy : YieldsIf P ops (fun _ => True) oi v a)
    (h : anyL P md ops Q c T f (L.setIfInBounds i true) (a.put oi.dst v) w) : anyL P md ops Q c T (f + 1) L a w :=
  takeW_all hi (Region.noSelect_spec hs) hQ (by simpa using hic) f L a w hT (Region.free_spec hi hf) (by simpa using hr) hy h
def AllL (P : Program) (md : Region.Mode) (ops : Array Oper) (Q : Exit → Act → World → Prop) (c : Nat) (T : World → Prop) (f : Nat) (L : Array Bool) (a : Act) (w : World) (rs : List Nat) : Prop :=
  ∀ i ∈ rs, wpOp P ops Q i (fun a' w' => ((L.setIfInBounds i true).getD c true = false → T w') ∧ anyL P md ops Q c T f (L.setIfInBounds i true) a' w') a w
theorem AllL.nil {f : Nat} {L : Array Bool} {a : Act} {w : World} : AllL P md ops Q c T f L a w [] := fun _ h => by cases h
theorem AllL.cons {f : Nat} {L : Array Bool} {a : Act} {w : World} {i : Nat} {o : Oper} {rs : List Nat} (ho : ops[i]? = some o)
    (h : ∀ K' : Act → World → Prop, Hid (∀ a w, ((L.setIfInBounds i true).getD c true = false → T w) → (((L.setIfInBounds i true).getD c true = false → T w) → anyL P md ops Q c T f (L.setIfInBounds i true) a w) → K' a w) → if Region.wanted o (yielded ops a.tmps) = true then Oper.wp P o a w K' Q else K' (a.put o.dst undef) w)
    (hs : AllL P md ops Q c T f L a w rs) : AllL P md ops Q c T f L a w (i :: rs) := fun j hj => by
  rcases List.mem_cons.1 hj with rfl | hj
  · exact wpOp_step ho (fun K' hK => h K' (fun a w hT hW => hK a w ⟨hT, hW hT⟩))
  · exact hs j hj
theorem readyL {rs : List Nat} {f : Nat} {L : Array Bool} {a : Act} {w : World} (hr : Region.ready md ops L = rs) (hne : rs ≠ []) (h : AllL P md ops Q c T f L a w rs) : anyL P md ops Q c T (f + 1) L a w :=
  ⟨fun h0 => absurd (hr ▸ h0) hne, hr ▸ h⟩
theorem doneL {L : Array Bool} {a : Act} {w : World} (hr : Region.ready md ops L = []) (h : Q .normal a w) : ∀ f, anyL P md ops Q c T f L a w
  | 0 => ⟨hr, h⟩
  | _ + 1 => ⟨fun _ => h, by rw [hr]; simp⟩
theorem regionL (c : Nat) (T : World → Prop) {id : Nat} {a : Act} {w : World} (hm : P.follows .mixedOrders = true) (h : anyL P .any ops Q c T ops.size (Array.replicate ops.size false) a w.drew) : (Code.region id ops true).wp P Q a w :=
  wp_region_any hm (any_of_L _ _ _ _ h)
end
end Go.Proofs.YthhnlkbjpahjeaaGreatDoor

end
