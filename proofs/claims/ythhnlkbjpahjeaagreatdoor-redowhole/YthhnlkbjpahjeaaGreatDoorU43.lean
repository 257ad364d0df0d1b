/- Whether a change is more than is asked; RedoBytes. -/
/- What Commit asks of the bounds, for the first change and for the second. -/
/- All that the law wants, together. -/
import Derived.Test.YthhnlkbjpahjeaaGreatDoorU42
import Derived.Test.YthhnlkbjpahjeaaGreatDoorU40
import Derived.Test.YthhnlkbjpahjeaaGreatDoorU38
import Derived.Test.YthhnlkbjpahjeaaGreatDoorU39
section
namespace Go.Proofs.YthhnlkbjpahjeaaGreatDoor
open Go.RowKit
def sumNB : List OpA → Nat
  | [] => 0
  | x :: r => x.bytes.length + x.name.length + sumNB r
theorem sumNB_at (ops : List OpA) (k : Nat) (h : k < ops.length) : sumNB (ops.drop k) = ops[k].bytes.length + ops[k].name.length + sumNB (ops.drop (k + 1)) := by
  rw [List.drop_eq_getElem_cons h]
  rfl
theorem size_NB : ∀ ops : List OpA, sizeOps ops = 1 + 10 * ops.length + sumNB ops
  | [] => rfl
  | x :: r => by
    rw [sizeOps, opSize, size_NB r, sumNB, List.length_cons]
    omega
structure Reach (ops : List OpA) : Prop where
  len : ops.length ≤ 140737488351232
  parts : ∀ x ∈ ops, x.name.length ≤ 140737488351232 ∧ x.bytes.length ≤ 140737488351232
def longB (ops : List OpA) : Bool := decide (20000 < ops.length + sumNB ops)
set_option maxRecDepth 8000 in
set_option maxHeartbeats 4000000 in
theorem long_any (ops : List OpA) (v : Value) (w : World) (h : OPs w v ops) (hr : Reach ops) :
    Calls Tryz.prog 5 #[v] w fun e w' => e = .returned (.bool (longB ops)) ∧ Below w.heap.size w w' := by
  have HO := hide h
  obtain ⟨A, c, rfl, hl, hm⟩ := h.form
  have hmx : c ≤ 9223372036854775807 := by simp only [maxLen] at hm; omega
  have hlen := hr.len
  obtain ⟨R, hR⟩ : ∃ R, Hid (R = longB ops) := ⟨_, rfl⟩
  rw [← hR.out]
  have hR' : Hid (R = decide (20000 < ops.length + sumNB ops)) := hR
  clear h hm hR
  go_enter Tryz.func5, Tryz.ntmps5
  go_wp2
  go_loopw [3, 5, 10] (fun n _ u wr => ∃ k m : Nat, k ≤ ops.length ∧ u = .int .i64 k ∧ n = .int .i64 m ∧ Hid (m ≤ 140737488351232 ∧ (m ≤ 20000 ∨ k = 0)) ∧ Hid (Below w.heap.size w wr) ∧ Hid (m + sumNB (ops.drop k) = ops.length + sumNB ops)) (fun _ _ u _ => ops.length - (intOf u).toNat)
  case atStart => exact ⟨0, ops.length, Nat.zero_le _, rfl, rfl, ⟨hlen, .inr rfl⟩, Below.refl _ _, rfl⟩
  case round =>
    obtain ⟨k, m, hkl, rfl, rfl, hM, hB, hA⟩ := hrel
    obtain ⟨hm1, hm2⟩ := hM.out
    by_cases hlt : k < ops.length
    · have hltz : (k : Int) < (ops.length : Int) := by omega
      obtain ⟨g, o, rfl, hg, _, q0, q1, q2, q3, q4⟩ := (HO.out.below hB.out).at hlt
      obtain ⟨Ab, cb, hvb, _⟩ := q4.form
      have HD := sumNB_at ops k hlt
      have hpt := hr.parts ops[k] (List.getElem_mem hlt)
      have hA' := hA.out
      rw [HD] at hA'
      generalize hx : ops[k] = x at q0 q1 q2 q3 hvb hA' hpt
      clear hx q4 HD
      obtain ⟨kd, nm, att, vl, bs⟩ := x
      simp only at q0 q1 q2 q3 hvb hA' hpt
      subst hvb
      obtain ⟨p1, p2⟩ := hpt
      replace hA' := hide hA'
      by_cases hov : 20000 < m + (bs.length + nm.length)
      · have g1 : decide ((20000 : Int) < (m : Int) + ((bs.length : Int) + (nm.length : Int))) = true := decide_eq_true (by omega)
        have e : Hid (R = true) := by
          show _ = _
          rw [hR'.out]
          have := hA'.out
          exact decide_eq_true (by omega)
        go_wp2
        go_ret
        refine ⟨by rw [e.out]; rfl, hB.out.trans (((Below.refl _ _).alloc (Nat.le_refl _) _).mono hB.out.size)⟩
      · have g1 : decide ((20000 : Int) < (m : Int) + ((bs.length : Int) + (nm.length : Int))) = false := decide_eq_false (by omega)
        have g2 : decide ((m : Int) + ((bs.length : Int) + (nm.length : Int)) < 0) = false := decide_eq_false (by omega)
        go_wp2_with fail
        go_round
        case rel =>
          refine ⟨k + 1, m + (bs.length + nm.length), by omega, by go_num, ?_, ⟨by omega, .inl (by omega)⟩, hB.out.trans (((Below.refl _ _).alloc (Nat.le_refl _) _).mono hB.out.size), ?_⟩
          · congr 1 <;> omega
          · show _ = _
            have := hA'.out
            omega
        case measure => simp [intOf]; omega
    · have hltz : ¬ (k : Int) < (ops.length : Int) := by omega
      have hA' := hA.out
      rw [List.drop_eq_nil_of_le (by omega)] at hA'
      have hz : sumNB [] = 0 := rfl
      have e : Hid (R = decide ((20000 : Int) < (m : Int))) := by
        show _ = _
        rw [hR'.out]
        exact decide_eq_decide.2 (by omega)
      clear hA' hz
      go_wp2
      go_ret
      exact ⟨by rw [e.out]; rfl, hB.out⟩
end Go.Proofs.YthhnlkbjpahjeaaGreatDoor

end
section
namespace Go.Proofs.YthhnlkbjpahjeaaGreatDoor
open Go.RowKit
/-- A change that is in form; else none. -/
def pick (xs : List OpA) : List OpA := if formB xs = true then xs else []
theorem pick_form {xs : List OpA} (h : formB xs = true) : pick xs = xs := if_pos h
theorem pick_fine {xs : List OpA} (h : allB xs ≤ 20001) : Fine (pick xs) := by
  unfold pick
  split
  · rename_i hf
    exact fine_of hf h
  · exact Fine.nil
theorem bound_at {xs ys : List OpA} {n : Nm} (h : n ≠ redoN) : boundOf xs ys n = tb xs n + tb ys n := if_neg h
theorem al_first {xs ys : List OpA} (hf : formB xs = true) : ∀ x ∈ xs, x.name ∈ alOf (pick xs) (pick ys) := fun x hx => by
  rw [pick_form hf]
  exact List.mem_cons_of_mem _ (List.mem_append_left _ (List.mem_map_of_mem hx))
theorem al_second {xs ys : List OpA} (hf : formB ys = true) : ∀ x ∈ ys, x.name ∈ alOf (pick xs) (pick ys) := fun x hx => by
  rw [pick_form hf]
  exact List.mem_cons_of_mem _ (List.mem_append_right _ (List.mem_map_of_mem hx))
theorem len_first {xs ys : List OpA} (ha : allB xs ≤ 20001) (hf : formB xs = true) : ∀ x ∈ xs, (((fun _ => none : Nm → Option (List UInt8)) x.name).getD []).length + x.bytes.length ≤ boundOf (pick xs) (pick ys) x.name := fun x hx => by
  rw [pick_form hf, bound_at ((fine_of hf ha).ne (List.mem_map_of_mem hx)).1]
  have := tb_at hx
  show 0 + _ ≤ _
  omega
theorem first_len (xs : List OpA) (n : Nm) : ((afterV (fun _ => none) (xs.map chOf) n).getD []).length ≤ tb xs n := by
  unfold afterV
  cases e : (xs.map chOf).find? (fun c => c.name == n) with
  | none => exact Nat.zero_le _
  | some c =>
    have hc := List.mem_of_find?_eq_some e
    have hn : c.name = n := by simpa using List.find?_some e
    obtain ⟨x, hx, rfl⟩ := List.mem_map.1 hc
    have h1 := tb_at hx
    have h2 : x.name = n := hn
    rw [h2] at h1
    show ((Ch.out (chOf x) none).getD []).length ≤ _
    unfold Ch.out
    split
    · exact Nat.zero_le _
    · split
      · show ([] ++ x.bytes).length ≤ _
        simpa using h1
      · exact h1
/-- What stands behind the first Commit: nothing, or the first change. -/
def Was (xs : List OpA) (V : Nm → Option (List UInt8)) : Prop := V = (fun _ => none) ∨ (formB xs = true ∧ V = afterV (fun _ => none) (xs.map chOf))
theorem Was.len {xs : List OpA} {V : Nm → Option (List UInt8)} (h : Was xs V) (n : Nm) : ((V n).getD []).length ≤ tb (pick xs) n := by
  rcases h with rfl | ⟨hf, rfl⟩
  · exact Nat.zero_le _
  · rw [pick_form hf]
    exact first_len xs n
theorem Was.redo {xs : List OpA} {V : Nm → Option (List UInt8)} (ha : allB xs ≤ 20001) (h : Was xs V) : V redoN = none := by
  rcases h with rfl | ⟨hf, rfl⟩
  · rfl
  · refine after_none (fun hm => ?_)
    obtain ⟨c, hc, e⟩ := List.mem_map.1 hm
    obtain ⟨x, hx, rfl⟩ := List.mem_map.1 hc
    exact ((fine_of hf ha).ne (List.mem_map_of_mem hx)).1 e
theorem len_second {xs ys : List OpA} {V : Nm → Option (List UInt8)} (hV : Was xs V) (ha : allB ys ≤ 20001) (hf : formB ys = true) : ∀ y ∈ ys, ((V y.name).getD []).length + y.bytes.length ≤ boundOf (pick xs) (pick ys) y.name := fun y hy => by
  have h1 := hV.len y.name
  have h2 := tb_at hy
  rw [pick_form hf, bound_at ((fine_of hf ha).ne (List.mem_map_of_mem hy)).1]
  omega
theorem size_le : ∀ {xs : List OpA}, (∀ x ∈ xs, x.name.length ≤ 24) → sizeOps xs ≤ 1 + 34 * xs.length + allB xs
  | [], _ => Nat.le_refl _
  | x :: xs, h => by
    have h1 := size_le (xs := xs) (fun y hy => h y (by simp [hy]))
    have h2 := h x (by simp)
    unfold sizeOps allB opSize
    simp only [List.length_cons]
    omega
theorem rec_len {xs : List OpA} (ha : allB xs ≤ 20001) (hf : formB xs = true) (fs gs : List OpA) : (recB (opsB xs)).length ≤ boundOf fs gs redoN := by
  have hF := fine_of hf ha
  have h1 := size_le (xs := xs) (fun x hx => (opForm_parts (hF.form x hx)).2.2.1)
  have h2 := hF.len
  rw [recB_length, opsB_length, show boundOf fs gs redoN = 30000 from if_pos rfl]
  omega
theorem allB_le : ∀ xs : List OpA, allB xs ≤ sumNB xs
  | [] => Nat.le_refl _
  | x :: xs => by
    have := allB_le xs
    unfold allB sumNB
    omega
theorem of_long {xs : List OpA} (h : longB xs = false) : allB xs ≤ 20001 ∧ sizeOps xs ≤ 1000000 ∧ xs.length ≤ 20000 := by
  have h1 : ¬ 20000 < xs.length + sumNB xs := of_decide_eq_false h
  have h2 := allB_le xs
  have h3 := size_NB xs
  omega
end Go.Proofs.YthhnlkbjpahjeaaGreatDoor

end
section
namespace Go.Proofs.YthhnlkbjpahjeaaGreatDoor
open Go.RowKit
/-- Rows that are the same files are the same: what Same tells. -/
theorem same_true {W : Nm → Option (List UInt8)} {ns bs ns' bs' : List Nm} (h : Rep W ns bs) (h' : Rep W ns' bs') : decide (ns = ns' ∧ bs = bs') = true := decide_eq_true (h.unique h')
end Go.Proofs.YthhnlkbjpahjeaaGreatDoor

end
