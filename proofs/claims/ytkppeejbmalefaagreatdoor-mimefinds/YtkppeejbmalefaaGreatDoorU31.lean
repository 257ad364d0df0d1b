/- The document's first and trimmed. -/
/- The document's cuts. -/
import Derived.Test.YtkppeejbmalefaaGreatDoorU18
import Derived.Test.YtkppeejbmalefaaGreatDoorU27
import Derived.Test.YtkppeejbmalefaaGreatDoorU29
import Derived.Test.YtkppeejbmalefaaGreatDoorU30
import Derived.Test.YtkppeejbmalefaaGreatDoorU16
section
set_option linter.unusedSimpArgs false
set_option linter.unusedVariables false
namespace Go.Proofs.YtkppeejbmalefaaGreatDoor
open Go.RowKit Go.Shelf
theorem vals_same {n k : List UInt8} (h : n.map lowB = k.map lowB) (xs : List FI) : valsOf n xs = valsOf k xs := by
  unfold valsOf sameT
  rw [h]
end Go.Proofs.YtkppeejbmalefaaGreatDoor

end
section
set_option linter.unusedSimpArgs false
set_option linter.unusedVariables false
namespace Go.Proofs.YtkppeejbmalefaaGreatDoor
open Go.RowKit Go.Shelf
/-- A span's three cells. -/
def spC (k : Nat × Nat) : List Value := [.int .i64 0, .int .i64 (k.1 : Nat), .int .i64 (k.2 : Nat)]
theorem sp_len (k : Nat × Nat) : (spC k).length = 3 := rfl
theorem Rw.putS {w : World} {n sz : Nat} {cs : List Value} {g o c : Nat} (h : Rw w sz (.slice (some ⟨g, o, none⟩) n c) n cs (some g)) (i : Nat) (hi : i < cs.length) (u : Value) : Rw (w.setCell ⟨g, o + i, none⟩ u) sz (.slice (some ⟨g, o, none⟩) n c) n (cs.set i u) (some g) := by
  rcases h.2 with ⟨h, _⟩ | ⟨g', o', cap', k1, k2, h1, h2, h3, h4, h5⟩
  · cases h
  · cases k1
    cases k2
    refine ⟨by rw [List.length_set]; exact h.1, .inr ⟨g, o, c, rfl, rfl, h1, h2, by simpa [World.setCell] using h3, fun j x hx => ?_, fun j hj => ?_⟩⟩
    · by_cases hji : j = i
      · subst hji
        have hjl := (List.getElem?_eq_some_iff.1 hx).1
        rw [List.length_set] at hjl
        rw [List.getElem?_set_self hjl] at hx
        cases hx
        exact World.cell?_setCell_same _ _ _ (h4 j cs[j] (List.getElem?_eq_getElem hjl))
      · rw [List.getElem?_set_ne (fun e => hji e.symm)] at hx
        rw [World.cell?_setCell_other _ ⟨g, o + i, none⟩ ⟨g, o + j, none⟩ _ (fun e => hji (by have := congrArg Addr.off e; simp only at this; omega))]
        exact h4 j x hx
    · refine ⟨?_, by rw [World.frozen?_setCell]; exact (h5 j hj).2⟩
      exact World.isSome_setCells g [u] (o + i) w _ (h5 j hj).1
/-- The row of places under way. -/
structure CU (w w2 wr : World) (v : Value) (xs : List (Nat × Nat)) : Prop where
  row : ∃ G, Rw wr 3 v xs.length (xs.flatMap spC) G ∧ ∀ g, G = some g → (g = w.heap.size ∨ w2.heap.size ≤ g)
  mv : Mvs (fun k => k = w.heap.size) w2 wr
theorem CU.grow {w w2 wr w1 : World} {v1 : Value} {xs : List (Nat × Nat)} {x : Nat × Nat} {G G1 : Option Nat} {ob : Obj} (hm : Mvs (fun k => k = w.heap.size) w2 wr) (hg : ∀ g, G = some g → (g = w.heap.size ∨ w2.heap.size ≤ g)) (hr : Rw w1 3 v1 (xs.length + 1) (xs.flatMap spC ++ spC x) G1) (hm1 : Mvs (fun k => some k = G) (wr.alloc ob) w1) (hG : G1 = G ∨ ∃ N, G1 = some N ∧ w2.heap.size ≤ N) : CU w w2 w1 v1 (xs ++ [x]) := by
  have hz : (wr.alloc ob).heap.size = wr.heap.size + 1 := World.size_alloc _ _
  have hs := hm.size
  refine ⟨⟨G1, ?_, ?_⟩, ?_⟩
  · rw [List.length_append, List.flatMap_append]
    simpa using hr
  · rintro g rfl
    rcases hG with h | h
    · exact hg g h.symm
    · obtain ⟨N, h, hN⟩ := h
      cases h
      exact .inr hN
  · have h1 : Mvs (fun k => k = w.heap.size) w2 (wr.alloc ob) := hm.alloc ob
    refine ⟨hm1.os.trans h1.os, hm1.tape.trans h1.tape, hm1.output.trans h1.output, Nat.le_trans h1.size hm1.size, fun k hk hs' => ?_⟩
    have hk2 : k < (wr.alloc ob).heap.size := by omega
    refine (hm1.block k hk2 (fun e => ?_)).trans (h1.block k hk hs')
    rcases hg k e.symm with h | h
    · exact hs' h
    · omega
theorem CU.put {w w2 wr : World} {g o c : Nat} {xs : List (Nat × Nat)} {k e e' : Nat} (h : CU w w2 wr (.slice (some ⟨g, o, none⟩) (xs.length + 1) c) (xs ++ [(k, e)])) : CU w w2 (wr.setCell ⟨g, o + xs.length * 3 + 2, none⟩ (.int .i64 (e' : Nat))) (.slice (some ⟨g, o, none⟩) (xs.length + 1) c) (xs ++ [(k, e')]) := by
  obtain ⟨⟨G, hr, hg⟩, hm⟩ := h
  have hG : G = some g := by
    rcases hr.2 with ⟨h, _⟩ | ⟨g', o', cap', k1, k2, _⟩
    · cases h
    · injection k2 with k2
      injection k2 with k2
      injection k2 with k2
      rw [k1, k2]
  subst hG
  have hl : (xs.flatMap spC).length = xs.length * 3 := flat_len sp_len xs
  have hn : (xs ++ [(k, e)]).length = xs.length + 1 := by simp
  have hn' : (xs ++ [(k, e')]).length = xs.length + 1 := by simp
  rw [hn] at hr
  have h2 := hr.putS (xs.length * 3 + 2) (by rw [List.flatMap_append, List.length_append, hl]; simp [spC]) (.int .i64 (e' : Nat))
  have hset : ((xs ++ [(k, e)]).flatMap spC).set (xs.length * 3 + 2) (.int .i64 (e' : Nat)) = (xs ++ [(k, e')]).flatMap spC := by
    rw [List.flatMap_append, List.flatMap_append, List.set_append_right _ _ (by omega), hl, show xs.length * 3 + 2 - xs.length * 3 = 2 by omega]
    rfl
  rw [hset, ← Nat.add_assoc] at h2
  refine ⟨⟨some g, by rw [hn']; exact h2, hg⟩, ?_⟩
  have hmv : Mvs (fun j => j = g) wr (wr.setCell ⟨g, o + xs.length * 3 + 2, none⟩ (.int .i64 (e' : Nat))) := (Mvs.refl _ _).setCell _ _ (fun _ => rfl)
  refine ⟨hmv.os.trans hm.os, hmv.tape.trans hm.tape, hmv.output.trans hm.output, Nat.le_trans hm.size hmv.size, fun j hj hs' => ?_⟩
  have hs := hm.size
  refine (hmv.block j (by omega) (fun e => ?_)).trans (hm.block j hj hs')
  rcases hg g rfl with h | h <;> omega
theorem CU.last {w w2 wr : World} {v : Value} {xs : List (Nat × Nat)} {k e : Nat} (h : CU w w2 wr v (xs ++ [(k, e)])) : ∃ g o c, v = .slice (some ⟨g, o, none⟩) (xs.length + 1) c ∧ xs.length + 1 ≤ c ∧ c ≤ maxLen ∧ wr.cell? ⟨g, o + xs.length * 3 + 1, none⟩ = some (.int .i64 (k : Nat)) ∧ wr.cell? ⟨g, o + xs.length * 3 + 2, none⟩ = some (.int .i64 (e : Nat)) ∧ wr.frozen? ⟨g, o + xs.length * 3 + 2, none⟩ = false := by
  obtain ⟨⟨G, hr, hg⟩, hm⟩ := h
  have hn : (xs ++ [(k, e)]).length = xs.length + 1 := by simp
  have hl : (xs.flatMap spC).length = xs.length * 3 := flat_len sp_len xs
  rw [hn] at hr
  rcases hr.2 with ⟨_, h0, _⟩ | ⟨g, o, cap, _, hv, h1, h2, h3, h4, h5⟩
  · omega
  · have hx : ∀ j, j < 3 → ((xs ++ [(k, e)]).flatMap spC)[xs.length * 3 + j]? = (spC (k, e))[j]? := fun j hj => by
      rw [List.flatMap_append, List.getElem?_append_right (by omega), hl, show xs.length * 3 + j - xs.length * 3 = j by omega]
      simp
    refine ⟨g, o, cap, hv, h1, h2, ?_, ?_, ?_⟩
    · rw [Nat.add_assoc]
      exact h4 _ _ (hx 1 (by omega))
    · rw [Nat.add_assoc]
      exact h4 _ _ (hx 2 (by omega))
    · rw [Nat.add_assoc]
      exact (h5 _ (by omega)).2
/-- What is known between two lines. -/
structure CK (m bd : List UInt8) (e : Nat) (X : List (List UInt8)) (KP : List (Nat × Nat)) (i a : Nat) (dn : List (Nat × Nat)) (cur : Option Nat) : Prop where
  kp : dn ++ kidsP m bd e (X.drop i) a cur = KP
  no : cur = none → dn = []
  at' : a + (X.drop i).flatten.length = e
  tx : ∀ j, j < (X.drop i).flatten.length → m[a + j]? = (X.drop i).flatten[j]?
  ok : LOK (X.drop i)
  cu : ∀ k, cur = some k → 2 ≤ k ∧ k ≤ a ∧ (X.drop i ≠ [] → m[a - 1]? = some 10)
def outOf (dn : List (Nat × Nat)) (e : Nat) (cur : Option Nat) : List (Nat × Nat) := dn ++ (cur.map fun k => (k, e)).toList
theorem trimE_len (x : List UInt8) : (trimE x).length ≤ x.length := by
  unfold trimE Lib.trimRightS
  rw [List.length_reverse]
  refine Nat.le_trans (dropWhile_le _ _) ?_
  rw [List.length_reverse]
  exact txt_len x
section
variable {m bd : List UInt8} {e : Nat} {X : List (List UInt8)} {KP : List (Nat × Nat)} {i a : Nat} {dn : List (Nat × Nat)} {cur : Option Nat} {x : List UInt8}
theorem CK.step (h : CK m bd e X KP i a dn cur) (hd : X.drop i = x :: X.drop (i + 1)) : (a + x.length) + (X.drop (i + 1)).flatten.length = e ∧ (∀ j, j < (X.drop (i + 1)).flatten.length → m[(a + x.length) + j]? = (X.drop (i + 1)).flatten[j]?) ∧ LOK (X.drop (i + 1)) ∧ (X.drop (i + 1) ≠ [] → m[a + x.length - 1]? = some 10) ∧ a + x.length ≤ e := by
  have h1 := h.at'
  have h2 := h.tx
  have h3 := h.ok
  rw [hd] at h1 h2 h3
  rw [List.flatten_cons] at h1 h2
  rw [List.length_append] at h1 h2
  refine ⟨by omega, fun j hj => ?_, h3.2, fun hne => ?_, by omega⟩
  · have := h2 (x.length + j) (by omega)
    rw [List.getElem?_append_right (by omega)] at this
    rw [Nat.add_assoc, this]
    congr 1
    omega
  · rcases h3.1 with ht | ⟨he, _⟩
    · obtain ⟨p, rfl, _⟩ := ht
      have := h2 p.length (by simp; omega)
      rw [List.length_append, List.length_singleton, show a + (p.length + 1) - 1 = a + p.length by omega, this]
      simp
    · exact absurd he hne
theorem CK.skip (h : CK m bd e X KP i a dn cur) (hd : X.drop i = x :: X.drop (i + 1)) (h1 : trimE x ≠ dlm bd) (h2 : trimE x ≠ clo bd) : CK m bd e X KP (i + 1) (a + x.length) dn cur := by
  obtain ⟨g1, g2, g3, g4, _⟩ := h.step hd
  refine ⟨?_, h.no, g1, g2, g3, fun k hk => ⟨(h.cu k hk).1, by have := (h.cu k hk).2.1; omega, g4⟩⟩
  have := h.kp
  rw [hd, kidsP, if_neg h1, if_neg h2] at this
  exact this
theorem CK.delim (h : CK m bd e X KP i a dn cur) (hd : X.drop i = x :: X.drop (i + 1)) (h1 : trimE x = dlm bd) : CK m bd e X KP (i + 1) (a + x.length) (dn ++ (cur.map (kidE m a)).toList) (some (a + x.length)) := by
  obtain ⟨g1, g2, g3, g4, _⟩ := h.step hd
  have hl := trimE_len x
  have hl2 : (dlm bd).length = bd.length + 2 := rfl
  rw [h1, hl2] at hl
  refine ⟨?_, fun e => (by cases e), g1, g2, g3, fun k hk => ?_⟩
  · have := h.kp
    rw [hd, kidsP, if_pos h1] at this
    rw [List.append_assoc]
    exact this
  · cases hk
    exact ⟨by omega, Nat.le_refl _, g4⟩
theorem CK.clos (h : CK m bd e X KP i a dn cur) (hd : X.drop i = x :: X.drop (i + 1)) (h1 : trimE x = clo bd) : dn ++ (cur.map (kidE m a)).toList = KP := by
  have := h.kp
  rw [hd, kidsP, if_neg (by rw [h1]; exact clo_ne bd), if_pos h1] at this
  exact this
theorem CK.ends (h : CK m bd e X KP i a dn cur) (hd : X.drop i = []) : outOf dn e cur = KP := by
  have := h.kp
  rw [hd] at this
  unfold outOf
  cases cur with
  | none => exact this
  | some k => exact this
theorem CK.kid {k : Nat} (h : CK m bd e X KP i a dn (some k)) (hd : X.drop i = x :: X.drop (i + 1)) (ha : a ≤ m.length) : kidE m a k = (k, max k (backE m a)) := by
  obtain ⟨h1, h2, h3⟩ := h.cu k rfl
  have := kidE_back h2 ha (fun _ => h3 (by rw [hd]; simp))
  rw [← this]
  rfl
end
theorem back13 {m : List UInt8} {a : Nat} (ha : 2 ≤ a) (h1 : m[a - 1]? = some 10) (h2 : m[a - 2]? = some 13) : backE m a = a - 2 := by
  unfold backE
  rw [if_pos ⟨h1, by omega⟩, if_pos ⟨h2, by omega⟩]
theorem backN {m : List UInt8} {a : Nat} {c : UInt8} (ha : 2 ≤ a) (h1 : m[a - 1]? = some 10) (h2 : m[a - 2]? = some c) (hc : c ≠ 13) : backE m a = a - 1 := by
  unfold backE
  rw [if_pos ⟨h1, by omega⟩, if_neg (fun h => hc (Option.some.inj (h2.symm.trans h.1)))]
end Go.Proofs.YtkppeejbmalefaaGreatDoor


end
