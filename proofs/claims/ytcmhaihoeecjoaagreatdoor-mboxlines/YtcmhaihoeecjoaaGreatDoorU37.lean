/- The document's ParseDay: which texts, and which moment. -/
/- The document's ParseDay is the program's; DatesDays. -/
import Derived.Test.YtcmhaihoeecjoaaGreatDoorU36
import Derived.Test.YtcmhaihoeecjoaaGreatDoorU29
section
namespace Go.Proofs.YtcmhaihoeecjoaaGreatDoor.Da
open Go.RowKit
theorem likeB_app : ∀ (s p s2 p2 : List UInt8), s.length = p.length → likeB (s ++ s2) (p ++ p2) = (likeB s p && likeB s2 p2)
  | [], [], _, _, _ => by simp [likeB]
  | c :: s, q :: p, s2, p2, h => by
    have := likeB_app s p s2 p2 (by simpa using h)
    show likeB (c :: (s ++ s2)) (q :: (p ++ p2)) = _
    rw [likeB, likeB, this, Bool.and_assoc]
  | [], _ :: _, _, _, h => by simp at h
  | _ :: _, [], _, _, h => by simp at h
theorem likeB_digs : ∀ (k : Nat) (s : List UInt8), likeB s (List.replicate k 48) = true ↔ s.length = k ∧ Digs s
  | 0, [] => by simp [likeB, Digs]
  | 0, _ :: _ => by simp [likeB]
  | k + 1, [] => by simp [likeB, List.replicate_succ]
  | k + 1, c :: s => by
    have ih := likeB_digs k s
    rw [List.replicate_succ, likeB, if_pos (by decide), Bool.and_eq_true, ih]
    simp [Digs]
    constructor
    · rintro ⟨h1, h2, h3⟩
      exact ⟨h2, h1, h3⟩
    · rintro ⟨h1, h2, h3⟩
      exact ⟨h2, h1, h3⟩
theorem likeB_one (c q : UInt8) (hq : q.toNat ≠ 48) : likeB [c] [q] = true ↔ c = q := by
  simp [likeB, hq]
  exact ⟨fun h => UInt8.toNat_inj.1 h, fun h => by rw [h]⟩
theorem like_calls {s q : List UInt8} {b : Bool} (hs : s.length ≤ 900) (hb : likeB s q = b) (w : World) : Calls Tryz.prog 59 #[.string ⟨s.toArray⟩, .string ⟨q.toArray⟩] w fun e w' => e = .returned (.bool b) ∧ Below w.heap.size w w' := by
  subst hb
  exact like_any s q w hs
theorem place_calls {s : List UInt8} {z : Int} (hz : findEq monB s 12 0 = z) (w : World) : Calls Tryz.prog 58 #[.string ⟨s.toArray⟩, .string ⟨#[74, 97, 110, 70, 101, 98, 77, 97, 114, 65, 112, 114, 77, 97, 121, 74, 117, 110, 74, 117, 108, 65, 117, 103, 83, 101, 112, 79, 99, 116, 78, 111, 118, 68, 101, 99]⟩] w fun e w' => e = .returned (.int .i64 z) ∧ w' = w := by
  subst hz
  exact place_any monB s 12 rfl (by decide) w
theorem ext_mid' (l : List UInt8) (a b : Nat) : (⟨l.toArray⟩ : ByteArray).extract a b = ⟨((l.drop a).take (b - a)).toArray⟩ := by
  apply ByteArray.ext
  simp [ByteArray.data_extract, List.extract_eq_take_drop]
theorem piece (l p m r : List UInt8) (a b : Nat) (hl : l = p ++ (m ++ r)) (ha : p.length = a) (hb : m.length = b - a) : (⟨l.toArray⟩ : ByteArray).extract a b = ⟨m.toArray⟩ := by
  rw [ext_mid', hl, List.drop_append, List.drop_of_length_le (by omega), ha, Nat.sub_self, List.drop_zero, List.nil_append, List.take_append_of_le_length (by omega), List.take_of_length_le (by omega)]
theorem byte_lit (l p r : List UInt8) (x : UInt8) (a : Nat) (hl : l = p ++ x :: r) (ha : p.length = a) : ∀ h : a < (⟨l.toArray⟩ : ByteArray).size, (⟨l.toArray⟩ : ByteArray)[a]'h = x := by
  intro h
  subst hl ha
  show (p ++ x :: r)[p.length] = x
  simp
theorem madeV_form (y m d h mi s z : Int) : ∃ T N : Int, madeV y m d h mi s z = .tuple #[.int .i64 T, .int .i64 N] := by
  unfold madeV
  split
  · exact ⟨_, _, rfl⟩
  · exact ⟨_, _, rfl⟩
end Go.Proofs.YtcmhaihoeecjoaaGreatDoor.Da

end
section
namespace Go.Proofs.YtcmhaihoeecjoaaGreatDoor.Da
open Go.RowKit
/-- What the document's reading answers, where the program's finds r. -/
def docR (r : Option RS) : Value := match r with
  | none => .tuple #[.int .i64 0, .int .i64 2]
  | some τ => madeV τ.y τ.m τ.d τ.h τ.mi τ.s τ.a
theorem rep_like (n : Nat) (a : List UInt8) (ha : a.length = n) : likeB a (List.replicate n 48) = true ↔ Digs a := by
  rw [likeB_digs]
  exact ⟨fun h => h.2, fun h => ⟨ha, h⟩⟩
theorem like_year (e0 : UInt8) (y : List UInt8) (hy : y.length = 4) : likeB (e0 :: y) [45, 48, 48, 48, 48] = true ↔ e0 = 45 ∧ Digs y := by
  have h1 := likeB_app [e0] [45] y (List.replicate 4 48) rfl
  have h2 : likeB (e0 :: y) [45, 48, 48, 48, 48] = (likeB [e0] [45] && likeB y (List.replicate 4 48)) := h1
  rw [h2, Bool.and_eq_true, likeB_one e0 45 (by decide), rep_like 4 y hy]
theorem pieces9 (s : List UInt8) (n : Nat) (h : s.length = n + 9) : ∃ a x m e0 y, s = a ++ x :: (m ++ e0 :: y) ∧ a.length = n ∧ m.length = 3 ∧ y.length = 4 := by
  have h1 : n < s.length := by omega
  have h2 : n + 4 < s.length := by omega
  refine ⟨s.take n, s[n], (s.drop (n + 1)).take 3, s[n + 4], s.drop (n + 5), ?_, by simp; omega, by simp; omega, by simp; omega⟩
  have e1 : s.drop (n + 4) = s[n + 4] :: s.drop (n + 5) := List.drop_eq_getElem_cons h2
  have e2 : (s.drop (n + 1)).drop 3 = s.drop (n + 4) := by rw [List.drop_drop]
  rw [← e1, ← e2, List.take_append_drop, ← List.drop_eq_getElem_cons h1, List.take_append_drop]

theorem len_of (x : ByteArray) (h : x.size ≤ maxLen) : x.data.toList.length ≤ maxLen := by
  rw [Array.length_toList]
  exact h
/-- Program and document answer the same. -/
theorem both_form (ea : Nat → Addr) (r : Option RS) : (∃ T : Int, parV ea r = .tuple #[.int .i64 T, .nilIface] ∧ docR r = .tuple #[.int .i64 T, .int .i64 0]) ∨ ∃ k : Nat, k < 2 ∧ parV ea r = .tuple #[.int .i64 0, .iface 167 (.pointer (some (ea k)))] ∧ docR r = .tuple #[.int .i64 0, .int .i64 ((k : Int) + 1)] := by
  cases r with
  | none => exact .inr ⟨1, by decide, rfl, rfl⟩
  | some τ =>
    show (∃ T : Int, momV ea τ = _ ∧ madeV τ.y τ.m τ.d τ.h τ.mi τ.s τ.a = _) ∨ _
    unfold parV docR momV madeV
    by_cases hc : rightB τ.y τ.m τ.d τ.h τ.mi τ.s = true ∧ 0 ≤ mom τ.y τ.m τ.d τ.h τ.mi τ.s - τ.a ∧ mom τ.y τ.m τ.d τ.h τ.mi τ.s - τ.a ≤ 4102444799
    · simp only [if_pos hc]
      exact .inl ⟨_, rfl, rfl⟩
    · simp only [if_neg hc]
      exact .inr ⟨0, by decide, rfl, rfl⟩
end Go.Proofs.YtcmhaihoeecjoaaGreatDoor.Da

end
