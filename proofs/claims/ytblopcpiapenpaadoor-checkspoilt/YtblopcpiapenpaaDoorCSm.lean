/- Records that come back, that are cut, and of which a byte is changed. -/
import Derived.Test.YtblopcpiapenpaaDoorCT
namespace Go.Proofs.YtblopcpiapenpaaDoor
open Go.RowKit
theorem rec_drop8 (bs : List UInt8) : (recB bs).drop 8 = bs := rfl
theorem rec_num (bs : List UInt8) (h : bs.length ≤ 400000) (r : List UInt8) : numN (fourB bs.length ++ r) = bs.length := numN_four _ (by omega) _
theorem whole_rec (bs : List UInt8) (h : bs.length ≤ 400000) : wholeN (recB bs) = some bs.length := by
  have hn : numN (recB bs) = bs.length := by
    unfold recB
    rw [List.append_assoc]
    exact numN_four _ (by omega) _
  have h4 : numN ((recB bs).drop 4) = sumN 1 bs := by
    have : (recB bs).drop 4 = fourB (sumN 1 bs) ++ bs := rfl
    rw [this]
    exact numN_four _ (sumN_lt _ _) _
  have := whole_yes (bs := recB bs) (by rw [recB_length]; omega) ⟨by omega, by rw [recB_length]; omega, by rw [hn, h4, rec_drop8, List.take_length]⟩
  rw [hn] at this
  exact this
theorem getD_take (l : List UInt8) (i k : Nat) (h : i < k) : (l.take k).getD i 0 = l.getD i 0 := by
  rw [List.getD_eq_getElem?_getD, List.getD_eq_getElem?_getD, List.getElem?_take_of_lt h]
theorem numN_take (l : List UInt8) (k : Nat) (h : 4 ≤ k) : numN (l.take k) = numN l := by
  unfold numN
  rw [getD_take _ _ _ (by omega), getD_take _ _ _ (by omega), getD_take _ _ _ (by omega), getD_take _ _ _ (by omega)]
theorem whole_cut_rec (bs : List UInt8) (h : bs.length ≤ 400000) (k : Nat) (hk : k < bs.length + 8) : wholeN ((recB bs).take k) = none := by
  have hl : ((recB bs).take k).length = k := by rw [List.length_take, recB_length]; omega
  by_cases h8 : k < 8
  · unfold wholeN
    rw [hl, if_pos h8]
  · refine whole_no fun hh => ?_
    have := hh.2.1
    rw [hl, numN_take _ _ (by omega)] at this
    unfold recB at this
    rw [List.append_assoc, numN_four _ (by omega)] at this
    omega
/-- All bytes together. -/
def allN (bs : List UInt8) : Nat := (bs.map UInt8.toNat).sum
theorem fold_low : ∀ (bs : List UInt8) (p : Nat × Nat), p.1 < 65521 → (bs.foldl sumStep p).1 = (p.1 + allN bs) % 65521
  | [], p, h => by simp [allN, Nat.mod_eq_of_lt h]
  | c :: bs, p, _ => by
    have := fold_low bs (sumStep p c) (Nat.mod_lt _ (by decide))
    show (bs.foldl sumStep (sumStep p c)).1 = _
    rw [this]
    unfold sumStep allN
    simp only [List.map_cons, List.sum_cons]
    omega
theorem allN_set : ∀ (bs : List UInt8) (i : Nat) (x : UInt8) (h : i < bs.length), allN (bs.set i x) + bs[i].toNat = allN bs + x.toNat
  | c :: bs, 0, x, _ => by
    simp [allN]
    omega
  | c :: bs, i + 1, x, h => by
    have := allN_set bs i x (by simpa using h)
    unfold allN at *
    simp only [List.set_cons_succ, List.map_cons, List.sum_cons, List.getElem_cons_succ]
    omega
theorem sum_set (bs : List UInt8) (i : Nat) (x : UInt8) (h : i < bs.length) (hx : x ≠ bs[i]) : sumN 1 (bs.set i x) ≠ sumN 1 bs := by
  intro e
  have l1 := sumP_lt 1 (bs.set i x)
  have l2 := sumP_lt 1 bs
  have e1 : (sumP 1 (bs.set i x)).1 = (sumP 1 bs).1 := by
    unfold sumN at e
    omega
  have f1 : (sumP 1 (bs.set i x)).1 = (1 + allN (bs.set i x)) % 65521 := fold_low (bs.set i x) _ (by decide)
  have f2 : (sumP 1 bs).1 = (1 + allN bs) % 65521 := fold_low bs _ (by decide)
  have hs := allN_set bs i x h
  have b1 := UInt8.toNat_lt x
  have b2 := UInt8.toNat_lt bs[i]
  have hne : x.toNat ≠ bs[i].toNat := fun e => hx (UInt8.toNat_inj.1 e)
  rw [e1, f2] at f1
  omega
theorem rec_set (bs : List UInt8) (k : Nat) (hk : 8 ≤ k) (x : UInt8) : (recB bs).set k x = fourB bs.length ++ fourB (sumN 1 bs) ++ bs.set (k - 8) x := by
  unfold recB
  rw [List.set_append_right _ _ (by simp [fourB_length]; omega)]
  congr 2
theorem whole_spoilt (bs : List UInt8) (h : bs.length ≤ 400000) (k : Nat) (hk : 8 ≤ k) (hk2 : k < bs.length + 8) (x : UInt8) (hx : x ≠ bs[k - 8]'(by omega)) : wholeN ((recB bs).set k x) = none := by
  rw [rec_set bs k hk x]
  refine whole_no fun hh => ?_
  have h3 := hh.2.2
  have hn : numN (fourB bs.length ++ fourB (sumN 1 bs) ++ bs.set (k - 8) x) = bs.length := by
    rw [List.append_assoc]
    exact numN_four _ (by omega) _
  have h4 : numN ((fourB bs.length ++ fourB (sumN 1 bs) ++ bs.set (k - 8) x).drop 4) = sumN 1 bs := by
    have : (fourB bs.length ++ fourB (sumN 1 bs) ++ bs.set (k - 8) x).drop 4 = fourB (sumN 1 bs) ++ bs.set (k - 8) x := rfl
    rw [this]
    exact numN_four _ (sumN_lt _ _) _
  have h8 : (fourB bs.length ++ fourB (sumN 1 bs) ++ bs.set (k - 8) x).drop 8 = bs.set (k - 8) x := rfl
  rw [hn, h4, h8, List.take_of_length_le (by rw [List.length_set]; exact Nat.le_refl _)] at h3
  exact sum_set bs (k - 8) x (by omega) hx h3
theorem rec_at (bs : List UInt8) (k : Nat) (hk : 8 ≤ k) (hk2 : k < (recB bs).length) : (recB bs)[k] = bs[k - 8]'(by rw [recB_length] at hk2; omega) := by
  have e : (recB bs)[k]? = bs[k - 8]? := by
    show (fourB bs.length ++ fourB (sumN 1 bs) ++ bs)[k]? = _
    rw [List.getElem?_append_right (by simp [fourB_length]; omega)]
    rfl
  rw [List.getElem?_eq_getElem hk2, List.getElem?_eq_getElem (by rw [recB_length] at hk2; omega)] at e
  exact Option.some.inj e
theorem xor_u8 (a b : UInt8) : bits .xor .u8 (a.toNat : Int) (b.toNat : Int) = ((a ^^^ b).toNat : Int) := by
  have ha := UInt8.toNat_lt a
  have hb := UInt8.toNat_lt b
  have ha' : a.toNat % 2 ^ IntKind.u8.bits = a.toNat := Nat.mod_eq_of_lt ha
  have hb' : b.toNat % 2 ^ IntKind.u8.bits = b.toNat := Nat.mod_eq_of_lt hb
  simp only [bits, BitVec.ofInt_natCast, BitVec.toNat_xor, BitVec.toNat_ofNat, ha', hb', UInt8.toNat_xor]
  refine wraps_u8 _ (Int.natCast_nonneg _) ?_
  have := Nat.xor_lt_two_pow (n := 8) ha hb
  exact_mod_cast this
theorem xor_ne (a b : UInt8) (h : b ≠ 0) : a ^^^ b ≠ a := by
  intro e
  apply h
  have : a ^^^ (a ^^^ b) = a ^^^ a := by rw [e]
  rw [← UInt8.xor_assoc, UInt8.xor_self, UInt8.zero_xor] at this
  exact this
/-- One of a row's elements, written over. -/
theorem Rw.put {w : World} {n : Nat} {cs : List Value} {g o c : Nat} (h : Rw w 1 (.slice (some ⟨g, o, none⟩) n c) n cs (some g)) (i : Nat) (hi : i < n) (u : Value) : Rw (w.setCell ⟨g, o + i, none⟩ u) 1 (.slice (some ⟨g, o, none⟩) n c) n (cs.set i u) (some g) := by
  rcases h.2 with ⟨h, _⟩ | ⟨g', o', cap', k1, k2, h1, h2, h3, h4, h5⟩
  · cases h
  · cases k1
    cases k2
    refine ⟨by rw [List.length_set]; exact h.1, .inr ⟨g, o, c, rfl, rfl, h1, h2, by simpa [World.setCell] using h3, fun j x hx => ?_, fun j hj => ?_⟩⟩
    · by_cases hji : j = i
      · subst hji
        have hjl := (List.getElem?_eq_some_iff.1 hx).1
        rw [List.length_set] at hjl
        rw [List.getElem?_set_self hjl] at hx
        cases hx
        exact World.cell?_setCell_same _ _ _ (h4 j cs[j] (List.getElem?_eq_getElem hjl))
      · rw [List.getElem?_set_ne (fun e => hji e.symm)] at hx
        rw [World.cell?_setCell_other _ ⟨g, o + i, none⟩ ⟨g, o + j, none⟩ _ (fun e => hji (by have := congrArg Addr.off e; simp only at this; omega))]
        exact h4 j x hx
    · refine ⟨?_, by rw [World.frozen?_setCell]; exact (h5 j hj).2⟩
      exact World.isSome_setCells g [u] (o + i) w _ (h5 j hj).1
end Go.Proofs.YtblopcpiapenpaaDoor
