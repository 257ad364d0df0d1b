/- Text of package seqs. -/
import Derived.Test.YtbjencibkkhbhabGreatDoorSp5
import Derived.Test.YtbjencibkkhbhabGreatDoorSp1
import Derived.Test.YtbjencibkkhbhabGreatDoorHr0
import Derived.Test.YtbjencibkkhbhabGreatDoorSq3
set_option linter.unusedVariables false
set_option linter.unusedSimpArgs false
namespace Go.Proofs.YtbjencibkkhbhabGreatDoor
open Go.RowKit Go.Shelf
theorem jn_lenQ (c : UInt8) (K : Nat) : ∀ ts : List (List UInt8), (∀ t ∈ ts, t.length ≤ K) → (jn c ts).length ≤ ts.length * (K + 1)
  | [], _ => by simp [jn]
  | [a], h => by
    have := h a (by simp)
    simp [jn]
    omega
  | a :: b :: ts, h => by
    have h1 := h a (by simp)
    have ih := jn_lenQ c K (b :: ts) (fun t ht => h t (by simp only [List.mem_cons] at ht ⊢; exact .inr ht))
    rw [jn_cons (by simp), List.length_append, List.length_cons, List.length_cons, Nat.add_mul]
    omega
/-- strings.Join on a row of one's own. -/
theorem pjoin_any (c : UInt8) (xs : List (List UInt8)) (v : Value) (G : Option Nat) (w : World) (h : Rw w 1 v xs.length (xs.map sv) G) (hm : xs.length ≤ 20000) (hf : (jn c xs).length ≤ 1000000) :
    Calls Tryz.prog 18 #[v, .string ⟨#[c]⟩] w fun e w' => e = .returned (.string ⟨(jn c xs).toArray⟩) ∧ Below w.heap.size w w' := by
  obtain ⟨A, k, rfl⟩ := h.form
  by_cases h0 : xs = []
  · subst h0
    refine (Tryz.strings_Join_none A k ⟨#[c]⟩ w).mono ?_
    rintro e w' ⟨rfl, rfl⟩
    exact ⟨rfl, Below.refl _ _⟩
  · rcases h.2 with ⟨_, hl, _⟩ | ⟨g, o, cap, rfl, hv, h1, h2, h3, h4, h5⟩
    · exact absurd (List.length_eq_zero_iff.1 hl) h0
    · cases hv
      have e1 : ((xs.map fun x => (⟨x.toArray⟩ : ByteArray)).map (·.data.toList)) = xs := by
        rw [List.map_map]
        conv => rhs; rw [← List.map_id xs]
        apply List.map_congr_left
        intro x _
        simp
      have e2 : (⟨#[c]⟩ : ByteArray).data.toList = [c] := rfl
      have := Tryz.strings_Join g o k (xs.map fun x => ⟨x.toArray⟩) ⟨#[c]⟩ w (fun j x hx => by
        rw [List.getElem?_map] at hx
        obtain ⟨y, hy, rfl⟩ := Option.map_eq_some_iff.1 hx
        obtain ⟨hj, rfl⟩ := List.getElem?_eq_some_iff.1 hy
        exact h4 j _ (by simp [List.getElem?_eq_getElem hj, sv])) h3 (by simp; omega) (by simpa using h1) (by rw [e1, e2, jn_join]; omega)
      rw [e1, e2, jn_join, List.length_map] at this
      exact this
/-- A row of texts of one's own, under way. -/
def Ts (w wr : World) (v : Value) (xs : List (List UInt8)) : Prop := Below w.heap.size w wr ∧ ∃ G, Rw wr 1 v xs.length (xs.map sv) G ∧ ∀ g, G = some g → w.heap.size ≤ g
theorem Ts.grow {w wr w1 : World} {v1 : Value} {xs : List (List UInt8)} {x : List UInt8} {G G1 : Option Nat} {o : Obj} (hb : Below w.heap.size w wr) (hg : ∀ g, G = some g → w.heap.size ≤ g)
    (hr : Rw w1 1 v1 (xs.length + 1) (xs.map sv ++ [sv x]) G1) (hm : Mvs (fun k => some k = G) (wr.alloc o) w1) (hG : G1 = G ∨ G1 = some (wr.alloc o).heap.size) : Ts w w1 v1 (xs ++ [x]) := by
  refine ⟨below_mvs (hb.alloc hb.size _) hm (fun k hk e => by have := hg k e.symm; omega) (Nat.le_refl _), G1, ?_, ?_⟩
  · rw [List.length_append, List.map_append]
    exact hr
  · rintro g rfl
    rcases hG with h | h
    · exact hg g h.symm
    · cases h
      have := hb.size
      simp
      omega
theorem Ts.below {w wr wq : World} {v : Value} {xs : List (List UInt8)} (h : Ts w wr v xs) (hb : Below wr.heap.size wr wq) : Ts w wq v xs := by
  obtain ⟨h1, G, hr, hg⟩ := h
  exact ⟨h1.trans (hb.mono h1.size), G, hr.keep (S := fun _ => False) (Mvs.of_below hb) (fun _ _ c => c), hg⟩
theorem strInfoQ : (Tryz.prog.info? 9).map (fun i => (i.zero, i.size, i.bytes)) = some (some (.string ⟨#[]⟩), 1, 16) := by kernel_rfl
theorem src_strQ {w : World} (x : List UInt8) {c : Nat} : Src Tryz.prog 1 50 (.slice (some ⟨w.heap.size, 0, none⟩) 1 c) 1 [sv x] (w.alloc (.cells #[.string ⟨x.toArray⟩] 9)) :=
  Src.ofSlice _ Tryz.underlying50 ⟨w.heap.size, 0, none⟩ 1 c [sv x] rfl (fun j u hu => by
    rw [Go.WideShapes.add_plain, Nat.zero_add]
    match j, hu with
    | 0, hu => cases hu; exact (Blk.new w #[.string ⟨x.toArray⟩] 9).cell 0) (fun u hu => by
    simp at hu
    subst hu
    rfl)
/-- What Text answers. -/
def txA (o : Option (List UInt8)) (a : Addr) : Ending := match o with
  | some t => .returned (.tuple #[.string ⟨t.toArray⟩, .nilIface])
  | none => .returned (.tuple #[.string ⟨#[]⟩, .iface 132 (.pointer (some a))])
theorem rgOk_of {r : Int × Int} (h : rgOk r = true) : ∃ x y : Nat, x ≤ 2147483648 ∧ y ≤ 2147483648 ∧ r = ((x : Int), (y : Int)) ∧ ratN r = (x, y) := by
  unfold rgOk at h
  simp at h
  obtain ⟨a, b⟩ := r
  dsimp only at h
  exact ⟨a.toNat, b.toNat, by omega, by omega, by rw [Int.toNat_of_nonneg (by omega), Int.toNat_of_nonneg (by omega)], rfl⟩
theorem tx_next {rs : List (Int × Int)} {k : Nat} (h : k < rs.length) : ((rs.take (k + 1)).map ratN).map sqTI = ((rs.take k).map ratN).map sqTI ++ [sqTI (ratN rs[k])] := by
  rw [List.take_succ_eq_append_getElem h, List.map_append, List.map_append]
  rfl
theorem all_nextQ {rs : List (Int × Int)} {k : Nat} (h : k < rs.length) (h1 : (rs.take k).all rgOk = true) (h2 : rgOk rs[k] = true) : (rs.take (k + 1)).all rgOk = true := by
  rw [List.take_succ_eq_append_getElem h, List.all_append, h1]
  simp [h2]
theorem all_badQ {rs : List (Int × Int)} {k : Nat} (h : k < rs.length) (h2 : rgOk rs[k] = false) : txO rs = none := by
  unfold txO
  rw [if_neg]
  rintro ⟨h1, _⟩
  have := List.all_eq_true.1 h1 _ (List.getElem_mem h)
  rw [h2] at this
  cases this
end Go.Proofs.YtbjencibkkhbhabGreatDoor
