/- The document's Same at two rows of the same texts; Join; the law LinesSplits. -/
import Derived.Test.YtkcailfpanmhdaaDoorLRSplit
namespace Go.Proofs.YtkcailfpanmhdaaDoor
open Go.RowKit
theorem Rw.at {w : World} {A : Option Addr} {c : Nat} {xs : List (List UInt8)} {G : Option Nat} (h : Rw w 1 (.slice A xs.length c) xs.length (xs.map sv) G) (h0 : xs ≠ []) :
    ∃ g o, A = some ⟨g, o, none⟩ ∧ g < w.heap.size ∧ xs.length ≤ c ∧ ∀ i (hi : i < xs.length), w.cell? ⟨g, o + i, none⟩ = some (.string ⟨xs[i].toArray⟩) := by
  rcases h.2 with ⟨_, hl, _⟩ | ⟨g, o, cap, rfl, hv, h1, h2, h3, h4, h5⟩
  · exact absurd (List.length_eq_zero_iff.1 hl) h0
  · cases hv
    exact ⟨g, o, rfl, h3, h1, fun i hi => h4 i _ (by simp [List.getElem?_eq_getElem hi, sv])⟩

set_option maxRecDepth 20000 in
set_option maxHeartbeats 1000000 in
theorem same_any (xs : List (List UInt8)) (v1 v2 : Value) (G1 G2 : Option Nat) (w : World) (h1 : Rw w 1 v1 xs.length (xs.map sv) G1) (h2 : Rw w 1 v2 xs.length (xs.map sv) G2) (hm : xs.length ≤ 20000) :
    Calls Tryd.prog 21 #[v1, v2] w fun e w' => e = .returned (.bool true) ∧ Below w.heap.size w w' := by
  obtain ⟨A1, c1, rfl⟩ := h1.form
  obtain ⟨A2, c2, rfl⟩ := h2.form
  by_cases h0 : xs = []
  · subst h0
    clear h1 h2
    go_enter Tryd.func21, Tryd.ntmps21
    go_wp2
    go_loopw [13] (fun k wr => k = .int .i64 0 ∧ wr = w) (fun _ _ => 0)
    case atStart => exact ⟨rfl, rfl⟩
    case round =>
      obtain ⟨rfl, rfl⟩ := hrel
      go_wp2
      go_ret
      exact ⟨rfl, Below.refl _ _⟩
  · obtain ⟨g1, o1, rfl, k1, l1, hc1⟩ := h1.at h0
    obtain ⟨g2, o2, rfl, k2, l2, hc2⟩ := h2.at h0
    replace hc1 := hide hc1
    replace hc2 := hide hc2
    clear h1 h2
    go_enter Tryd.func21, Tryd.ntmps21
    go_wp2
    go_loopw [13] (fun k wr => ∃ i : Nat, i ≤ xs.length ∧ k = .int .i64 i ∧ Hid (Below w.heap.size w wr)) (fun k _ => xs.length - (intOf k).toNat)
    case atStart => exact ⟨0, Nat.zero_le _, rfl, Below.refl _ _⟩
    case round =>
      obtain ⟨i, hi, rfl, HB⟩ := hrel
      by_cases hlt : i < xs.length
      · have hlt' : (i : Int) < xs.length := by omega
        have a1 : wr.cell? ⟨g1, o1 + i, none⟩ = some (.string ⟨(xs[i]).toArray⟩) := (HB.out.cell (p := ⟨g1, o1 + i, none⟩) k1).trans (hc1.out i hlt)
        have a2 : wr.cell? ⟨g2, o2 + i, none⟩ = some (.string ⟨(xs[i]).toArray⟩) := (HB.out.cell (p := ⟨g2, o2 + i, none⟩) k2).trans (hc2.out i hlt)
        go_wp2_with fail
        go_quiet (fail)
        go_wp2
        go_roundw
        case rel => exact ⟨i + 1, by omega, by go_num, HB.out.trans ((below_drewN _ _).mono HB.out.size)⟩
        case measure => simp [intOf]; omega
      · obtain rfl : i = xs.length := by omega
        go_wp2
        go_ret
        exact ⟨rfl, HB.out⟩

theorem join_nil : ∀ xs : List (List UInt8), Lib.join xs [] = xs.flatten
  | [] => rfl
  | [x] => by simp [Lib.join, List.intercalate]
  | x :: y :: r => by
    have ih := join_nil (y :: r)
    unfold Lib.join at *
    simp only [List.intercalate, List.intersperse] at *
    simp [ih]

set_option maxHeartbeats 1000000 in
theorem join_any (xs : List (List UInt8)) (v : Value) (G : Option Nat) (w : World) (h : Rw w 1 v xs.length (xs.map sv) G) (hm : xs.length ≤ 20000) (hf : xs.flatten.length ≤ 20000) :
    Calls Tryd.prog 23 #[v] w fun e w' => e = .returned (.string ⟨xs.flatten.toArray⟩) ∧ Below w.heap.size w w' := by
  obtain ⟨A, c, rfl⟩ := h.form
  have HJ : Hid (Calls Tryd.prog 29 #[.slice A xs.length c, .string ⟨#[]⟩] w fun e w' => e = .returned (.string ⟨xs.flatten.toArray⟩) ∧ Below w.heap.size w w') := by
    by_cases h0 : xs = []
    · subst h0
      refine (Tryd.strings_Join_none A c ⟨#[]⟩ w).mono ?_
      rintro e w' ⟨rfl, rfl⟩
      exact ⟨rfl, Below.refl _ _⟩
    · obtain ⟨g, o, rfl, k, l, hc⟩ := h.at h0
      have e1 : ((xs.map fun x => (⟨x.toArray⟩ : ByteArray)).map (·.data.toList)) = xs := by
        rw [List.map_map]
        conv => rhs; rw [← List.map_id xs]
        apply List.map_congr_left
        intro x _
        simp
      have e2 : (⟨#[]⟩ : ByteArray).data.toList = [] := rfl
      have := Tryd.strings_Join g o c (xs.map fun x => ⟨x.toArray⟩) ⟨#[]⟩ w (fun j x hx => by
        rw [List.getElem?_map] at hx
        obtain ⟨y, hy, rfl⟩ := Option.map_eq_some_iff.1 hx
        obtain ⟨hj, rfl⟩ := List.getElem?_eq_some_iff.1 hy
        exact hc j hj) k (by simp; omega) (by simpa using l) (by rw [e1, e2, join_nil]; omega)
      rw [e1, e2, join_nil, List.length_map] at this
      exact this
  clear h
  go_enter Tryd.func23, Tryd.ntmps23
  go_wp2_with (go_at_call 29; refine HJ.out.mono ?_; rintro e w' ⟨rfl, hb⟩)
  go_ret
  exact ⟨rfl, hb⟩
end Go.Proofs.YtkcailfpanmhdaaDoor
