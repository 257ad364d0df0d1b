/- big of section's statements; SectionTexts. -/
import Derived.Test.YtnokanmcgpjkmaaGreatDoorSt2
import Derived.Test.YtnokanmcgpjkmaaGreatDoorSf2
import Derived.Test.YtnokanmcgpjkmaaGreatDoorNum
set_option linter.unusedVariables false
namespace Go.Proofs.YtnokanmcgpjkmaaGreatDoor
open Go.RowKit Go.Shelf
/-- What is known where a section is not too big. -/
def SmB (p : Spc) : Prop := p.path.length ≤ 1000 ∧ p.what.length ≤ 1000 ∧ p.names.length ≤ 1000 ∧ ∀ x ∈ p.names, x.length ≤ 5000
def BigOut (w : World) (p : Spc) (e : Ending) (w' : World) : Prop := ∃ b : Bool, e = .returned (.bool b) ∧ (b = false → SmB p) ∧ Below w.heap.size w w'
set_option maxRecDepth 20000 in
set_option maxHeartbeats 4000000 in
theorem big12_any (p : Spc) (pv nv : Value) (w : World) (hs : SpA w pv nv p) (hx : ∀ x ∈ p.names, x.length ≤ 140737488351232) :
    Calls Tryz.prog 12 #[spV pv nv p] w (BigOut w p) := by
  obtain ⟨path, what, names⟩ := p
  obtain ⟨A, c, rfl⟩ := hs.path.form
  obtain ⟨A2, c2, rfl⟩ := hs.names.form
  have HB0 : Hid (Below w.heap.size w (w.alloc (.cells #[.slice A path.length c, .string ⟨what.toArray⟩, .slice A2 names.length c2] 26))) := (Below.refl _ _).alloc (Nat.le_refl _) _
  have HN := hide (hs.names.below HB0.out)
  have HX := hide hx
  clear hs hx
  have hwz := size_lit what
  unfold spV
  simp only at *
  by_cases h1 : 1000 < path.length
  · have k1 : (1000 : Int) < path.length := by omega
    go_enter Tryz.func12, Tryz.ntmps12
    go_wp2
    go_ret
    exact ⟨true, rfl, (fun h => by cases h), HB0.out⟩
  have k1 : ¬ (1000 : Int) < path.length := by omega
  by_cases h2 : 1000 < what.length
  · have k2 : (1000 : Int) < what.length := by omega
    go_enter Tryz.func12, Tryz.ntmps12
    go_wp2
    go_ret
    exact ⟨true, rfl, (fun h => by cases h), HB0.out⟩
  have k2 : ¬ (1000 : Int) < what.length := by omega
  by_cases h3 : 1000 < names.length
  · have k3 : (1000 : Int) < names.length := by omega
    go_enter Tryz.func12, Tryz.ntmps12
    go_wp2
    go_ret
    exact ⟨true, rfl, (fun h => by cases h), HB0.out⟩
  have k3 : ¬ (1000 : Int) < names.length := by omega
  have HS : Hid (path.length ≤ 1000 ∧ what.length ≤ 1000 ∧ names.length ≤ 1000) := ⟨by omega, by omega, by omega⟩
  clear h1 h2 h3
  go_enter Tryz.func12, Tryz.ntmps12
  go_wp2
  go_loop [3, 25] (fun v3 v25 => ∃ i n : Nat, i ≤ names.length ∧ n ≤ 5000 ∧ v25 = .int .i64 i ∧ v3 = .int .i64 n ∧ Hid (∀ x ∈ names.take i, x.length ≤ n)) (fun _ v25 => names.length - (intOf v25).toNat)
  case atStart => exact ⟨0, 0, Nat.zero_le _, Nat.zero_le _, rfl, rfl, (fun x hx => by simp at hx)⟩
  case round =>
    obtain ⟨i, n, hi, hn, rfl, rfl, HI⟩ := hrel
    by_cases hlt : i < names.length
    · have hlt' : (i : Int) < names.length := by omega
      obtain ⟨g, o, cap, he, hg, q0⟩ := HN.out.at1 hlt
      obtain ⟨rfl, rfl⟩ : A2 = some ⟨g, o, none⟩ ∧ c2 = cap := by injection he with a b c; exact ⟨a, c⟩
      obtain ⟨x, hx⟩ : ∃ x, names[i] = x := ⟨_, rfl⟩
      have q1 : (w.alloc (.cells #[.slice A path.length c, .string ⟨what.toArray⟩, .slice (some ⟨g, o, none⟩) names.length c2] 26)).cell? ⟨g, o + i, none⟩ = some (.string ⟨x.toArray⟩) := by rw [q0, hx]; rfl
      have hgl : g < w.heap.size + 1 := by simpa using hg
      have hxz := size_lit x
      have hxl : x.length ≤ 140737488351232 := by rw [← hx]; exact HX.out _ (List.getElem_mem hlt)
      clear q0 he
      by_cases hb : 5000 < n + x.length
      · have kb : (5000 : Int) < (n : Int) + x.length := by omega
        clear hx HI
        go_wp2
        go_ret
        exact ⟨true, rfl, (fun h => by cases h), HB0.out⟩
      · have kb : ¬ (5000 : Int) < (n : Int) + x.length := by omega
        have HI2 : Hid (∀ y ∈ names.take (i + 1), y.length ≤ n + x.length) := by
          intro y hy
          rw [List.take_succ_eq_append_getElem hlt, List.mem_append, List.mem_singleton] at hy
          rcases hy with hy | hy
          · have := HI.out y hy
            omega
          · rw [hy, hx]
            omega
        clear hx HI
        go_wp2
        go_round
        case rel => exact ⟨i + 1, n + x.length, by omega, by omega, by go_num, by go_num, HI2⟩
        case measure => simp [intOf]; omega
    · obtain rfl : i = names.length := by omega
      have hlt' : ¬ (names.length : Int) < names.length := by omega
      have kn : ¬ (5000 : Int) < n := by omega
      have hall := HI.out
      rw [List.take_length] at hall
      replace hall := hide hall
      clear HI
      go_wp2
      go_ret
      exact ⟨false, rfl, (fun _ => ⟨HS.out.1, HS.out.2.1, HS.out.2.2, fun x hx => by have := hall.out x hx; omega⟩), HB0.out⟩
theorem Errs.efs {w : World} {a : Nat → Addr} (h : Errs w a) : EFs w (a 1) := ⟨h.cell 1 (by decide), h.low 1 (by decide)⟩
theorem sec_len {p : Spc} (hr : rgtB p = true) (hx : ∀ x ∈ p.names, x.length ≤ 5000) : (secT p).length ≤ 200000 := by
  obtain ⟨hpl, hnl, hnum, _, _⟩ := rgt_names hr
  have hwl : p.what.length ≤ 100 := by
    rcases rgt_what hr with e | e | e | e | e | e <;> rw [e] <;> decide
  have h1 := pth_len p.path (fun x hx => (numB_iff.1 (List.all_eq_true.1 hnum x hx)).2)
  have h2 := join_len p.names 5000 hx
  have h3 : p.names.length * (5000 + 1) ≤ 20 * 5001 := Nat.mul_le_mul hnl (Nat.le_refl _)
  have h4 : (preT p.path p.what).length ≤ 1000 := by
    unfold preT
    split
    · omega
    · rw [List.length_append]
      simp
      omega
  have h5 : (nmsT p.names).length ≤ 150000 := by
    unfold nmsT
    split
    · simp
    · simp only [List.length_cons, List.length_append, List.length_nil]
      omega
  unfold secT secW
  rw [List.length_append, List.length_append]
  omega
end Go.Proofs.YtnokanmcgpjkmaaGreatDoor
