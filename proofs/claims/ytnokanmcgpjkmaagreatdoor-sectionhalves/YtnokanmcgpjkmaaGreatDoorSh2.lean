/- SectionHalves. -/
import Derived.Test.YtnokanmcgpjkmaaGreatDoorSh1
import Derived.Test.YtnokanmcgpjkmaaGreatDoorSf1
set_option linter.unusedVariables false
namespace Go.Proofs.YtnokanmcgpjkmaaGreatDoor
open Go.RowKit Go.Shelf
theorem only_two (m : List UInt8) (ys : List (List UInt8)) : ∀ fs : List Fd, (onlyL m ys false fs).length + (onlyL m ys true fs).length = (fs.flatMap (segB m)).length
  | [] => rfl
  | f :: r => by
    have ih := only_two m ys r
    unfold onlyL at ih ⊢
    rw [List.flatMap_cons, List.length_append, ← ih]
    by_cases h : f.name.map lowB ∈ ys
    · have h1 : keepP ys false f = true := by simp [keepP, h]
      have h2 : keepP ys true f = false := by simp [keepP, h]
      rw [List.filter_cons_of_pos h1, List.filter_cons_of_neg (by simp [h2]), List.flatMap_cons, List.length_append]
      omega
    · have h1 : keepP ys false f = false := by simp [keepP, h]
      have h2 : keepP ys true f = true := by simp [keepP, h]
      rw [List.filter_cons_of_neg (by simp [h1]), List.filter_cons_of_pos h2, List.flatMap_cons, List.length_append]
      omega
theorem only_bound (m : List UInt8) (ys : List (List UInt8)) (nt : Bool) (hm : m.length ≤ 10000) : (onlyL m ys nt (hd (splitS m) 0).1).length ≤ 100000000 := by
  have h1 := only_len m ys nt (hd (splitS m) 0).1
  have h2 := hd_count _ (splitS m) 0 (Nat.le_refl _)
  have h3 := splitS_len m
  have h4 : (hd (splitS m) 0).1.length * m.length ≤ 10000 * 10000 := Nat.mul_le_mul (by omega) hm
  omega
set_option maxRecDepth 20000 in
set_option maxHeartbeats 8000000 in
theorem halves_core (m : List UInt8) (names : List (List UInt8)) (nv : Value) (w : World) (hv : ReadOf ssF 1 w nv names) :
    Calls Tryz.prog 5 #[.string ⟨m.toArray⟩, nv] w fun e w' => e = .returned (.bool true) ∧ Below w.heap.size w w' := by
  have hsz := size_lit m
  have HA := hide alive12
  have HV := hide hv
  obtain ⟨A, c, rfl⟩ := hv.form
  clear hv
  by_cases h1 : 10000 < m.length
  · have k1 : (10000 : Int) < m.length := by omega
    go_enter Tryz.func5, Tryz.ntmps5
    go_wp2_with (first
      | (go_at_call 7; refine (HA.out _).mono ?_; rintro e w1 ⟨rfl, hb1⟩; replace hb1 := hide hb1))
    go_ret
    exact ⟨rfl, hb1.out⟩
  have k1 : ¬ (10000 : Int) < m.length := by omega
  by_cases h2 : names.length < 1
  · have k2 : (names.length : Int) < 1 := by omega
    go_enter Tryz.func5, Tryz.ntmps5
    go_wp2_with (first
      | (go_at_call 7; refine (HA.out _).mono ?_; rintro e w1 ⟨rfl, hb1⟩; replace hb1 := hide hb1))
    go_ret
    exact ⟨rfl, hb1.out⟩
  have k2 : ¬ (names.length : Int) < 1 := by omega
  by_cases h3 : 20 < names.length
  · have k3 : (20 : Int) < names.length := by omega
    go_enter Tryz.func5, Tryz.ntmps5
    go_wp2_with (first
      | (go_at_call 7; refine (HA.out _).mono ?_; rintro e w1 ⟨rfl, hb1⟩; replace hb1 := hide hb1))
    go_ret
    exact ⟨rfl, hb1.out⟩
  have k3 : ¬ (20 : Int) < names.length := by omega
  have hm : m.length ≤ 10000 := by omega
  have hn1 : 1 ≤ names.length := by omega
  have hn20 : names.length ≤ 20 := by omega
  clear h1 h2 h3
  go_enter Tryz.func5, Tryz.ntmps5
  go_wp2_with (first
    | (go_at_call 7; refine (HA.out _).mono ?_; rintro e w1 ⟨rfl, hb1⟩; have HV1 := hide (HV.out.below hb1); replace hb1 := hide hb1))
  go_loop [38] (fun v => ∃ i : Nat, i ≤ names.length ∧ v = .int .i64 i ∧ Hid (∀ x ∈ names.take i, nmeB x = true ∧ x.length ≤ 100)) (fun v => names.length - (intOf v).toNat)
  case atStart => exact ⟨0, Nat.zero_le _, rfl, (fun x hx => by simp at hx)⟩
  case round =>
    obtain ⟨i, hi, rfl, HI⟩ := hrel
    by_cases hlt : i < names.length
    · have hlt' : (i : Int) < names.length := by omega
      obtain ⟨g, o, cap, he, hg, q0⟩ := HV1.out.at1 hlt
      obtain ⟨rfl, rfl⟩ : A = some ⟨g, o, none⟩ ∧ c = cap := by injection he with a b c; exact ⟨a, c⟩
      obtain ⟨x, hx⟩ : ∃ x, names[i] = x := ⟨_, rfl⟩
      have q1 : w1.cell? ⟨g, o + i, none⟩ = some (.string ⟨x.toArray⟩) := by rw [q0, hx]; rfl
      have hxz := size_lit x
      clear q0 he
      by_cases hl : 100 < x.length
      · have kl : (100 : Int) < x.length := by omega
        clear hx HI
        go_wp2
        go_ret
        exact ⟨rfl, hb1.out⟩
      · have kl : ¬ (100 : Int) < x.length := by omega
        have HM := hide (fun W => rname_any x W (by omega))
        cases hq : nmeB x with
        | false =>
          rw [hq] at HM
          clear hx HI hq
          go_wp2_with (first
            | (go_at_call 17; refine (HM.out _).mono ?_; rintro e w2 ⟨rfl, rfl⟩))
          go_ret
          exact ⟨rfl, hb1.out⟩
        | true =>
          have HN : Hid (∀ x ∈ names.take (i + 1), nmeB x = true ∧ x.length ≤ 100) := by
            intro y hy
            rw [List.take_succ_eq_append_getElem hlt, List.mem_append, List.mem_singleton] at hy
            rcases hy with hy | hy
            · exact HI.out y hy
            · rw [hy, hx]
              exact ⟨hq, by omega⟩
          rw [hq] at HM
          clear hx HI hq
          go_wp2_with (first
            | (go_at_call 17; refine (HM.out _).mono ?_; rintro e w2 ⟨rfl, rfl⟩))
          go_round
          case rel => exact ⟨i + 1, by omega, by go_num, HN⟩
          case measure => simp [intOf]; omega
    · obtain rfl : i = names.length := by omega
      have hlt' : ¬ (names.length : Int) < names.length := by omega
      have hall := HI.out
      rw [List.take_length] at hall
      have ha : names.all nmeB = true := List.all_eq_true.2 fun x hx => (hall x hx).1
      have hl5 : ∀ x ∈ names, x.length ≤ 500 := fun x hx => by have := (hall x hx).2; omega
      have H1 := hide (fun W => by_all m W hm)
      have H2 := hide (fun W => by_head m W hm)
      have H3 := hide (fun W => by_text m W hm)
      have H4 := hide (fun W (h : ReadOf ssF 1 W (.slice A names.length c) names) => by_some m names _ W hm h hn1 hn20 ha hl5)
      have H5 := hide (fun W (h : ReadOf ssF 1 W (.slice A names.length c) names) => by_rest m names _ W hm h hn1 hn20 ha hl5)
      have hx1 : ∀ W : World, ReadOf ssF 1 (W.alloc (.cells #[.string ⟨#[33]⟩] 9)) (.slice (some ⟨W.heap.size, 0, none⟩) 1 1) [[33]] := fun W => by
        refine ⟨_, _, rfl, fun i hi => ⟨W.heap.size, 0, rfl, by simp, fun j hj => ?_⟩⟩
        obtain rfl : i = 0 := by simpa using hi
        obtain rfl : j = 0 := by omega
        rw [(Blk.new W _ _).cell]
        rfl
      have H6 := hide (fun W => by_rest m [[33]] _ (W.alloc (.cells #[.string ⟨#[33]⟩] 9)) hm (hx1 W) (by simp) (by simp) (by decide) (by simp))
      have H7 := hide (fun W => by_some m [[33]] _ (W.alloc (.cells #[.string ⟨#[33]⟩] 9)) hm (hx1 W) (by simp) (by simp) (by decide) (by simp))
      have hcat : (⟨(m.take (bodM m)).toArray⟩ : ByteArray) ++ ⟨(m.drop (bodM m)).toArray⟩ = ⟨m.toArray⟩ := by rw [cat_lit, List.take_append_drop]
      have hz2 := size_lit (m.take (bodM m))
      have hz3 := size_lit (m.drop (bodM m))
      have hl2 : (m.take (bodM m)).length ≤ m.length := by rw [List.length_take]; omega
      have hl3 : (m.drop (bodM m)).length ≤ m.length := by rw [List.length_drop]; omega
      have ht1 := only_two m (names.map (List.map lowB)) (hd (splitS m) 0).1
      have ht2 := only_two m ([[33]].map (List.map lowB)) (hd (splitS m) 0).1
      have b4 := only_bound m (names.map (List.map lowB)) false hm
      have b5 := only_bound m (names.map (List.map lowB)) true hm
      have b6 := only_bound m ([[33]].map (List.map lowB)) true hm
      have b7 := only_bound m ([[33]].map (List.map lowB)) false hm
      have s4 := size_lit (onlyL m (names.map (List.map lowB)) false (hd (splitS m) 0).1 ++ [13, 10])
      have s5 := size_lit (onlyL m (names.map (List.map lowB)) true (hd (splitS m) 0).1 ++ [13, 10])
      have s6 := size_lit (onlyL m ([[33]].map (List.map lowB)) true (hd (splitS m) 0).1 ++ [13, 10])
      have s7 := size_lit (onlyL m ([[33]].map (List.map lowB)) false (hd (splitS m) 0).1 ++ [13, 10])
      have e4 : (onlyL m (names.map (List.map lowB)) false (hd (splitS m) 0).1 ++ [13, 10]).length = (onlyL m (names.map (List.map lowB)) false (hd (splitS m) 0).1).length + 2 := by simp
      have e5 : (onlyL m (names.map (List.map lowB)) true (hd (splitS m) 0).1 ++ [13, 10]).length = (onlyL m (names.map (List.map lowB)) true (hd (splitS m) 0).1).length + 2 := by simp
      have e6 : (onlyL m ([[33]].map (List.map lowB)) true (hd (splitS m) 0).1 ++ [13, 10]).length = (onlyL m ([[33]].map (List.map lowB)) true (hd (splitS m) 0).1).length + 2 := by simp
      have e7 : (onlyL m ([[33]].map (List.map lowB)) false (hd (splitS m) 0).1 ++ [13, 10]).length = (onlyL m ([[33]].map (List.map lowB)) false (hd (splitS m) 0).1).length + 2 := by simp
      rw [e4] at s4
      rw [e5] at s5
      rw [e6] at s6
      rw [e7] at s7
      clear e4 e5 e6 e7 hall ha hl5 HI hx1
      generalize onlyL m (names.map (List.map lowB)) false (hd (splitS m) 0).1 ++ [13, 10] = O4 at *
      generalize onlyL m (names.map (List.map lowB)) true (hd (splitS m) 0).1 ++ [13, 10] = O5 at *
      generalize onlyL m ([[33]].map (List.map lowB)) true (hd (splitS m) 0).1 ++ [13, 10] = O6 at *
      generalize onlyL m ([[33]].map (List.map lowB)) false (hd (splitS m) 0).1 ++ [13, 10] = O7 at *
      generalize (onlyL m (names.map (List.map lowB)) false (hd (splitS m) 0).1).length = n4 at *
      generalize (onlyL m (names.map (List.map lowB)) true (hd (splitS m) 0).1).length = n5 at *
      generalize (onlyL m ([[33]].map (List.map lowB)) true (hd (splitS m) 0).1).length = n6 at *
      generalize (onlyL m ([[33]].map (List.map lowB)) false (hd (splitS m) 0).1).length = n7 at *
      generalize m.take (bodM m) = X1 at *
      generalize m.drop (bodM m) = X2 at *
      have hsum : n4 + n5 = n7 + n6 := by omega
      clear ht1 ht2
      go_wp2_with fail
      refine (H1.out _).mono ?_
      rintro e w2 ⟨rfl, hb2⟩
      have hc2 := hide (hb1.out.trans (hb2.mono hb1.out.size))
      have HV2 := hide (HV1.out.below hb2)
      clear hb2
      go_wp2_with fail
      refine (H2.out _).mono ?_
      rintro e w3 ⟨rfl, hb3⟩
      have hc3 := hide (hc2.out.trans (hb3.mono hc2.out.size))
      have HV3 := hide (HV2.out.below hb3)
      clear hb3
      go_wp2_with fail
      refine (H3.out _).mono ?_
      rintro e w4 ⟨rfl, hb4⟩
      have hc4 := hide (hc3.out.trans (hb4.mono hc3.out.size))
      have HV4 := hide (HV3.out.below hb4)
      clear hb4
      go_wp2_with fail
      refine (H4.out _ HV4.out).mono ?_
      rintro e w5 ⟨rfl, hb5⟩
      have hc5 := hide (hc4.out.trans (hb5.mono hc4.out.size))
      have HV5 := hide (HV4.out.below hb5)
      clear hb5
      go_wp2_with fail
      refine (H5.out _ HV5.out).mono ?_
      rintro e w6 ⟨rfl, hb6⟩
      have hc6 := hide (hc5.out.trans (hb6.mono hc5.out.size))
      clear hb6
      go_wp2_with fail
      refine (H6.out _).mono ?_
      rintro e w7 ⟨rfl, hb7⟩
      have hc7 := hide ((hc6.out.alloc hc6.out.size _).trans (hb7.mono (hc6.out.alloc hc6.out.size _).size))
      clear hb7
      go_wp2_with fail
      refine (H7.out _).mono ?_
      rintro e w8 ⟨rfl, hb8⟩
      have hc8 := hide ((hc7.out.alloc hc7.out.size _).trans (hb8.mono (hc7.out.alloc hc7.out.size _).size))
      clear hb8
      have hfin : (((n4 : Int) + 2 + (n5 + 2) - 2) == ((n6 : Int) + 2 + (n7 + 2) - 2)) = true := by rw [beq_iff_eq]; omega
      go_wp2
      go_ret
      exact ⟨rfl, hc8.out⟩
end Go.Proofs.YtnokanmcgpjkmaaGreatDoor
