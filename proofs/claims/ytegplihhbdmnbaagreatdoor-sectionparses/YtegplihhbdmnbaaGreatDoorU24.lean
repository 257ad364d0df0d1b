/- slices.ContainsFunc over numbers and texts; hasText of package section. -/
import Derived.Test.YtegplihhbdmnbaaGreatDoorU23
namespace Go.Proofs.YtegplihhbdmnbaaGreatDoor
open Go.RowKit Go.Shelf
theorem any_dropS {α : Type} (p : α → Bool) (l : List α) (k : Nat) (h : k < l.length) : (l.drop k).any p = (p l[k] || (l.drop (k + 1)).any p) := by
  rw [List.drop_eq_getElem_cons h, List.any_cons]
theorem ReadOf.at1 {α : Type} {f : α → List Value} {w : World} {v : Value} {xs : List α} (h : ReadOf f 1 w v xs) {i : Nat} (hi : i < xs.length) : ∃ g o cap, v = .slice (some ⟨g, o, none⟩) xs.length cap ∧ g < w.heap.size ∧ w.cell? ⟨g, o + i, none⟩ = (f xs[i])[0]? := by
  obtain ⟨A, c, rfl, h⟩ := h
  obtain ⟨g, o, rfl, hg, hc⟩ := h i hi
  exact ⟨g, o, c, rfl, hg, by have := hc 0 (by omega); rwa [Nat.mul_one, Nat.add_zero] at this⟩
theorem ReadOf.form {α : Type} {f : α → List Value} {sz : Nat} {w : World} {v : Value} {xs : List α} (h : ReadOf f sz w v xs) : ∃ A c, v = .slice A xs.length c := by
  obtain ⟨A, c, rfl, _⟩ := h
  exact ⟨A, c, rfl⟩
set_option maxHeartbeats 2000000 in
theorem indexFuncI (xs : List (Int)) (v : Value) (w : World) (h : ReadOf siF 1 w v xs) (hl : xs.length ≤ 9223372036854775807) (p : Int → Bool) (F : Nat) (eg : ∀ args w, (callFunc F args).run Tryz.prog w = .ok (.enter F args) w)
    (hp : ∀ x W, Calls Tryz.prog F #[.int .i64 x] W fun e w' => e = .returned (.bool (p x)) ∧ Below W.heap.size W w') :
    Calls Tryz.prog 71 #[v, .func (.func F) #[] #[]] w fun e w' => ∃ r : Int, e = .returned (.int .i64 r) ∧ decide (0 ≤ r) = xs.any p ∧ Below w.heap.size w w' := by
  have HO := hide h
  obtain ⟨A, c, rfl⟩ := h.form
  replace hp := hide hp
  clear h
  go_enter Tryz.func71, Tryz.ntmps71
  go_wp2
  go_loopw [8] (fun u wr => ∃ k : Nat, k ≤ xs.length ∧ u = .int .i64 k ∧ Hid (Below w.heap.size w wr) ∧ Hid (xs.any p = (xs.drop k).any p)) (fun u _ => xs.length - (intOf u).toNat)
  case atStart => exact ⟨0, Nat.zero_le _, rfl, Below.refl _ _, rfl⟩
  case round =>
    obtain ⟨k, hkl, rfl, hB, hA⟩ := hrel
    by_cases hlt : k < xs.length
    · have hltz : (k : Int) < (xs.length : Int) := by omega
      obtain ⟨g, o, cap, he, hg, q0⟩ := (HO.out.below hB.out).at1 hlt
      obtain ⟨rfl, rfl⟩ : A = some ⟨g, o, none⟩ ∧ c = cap := by injection he with a b c; exact ⟨a, c⟩
      have HD := hide (any_dropS p xs k hlt)
      have HC := hide (hp.out xs[k] wr)
      generalize xs[k] = x at q0 HC HD
      have q1 : wr.cell? ⟨g, o + k, none⟩ = some (.int .i64 x) := q0
      clear q0 he
      cases hq : p x with
      | true =>
        rw [hq] at HC
        go_wp2_with (go_at_fn F; refine HC.out.mono ?_; rintro e w' ⟨rfl, hb'⟩; replace hb' := hide hb')
        go_ret
        refine ⟨_, rfl, ?_, hB.out.trans (hb'.out.mono hB.out.size)⟩
        rw [hA.out, HD.out, hq]
        simp
      | false =>
        rw [hq] at HC
        go_wp2_with (go_at_fn F; refine HC.out.mono ?_; rintro e w' ⟨rfl, hb'⟩; replace hb' := hide hb')
        go_roundw
        case rel =>
          refine ⟨k + 1, by omega, by go_num, hB.out.trans (hb'.out.mono hB.out.size), ?_⟩
          show _ = _
          rw [hA.out, HD.out, hq]
          rfl
        case measure => simp [intOf]; omega
    · have hltz : ¬ (k : Int) < (xs.length : Int) := by omega
      go_wp2
      go_ret
      refine ⟨_, rfl, ?_, hB.out⟩
      rw [hA.out, List.drop_eq_nil_of_le (by omega)]
      rfl
theorem containsFuncI (xs : List (Int)) (v : Value) (w : World) (h : ReadOf siF 1 w v xs) (hl : xs.length ≤ 9223372036854775807) (p : Int → Bool) (F : Nat) (eg : ∀ args w, (callFunc F args).run Tryz.prog w = .ok (.enter F args) w)
    (hp : ∀ x W, Calls Tryz.prog F #[.int .i64 x] W fun e w' => e = .returned (.bool (p x)) ∧ Below W.heap.size W w') :
    Calls Tryz.prog 46 #[v, .func (.func F) #[] #[]] w fun e w' => e = .returned (.bool (xs.any p)) ∧ Below w.heap.size w w' := by
  have HI := hide (indexFuncI xs v w h hl p F eg hp)
  clear hp
  go_enter Tryz.func46, Tryz.ntmps46
  go_wp2_with (go_at_call 71; refine HI.out.mono ?_; rintro e w' ⟨r, rfl, hr, hb⟩; replace hr := hide hr)
  go_ret
  exact ⟨by rw [hr.out]; rfl, hb⟩
set_option maxHeartbeats 2000000 in
theorem indexFuncS (xs : List (List UInt8)) (v : Value) (w : World) (h : ReadOf ssF 1 w v xs) (hl : xs.length ≤ 9223372036854775807) (p : List UInt8 → Bool) (F : Nat) (eg : ∀ args w, (callFunc F args).run Tryz.prog w = .ok (.enter F args) w)
    (hp : ∀ x W, Calls Tryz.prog F #[.string ⟨x.toArray⟩] W fun e w' => e = .returned (.bool (p x)) ∧ Below W.heap.size W w') :
    Calls Tryz.prog 72 #[v, .func (.func F) #[] #[]] w fun e w' => ∃ r : Int, e = .returned (.int .i64 r) ∧ decide (0 ≤ r) = xs.any p ∧ Below w.heap.size w w' := by
  have HO := hide h
  obtain ⟨A, c, rfl⟩ := h.form
  replace hp := hide hp
  clear h
  go_enter Tryz.func72, Tryz.ntmps72
  go_wp2
  go_loopw [8] (fun u wr => ∃ k : Nat, k ≤ xs.length ∧ u = .int .i64 k ∧ Hid (Below w.heap.size w wr) ∧ Hid (xs.any p = (xs.drop k).any p)) (fun u _ => xs.length - (intOf u).toNat)
  case atStart => exact ⟨0, Nat.zero_le _, rfl, Below.refl _ _, rfl⟩
  case round =>
    obtain ⟨k, hkl, rfl, hB, hA⟩ := hrel
    by_cases hlt : k < xs.length
    · have hltz : (k : Int) < (xs.length : Int) := by omega
      obtain ⟨g, o, cap, he, hg, q0⟩ := (HO.out.below hB.out).at1 hlt
      obtain ⟨rfl, rfl⟩ : A = some ⟨g, o, none⟩ ∧ c = cap := by injection he with a b c; exact ⟨a, c⟩
      have HD := hide (any_dropS p xs k hlt)
      have HC := hide (hp.out xs[k] wr)
      generalize xs[k] = x at q0 HC HD
      have q1 : wr.cell? ⟨g, o + k, none⟩ = some (.string ⟨x.toArray⟩) := q0
      clear q0 he
      cases hq : p x with
      | true =>
        rw [hq] at HC
        go_wp2_with (go_at_fn F; refine HC.out.mono ?_; rintro e w' ⟨rfl, hb'⟩; replace hb' := hide hb')
        go_ret
        refine ⟨_, rfl, ?_, hB.out.trans (hb'.out.mono hB.out.size)⟩
        rw [hA.out, HD.out, hq]
        simp
      | false =>
        rw [hq] at HC
        go_wp2_with (go_at_fn F; refine HC.out.mono ?_; rintro e w' ⟨rfl, hb'⟩; replace hb' := hide hb')
        go_roundw
        case rel =>
          refine ⟨k + 1, by omega, by go_num, hB.out.trans (hb'.out.mono hB.out.size), ?_⟩
          show _ = _
          rw [hA.out, HD.out, hq]
          rfl
        case measure => simp [intOf]; omega
    · have hltz : ¬ (k : Int) < (xs.length : Int) := by omega
      go_wp2
      go_ret
      refine ⟨_, rfl, ?_, hB.out⟩
      rw [hA.out, List.drop_eq_nil_of_le (by omega)]
      rfl
theorem containsFuncS (xs : List (List UInt8)) (v : Value) (w : World) (h : ReadOf ssF 1 w v xs) (hl : xs.length ≤ 9223372036854775807) (p : List UInt8 → Bool) (F : Nat) (eg : ∀ args w, (callFunc F args).run Tryz.prog w = .ok (.enter F args) w)
    (hp : ∀ x W, Calls Tryz.prog F #[.string ⟨x.toArray⟩] W fun e w' => e = .returned (.bool (p x)) ∧ Below W.heap.size W w') :
    Calls Tryz.prog 48 #[v, .func (.func F) #[] #[]] w fun e w' => e = .returned (.bool (xs.any p)) ∧ Below w.heap.size w w' := by
  have HI := hide (indexFuncS xs v w h hl p F eg hp)
  clear hp
  go_enter Tryz.func48, Tryz.ntmps48
  go_wp2_with (go_at_call 72; refine HI.out.mono ?_; rintro e w' ⟨r, rfl, hr, hb⟩; replace hr := hide hr)
  go_ret
  exact ⟨by rw [hr.out]; rfl, hb⟩
theorem noNums (zs : List Int) (v : Value) (w : World) (h : ReadOf siF 1 w v zs) (hl : zs.length ≤ 9223372036854775807) :
    Calls Tryz.prog 46 #[v, .func (.func 47) #[] #[]] w fun e w' => e = .returned (.bool (!zs.all numB)) ∧ Below w.heap.size w w' := by
  have := containsFuncI zs v w h hl (fun n => !numB n) 47 (enters_of Tryz.func47 (by kernel_rfl) rfl) (fun x W => isNoNum_any x W)
  rwa [List.any_eq_not_all_not, show (fun n : Int => !!numB n) = numB from funext fun n => Bool.not_not _] at this
theorem noNames (xs : List (List UInt8)) (v : Value) (w : World) (h : ReadOf ssF 1 w v xs) (hl : xs.length ≤ 9223372036854775807) :
    Calls Tryz.prog 48 #[v, .func (.func 49) #[] #[]] w fun e w' => e = .returned (.bool (!xs.all nmeB)) ∧ Below w.heap.size w w' := by
  have := containsFuncS xs v w h hl (fun n => !nmeB n) 49 (enters_of Tryz.func49 (by kernel_rfl) rfl) (fun x W => isNoName_any x W)
  rwa [List.any_eq_not_all_not, show (fun n : List UInt8 => !!nmeB n) = nmeB from funext fun n => Bool.not_not _] at this
end Go.Proofs.YtegplihhbdmnbaaGreatDoor
