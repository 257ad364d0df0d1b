/- Which numbers and names there are none of (package section); slices.ContainsFunc over numbers and texts. -/
import Derived.Test.YtegplihhbdmnbaaGreatDoorU06
import Derived.Test.YtegplihhbdmnbaaGreatDoorU09
import Derived.Test.YtegplihhbdmnbaaGreatDoorU20
import Derived.Test.YtegplihhbdmnbaaGreatDoorU22
namespace Go.Proofs.YtegplihhbdmnbaaGreatDoor
open Go.RowKit Go.Shelf
def siF (z : Int) : List Value := [.int .i64 z]
def ssF (x : List UInt8) : List Value := [.string ⟨x.toArray⟩]
/-- A rune of a name. -/
def nmR (x : Nat) : Bool := decide (33 ≤ x) && decide (x ≤ 126) && !(spcL.any fun c => c.toNat == x)
theorem nmR_byte (c : UInt8) : nmR c.toNat = nmB c := by
  unfold nmR nmB
  congr 2
  rw [Bool.eq_iff_iff, List.any_eq_true, List.contains_iff_mem]
  constructor
  · rintro ⟨d, hd, h⟩
    have : d = c := UInt8.toNat_inj.1 (by simpa using h)
    exact this ▸ hd
  · exact fun h => ⟨c, h, by simp⟩
theorem nmR_high {x : Nat} (h : 128 ≤ x) : nmR x = false := by
  unfold nmR
  have : decide (x ≤ 126) = false := decide_eq_false (by omega)
  rw [this]
  simp
theorem nmB_lt {c : UInt8} (h : nmB c = true) : c.toNat < 128 := by
  unfold nmB at h
  simp at h
  omega
def notNm (x : Nat) : Bool := !nmR x
theorem idx_nm_from (l : List UInt8) : ∀ (r pre : List UInt8) (f : Nat), pre ++ r = l → r.length ≤ f →
    Lib.idxFuncFrom notNm true ⟨l.toArray⟩ f pre.length = if r.dropWhile nmB = [] then -1 else ((pre.length + (r.takeWhile nmB).length : Nat) : Int)
  | [], pre, f, h, _ => by
    rw [Lib.idxFuncFrom_end _ _ _ _ _ (by subst h; simp [ByteArray.size])]
    rfl
  | c :: r, pre, 0, _, hf => by simp at hf
  | c :: r, pre, f + 1, h, hf => by
    have hlt : pre.length < (⟨l.toArray⟩ : ByteArray).size := by subst h; simp [ByteArray.size]
    have hat : (⟨l.toArray⟩ : ByteArray)[pre.length]'hlt = c := by
      show l[pre.length]'(by simpa [ByteArray.size] using hlt) = c
      subst h
      simp
    rw [Lib.idxFuncFrom, if_pos hlt]
    cases hc : nmB c with
    | true =>
      have h128 := nmB_lt hc
      have hd := decode_ascii ⟨l.toArray⟩ pre.length hlt (by rw [hat]; exact h128)
      rw [hat] at hd
      have ih := idx_nm_from l r (pre ++ [c]) f (by rw [← h]; simp) (by simp at hf; omega)
      rw [hd, if_neg (by unfold notNm; rw [nmR_byte, hc]; simp)]
      rw [List.length_append] at ih
      show Lib.idxFuncFrom notNm true _ f (pre.length + 1) = _
      rw [show pre.length + [c].length = pre.length + 1 from rfl] at ih
      rw [ih, List.dropWhile_cons_of_pos hc, List.takeWhile_cons_of_pos hc]
      split
      · rfl
      · simp
        omega
    | false =>
      have hp : notNm (Utf8.decode ⟨l.toArray⟩ pre.length).1 = true := by
        unfold notNm
        by_cases h128 : c.toNat < 128
        · have hd := decode_ascii ⟨l.toArray⟩ pre.length hlt (by rw [hat]; exact h128)
          rw [hat] at hd
          rw [hd, nmR_byte, hc]
          rfl
        · rw [nmR_high (decode_high _ _ hlt (by rw [hat]; omega))]
          rfl
      rw [if_pos hp, List.dropWhile_cons_of_neg (by simp [hc]), List.takeWhile_cons_of_neg (by simp [hc]), if_neg (by simp)]
      simp
theorem drop_all (l : List UInt8) : l.dropWhile nmB = [] ↔ l.all nmB = true := by
  induction l with
  | nil => simp
  | cons c r ih =>
    cases hc : nmB c with
    | true => rw [List.dropWhile_cons_of_pos hc, ih, List.all_cons, hc]; simp
    | false => rw [List.dropWhile_cons_of_neg (by simp [hc]), List.all_cons, hc]; simp
theorem idx_nm (l : List UInt8) : decide (0 ≤ Lib.idxFunc notNm true ⟨l.toArray⟩) = !l.all nmB := by
  have h := idx_nm_from l l [] (⟨l.toArray⟩ : ByteArray).size rfl (by simp [ByteArray.size])
  have h' : Lib.idxFunc notNm true ⟨l.toArray⟩ = if l.dropWhile nmB = [] then -1 else (((l.takeWhile nmB).length : Nat) : Int) := by simpa [Lib.idxFunc] using h
  rw [h']
  cases ha : l.all nmB with
  | true => rw [if_pos ((drop_all l).2 ha)]; rfl
  | false =>
    rw [if_neg (fun e => by rw [(drop_all l).1 e] at ha; cases ha)]
    simp
theorem spc_idx : ∀ x, x < 128 → decide (0 ≤ Lib.indexByte spcL x.toUInt8) = spcL.any fun c => c.toNat == x := by decide +kernel
theorem contSpc (x : Nat) (hx : x < 128) (w : World) : Calls Tryz.prog 103 #[.string ⟨#[40, 41, 58, 34, 123, 92]⟩, .int .i32 (x : Nat)] w fun e w' => e = .returned (.bool (spcL.any fun c => c.toNat == x)) ∧ w' = w := by
  have := Tryz.strings_ContainsRune_ascii ⟨#[40, 41, 58, 34, 123, 92]⟩ (x : Nat) w (by omega) (by omega)
  rw [← spc_idx x hx]
  exact this
theorem notNm_any (x : Nat) (hx : x ≤ 1114111) (w : World) : Calls Tryz.prog 74 #[.int .i32 (x : Nat)] w fun e w' => e = .returned (.bool (notNm x)) ∧ w' = w := by
  by_cases h1 : x < 33
  · have b1 : (x : Int) < 33 := by omega
    have HV : Hid (notNm x = true) := by
      show _ = _
      unfold notNm nmR
      rw [decide_eq_false (by omega : ¬ 33 ≤ x)]
      rfl
    go_enter Tryz.func74, Tryz.ntmps74
    go_wp2
    go_ret
    exact ⟨by rw [HV.out]; rfl, rfl⟩
  · have b1 : ¬ (x : Int) < 33 := by omega
    by_cases h2 : x > 126
    · have b2 : (x : Int) > 126 := by omega
      have HV : Hid (notNm x = true) := by
        show _ = _
        unfold notNm nmR
        rw [decide_eq_false (by omega : ¬ x ≤ 126)]
        simp
      go_enter Tryz.func74, Tryz.ntmps74
      go_wp2
      go_ret
      exact ⟨by rw [HV.out]; rfl, rfl⟩
    · have b2 : ¬ (x : Int) > 126 := by omega
      have HV : Hid (notNm x = spcL.any fun c => c.toNat == x) := by
        show _ = _
        unfold notNm nmR
        rw [decide_eq_true (by omega : 33 ≤ x), decide_eq_true (by omega : x ≤ 126)]
        simp
      have HC := hide (contSpc x (by omega))
      generalize (spcL.any fun c => c.toNat == x) = v at *
      go_enter Tryz.func74, Tryz.ntmps74
      go_wp2_with (first
        | (go_at_call 103; refine (HC.out _).mono ?_; rintro e w1 ⟨rfl, rfl⟩))
      go_ret
      exact ⟨by rw [HV.out]; rfl, rfl⟩
theorem contNm (r : List UInt8) (w : World) : Calls Tryz.prog 73 #[.string ⟨r.toArray⟩, .func (.func 74) #[] #[]] w fun e w' => e = .returned (.bool (!r.all nmB)) ∧ Below w.heap.size w w' := by
  rw [← idx_nm]
  refine Tryz.strings_ContainsFunc_grows 74 #[] (enters_of Tryz.func74 (by kernel_rfl) rfl) notNm ⟨r.toArray⟩ w ?_
  intro W x hx _
  exact (notNm_any x hx W).mono fun e w' ⟨he, hw⟩ => ⟨he, hw ▸ Below.refl _ _⟩
theorem isNoName_any (r : List UInt8) (w : World) : Calls Tryz.prog 49 #[.string ⟨r.toArray⟩] w fun e w' => e = .returned (.bool (!nmeB r)) ∧ Below w.heap.size w w' := by
  cases r with
  | nil =>
    go_enter Tryz.func49, Tryz.ntmps49
    go_wp2
    go_ret
    exact ⟨rfl, Below.refl _ _⟩
  | cons c r =>
    have HC := hide (contNm (c :: r))
    have hv : nmeB (c :: r) = (c :: r).all nmB := by simp [nmeB]
    rw [hv]
    clear hv
    generalize (c :: r).all nmB = b at *
    have hemp : (c :: r).isEmpty = false := rfl
    generalize (c :: r) = s at *
    go_enter Tryz.func49, Tryz.ntmps49
    go_wp2_with (first
      | (go_at_call 73; refine (HC.out _).mono ?_; rintro e w1 ⟨rfl, hb1⟩; replace hb1 := hide hb1))
    go_ret
    exact ⟨rfl, hb1.out⟩
theorem isNoNum_any (n : Int) (w : World) : Calls Tryz.prog 47 #[.int .i64 n] w fun e w' => e = .returned (.bool (!numB n)) ∧ Below w.heap.size w w' := by
  by_cases h1 : n < 1
  · have HV : Hid (numB n = false) := by show _ = _; simp [numB]; omega
    go_enter Tryz.func47, Tryz.ntmps47
    go_wp2
    go_ret
    exact ⟨by rw [HV.out]; rfl, Below.refl _ _⟩
  · by_cases h2 : n > 999
    · have HV : Hid (numB n = false) := by show _ = _; simp [numB]; omega
      go_enter Tryz.func47, Tryz.ntmps47
      go_wp2
      go_ret
      exact ⟨by rw [HV.out]; rfl, Below.refl _ _⟩
    · have HV : Hid (numB n = true) := by show _ = _; simp [numB]; omega
      go_enter Tryz.func47, Tryz.ntmps47
      go_wp2
      go_ret
      exact ⟨by rw [HV.out]; rfl, Below.refl _ _⟩
end Go.Proofs.YtegplihhbdmnbaaGreatDoor
