/- Letters, digits, marks: by the program, by the document. -/
import Derived.Test.YtppipfjnichikaaDoorPa0
namespace Go.Proofs.YtppipfjnichikaaDoor
open Go.RowKit Go.Shelf
def leB (c : UInt8) : Bool := decide ((97 ≤ c.toNat ∧ c.toNat ≤ 122) ∨ (65 ≤ c.toNat ∧ c.toNat ≤ 90))
def diB (c : UInt8) : Bool := decide (48 ≤ c.toNat ∧ c.toNat ≤ 57)
theorem ld_or (c : UInt8) : ldB c = (leB c || diB c) := by
  unfold ldB leB diB
  rw [Bool.eq_iff_iff]
  simp
  omega
theorem ranges (c : UInt8) : (0 ≤ c.toNat ∧ c.toNat ≤ 47) ∨ (48 ≤ c.toNat ∧ c.toNat ≤ 57) ∨ (58 ≤ c.toNat ∧ c.toNat ≤ 64) ∨ (65 ≤ c.toNat ∧ c.toNat ≤ 90) ∨ (91 ≤ c.toNat ∧ c.toNat ≤ 96) ∨ (97 ≤ c.toNat ∧ c.toNat ≤ 122) ∨ (123 ≤ c.toNat ∧ c.toNat ≤ 255) := by
  have := c.toNat_lt
  omega
set_option maxHeartbeats 1000000 in
theorem ld_any (c : UInt8) (w : World) : Calls Tryd.prog 40 #[.int .u8 c.toNat] w fun e w' => e = .returned (.bool (ldB c)) ∧ w' = w := by
  rcases ranges c with ⟨h1, h2⟩ | ⟨h1, h2⟩ | ⟨h1, h2⟩ | ⟨h1, h2⟩ | ⟨h1, h2⟩ | ⟨h1, h2⟩ | ⟨h1, h2⟩
  · have hv : ldB c = false := by unfold ldB; simp; omega
    have a0 : decide (97 ≤ (c.toNat : Int)) = false := by simp; omega
    have b0 : ¬ 97 ≤ (c.toNat : Int) := by omega
    have a1 : decide (65 ≤ (c.toNat : Int)) = false := by simp; omega
    have b1 : ¬ 65 ≤ (c.toNat : Int) := by omega
    have a2 : decide (48 ≤ (c.toNat : Int)) = false := by simp; omega
    have b2 : ¬ 48 ≤ (c.toNat : Int) := by omega
    have a3 : decide ((c.toNat : Int) ≤ 122) = true := by simp; omega
    have b3 : (c.toNat : Int) ≤ 122 := by omega
    have a4 : decide ((c.toNat : Int) ≤ 90) = true := by simp; omega
    have b4 : (c.toNat : Int) ≤ 90 := by omega
    have a5 : decide ((c.toNat : Int) ≤ 57) = true := by simp; omega
    have b5 : (c.toNat : Int) ≤ 57 := by omega
    rw [hv]
    clear hv h1 h2
    go_enter Tryd.func40, Tryd.ntmps40
    go_wp2
    go_ret
    exact ⟨rfl, rfl⟩
  · have hv : ldB c = true := by unfold ldB; simp; omega
    have a0 : decide (97 ≤ (c.toNat : Int)) = false := by simp; omega
    have b0 : ¬ 97 ≤ (c.toNat : Int) := by omega
    have a1 : decide (65 ≤ (c.toNat : Int)) = false := by simp; omega
    have b1 : ¬ 65 ≤ (c.toNat : Int) := by omega
    have a2 : decide (48 ≤ (c.toNat : Int)) = true := by simp; omega
    have b2 : 48 ≤ (c.toNat : Int) := by omega
    have a3 : decide ((c.toNat : Int) ≤ 122) = true := by simp; omega
    have b3 : (c.toNat : Int) ≤ 122 := by omega
    have a4 : decide ((c.toNat : Int) ≤ 90) = true := by simp; omega
    have b4 : (c.toNat : Int) ≤ 90 := by omega
    have a5 : decide ((c.toNat : Int) ≤ 57) = true := by simp; omega
    have b5 : (c.toNat : Int) ≤ 57 := by omega
    rw [hv]
    clear hv h1 h2
    go_enter Tryd.func40, Tryd.ntmps40
    go_wp2
    go_ret
    exact ⟨rfl, rfl⟩
  · have hv : ldB c = false := by unfold ldB; simp; omega
    have a0 : decide (97 ≤ (c.toNat : Int)) = false := by simp; omega
    have b0 : ¬ 97 ≤ (c.toNat : Int) := by omega
    have a1 : decide (65 ≤ (c.toNat : Int)) = false := by simp; omega
    have b1 : ¬ 65 ≤ (c.toNat : Int) := by omega
    have a2 : decide (48 ≤ (c.toNat : Int)) = true := by simp; omega
    have b2 : 48 ≤ (c.toNat : Int) := by omega
    have a3 : decide ((c.toNat : Int) ≤ 122) = true := by simp; omega
    have b3 : (c.toNat : Int) ≤ 122 := by omega
    have a4 : decide ((c.toNat : Int) ≤ 90) = true := by simp; omega
    have b4 : (c.toNat : Int) ≤ 90 := by omega
    have a5 : decide ((c.toNat : Int) ≤ 57) = false := by simp; omega
    have b5 : ¬ (c.toNat : Int) ≤ 57 := by omega
    rw [hv]
    clear hv h1 h2
    go_enter Tryd.func40, Tryd.ntmps40
    go_wp2
    go_ret
    exact ⟨rfl, rfl⟩
  · have hv : ldB c = true := by unfold ldB; simp; omega
    have a0 : decide (97 ≤ (c.toNat : Int)) = false := by simp; omega
    have b0 : ¬ 97 ≤ (c.toNat : Int) := by omega
    have a1 : decide (65 ≤ (c.toNat : Int)) = true := by simp; omega
    have b1 : 65 ≤ (c.toNat : Int) := by omega
    have a2 : decide (48 ≤ (c.toNat : Int)) = true := by simp; omega
    have b2 : 48 ≤ (c.toNat : Int) := by omega
    have a3 : decide ((c.toNat : Int) ≤ 122) = true := by simp; omega
    have b3 : (c.toNat : Int) ≤ 122 := by omega
    have a4 : decide ((c.toNat : Int) ≤ 90) = true := by simp; omega
    have b4 : (c.toNat : Int) ≤ 90 := by omega
    have a5 : decide ((c.toNat : Int) ≤ 57) = false := by simp; omega
    have b5 : ¬ (c.toNat : Int) ≤ 57 := by omega
    rw [hv]
    clear hv h1 h2
    go_enter Tryd.func40, Tryd.ntmps40
    go_wp2
    go_ret
    exact ⟨rfl, rfl⟩
  · have hv : ldB c = false := by unfold ldB; simp; omega
    have a0 : decide (97 ≤ (c.toNat : Int)) = false := by simp; omega
    have b0 : ¬ 97 ≤ (c.toNat : Int) := by omega
    have a1 : decide (65 ≤ (c.toNat : Int)) = true := by simp; omega
    have b1 : 65 ≤ (c.toNat : Int) := by omega
    have a2 : decide (48 ≤ (c.toNat : Int)) = true := by simp; omega
    have b2 : 48 ≤ (c.toNat : Int) := by omega
    have a3 : decide ((c.toNat : Int) ≤ 122) = true := by simp; omega
    have b3 : (c.toNat : Int) ≤ 122 := by omega
    have a4 : decide ((c.toNat : Int) ≤ 90) = false := by simp; omega
    have b4 : ¬ (c.toNat : Int) ≤ 90 := by omega
    have a5 : decide ((c.toNat : Int) ≤ 57) = false := by simp; omega
    have b5 : ¬ (c.toNat : Int) ≤ 57 := by omega
    rw [hv]
    clear hv h1 h2
    go_enter Tryd.func40, Tryd.ntmps40
    go_wp2
    go_ret
    exact ⟨rfl, rfl⟩
  · have hv : ldB c = true := by unfold ldB; simp; omega
    have a0 : decide (97 ≤ (c.toNat : Int)) = true := by simp; omega
    have b0 : 97 ≤ (c.toNat : Int) := by omega
    have a1 : decide (65 ≤ (c.toNat : Int)) = true := by simp; omega
    have b1 : 65 ≤ (c.toNat : Int) := by omega
    have a2 : decide (48 ≤ (c.toNat : Int)) = true := by simp; omega
    have b2 : 48 ≤ (c.toNat : Int) := by omega
    have a3 : decide ((c.toNat : Int) ≤ 122) = true := by simp; omega
    have b3 : (c.toNat : Int) ≤ 122 := by omega
    have a4 : decide ((c.toNat : Int) ≤ 90) = false := by simp; omega
    have b4 : ¬ (c.toNat : Int) ≤ 90 := by omega
    have a5 : decide ((c.toNat : Int) ≤ 57) = false := by simp; omega
    have b5 : ¬ (c.toNat : Int) ≤ 57 := by omega
    rw [hv]
    clear hv h1 h2
    go_enter Tryd.func40, Tryd.ntmps40
    go_wp2
    go_ret
    exact ⟨rfl, rfl⟩
  · have hv : ldB c = false := by unfold ldB; simp; omega
    have a0 : decide (97 ≤ (c.toNat : Int)) = true := by simp; omega
    have b0 : 97 ≤ (c.toNat : Int) := by omega
    have a1 : decide (65 ≤ (c.toNat : Int)) = true := by simp; omega
    have b1 : 65 ≤ (c.toNat : Int) := by omega
    have a2 : decide (48 ≤ (c.toNat : Int)) = true := by simp; omega
    have b2 : 48 ≤ (c.toNat : Int) := by omega
    have a3 : decide ((c.toNat : Int) ≤ 122) = false := by simp; omega
    have b3 : ¬ (c.toNat : Int) ≤ 122 := by omega
    have a4 : decide ((c.toNat : Int) ≤ 90) = false := by simp; omega
    have b4 : ¬ (c.toNat : Int) ≤ 90 := by omega
    have a5 : decide ((c.toNat : Int) ≤ 57) = false := by simp; omega
    have b5 : ¬ (c.toNat : Int) ≤ 57 := by omega
    rw [hv]
    clear hv h1 h2
    go_enter Tryd.func40, Tryd.ntmps40
    go_wp2
    go_ret
    exact ⟨rfl, rfl⟩
set_option maxHeartbeats 1000000 in
theorem letter_any (c : UInt8) (w : World) : Calls Tryd.prog 30 #[.int .u8 c.toNat] w fun e w' => e = .returned (.bool (leB c)) ∧ w' = w := by
  rcases ranges c with ⟨h1, h2⟩ | ⟨h1, h2⟩ | ⟨h1, h2⟩ | ⟨h1, h2⟩ | ⟨h1, h2⟩ | ⟨h1, h2⟩ | ⟨h1, h2⟩
  · have hv : leB c = false := by unfold leB; simp; omega
    have a0 : decide (97 ≤ (c.toNat : Int)) = false := by simp; omega
    have b0 : ¬ 97 ≤ (c.toNat : Int) := by omega
    have a1 : decide (65 ≤ (c.toNat : Int)) = false := by simp; omega
    have b1 : ¬ 65 ≤ (c.toNat : Int) := by omega
    have a2 : decide ((c.toNat : Int) ≤ 122) = true := by simp; omega
    have b2 : (c.toNat : Int) ≤ 122 := by omega
    have a3 : decide ((c.toNat : Int) ≤ 90) = true := by simp; omega
    have b3 : (c.toNat : Int) ≤ 90 := by omega
    rw [hv]
    clear hv h1 h2
    go_enter Tryd.func30, Tryd.ntmps30
    go_wp2
    go_ret
    exact ⟨rfl, rfl⟩
  · have hv : leB c = false := by unfold leB; simp; omega
    have a0 : decide (97 ≤ (c.toNat : Int)) = false := by simp; omega
    have b0 : ¬ 97 ≤ (c.toNat : Int) := by omega
    have a1 : decide (65 ≤ (c.toNat : Int)) = false := by simp; omega
    have b1 : ¬ 65 ≤ (c.toNat : Int) := by omega
    have a2 : decide ((c.toNat : Int) ≤ 122) = true := by simp; omega
    have b2 : (c.toNat : Int) ≤ 122 := by omega
    have a3 : decide ((c.toNat : Int) ≤ 90) = true := by simp; omega
    have b3 : (c.toNat : Int) ≤ 90 := by omega
    rw [hv]
    clear hv h1 h2
    go_enter Tryd.func30, Tryd.ntmps30
    go_wp2
    go_ret
    exact ⟨rfl, rfl⟩
  · have hv : leB c = false := by unfold leB; simp; omega
    have a0 : decide (97 ≤ (c.toNat : Int)) = false := by simp; omega
    have b0 : ¬ 97 ≤ (c.toNat : Int) := by omega
    have a1 : decide (65 ≤ (c.toNat : Int)) = false := by simp; omega
    have b1 : ¬ 65 ≤ (c.toNat : Int) := by omega
    have a2 : decide ((c.toNat : Int) ≤ 122) = true := by simp; omega
    have b2 : (c.toNat : Int) ≤ 122 := by omega
    have a3 : decide ((c.toNat : Int) ≤ 90) = true := by simp; omega
    have b3 : (c.toNat : Int) ≤ 90 := by omega
    rw [hv]
    clear hv h1 h2
    go_enter Tryd.func30, Tryd.ntmps30
    go_wp2
    go_ret
    exact ⟨rfl, rfl⟩
  · have hv : leB c = true := by unfold leB; simp; omega
    have a0 : decide (97 ≤ (c.toNat : Int)) = false := by simp; omega
    have b0 : ¬ 97 ≤ (c.toNat : Int) := by omega
    have a1 : decide (65 ≤ (c.toNat : Int)) = true := by simp; omega
    have b1 : 65 ≤ (c.toNat : Int) := by omega
    have a2 : decide ((c.toNat : Int) ≤ 122) = true := by simp; omega
    have b2 : (c.toNat : Int) ≤ 122 := by omega
    have a3 : decide ((c.toNat : Int) ≤ 90) = true := by simp; omega
    have b3 : (c.toNat : Int) ≤ 90 := by omega
    rw [hv]
    clear hv h1 h2
    go_enter Tryd.func30, Tryd.ntmps30
    go_wp2
    go_ret
    exact ⟨rfl, rfl⟩
  · have hv : leB c = false := by unfold leB; simp; omega
    have a0 : decide (97 ≤ (c.toNat : Int)) = false := by simp; omega
    have b0 : ¬ 97 ≤ (c.toNat : Int) := by omega
    have a1 : decide (65 ≤ (c.toNat : Int)) = true := by simp; omega
    have b1 : 65 ≤ (c.toNat : Int) := by omega
    have a2 : decide ((c.toNat : Int) ≤ 122) = true := by simp; omega
    have b2 : (c.toNat : Int) ≤ 122 := by omega
    have a3 : decide ((c.toNat : Int) ≤ 90) = false := by simp; omega
    have b3 : ¬ (c.toNat : Int) ≤ 90 := by omega
    rw [hv]
    clear hv h1 h2
    go_enter Tryd.func30, Tryd.ntmps30
    go_wp2
    go_ret
    exact ⟨rfl, rfl⟩
  · have hv : leB c = true := by unfold leB; simp; omega
    have a0 : decide (97 ≤ (c.toNat : Int)) = true := by simp; omega
    have b0 : 97 ≤ (c.toNat : Int) := by omega
    have a1 : decide (65 ≤ (c.toNat : Int)) = true := by simp; omega
    have b1 : 65 ≤ (c.toNat : Int) := by omega
    have a2 : decide ((c.toNat : Int) ≤ 122) = true := by simp; omega
    have b2 : (c.toNat : Int) ≤ 122 := by omega
    have a3 : decide ((c.toNat : Int) ≤ 90) = false := by simp; omega
    have b3 : ¬ (c.toNat : Int) ≤ 90 := by omega
    rw [hv]
    clear hv h1 h2
    go_enter Tryd.func30, Tryd.ntmps30
    go_wp2
    go_ret
    exact ⟨rfl, rfl⟩
  · have hv : leB c = false := by unfold leB; simp; omega
    have a0 : decide (97 ≤ (c.toNat : Int)) = true := by simp; omega
    have b0 : 97 ≤ (c.toNat : Int) := by omega
    have a1 : decide (65 ≤ (c.toNat : Int)) = true := by simp; omega
    have b1 : 65 ≤ (c.toNat : Int) := by omega
    have a2 : decide ((c.toNat : Int) ≤ 122) = false := by simp; omega
    have b2 : ¬ (c.toNat : Int) ≤ 122 := by omega
    have a3 : decide ((c.toNat : Int) ≤ 90) = false := by simp; omega
    have b3 : ¬ (c.toNat : Int) ≤ 90 := by omega
    rw [hv]
    clear hv h1 h2
    go_enter Tryd.func30, Tryd.ntmps30
    go_wp2
    go_ret
    exact ⟨rfl, rfl⟩
set_option maxHeartbeats 1000000 in
theorem digit_any (c : UInt8) (w : World) : Calls Tryd.prog 31 #[.int .u8 c.toNat] w fun e w' => e = .returned (.bool (diB c)) ∧ w' = w := by
  rcases ranges c with ⟨h1, h2⟩ | ⟨h1, h2⟩ | ⟨h1, h2⟩ | ⟨h1, h2⟩ | ⟨h1, h2⟩ | ⟨h1, h2⟩ | ⟨h1, h2⟩
  · have hv : diB c = false := by unfold diB; simp; omega
    have a0 : decide (48 ≤ (c.toNat : Int)) = false := by simp; omega
    have b0 : ¬ 48 ≤ (c.toNat : Int) := by omega
    have a1 : decide ((c.toNat : Int) ≤ 57) = true := by simp; omega
    have b1 : (c.toNat : Int) ≤ 57 := by omega
    rw [hv]
    clear hv h1 h2
    go_enter Tryd.func31, Tryd.ntmps31
    go_wp2
    go_ret
    exact ⟨rfl, rfl⟩
  · have hv : diB c = true := by unfold diB; simp; omega
    have a0 : decide (48 ≤ (c.toNat : Int)) = true := by simp; omega
    have b0 : 48 ≤ (c.toNat : Int) := by omega
    have a1 : decide ((c.toNat : Int) ≤ 57) = true := by simp; omega
    have b1 : (c.toNat : Int) ≤ 57 := by omega
    rw [hv]
    clear hv h1 h2
    go_enter Tryd.func31, Tryd.ntmps31
    go_wp2
    go_ret
    exact ⟨rfl, rfl⟩
  · have hv : diB c = false := by unfold diB; simp; omega
    have a0 : decide (48 ≤ (c.toNat : Int)) = true := by simp; omega
    have b0 : 48 ≤ (c.toNat : Int) := by omega
    have a1 : decide ((c.toNat : Int) ≤ 57) = false := by simp; omega
    have b1 : ¬ (c.toNat : Int) ≤ 57 := by omega
    rw [hv]
    clear hv h1 h2
    go_enter Tryd.func31, Tryd.ntmps31
    go_wp2
    go_ret
    exact ⟨rfl, rfl⟩
  · have hv : diB c = false := by unfold diB; simp; omega
    have a0 : decide (48 ≤ (c.toNat : Int)) = true := by simp; omega
    have b0 : 48 ≤ (c.toNat : Int) := by omega
    have a1 : decide ((c.toNat : Int) ≤ 57) = false := by simp; omega
    have b1 : ¬ (c.toNat : Int) ≤ 57 := by omega
    rw [hv]
    clear hv h1 h2
    go_enter Tryd.func31, Tryd.ntmps31
    go_wp2
    go_ret
    exact ⟨rfl, rfl⟩
  · have hv : diB c = false := by unfold diB; simp; omega
    have a0 : decide (48 ≤ (c.toNat : Int)) = true := by simp; omega
    have b0 : 48 ≤ (c.toNat : Int) := by omega
    have a1 : decide ((c.toNat : Int) ≤ 57) = false := by simp; omega
    have b1 : ¬ (c.toNat : Int) ≤ 57 := by omega
    rw [hv]
    clear hv h1 h2
    go_enter Tryd.func31, Tryd.ntmps31
    go_wp2
    go_ret
    exact ⟨rfl, rfl⟩
  · have hv : diB c = false := by unfold diB; simp; omega
    have a0 : decide (48 ≤ (c.toNat : Int)) = true := by simp; omega
    have b0 : 48 ≤ (c.toNat : Int) := by omega
    have a1 : decide ((c.toNat : Int) ≤ 57) = false := by simp; omega
    have b1 : ¬ (c.toNat : Int) ≤ 57 := by omega
    rw [hv]
    clear hv h1 h2
    go_enter Tryd.func31, Tryd.ntmps31
    go_wp2
    go_ret
    exact ⟨rfl, rfl⟩
  · have hv : diB c = false := by unfold diB; simp; omega
    have a0 : decide (48 ≤ (c.toNat : Int)) = true := by simp; omega
    have b0 : 48 ≤ (c.toNat : Int) := by omega
    have a1 : decide ((c.toNat : Int) ≤ 57) = false := by simp; omega
    have b1 : ¬ (c.toNat : Int) ≤ 57 := by omega
    rw [hv]
    clear hv h1 h2
    go_enter Tryd.func31, Tryd.ntmps31
    go_wp2
    go_ret
    exact ⟨rfl, rfl⟩
theorem mk_cases (c : UInt8) : (mkB c = true ∧ (c = 33 ∨ c = 35 ∨ c = 36 ∨ c = 37 ∨ c = 38 ∨ c = 39 ∨ c = 42 ∨ c = 43 ∨ c = 45 ∨ c = 47 ∨ c = 61 ∨ c = 63 ∨ c = 94 ∨ c = 95 ∨ c = 96 ∨ c = 123 ∨ c = 124 ∨ c = 125 ∨ c = 126)) ∨ (mkB c = false ∧ ((c.toNat : Int) == 33) = false ∧ ((c.toNat : Int) == 35) = false ∧ ((c.toNat : Int) == 36) = false ∧ ((c.toNat : Int) == 37) = false ∧ ((c.toNat : Int) == 38) = false ∧ ((c.toNat : Int) == 39) = false ∧ ((c.toNat : Int) == 42) = false ∧ ((c.toNat : Int) == 43) = false ∧ ((c.toNat : Int) == 45) = false ∧ ((c.toNat : Int) == 47) = false ∧ ((c.toNat : Int) == 61) = false ∧ ((c.toNat : Int) == 63) = false ∧ ((c.toNat : Int) == 94) = false ∧ ((c.toNat : Int) == 95) = false ∧ ((c.toNat : Int) == 96) = false ∧ ((c.toNat : Int) == 123) = false ∧ ((c.toNat : Int) == 124) = false ∧ ((c.toNat : Int) == 125) = false ∧ ((c.toNat : Int) == 126) = false) := by
  unfold mkB marksL
  cases h : ([33, 35, 36, 37, 38, 39, 42, 43, 45, 47, 61, 63, 94, 95, 96, 123, 124, 125, 126] : List UInt8).contains c with
  | true =>
    left
    refine ⟨rfl, ?_⟩
    simpa using h
  | false =>
    right
    refine ⟨rfl, ?_⟩
    simp only [List.contains_eq_mem, List.mem_cons, List.not_mem_nil, or_false, decide_eq_false_iff_not, not_or] at h
    have key : ∀ (d : UInt8) (k : Int), d.toNat = k → ¬ c = d → ((c.toNat : Int) == k) = false := by
      intro d k hk hne
      rw [beq_eq_false_iff_ne]
      intro e
      exact hne (UInt8.toNat_inj.1 (by omega))
    obtain ⟨q0, q1, q2, q3, q4, q5, q6, q7, q8, q9, q10, q11, q12, q13, q14, q15, q16, q17, q18⟩ := h
    exact ⟨key 33 _ rfl q0, key 35 _ rfl q1, key 36 _ rfl q2, key 37 _ rfl q3, key 38 _ rfl q4, key 39 _ rfl q5, key 42 _ rfl q6, key 43 _ rfl q7, key 45 _ rfl q8, key 47 _ rfl q9, key 61 _ rfl q10, key 63 _ rfl q11, key 94 _ rfl q12, key 95 _ rfl q13, key 96 _ rfl q14, key 123 _ rfl q15, key 124 _ rfl q16, key 125 _ rfl q17, key 126 _ rfl q18⟩
set_option maxHeartbeats 2000000 in
theorem mark_any (c : UInt8) (w : World) : Calls Tryd.prog 32 #[.int .u8 c.toNat] w fun e w' => e = .returned (.bool (mkB c)) ∧ w' = w := by
  rcases mk_cases c with ⟨hv, hc⟩ | ⟨hv, q0, q1, q2, q3, q4, q5, q6, q7, q8, q9, q10, q11, q12, q13, q14, q15, q16, q17, q18⟩
  · rw [hv]
    clear hv
    rcases hc with rfl | rfl | rfl | rfl | rfl | rfl | rfl | rfl | rfl | rfl | rfl | rfl | rfl | rfl | rfl | rfl | rfl | rfl | rfl <;>
      (go_enter Tryd.func32, Tryd.ntmps32; go_wp2; go_ret; exact ⟨rfl, rfl⟩)
  · rw [hv]
    clear hv
    go_enter Tryd.func32, Tryd.ntmps32
    go_wp2
    go_ret
    exact ⟨rfl, rfl⟩
end Go.Proofs.YtppipfjnichikaaDoor
