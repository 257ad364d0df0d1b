/- Which names are right: by the program, and by the document. -/
import Derived.Test.YtpghfaplgkjdkaaDoorCB
namespace Go.Proofs.YtpghfaplgkjdkaaDoor
open Go.RowKit
theorem at_str (l : List UInt8) (i : Nat) (hi : i < l.length) : ∃ c, l[i] = c ∧ ∀ h : i < (⟨l.toArray⟩ : ByteArray).size, (⟨l.toArray⟩ : ByteArray)[i]'h = c := ⟨_, rfl, fun _ => rfl⟩
def okC (c : UInt8) : Bool := decide ((97 ≤ c.toNat ∧ c.toNat ≤ 122) ∨ (48 ≤ c.toNat ∧ c.toNat ≤ 57) ∨ c.toNat = 45 ∨ c.toNat = 46)
def rightB (l : List UInt8) : Bool := l.all okC && (decide (1 ≤ l.length) && decide (l.length ≤ 24))
theorem okC_cases (c : UInt8) : (okC c = true ∧ ((97 ≤ c.toNat ∧ c.toNat ≤ 122) ∨ (48 ≤ c.toNat ∧ c.toNat ≤ 57) ∨ c.toNat = 45 ∨ c.toNat = 46)) ∨ (okC c = false ∧ ((c.toNat < 48 ∧ c.toNat ≠ 45 ∧ c.toNat ≠ 46) ∨ (57 < c.toNat ∧ c.toNat < 97) ∨ 122 < c.toNat)) := by
  unfold okC
  by_cases h : (97 ≤ c.toNat ∧ c.toNat ≤ 122) ∨ (48 ≤ c.toNat ∧ c.toNat ≤ 57) ∨ c.toNat = 45 ∨ c.toNat = 46
  · exact .inl ⟨decide_eq_true h, h⟩
  · exact .inr ⟨decide_eq_false h, by omega⟩
theorem all_drop (l : List UInt8) (i : Nat) (h : i < l.length) : (l.drop i).all okC = (okC l[i] && (l.drop (i + 1)).all okC) := by
  rw [List.drop_eq_getElem_cons h, List.all_cons]

set_option maxRecDepth 20000 in
set_option maxHeartbeats 4000000 in
theorem isRight_any (l : List UInt8) (w : World) (hs : l.length ≤ 1000000000) : Calls Tryd.prog 37 #[.string ⟨l.toArray⟩] w fun e w' => e = .returned (.bool (rightB l)) ∧ w' = w := by
  go_enter Tryd.func37, Tryd.ntmps37
  go_wp2
  go_loop [7] (fun k => ∃ i : Nat, k = .int .i64 i ∧ i ≤ l.length ∧ Hid ((l.drop i).all okC = l.all okC)) (fun k => l.length - (intOf k).toNat)
  case atStart => exact ⟨0, rfl, Nat.zero_le _, rfl⟩
  case round =>
    obtain ⟨i, rfl, hi, HK⟩ := hrel
    by_cases hlt : i < l.length
    · have hlt' : (i : Int) < l.length := by omega
      obtain ⟨c, hc, hcs⟩ := at_str l i hlt
      have hst := all_drop l i hlt
      rw [hc] at hst
      clear hc
      rcases okC_cases c with ⟨ho, hcase⟩ | ⟨ho, hcase⟩
      · have HS := hide (show (l.drop (i + 1)).all okC = l.all okC by rw [← HK.out, hst, ho]; simp)
        clear hst ho HK
        rcases hcase with hx | hx | hx | hx
        · have a0 : decide (97 ≤ (c.toNat : Int)) = true := by simp; omega
          have b0 : 97 ≤ (c.toNat : Int) := by omega
          have a1 : decide ((c.toNat : Int) ≤ 122) = true := by simp; omega
          have b1 : (c.toNat : Int) ≤ 122 := by omega
          clear hx
          go_wp2
          go_round
          case rel => exact ⟨i + 1, by go_num, by omega, HS⟩
          case measure => simp [intOf]; omega
        · have a0 : decide (97 ≤ (c.toNat : Int)) = false := by simp; omega
          have b0 : ¬ 97 ≤ (c.toNat : Int) := by omega
          have a2 : decide (48 ≤ (c.toNat : Int)) = true := by simp; omega
          have b2 : 48 ≤ (c.toNat : Int) := by omega
          have a3 : decide ((c.toNat : Int) ≤ 57) = true := by simp; omega
          have b3 : (c.toNat : Int) ≤ 57 := by omega
          clear hx
          go_wp2
          go_round
          case rel => exact ⟨i + 1, by go_num, by omega, HS⟩
          case measure => simp [intOf]; omega
        · have a0 : decide (97 ≤ (c.toNat : Int)) = false := by simp; omega
          have b0 : ¬ 97 ≤ (c.toNat : Int) := by omega
          have a2 : decide (48 ≤ (c.toNat : Int)) = false := by simp; omega
          have b2 : ¬ 48 ≤ (c.toNat : Int) := by omega
          have a4 : ((c.toNat : Int) == 45) = true := by simp; omega
          have b4 : (c.toNat : Int) = 45 := by omega
          clear hx
          go_wp2
          go_round
          case rel => exact ⟨i + 1, by go_num, by omega, HS⟩
          case measure => simp [intOf]; omega
        · have a0 : decide (97 ≤ (c.toNat : Int)) = false := by simp; omega
          have b0 : ¬ 97 ≤ (c.toNat : Int) := by omega
          have a2 : decide (48 ≤ (c.toNat : Int)) = false := by simp; omega
          have b2 : ¬ 48 ≤ (c.toNat : Int) := by omega
          have a4 : ((c.toNat : Int) == 45) = false := by simp; omega
          have b4 : ¬ (c.toNat : Int) = 45 := by omega
          have a5 : ((c.toNat : Int) == 46) = true := by simp; omega
          have b5 : (c.toNat : Int) = 46 := by omega
          clear hx
          go_wp2
          go_round
          case rel => exact ⟨i + 1, by go_num, by omega, HS⟩
          case measure => simp [intOf]; omega
      · have HN := hide (show rightB l = false by unfold rightB; rw [← HK.out, hst, ho]; simp)
        clear hst ho HK
        rcases hcase with hx | hx | hx
        · have a0 : decide (97 ≤ (c.toNat : Int)) = false := by simp; omega
          have b0 : ¬ 97 ≤ (c.toNat : Int) := by omega
          have a2 : decide (48 ≤ (c.toNat : Int)) = false := by simp; omega
          have b2 : ¬ 48 ≤ (c.toNat : Int) := by omega
          have a4 : ((c.toNat : Int) == 45) = false := by simp; omega
          have b4 : ¬ (c.toNat : Int) = 45 := by omega
          have a5 : ((c.toNat : Int) == 46) = false := by simp; omega
          have b5 : ¬ (c.toNat : Int) = 46 := by omega
          clear hx
          go_wp2
          go_ret
          exact ⟨by rw [HN.out]; rfl, rfl⟩
        · have a0 : decide (97 ≤ (c.toNat : Int)) = false := by simp; omega
          have b0 : ¬ 97 ≤ (c.toNat : Int) := by omega
          have a2 : decide (48 ≤ (c.toNat : Int)) = true := by simp; omega
          have b2 : 48 ≤ (c.toNat : Int) := by omega
          have a3 : decide ((c.toNat : Int) ≤ 57) = false := by simp; omega
          have b3 : ¬ (c.toNat : Int) ≤ 57 := by omega
          have a4 : ((c.toNat : Int) == 45) = false := by simp; omega
          have b4 : ¬ (c.toNat : Int) = 45 := by omega
          have a5 : ((c.toNat : Int) == 46) = false := by simp; omega
          have b5 : ¬ (c.toNat : Int) = 46 := by omega
          clear hx
          go_wp2
          go_ret
          exact ⟨by rw [HN.out]; rfl, rfl⟩
        · have a0 : decide (97 ≤ (c.toNat : Int)) = true := by simp; omega
          have b0 : 97 ≤ (c.toNat : Int) := by omega
          have a1 : decide ((c.toNat : Int) ≤ 122) = false := by simp; omega
          have b1 : ¬ (c.toNat : Int) ≤ 122 := by omega
          have a2 : decide (48 ≤ (c.toNat : Int)) = true := by simp; omega
          have b2 : 48 ≤ (c.toNat : Int) := by omega
          have a3 : decide ((c.toNat : Int) ≤ 57) = false := by simp; omega
          have b3 : ¬ (c.toNat : Int) ≤ 57 := by omega
          have a4 : ((c.toNat : Int) == 45) = false := by simp; omega
          have b4 : ¬ (c.toNat : Int) = 45 := by omega
          have a5 : ((c.toNat : Int) == 46) = false := by simp; omega
          have b5 : ¬ (c.toNat : Int) = 46 := by omega
          clear hx
          go_wp2
          go_ret
          exact ⟨by rw [HN.out]; rfl, rfl⟩
    · obtain rfl : i = l.length := by omega
      have hall := HK.out
      rw [List.drop_length, List.all_nil] at hall
      have HB : Hid (rightB l = (decide (1 ≤ l.length) && decide (l.length ≤ 24))) := by
        show rightB l = _
        unfold rightB
        rw [← hall]
        rfl
      clear hall HK
      by_cases h1 : 1 ≤ l.length
      · have g1 : decide (1 ≤ (l.length : Int)) = true := decide_eq_true (by omega)
        have g2 : 1 ≤ (l.length : Int) := by omega
        by_cases h2 : l.length ≤ 24
        · have g3 : decide ((l.length : Int) ≤ 24) = true := by simp; omega
          have g4 : (l.length : Int) ≤ 24 := by omega
          go_wp2
          go_ret
          exact ⟨by rw [HB.out, decide_eq_true h1, decide_eq_true h2]; rfl, rfl⟩
        · have g3 : decide ((l.length : Int) ≤ 24) = false := by simp; omega
          have g4 : ¬ (l.length : Int) ≤ 24 := by omega
          go_wp2
          go_ret
          exact ⟨by rw [HB.out, decide_eq_true h1, decide_eq_false h2]; rfl, rfl⟩
      · have g1 : decide (1 ≤ (l.length : Int)) = false := decide_eq_false (by omega)
        have g2 : ¬ 1 ≤ (l.length : Int) := by omega
        go_wp2
        go_ret
        exact ⟨by rw [HB.out, decide_eq_false h1]; rfl, rfl⟩

set_option maxRecDepth 20000 in
set_option maxHeartbeats 4000000 in
theorem right_any (l : List UInt8) (w : World) (hs : l.length ≤ 1000000000) : Calls Tryd.prog 12 #[.string ⟨l.toArray⟩] w fun e w' => e = .returned (.bool (rightB l)) ∧ w' = w := by
  go_enter Tryd.func12, Tryd.ntmps12
  go_wp2
  go_loop [3] (fun k => ∃ i : Nat, k = .int .i64 i ∧ i ≤ l.length ∧ Hid ((l.drop i).all okC = l.all okC)) (fun k => l.length - (intOf k).toNat)
  case atStart => exact ⟨0, rfl, Nat.zero_le _, rfl⟩
  case round =>
    obtain ⟨i, rfl, hi, HK⟩ := hrel
    by_cases hlt : i < l.length
    · have hlt' : (i : Int) < l.length := by omega
      obtain ⟨c, hc, hcs⟩ := at_str l i hlt
      have hst := all_drop l i hlt
      rw [hc] at hst
      clear hc
      rcases okC_cases c with ⟨ho, hcase⟩ | ⟨ho, hcase⟩
      · have HS := hide (show (l.drop (i + 1)).all okC = l.all okC by rw [← HK.out, hst, ho]; simp)
        clear hst ho HK
        rcases hcase with hx | hx | hx | hx
        · have a0 : decide (97 ≤ (c.toNat : Int)) = true := by simp; omega
          have b0 : 97 ≤ (c.toNat : Int) := by omega
          have a1 : decide ((c.toNat : Int) ≤ 122) = true := by simp; omega
          have b1 : (c.toNat : Int) ≤ 122 := by omega
          clear hx
          go_wp2
          go_round
          case rel => exact ⟨i + 1, by go_num, by omega, HS⟩
          case measure => simp [intOf]; omega
        · have a0 : decide (97 ≤ (c.toNat : Int)) = false := by simp; omega
          have b0 : ¬ 97 ≤ (c.toNat : Int) := by omega
          have a2 : decide (48 ≤ (c.toNat : Int)) = true := by simp; omega
          have b2 : 48 ≤ (c.toNat : Int) := by omega
          have a3 : decide ((c.toNat : Int) ≤ 57) = true := by simp; omega
          have b3 : (c.toNat : Int) ≤ 57 := by omega
          clear hx
          go_wp2
          go_round
          case rel => exact ⟨i + 1, by go_num, by omega, HS⟩
          case measure => simp [intOf]; omega
        · have a0 : decide (97 ≤ (c.toNat : Int)) = false := by simp; omega
          have b0 : ¬ 97 ≤ (c.toNat : Int) := by omega
          have a2 : decide (48 ≤ (c.toNat : Int)) = false := by simp; omega
          have b2 : ¬ 48 ≤ (c.toNat : Int) := by omega
          have a4 : ((c.toNat : Int) == 45) = true := by simp; omega
          have b4 : (c.toNat : Int) = 45 := by omega
          clear hx
          go_wp2
          go_round
          case rel => exact ⟨i + 1, by go_num, by omega, HS⟩
          case measure => simp [intOf]; omega
        · have a0 : decide (97 ≤ (c.toNat : Int)) = false := by simp; omega
          have b0 : ¬ 97 ≤ (c.toNat : Int) := by omega
          have a2 : decide (48 ≤ (c.toNat : Int)) = false := by simp; omega
          have b2 : ¬ 48 ≤ (c.toNat : Int) := by omega
          have a4 : ((c.toNat : Int) == 45) = false := by simp; omega
          have b4 : ¬ (c.toNat : Int) = 45 := by omega
          have a5 : ((c.toNat : Int) == 46) = true := by simp; omega
          have b5 : (c.toNat : Int) = 46 := by omega
          clear hx
          go_wp2
          go_round
          case rel => exact ⟨i + 1, by go_num, by omega, HS⟩
          case measure => simp [intOf]; omega
      · have HN := hide (show rightB l = false by unfold rightB; rw [← HK.out, hst, ho]; simp)
        clear hst ho HK
        rcases hcase with hx | hx | hx
        · have a0 : decide (97 ≤ (c.toNat : Int)) = false := by simp; omega
          have b0 : ¬ 97 ≤ (c.toNat : Int) := by omega
          have a2 : decide (48 ≤ (c.toNat : Int)) = false := by simp; omega
          have b2 : ¬ 48 ≤ (c.toNat : Int) := by omega
          have a4 : ((c.toNat : Int) == 45) = false := by simp; omega
          have b4 : ¬ (c.toNat : Int) = 45 := by omega
          have a5 : ((c.toNat : Int) == 46) = false := by simp; omega
          have b5 : ¬ (c.toNat : Int) = 46 := by omega
          clear hx
          go_wp2
          go_ret
          exact ⟨by rw [HN.out]; rfl, rfl⟩
        · have a0 : decide (97 ≤ (c.toNat : Int)) = false := by simp; omega
          have b0 : ¬ 97 ≤ (c.toNat : Int) := by omega
          have a2 : decide (48 ≤ (c.toNat : Int)) = true := by simp; omega
          have b2 : 48 ≤ (c.toNat : Int) := by omega
          have a3 : decide ((c.toNat : Int) ≤ 57) = false := by simp; omega
          have b3 : ¬ (c.toNat : Int) ≤ 57 := by omega
          have a4 : ((c.toNat : Int) == 45) = false := by simp; omega
          have b4 : ¬ (c.toNat : Int) = 45 := by omega
          have a5 : ((c.toNat : Int) == 46) = false := by simp; omega
          have b5 : ¬ (c.toNat : Int) = 46 := by omega
          clear hx
          go_wp2
          go_ret
          exact ⟨by rw [HN.out]; rfl, rfl⟩
        · have a0 : decide (97 ≤ (c.toNat : Int)) = true := by simp; omega
          have b0 : 97 ≤ (c.toNat : Int) := by omega
          have a1 : decide ((c.toNat : Int) ≤ 122) = false := by simp; omega
          have b1 : ¬ (c.toNat : Int) ≤ 122 := by omega
          have a2 : decide (48 ≤ (c.toNat : Int)) = true := by simp; omega
          have b2 : 48 ≤ (c.toNat : Int) := by omega
          have a3 : decide ((c.toNat : Int) ≤ 57) = false := by simp; omega
          have b3 : ¬ (c.toNat : Int) ≤ 57 := by omega
          have a4 : ((c.toNat : Int) == 45) = false := by simp; omega
          have b4 : ¬ (c.toNat : Int) = 45 := by omega
          have a5 : ((c.toNat : Int) == 46) = false := by simp; omega
          have b5 : ¬ (c.toNat : Int) = 46 := by omega
          clear hx
          go_wp2
          go_ret
          exact ⟨by rw [HN.out]; rfl, rfl⟩
    · obtain rfl : i = l.length := by omega
      have hall := HK.out
      rw [List.drop_length, List.all_nil] at hall
      have HB : Hid (rightB l = (decide (1 ≤ l.length) && decide (l.length ≤ 24))) := by
        show rightB l = _
        unfold rightB
        rw [← hall]
        rfl
      clear hall HK
      by_cases h1 : 1 ≤ l.length
      · have g1 : decide (0 < (l.length : Int)) = true := decide_eq_true (by omega)
        have g2 : 0 < (l.length : Int) := by omega
        by_cases h2 : l.length ≤ 24
        · have g3 : decide ((l.length : Int) ≤ 24) = true := by simp; omega
          have g4 : (l.length : Int) ≤ 24 := by omega
          go_wp2
          go_ret
          exact ⟨by rw [HB.out, decide_eq_true h1, decide_eq_true h2]; rfl, rfl⟩
        · have g3 : decide ((l.length : Int) ≤ 24) = false := by simp; omega
          have g4 : ¬ (l.length : Int) ≤ 24 := by omega
          go_wp2
          go_ret
          exact ⟨by rw [HB.out, decide_eq_true h1, decide_eq_false h2]; rfl, rfl⟩
      · have g1 : decide (0 < (l.length : Int)) = false := decide_eq_false (by omega)
        have g2 : ¬ 0 < (l.length : Int) := by omega
        go_wp2
        go_ret
        exact ⟨by rw [HB.out, decide_eq_false h1]; rfl, rfl⟩
end Go.Proofs.YtpghfaplgkjdkaaDoor
