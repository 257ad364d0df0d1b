/- Which names are right: by the program, and by the document. -/
/- A disk: New, SetQuota, Steps, the count of steps, and how a name's file is found. -/
import Derived.Test.YtcbkmcagnmpifaaGreatDoorU03
import Derived.Test.YtcbkmcagnmpifaaGreatDoorU04
import Derived.BigQuiet
section
namespace Go.Proofs.YtcbkmcagnmpifaaGreatDoor
open Go.RowKit
theorem at_str (l : List UInt8) (i : Nat) (hi : i < l.length) : ∃ c, l[i] = c ∧ ∀ h : i < (⟨l.toArray⟩ : ByteArray).size, (⟨l.toArray⟩ : ByteArray)[i]'h = c := ⟨_, rfl, fun _ => rfl⟩
def okC (c : UInt8) : Bool := decide ((97 ≤ c.toNat ∧ c.toNat ≤ 122) ∨ (48 ≤ c.toNat ∧ c.toNat ≤ 57) ∨ c.toNat = 45 ∨ c.toNat = 46)
def rightB (l : List UInt8) : Bool := l.all okC && (decide (1 ≤ l.length) && decide (l.length ≤ 24))
theorem okC_cases (c : UInt8) : (okC c = true ∧ ((97 ≤ c.toNat ∧ c.toNat ≤ 122) ∨ (48 ≤ c.toNat ∧ c.toNat ≤ 57) ∨ c.toNat = 45 ∨ c.toNat = 46)) ∨ (okC c = false ∧ ((c.toNat < 48 ∧ c.toNat ≠ 45 ∧ c.toNat ≠ 46) ∨ (57 < c.toNat ∧ c.toNat < 97) ∨ 122 < c.toNat)) := by
  unfold okC
  by_cases h : (97 ≤ c.toNat ∧ c.toNat ≤ 122) ∨ (48 ≤ c.toNat ∧ c.toNat ≤ 57) ∨ c.toNat = 45 ∨ c.toNat = 46
  · exact .inl ⟨decide_eq_true h, h⟩
  · exact .inr ⟨decide_eq_false h, by omega⟩
theorem all_drop (l : List UInt8) (i : Nat) (h : i < l.length) : (l.drop i).all okC = (okC l[i] && (l.drop (i + 1)).all okC) := by
  rw [List.drop_eq_getElem_cons h, List.all_cons]

set_option maxRecDepth 20000 in
set_option maxHeartbeats 4000000 in
theorem isRight_any (l : List UInt8) (w : World) (hs : l.length ≤ 1000000000) : Calls Tryz.prog 117 #[.string ⟨l.toArray⟩] w fun e w' => e = .returned (.bool (rightB l)) ∧ w' = w := by
  go_enter Tryz.func117, Tryz.ntmps117
  go_wp2
  go_loop [7] (fun k => ∃ i : Nat, k = .int .i64 i ∧ i ≤ l.length ∧ Hid ((l.drop i).all okC = l.all okC)) (fun k => l.length - (intOf k).toNat)
  case atStart => exact ⟨0, rfl, Nat.zero_le _, rfl⟩
  case round =>
    obtain ⟨i, rfl, hi, HK⟩ := hrel
    by_cases hlt : i < l.length
    · have hlt' : (i : Int) < l.length := by omega
      obtain ⟨c, hc, hcs⟩ := at_str l i hlt
      have hst := all_drop l i hlt
      rw [hc] at hst
      clear hc
      rcases okC_cases c with ⟨ho, hcase⟩ | ⟨ho, hcase⟩
      · have HS := hide (show (l.drop (i + 1)).all okC = l.all okC by rw [← HK.out, hst, ho]; simp)
        clear hst ho HK
        rcases hcase with hx | hx | hx | hx
        · have a0 : decide (97 ≤ (c.toNat : Int)) = true := by simp; omega
          have b0 : 97 ≤ (c.toNat : Int) := by omega
          have a1 : decide ((c.toNat : Int) ≤ 122) = true := by simp; omega
          have b1 : (c.toNat : Int) ≤ 122 := by omega
          clear hx
          go_wp2
          go_round
          case rel => exact ⟨i + 1, by go_num, by omega, HS⟩
          case measure => simp [intOf]; omega
        · have a0 : decide (97 ≤ (c.toNat : Int)) = false := by simp; omega
          have b0 : ¬ 97 ≤ (c.toNat : Int) := by omega
          have a2 : decide (48 ≤ (c.toNat : Int)) = true := by simp; omega
          have b2 : 48 ≤ (c.toNat : Int) := by omega
          have a3 : decide ((c.toNat : Int) ≤ 57) = true := by simp; omega
          have b3 : (c.toNat : Int) ≤ 57 := by omega
          clear hx
          go_wp2
          go_round
          case rel => exact ⟨i + 1, by go_num, by omega, HS⟩
          case measure => simp [intOf]; omega
        · have a0 : decide (97 ≤ (c.toNat : Int)) = false := by simp; omega
          have b0 : ¬ 97 ≤ (c.toNat : Int) := by omega
          have a2 : decide (48 ≤ (c.toNat : Int)) = false := by simp; omega
          have b2 : ¬ 48 ≤ (c.toNat : Int) := by omega
          have a4 : ((c.toNat : Int) == 45) = true := by simp; omega
          have b4 : (c.toNat : Int) = 45 := by omega
          clear hx
          go_wp2
          go_round
          case rel => exact ⟨i + 1, by go_num, by omega, HS⟩
          case measure => simp [intOf]; omega
        · have a0 : decide (97 ≤ (c.toNat : Int)) = false := by simp; omega
          have b0 : ¬ 97 ≤ (c.toNat : Int) := by omega
          have a2 : decide (48 ≤ (c.toNat : Int)) = false := by simp; omega
          have b2 : ¬ 48 ≤ (c.toNat : Int) := by omega
          have a4 : ((c.toNat : Int) == 45) = false := by simp; omega
          have b4 : ¬ (c.toNat : Int) = 45 := by omega
          have a5 : ((c.toNat : Int) == 46) = true := by simp; omega
          have b5 : (c.toNat : Int) = 46 := by omega
          clear hx
          go_wp2
          go_round
          case rel => exact ⟨i + 1, by go_num, by omega, HS⟩
          case measure => simp [intOf]; omega
      · have HN := hide (show rightB l = false by unfold rightB; rw [← HK.out, hst, ho]; simp)
        clear hst ho HK
        rcases hcase with hx | hx | hx
        · have a0 : decide (97 ≤ (c.toNat : Int)) = false := by simp; omega
          have b0 : ¬ 97 ≤ (c.toNat : Int) := by omega
          have a2 : decide (48 ≤ (c.toNat : Int)) = false := by simp; omega
          have b2 : ¬ 48 ≤ (c.toNat : Int) := by omega
          have a4 : ((c.toNat : Int) == 45) = false := by simp; omega
          have b4 : ¬ (c.toNat : Int) = 45 := by omega
          have a5 : ((c.toNat : Int) == 46) = false := by simp; omega
          have b5 : ¬ (c.toNat : Int) = 46 := by omega
          clear hx
          go_wp2
          go_ret
          exact ⟨by rw [HN.out]; rfl, rfl⟩
        · have a0 : decide (97 ≤ (c.toNat : Int)) = false := by simp; omega
          have b0 : ¬ 97 ≤ (c.toNat : Int) := by omega
          have a2 : decide (48 ≤ (c.toNat : Int)) = true := by simp; omega
          have b2 : 48 ≤ (c.toNat : Int) := by omega
          have a3 : decide ((c.toNat : Int) ≤ 57) = false := by simp; omega
          have b3 : ¬ (c.toNat : Int) ≤ 57 := by omega
          have a4 : ((c.toNat : Int) == 45) = false := by simp; omega
          have b4 : ¬ (c.toNat : Int) = 45 := by omega
          have a5 : ((c.toNat : Int) == 46) = false := by simp; omega
          have b5 : ¬ (c.toNat : Int) = 46 := by omega
          clear hx
          go_wp2
          go_ret
          exact ⟨by rw [HN.out]; rfl, rfl⟩
        · have a0 : decide (97 ≤ (c.toNat : Int)) = true := by simp; omega
          have b0 : 97 ≤ (c.toNat : Int) := by omega
          have a1 : decide ((c.toNat : Int) ≤ 122) = false := by simp; omega
          have b1 : ¬ (c.toNat : Int) ≤ 122 := by omega
          have a2 : decide (48 ≤ (c.toNat : Int)) = true := by simp; omega
          have b2 : 48 ≤ (c.toNat : Int) := by omega
          have a3 : decide ((c.toNat : Int) ≤ 57) = false := by simp; omega
          have b3 : ¬ (c.toNat : Int) ≤ 57 := by omega
          have a4 : ((c.toNat : Int) == 45) = false := by simp; omega
          have b4 : ¬ (c.toNat : Int) = 45 := by omega
          have a5 : ((c.toNat : Int) == 46) = false := by simp; omega
          have b5 : ¬ (c.toNat : Int) = 46 := by omega
          clear hx
          go_wp2
          go_ret
          exact ⟨by rw [HN.out]; rfl, rfl⟩
    · obtain rfl : i = l.length := by omega
      have hall := HK.out
      rw [List.drop_length, List.all_nil] at hall
      have HB : Hid (rightB l = (decide (1 ≤ l.length) && decide (l.length ≤ 24))) := by
        show rightB l = _
        unfold rightB
        rw [← hall]
        rfl
      clear hall HK
      by_cases h1 : 1 ≤ l.length
      · have g1 : decide (1 ≤ (l.length : Int)) = true := decide_eq_true (by omega)
        have g2 : 1 ≤ (l.length : Int) := by omega
        by_cases h2 : l.length ≤ 24
        · have g3 : decide ((l.length : Int) ≤ 24) = true := by simp; omega
          have g4 : (l.length : Int) ≤ 24 := by omega
          go_wp2
          go_ret
          exact ⟨by rw [HB.out, decide_eq_true h1, decide_eq_true h2]; rfl, rfl⟩
        · have g3 : decide ((l.length : Int) ≤ 24) = false := by simp; omega
          have g4 : ¬ (l.length : Int) ≤ 24 := by omega
          go_wp2
          go_ret
          exact ⟨by rw [HB.out, decide_eq_true h1, decide_eq_false h2]; rfl, rfl⟩
      · have g1 : decide (1 ≤ (l.length : Int)) = false := decide_eq_false (by omega)
        have g2 : ¬ 1 ≤ (l.length : Int) := by omega
        go_wp2
        go_ret
        exact ⟨by rw [HB.out, decide_eq_false h1]; rfl, rfl⟩

set_option maxRecDepth 20000 in
set_option maxHeartbeats 4000000 in
theorem right_any (l : List UInt8) (w : World) (hs : l.length ≤ 1000000000) : Calls Tryz.prog 31 #[.string ⟨l.toArray⟩] w fun e w' => e = .returned (.bool (rightB l)) ∧ w' = w := by
  go_enter Tryz.func31, Tryz.ntmps31
  go_wp2
  go_loop [3] (fun k => ∃ i : Nat, k = .int .i64 i ∧ i ≤ l.length ∧ Hid ((l.drop i).all okC = l.all okC)) (fun k => l.length - (intOf k).toNat)
  case atStart => exact ⟨0, rfl, Nat.zero_le _, rfl⟩
  case round =>
    obtain ⟨i, rfl, hi, HK⟩ := hrel
    by_cases hlt : i < l.length
    · have hlt' : (i : Int) < l.length := by omega
      obtain ⟨c, hc, hcs⟩ := at_str l i hlt
      have hst := all_drop l i hlt
      rw [hc] at hst
      clear hc
      rcases okC_cases c with ⟨ho, hcase⟩ | ⟨ho, hcase⟩
      · have HS := hide (show (l.drop (i + 1)).all okC = l.all okC by rw [← HK.out, hst, ho]; simp)
        clear hst ho HK
        rcases hcase with hx | hx | hx | hx
        · have a0 : decide (97 ≤ (c.toNat : Int)) = true := by simp; omega
          have b0 : 97 ≤ (c.toNat : Int) := by omega
          have a1 : decide ((c.toNat : Int) ≤ 122) = true := by simp; omega
          have b1 : (c.toNat : Int) ≤ 122 := by omega
          clear hx
          go_wp2
          go_round
          case rel => exact ⟨i + 1, by go_num, by omega, HS⟩
          case measure => simp [intOf]; omega
        · have a0 : decide (97 ≤ (c.toNat : Int)) = false := by simp; omega
          have b0 : ¬ 97 ≤ (c.toNat : Int) := by omega
          have a2 : decide (48 ≤ (c.toNat : Int)) = true := by simp; omega
          have b2 : 48 ≤ (c.toNat : Int) := by omega
          have a3 : decide ((c.toNat : Int) ≤ 57) = true := by simp; omega
          have b3 : (c.toNat : Int) ≤ 57 := by omega
          clear hx
          go_wp2
          go_round
          case rel => exact ⟨i + 1, by go_num, by omega, HS⟩
          case measure => simp [intOf]; omega
        · have a0 : decide (97 ≤ (c.toNat : Int)) = false := by simp; omega
          have b0 : ¬ 97 ≤ (c.toNat : Int) := by omega
          have a2 : decide (48 ≤ (c.toNat : Int)) = false := by simp; omega
          have b2 : ¬ 48 ≤ (c.toNat : Int) := by omega
          have a4 : ((c.toNat : Int) == 45) = true := by simp; omega
          have b4 : (c.toNat : Int) = 45 := by omega
          clear hx
          go_wp2
          go_round
          case rel => exact ⟨i + 1, by go_num, by omega, HS⟩
          case measure => simp [intOf]; omega
        · have a0 : decide (97 ≤ (c.toNat : Int)) = false := by simp; omega
          have b0 : ¬ 97 ≤ (c.toNat : Int) := by omega
          have a2 : decide (48 ≤ (c.toNat : Int)) = false := by simp; omega
          have b2 : ¬ 48 ≤ (c.toNat : Int) := by omega
          have a4 : ((c.toNat : Int) == 45) = false := by simp; omega
          have b4 : ¬ (c.toNat : Int) = 45 := by omega
          have a5 : ((c.toNat : Int) == 46) = true := by simp; omega
          have b5 : (c.toNat : Int) = 46 := by omega
          clear hx
          go_wp2
          go_round
          case rel => exact ⟨i + 1, by go_num, by omega, HS⟩
          case measure => simp [intOf]; omega
      · have HN := hide (show rightB l = false by unfold rightB; rw [← HK.out, hst, ho]; simp)
        clear hst ho HK
        rcases hcase with hx | hx | hx
        · have a0 : decide (97 ≤ (c.toNat : Int)) = false := by simp; omega
          have b0 : ¬ 97 ≤ (c.toNat : Int) := by omega
          have a2 : decide (48 ≤ (c.toNat : Int)) = false := by simp; omega
          have b2 : ¬ 48 ≤ (c.toNat : Int) := by omega
          have a4 : ((c.toNat : Int) == 45) = false := by simp; omega
          have b4 : ¬ (c.toNat : Int) = 45 := by omega
          have a5 : ((c.toNat : Int) == 46) = false := by simp; omega
          have b5 : ¬ (c.toNat : Int) = 46 := by omega
          clear hx
          go_wp2
          go_ret
          exact ⟨by rw [HN.out]; rfl, rfl⟩
        · have a0 : decide (97 ≤ (c.toNat : Int)) = false := by simp; omega
          have b0 : ¬ 97 ≤ (c.toNat : Int) := by omega
          have a2 : decide (48 ≤ (c.toNat : Int)) = true := by simp; omega
          have b2 : 48 ≤ (c.toNat : Int) := by omega
          have a3 : decide ((c.toNat : Int) ≤ 57) = false := by simp; omega
          have b3 : ¬ (c.toNat : Int) ≤ 57 := by omega
          have a4 : ((c.toNat : Int) == 45) = false := by simp; omega
          have b4 : ¬ (c.toNat : Int) = 45 := by omega
          have a5 : ((c.toNat : Int) == 46) = false := by simp; omega
          have b5 : ¬ (c.toNat : Int) = 46 := by omega
          clear hx
          go_wp2
          go_ret
          exact ⟨by rw [HN.out]; rfl, rfl⟩
        · have a0 : decide (97 ≤ (c.toNat : Int)) = true := by simp; omega
          have b0 : 97 ≤ (c.toNat : Int) := by omega
          have a1 : decide ((c.toNat : Int) ≤ 122) = false := by simp; omega
          have b1 : ¬ (c.toNat : Int) ≤ 122 := by omega
          have a2 : decide (48 ≤ (c.toNat : Int)) = true := by simp; omega
          have b2 : 48 ≤ (c.toNat : Int) := by omega
          have a3 : decide ((c.toNat : Int) ≤ 57) = false := by simp; omega
          have b3 : ¬ (c.toNat : Int) ≤ 57 := by omega
          have a4 : ((c.toNat : Int) == 45) = false := by simp; omega
          have b4 : ¬ (c.toNat : Int) = 45 := by omega
          have a5 : ((c.toNat : Int) == 46) = false := by simp; omega
          have b5 : ¬ (c.toNat : Int) = 46 := by omega
          clear hx
          go_wp2
          go_ret
          exact ⟨by rw [HN.out]; rfl, rfl⟩
    · obtain rfl : i = l.length := by omega
      have hall := HK.out
      rw [List.drop_length, List.all_nil] at hall
      have HB : Hid (rightB l = (decide (1 ≤ l.length) && decide (l.length ≤ 24))) := by
        show rightB l = _
        unfold rightB
        rw [← hall]
        rfl
      clear hall HK
      by_cases h1 : 1 ≤ l.length
      · have g1 : decide (0 < (l.length : Int)) = true := decide_eq_true (by omega)
        have g2 : 0 < (l.length : Int) := by omega
        by_cases h2 : l.length ≤ 24
        · have g3 : decide ((l.length : Int) ≤ 24) = true := by simp; omega
          have g4 : (l.length : Int) ≤ 24 := by omega
          go_wp2
          go_ret
          exact ⟨by rw [HB.out, decide_eq_true h1, decide_eq_true h2]; rfl, rfl⟩
        · have g3 : decide ((l.length : Int) ≤ 24) = false := by simp; omega
          have g4 : ¬ (l.length : Int) ≤ 24 := by omega
          go_wp2
          go_ret
          exact ⟨by rw [HB.out, decide_eq_true h1, decide_eq_false h2]; rfl, rfl⟩
      · have g1 : decide (0 < (l.length : Int)) = false := decide_eq_false (by omega)
        have g2 : ¬ 0 < (l.length : Int) := by omega
        go_wp2
        go_ret
        exact ⟨by rw [HB.out, decide_eq_false h1]; rfl, rfl⟩
end Go.Proofs.YtcbkmcagnmpifaaGreatDoor

end
section
namespace Go.Proofs.YtcbkmcagnmpifaaGreatDoor
open Go.RowKit Go.Maps
theorem strKeyed : Keyed Tryz.prog 9 := string_keyed Tryz.underlying9
theorem intKeyed : Keyed Tryz.prog 3 := int_keyed Tryz.underlying3
theorem zeroPtr (w : World) : (zeroValue 88).run Tryz.prog w = .ok (.pointer none) w := by kernel_rfl
theorem keyStr (l : List UInt8) (h : l.length ≤ 1000000000) : keyOf Tryz.prog 9 (.string ⟨l.toArray⟩) = some (.string l) := by
  have := WideMaps.keyOf_string_mk (P := Tryz.prog) (k := 9) (s := ⟨l.toArray⟩) Tryz.underlying9 (by show l.toArray.size ≤ maxLen; simp [maxLen]; omega)
  simpa using this
set_option maxHeartbeats 1000000 in
theorem setQuota_ok (w : World) (d : Nat) (v0 v1 v2 v3 v4 v5 v6 v7 v8 v9 v10 : Value) (q : Int) (hk : Blk w d #[v0, v1, v2, v3, v4, v5, v6, v7, v8, v9, v10] 77) (h0 : 0 ≤ q) (h1 : q ≤ 1073741824) :
    Calls Tryz.prog 36 #[pv d, .int .i64 q] w fun e w' => e = .returned .nilIface ∧ w' = w.setCell ⟨d, 10, none⟩ (.int .i64 q) := by
  have hc := hk.cell
  have hf := hk.frozen
  have g0 : decide (q < 0) = false := decide_eq_false (by omega)
  have g1 : decide (1073741824 < q) = false := decide_eq_false (by omega)
  have g2 : ¬ q < 0 := by omega
  clear hk h1
  unfold pv
  go_enter Tryz.func36, Tryz.ntmps36
  go_wp2
  go_ret
  exact ⟨rfl, rfl⟩
def emptySt (q : Int) : St := ⟨.map [], .map [], .map [], 0, [], fun _ => none, 0, 0, 0, -1, false, q, 0⟩
def newRole (n : Nat) (k : Nat) : Option Role := if k = n then some .names else if k = n + 1 then some .sure else if k = n + 2 then some .changed else if k = n + 3 then some .disk else none
set_option maxHeartbeats 1000000 in
theorem new_any (w0 w : World) (q : Int) (h0 : 0 ≤ q) (h1 : q ≤ 1073741824) (hb : Below w0.heap.size w0 w) :
    Calls Tryz.prog 17 #[.int .i64 q] w fun e w' => e = .returned (.tuple #[pv (w.heap.size + 3), .nilIface]) ∧ Below w.heap.size w w' ∧ DK w0 w' (w.heap.size + 3) (newRole w.heap.size) (emptySt q) := by
  have hmm := @run_makeMap Tryz.prog
  have HB := hide hb
  clear hb
  go_enter Tryz.func17, Tryz.ntmps17
  go_wp2_with fail
  have HK := Blk.new (((w.alloc (.map #[] 0)).alloc (.map #[] 0)).alloc (.map #[] 0)) #[.map (some w.heap.size), .map (some (w.heap.size + 1)), .slice none 0 0, .map (some (w.heap.size + 1 + 1)), .slice none 0 0, .int .i64 0, .int .i64 0, .int .i64 0, .int .i64 (-1), .bool false, .int .i64 0] 77
  simp only [World.size_alloc] at HK
  refine (setQuota_ok _ _ _ _ _ _ _ _ _ _ _ _ _ q HK h0 h1).mono ?_
  rintro e w1 ⟨rfl, hw1⟩
  replace hw1 := hide hw1
  replace HK := hide HK
  go_wp2
  go_ret2
  replace HK := HK.out
  obtain rfl := hw1.out
  clear hw1
  have hbl : Below w.heap.size w (((((w.alloc (.map #[] 0)).alloc (.map #[] 0)).alloc (.map #[] 0)).alloc (.cells #[.map (some w.heap.size), .map (some (w.heap.size + 1)), .slice none 0 0, .map (some (w.heap.size + 1 + 1)), .slice none 0 0, .int .i64 0, .int .i64 0, .int .i64 0, .int .i64 (-1), .bool false, .int .i64 0] 77)).setCell ⟨w.heap.size + 1 + 1 + 1, 10, none⟩ (.int .i64 q)) := by
    have h := (((((Below.refl w.heap.size w).alloc (Nat.le_refl _) (.map #[] 0)).alloc (by simp) (.map #[] 0)).alloc (by simp; omega) (.map #[] 0)).alloc (by simp; omega) (.cells #[.map (some w.heap.size), .map (some (w.heap.size + 1)), .slice none 0 0, .map (some (w.heap.size + 1 + 1)), .slice none 0 0, .int .i64 0, .int .i64 0, .int .i64 0, .int .i64 (-1), .bool false, .int .i64 0] 77))
    exact below_mvs h ((Mvs.refl (fun k => k = w.heap.size + 1 + 1 + 1) _).setCell _ _ (fun _ => rfl)) (fun k hk e => by omega) (Nat.le_refl _)
  refine ⟨rfl, hbl, w.heap.size, w.heap.size + 1, w.heap.size + 2, .slice none 0 0, .slice none 0 0, none, none, [], ?_⟩
  have hB := HB.out
  have hsz := hB.size
  have n1 : ((w.alloc (.map #[] 0)).heap.size) = w.heap.size + 1 := by simp
  have n2 : (((w.alloc (.map #[] 0)).alloc (.map #[] 0)).heap.size) = w.heap.size + 2 := by simp
  have r3 : newRole w.heap.size (w.heap.size + 3) = some .disk := by simp [newRole]
  have r0 : newRole w.heap.size w.heap.size = some .names := by simp [newRole]
  have r1 : newRole w.heap.size (w.heap.size + 1) = some .sure := by simp [newRole]
  have r2 : newRole w.heap.size (w.heap.size + 2) = some .changed := by simp [newRole]
  have m0 := World.ownsMap_made w Tryz.prog 9 ptrElem
  have m1 := World.ownsMap_made (w.alloc (.map #[] 0)) Tryz.prog 9 ptrElem
  have m2 := World.ownsMap_made ((w.alloc (.map #[] 0)).alloc (.map #[] 0)) Tryz.prog 3 ptrElem
  rw [n1] at m1
  rw [n2] at m2
  exact {
    below := hB.trans (hbl.mono hsz)
    low := fun k r hr => by
      unfold newRole at hr
      simp
      split at hr
      · omega
      · split at hr
        · omega
        · split at hr
          · omega
          · split at hr
            · omega
            · cases hr
    blk := HK.set 10 _
    rd := r3
    rn := r0
    rs := r1
    rc := r2
    names := (((m0.alloc _).alloc _).alloc _).setCell (by simp; omega) _
    sure := ((m1.alloc _).alloc _).setCell (by simp) _
    chg := (m2.alloc _).setCell (by simp) _
    row := Rw.nil _ _
    rsteps := fun _ h => by cases h
    lost := Rw.nil _ _
    rlost := fun _ h => by cases h
    files := fun _ _ h => by cases h
    vD := fun kl b h => by simp [emptySt, DataW.atKey, pd] at h
    eD := fun _ h => by cases h }

section
variable (w0 w : World) (d : Nat) (ρ : Nat → Option Role) (s : St)
set_option maxHeartbeats 1000000 in
/-- A name that is there. -/
theorem find_there (h : DK w0 w d ρ s) (hoff : s.off = false) (name : List UInt8) (hr : rightB name = true) (f : Nat) (hf : s.D.atKey (.string name) .nil = pd f) :
    Calls Tryz.prog 83 #[pv d, .string ⟨name.toArray⟩] w fun e w' => e = .returned (.tuple #[pv f, .nilIface]) ∧ w' = w := by
  obtain ⟨bn, bs, bc, vs, vl, Gs, Gl, cs, h⟩ := h
  have hn : name.length ≤ 24 := by
    unfold rightB at hr
    simp at hr
    exact hr.2.2
  have hc := h.blk.cell
  rw [hoff] at hc
  have hl := look_there h.names strKeyed Tryz.underlying72 (zeroPtr w) (keyStr name (by omega)) hf
  have HI := hide (isRight_any name w (by omega))
  rw [hr] at HI
  clear h hf hn
  unfold pv at *
  go_enter Tryz.func83, Tryz.ntmps83
  go_wp2_with (go_at_call 117; refine HI.out.mono ?_; rintro e w' ⟨rfl, rfl⟩)
  go_ret2
  exact ⟨rfl, rfl⟩
set_option maxHeartbeats 1000000 in
/-- A name that is not there. -/
theorem find_none (a : Nat → Addr) (hE : Errs w0 a) (h : DK w0 w d ρ s) (hoff : s.off = false) (name : List UInt8) (hr : rightB name = true) (hf : s.D.atKey (.string name) .nil = .nil) :
    Calls Tryz.prog 83 #[pv d, .string ⟨name.toArray⟩] w fun e w' => e = .returned (.tuple #[.pointer none, errV a 4]) ∧ ∃ m, w' = w.drewN m := by
  have hce := (hE.below h.below).cell 4 (by decide)
  obtain ⟨bn, bs, bc, vs, vl, Gs, Gl, cs, h⟩ := h
  have hn : name.length ≤ 24 := by
    unfold rightB at hr
    simp at hr
    exact hr.2.2
  have hc := h.blk.cell
  rw [hoff] at hc
  have hl := look_none h.names strKeyed Tryz.underlying72 (zeroPtr w) (keyStr name (by omega)) hf
  have HI := hide (isRight_any name w (by omega))
  rw [hr] at HI
  have hg4 : w.cell? ⟨4, 0, none⟩ = some (errV a 4) := hce
  clear h hf hn hce hE
  unfold pv errV at *
  go_enter Tryz.func83, Tryz.ntmps83
  go_wp2_with (go_at_call 117; refine HI.out.mono ?_; rintro e w' ⟨rfl, rfl⟩)
  go_quiet (fail)
  go_wp2
  go_ret2
  exact ⟨rfl, _, rfl⟩
set_option maxHeartbeats 1000000 in
/-- A name that is not right. -/
theorem find_wrong (a : Nat → Addr) (hE : Errs w0 a) (h : DK w0 w d ρ s) (hoff : s.off = false) (name : List UInt8) (hn : name.length ≤ 1000000000) (hr : rightB name = false) :
    Calls Tryz.prog 83 #[pv d, .string ⟨name.toArray⟩] w fun e w' => e = .returned (.tuple #[.pointer none, errV a 3]) ∧ ∃ m, w' = w.drewN m := by
  have hce := (hE.below h.below).cell 3 (by decide)
  obtain ⟨bn, bs, bc, vs, vl, Gs, Gl, cs, h⟩ := h
  have hc := h.blk.cell
  rw [hoff] at hc
  have HI := hide (isRight_any name w hn)
  rw [hr] at HI
  have hg4 : w.cell? ⟨3, 0, none⟩ = some (errV a 3) := hce
  clear h hn hce hE
  unfold pv errV at *
  go_enter Tryz.func83, Tryz.ntmps83
  go_wp2_with (go_at_call 117; refine HI.out.mono ?_; rintro e w' ⟨rfl, rfl⟩)
  go_quiet (fail)
  go_wp2
  go_ret2
  exact ⟨rfl, _, rfl⟩
end
/-- The count of steps, where the power is not armed. -/
theorem takeStep_free (w : World) (d : Nat) (v0 v1 v2 v3 v4 v5 v6 v9 v10 : Value) (n m : Int) (hk : Blk w d #[v0, v1, v2, v3, v4, v5, v6, .int .i64 n, .int .i64 m, v9, v10] 77) (hm : m < 0) (hn : 0 ≤ n) (hn2 : n ≤ 1000000000) :
    Calls Tryz.prog 60 #[pv d] w fun e w' => e = .returned .nilIface ∧ w' = w.setCell ⟨d, 7, none⟩ (.int .i64 (n + 1)) := by
  have hc := hk.cell
  have hf := hk.frozen
  have g0 : (m == 0) = false := by simp; omega
  have g1 : ¬ m = 0 := by omega
  have g2 : decide (0 < m) = false := decide_eq_false (by omega)
  have g3 : ¬ 0 < m := by omega
  clear hk
  unfold pv
  go_enter Tryz.func60, Tryz.ntmps60
  go_wp2
  go_ret
  exact ⟨rfl, rfl⟩
end Go.Proofs.YtcbkmcagnmpifaaGreatDoor

end
