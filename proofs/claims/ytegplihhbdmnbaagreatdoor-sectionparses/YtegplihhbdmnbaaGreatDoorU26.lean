/- The document's Name and Right of sections. -/
import Derived.Test.YtegplihhbdmnbaaGreatDoorU25
set_option linter.unusedVariables false
namespace Go.Proofs.YtegplihhbdmnbaaGreatDoor
open Go.RowKit Go.Shelf
theorem nm_cases (c : UInt8) : (nmB c = true ∧ 33 ≤ c.toNat ∧ c.toNat ≤ 126 ∧ ((c.toNat : Int) == 40) = false ∧ ((c.toNat : Int) == 41) = false ∧ ((c.toNat : Int) == 58) = false ∧ ((c.toNat : Int) == 34) = false ∧ ((c.toNat : Int) == 123) = false ∧ ((c.toNat : Int) == 92) = false) ∨
    (nmB c = false ∧ (c.toNat < 33 ∨ (126 < c.toNat) ∨ c = 40 ∨ c = 41 ∨ c = 58 ∨ c = 34 ∨ c = 123 ∨ c = 92)) := by
  have h : ∀ n, n < 256 → (nmB (UInt8.ofNat n) = true ∧ 33 ≤ (UInt8.ofNat n).toNat ∧ (UInt8.ofNat n).toNat ≤ 126 ∧ (((UInt8.ofNat n).toNat : Int) == 40) = false ∧ (((UInt8.ofNat n).toNat : Int) == 41) = false ∧ (((UInt8.ofNat n).toNat : Int) == 58) = false ∧ (((UInt8.ofNat n).toNat : Int) == 34) = false ∧ (((UInt8.ofNat n).toNat : Int) == 123) = false ∧ (((UInt8.ofNat n).toNat : Int) == 92) = false) ∨
    (nmB (UInt8.ofNat n) = false ∧ ((UInt8.ofNat n).toNat < 33 ∨ (126 < (UInt8.ofNat n).toNat) ∨ UInt8.ofNat n = 40 ∨ UInt8.ofNat n = 41 ∨ UInt8.ofNat n = 58 ∨ UInt8.ofNat n = 34 ∨ UInt8.ofNat n = 123 ∨ UInt8.ofNat n = 92)) := by decide +kernel
  have := h c.toNat (UInt8.toNat_lt c)
  rwa [UInt8.ofNat_toNat] at this
theorem sf_at (l : List UInt8) (i : Nat) (hi : i < l.length) : ∃ c, l[i] = c ∧ ∀ h : i < (⟨l.toArray⟩ : ByteArray).size, (⟨l.toArray⟩ : ByteArray)[i]'h = c := ⟨_, rfl, fun _ => rfl⟩
theorem nme_no {l : List UInt8} {i : Nat} (hi : i < l.length) (h : nmB l[i] = false) : nmeB l = false := by
  unfold nmeB
  have : l.all nmB = false := by
    cases ha : l.all nmB with
    | false => rfl
    | true =>
      rw [List.all_eq_true] at ha
      rw [ha _ (List.getElem_mem hi)] at h
      cases h
  rw [this]
  simp
theorem nme_yes {l : List UInt8} (h : (l.take l.length).all nmB = true) : nmeB l = decide (0 < l.length) := by
  rw [List.take_length] at h
  unfold nmeB
  rw [h]
  cases l <;> simp
set_option maxRecDepth 20000 in
set_option maxHeartbeats 2000000 in
theorem rname_any (l : List UInt8) (w : World) (hl : l.length ≤ 1000000) : Calls Tryz.prog 50 #[.string ⟨l.toArray⟩] w fun e w' => e = .returned (.bool (nmeB l)) ∧ w' = w := by
  have hsz := size_lit l
  go_enter Tryz.func50, Tryz.ntmps50
  go_wp2
  go_loop [3] (fun v => ∃ i : Nat, i ≤ l.length ∧ v = .int .i64 i ∧ Hid ((l.take i).all nmB = true)) (fun v => l.length - (intOf v).toNat)
  case atStart => exact ⟨0, Nat.zero_le _, rfl, rfl⟩
  case round =>
    obtain ⟨i, hi, rfl, HA⟩ := hrel
    by_cases hlt : i < l.length
    · have hlt' : (i : Int) < l.length := by omega
      obtain ⟨c, hc, hat⟩ := sf_at l i hlt
      rcases nm_cases c with ⟨hn, k1, k2, k3, k4, k5, k6, k7, k8⟩ | ⟨hn, hk⟩
      · have HN : Hid ((l.take (i + 1)).all nmB = true) := by
          show _ = _
          rw [List.take_succ_eq_append_getElem hlt, List.all_append, HA.out, hc]
          simp [hn]
        have q1 : ¬ (c.toNat : Int) < 33 := by omega
        have q2 : ¬ (c.toNat : Int) > 126 := by omega
        clear hc hn
        go_wp2
        go_round
        case rel => exact ⟨i + 1, by omega, by go_num, HN⟩
        case measure => simp [intOf]; omega
      · have HV : Hid (nmeB l = false) := nme_no hlt (hc ▸ hn)
        clear hc hn HA
        rcases hk with hk | hk | hk | hk | hk | hk | hk | hk
        · have q1 : (c.toNat : Int) < 33 := by omega
          go_wp2
          go_ret
          exact ⟨by rw [HV.out]; rfl, rfl⟩
        · have q1 : ¬ (c.toNat : Int) < 33 := by omega
          have q2 : (c.toNat : Int) > 126 := by omega
          go_wp2
          go_ret
          exact ⟨by rw [HV.out]; rfl, rfl⟩
        all_goals
          subst hk
          go_wp2
          go_ret
          exact ⟨by rw [HV.out]; rfl, rfl⟩
    · obtain rfl : i = l.length := by omega
      have hlt' : ¬ (l.length : Int) < l.length := by omega
      have HV := hide (nme_yes HA.out)
      go_wp2
      go_ret
      exact ⟨by rw [HV.out]; exact ret_b (by simp), rfl⟩
/-- A document's section as a value. -/
theorem rgt_long {p : Spc} (h : 20 < p.path.length ∨ 20 < p.names.length) : rgtB p = false := by
  unfold rgtB
  rcases h with h | h
  · rw [decide_eq_false (by omega : ¬ p.path.length ≤ 20)]
    simp
  · rw [decide_eq_false (by omega : ¬ p.names.length ≤ 20)]
    simp
theorem rgt_num {p : Spc} {i : Nat} (hi : i < p.path.length) (h : numB p.path[i] = false) : rgtB p = false := by
  unfold rgtB
  have : p.path.all numB = false := by
    cases ha : p.path.all numB with
    | false => rfl
    | true =>
      rw [List.all_eq_true] at ha
      rw [ha _ (List.getElem_mem hi)] at h
      cases h
  rw [this]
  simp
theorem rgt_nm {p : Spc} {i : Nat} (hi : i < p.names.length) (h : nmeB p.names[i] = false) : rgtB p = false := by
  unfold rgtB
  have : p.names.all nmeB = false := by
    cases ha : p.names.all nmeB with
    | false => rfl
    | true =>
      rw [List.all_eq_true] at ha
      rw [ha _ (List.getElem_mem hi)] at h
      cases h
  rw [this]
  simp
/-- What is left to ask of the word. -/
def rgtW (p : Spc) : Bool := (lstB p.what == !p.names.isEmpty) && (lstB p.what || p.what == [] || p.what == wHead || p.what == wText || (p.what == wMime && !p.path.isEmpty))
theorem rgt_w {p : Spc} (h1 : p.path.length ≤ 20) (h2 : p.names.length ≤ 20) (h3 : (p.path.take p.path.length).all numB = true) (h4 : (p.names.take p.names.length).all nmeB = true) : rgtB p = rgtW p := by
  rw [List.take_length] at h3 h4
  unfold rgtB rgtW
  rw [decide_eq_true h1, decide_eq_true h2, h3, h4]
  simp
end Go.Proofs.YtegplihhbdmnbaaGreatDoor
