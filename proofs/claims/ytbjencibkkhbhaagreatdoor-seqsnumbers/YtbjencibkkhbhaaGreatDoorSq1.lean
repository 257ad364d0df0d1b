/- The document's Number and Cut of layer 14. -/
import Derived.Test.YtbjencibkkhbhaaGreatDoorMgQMath
import Derived.Test.YtbjencibkkhbhaaGreatDoorHr0
set_option linter.unusedSimpArgs false
set_option linter.unusedVariables false
namespace Go.Proofs.YtbjencibkkhbhaaGreatDoor
open Go.RowKit Go.Shelf
theorem u8_num (c : UInt8) (n : Nat) (hn : n < 256) (h : c ≠ n.toUInt8) : ¬ (c.toNat : Int) = n := by
  intro e
  have e2 : c.toNat = n := by omega
  exact h (UInt8.toNat_inj.1 (by rw [e2]; simp; omega))
set_option maxRecDepth 20000 in
set_option maxHeartbeats 2000000 in
theorem rnumber_any (t : List UInt8) (w : World) (ht : t.length ≤ 1000000) : Calls Tryz.prog 24 #[.string ⟨t.toArray⟩] w fun e w' => e = .returned (.int .i64 (sqN t : Nat)) ∧ w' = w := by
  have hsz := size_lit t
  have HNo : Hid (¬ ((1 ≤ t.length ∧ t.length ≤ 10) ∧ t.head? ≠ some 48 ∧ t.all dgB = true ∧ valD 0 t ≤ 2147483648) → sqN t = 0) := fun h => by
    unfold sqN
    rw [if_neg h]
  by_cases h1 : t.length < 1
  · have h1' : (t.length : Int) < 1 := by omega
    have HV := hide (HNo.out (fun h => by omega))
    go_enter Tryz.func24, Tryz.ntmps24
    go_wp2
    go_ret
    exact ⟨by rw [HV.out]; rfl, rfl⟩
  have h1' : ¬ (t.length : Int) < 1 := by omega
  by_cases h2 : 10 < t.length
  · have h2' : (10 : Int) < t.length := by omega
    have HV := hide (HNo.out (fun h => by omega))
    go_enter Tryz.func24, Tryz.ntmps24
    go_wp2
    go_ret
    exact ⟨by rw [HV.out]; rfl, rfl⟩
  have h2' : ¬ (10 : Int) < t.length := by omega
  have h0s : 0 < t.length := by omega
  have h0s' : (0 : Int) < t.length := by omega
  obtain ⟨d0, hd0, hat0⟩ : ∃ c, t[0] = c ∧ ∀ h : 0 < (⟨t.toArray⟩ : ByteArray).size, (⟨t.toArray⟩ : ByteArray)[0]'h = c := ⟨_, rfl, fun _ => rfl⟩
  have hh : t.head? = some d0 := by rw [List.head?_eq_getElem?, List.getElem?_eq_getElem h0s, hd0]
  by_cases k0 : d0 = 48
  · subst k0
    have HV := hide (HNo.out (fun h => h.2.1 hh))
    clear hh
    go_enter Tryz.func24, Tryz.ntmps24
    go_wp2
    go_ret
    exact ⟨by rw [HV.out]; rfl, rfl⟩
  have b0 : ((d0.toNat : Int) == 48) = false := beq_eq_false_iff_ne.2 (u8_num d0 48 (by omega) k0)
  have HH : Hid (t.head? ≠ some 48) := by show _ ≠ _; rw [hh]; intro e; exact k0 (Option.some.inj e)
  clear hd0 hh
  go_enter Tryz.func24, Tryz.ntmps24
  go_wp2
  go_loopw [3, 4] (fun v3 v4 wr => ∃ (i x : Nat), v4 = .int .i64 i ∧ i ≤ t.length ∧ v3 = .int .i64 x ∧ Hid ((t.take i).all dgB = true) ∧ Hid (x = valD 0 (t.take i)) ∧ w = wr) (fun _ v4 _ => t.length - (intOf v4).toNat)
  case atStart => exact ⟨0, 0, rfl, Nat.zero_le _, rfl, rfl, rfl, rfl⟩
  case round =>
    obtain ⟨i, x, rfl, hi, rfl, Ha, Hx, rfl⟩ := hrel
    have hxb : x < 10000000000 := by rw [Hx.out]; exact valD_max Ha.out (by rw [List.length_take]; omega)
    by_cases hlt : i < t.length
    · have hlt' : (i : Int) < t.length := by omega
      obtain ⟨d, hd, hat⟩ : ∃ c, t[i] = c ∧ ∀ h : i < (⟨t.toArray⟩ : ByteArray).size, (⟨t.toArray⟩ : ByteArray)[i]'h = c := ⟨_, rfl, fun _ => rfl⟩
      by_cases hdg : dgB d = true
      · obtain ⟨l1, l2⟩ : 48 ≤ d.toNat ∧ d.toNat ≤ 57 := by simpa [dgB] using hdg
        have l1' : ¬ (d.toNat : Int) < 48 := by omega
        have l2' : ¬ (57 : Int) < d.toNat := by omega
        have l3 : 0 ≤ (d.toNat : Int) - 48 := by omega
        have l4 : (d.toNat : Int) - 48 ≤ 9 := by omega
        have HA2 : Hid ((t.take (i + 1)).all dgB = true) := by
          show _ = _
          rw [List.take_succ_eq_append_getElem hlt, List.all_append, Ha.out, hd]
          simp [hdg]
        have HX2 : Hid (valD 0 (t.take (i + 1)) = x * 10 + (d.toNat - 48)) := by
          show _ = _
          rw [List.take_succ_eq_append_getElem hlt, valD_snoc, hd, ← Hx.out]
        clear hdg hd
        go_wp2
        go_roundw
        case rel => exact ⟨i + 1, x * 10 + (d.toNat - 48), by go_num, by omega, by go_num, HA2.out, HX2.out.symm, trivial⟩
        case measure => simp [intOf] <;> omega
      · have HV := hide (HNo.out (fun h => hdg (by rw [← hd]; exact List.all_eq_true.1 h.2.2.1 _ (List.getElem_mem hlt))))
        clear hd
        by_cases hlow : d.toNat < 48
        · have l1' : (d.toNat : Int) < 48 := by omega
          go_wp2
          go_ret
          exact ⟨by rw [HV.out]; rfl, rfl⟩
        · have l1' : ¬ (d.toNat : Int) < 48 := by omega
          have l2' : (57 : Int) < d.toNat := by
            simp [dgB] at hdg
            have := hdg (by omega)
            omega
          go_wp2
          go_ret
          exact ⟨by rw [HV.out]; rfl, rfl⟩
    · obtain rfl : i = t.length := by omega
      have ha := Ha.out
      have hx := Hx.out
      rw [List.take_length] at ha hx
      by_cases hbig : x ≤ 2147483648
      · have hbig' : ¬ (2147483648 : Int) < x := by omega
        have HV : Hid (sqN t = x) := by
          show _ = _
          unfold sqN
          rw [if_pos ⟨⟨by omega, by omega⟩, HH.out, ha, by rw [← hx]; exact hbig⟩, hx]
        clear ha hx
        go_wp2
        go_ret
        exact ⟨by rw [HV.out]; rfl, rfl⟩
      · have hbig' : (2147483648 : Int) < x := by omega
        have HV := hide (HNo.out (fun h => hbig (by rw [hx]; exact h.2.2.2)))
        clear ha hx
        go_wp2
        go_ret
        exact ⟨by rw [HV.out]; rfl, rfl⟩
theorem slice_sq (s : List UInt8) (b e : Nat) (h1 : b ≤ e) (h2 : e ≤ s.length) (w : World) : (Instr.slice 9 (.string ⟨s.toArray⟩) (some (.int .i64 (b : Int))) (some (.int .i64 (e : Int))) none).run Tryz.prog w = .ok (.string ⟨((s.drop b).take (e - b)).toArray⟩) w := by
  have := run_slice_string (P := Tryz.prog) w 9 ⟨s.toArray⟩ .i64 .i64 (b : Int) (e : Int) Tryz.underlying9 (by omega) (by omega) (by rw [size_lit]; omega)
  rw [this]
  rw [show ((b : Int)).toNat = b from by omega, show ((e : Int)).toNat = e from by omega, ext_mid s b e]
set_option maxRecDepth 20000 in
set_option maxHeartbeats 2000000 in
theorem rcut_any (s : List UInt8) (c : UInt8) (w : World) (hs : s.length ≤ 1000000) : Calls Tryz.prog 28 #[.string ⟨s.toArray⟩, .int .u8 (c.toNat : Nat)] w fun e w' => ∃ v, e = .returned v ∧ Texts w w' v (spc c s) := by
  have hsz := size_lit s
  obtain ⟨i0, hi, hz0, hz1, hz2⟩ := info_three strInfo
  go_enter Tryz.func28, Tryz.ntmps28
  go_wp2
  go_loopw [5, 6, 7] (fun v5 v6 v7 wr => ∃ (i k : Nat) (out : List (List UInt8)), v7 = .int .i64 i ∧ i ≤ s.length + 1 ∧ v6 = .int .i64 k ∧ k ≤ i ∧ out.length ≤ i ∧ Hid (i ≤ s.length → out ++ spc c (s.drop k) = spc c s ∧ ∀ j (hj : j < s.length), k ≤ j → j < i → s[j] ≠ c) ∧ Hid (i = s.length + 1 → out = spc c s) ∧ Hid (Texts w wr v5 out)) (fun _ _ v7 _ => s.length + 1 - (intOf v7).toNat)
  case atStart => exact ⟨0, 0, [], rfl, Nat.zero_le _, rfl, Nat.le_refl _, Nat.le_refl _, (fun _ => ⟨rfl, fun j _ _ h => by omega⟩), (fun h => by omega), (Below.refl _ _).alloc (Nat.le_refl _) _, some w.heap.size, Rw.new (e := 9) [] [] (Blk.new _ _ _) rfl rfl (Nat.le_refl _) (Nat.zero_le _), fun g h => by cases h; exact Nat.le_refl _⟩
  case round =>
    obtain ⟨i, k, out, rfl, hi1, rfl, hki, hol, Hin, Hend, HT⟩ := hrel
    by_cases hle : i ≤ s.length
    · have hle' : (i : Int) ≤ s.length := by omega
      obtain ⟨hb, G, hr, hg⟩ := id HT.out
      obtain ⟨A, cA, rfl⟩ := hr.form
      have HR := hide hr
      have HB := hide hb
      have HG := hide hg
      clear hr hb hg
      have hsl := slice_sq s k i hki hle
      by_cases hE : i = s.length
      · have HN : Hid (out ++ [(s.drop k).take (i - k)] = spc c s) := by
          show _ = _
          obtain ⟨e1, e2⟩ := Hin.out hle
          rw [← e1, cut_last (k := k) (fun j hj hkj => e2 j hj hkj (by omega)), List.take_of_length_le (by rw [List.length_drop]; omega)]
        have hieq : ((i : Int) == (s.length : Int)) = true := beq_iff_eq.2 (by omega)
        clear HT Hin Hend
        generalize (s.drop k).take (i - k) = x at *
        subst hE
        go_wp2_with (at_builtin; refine wpList_append_rw rfl _ _ 56 56 rfl 9 i0 (.string ⟨#[]⟩) 1 16 Tryz.underlying56 hi hz0 hz1 hz2 rfl rfl (HR.out.keep (S := fun _ => False) ((Mvs.refl _ _).alloc _) (fun _ _ c => c)) _ 1 _ rfl (src_one _ Tryz.underlying56) (by simp only [maxLen]; omega) (by omega) ?_)
        intro v4 w4 G4 hr4 hm4 hg4
        have T4 := hide (Texts.grow HB.out HG.out hr4 hm4 (by simpa using hg4))
        clear hr4 hm4 hg4
        go_wp2
        go_roundw
        case rel => exact ⟨s.length + 1, s.length + 1, out ++ [x], by go_num, Nat.le_refl _, by go_num, Nat.le_refl _, by simp; omega, (fun h => by omega), (fun _ => HN.out), T4.out⟩
        case measure => simp [intOf] <;> omega
      · have hlt : i < s.length := by omega
        have hlt' : (i : Int) < s.length := by omega
        have hine : ((i : Int) == (s.length : Int)) = false := beq_eq_false_iff_ne.2 (by omega)
        have hine2 : ¬ (i : Int) = (s.length : Int) := by omega
        obtain ⟨d, hd, hat⟩ : ∃ c, s[i] = c ∧ ∀ h : i < (⟨s.toArray⟩ : ByteArray).size, (⟨s.toArray⟩ : ByteArray)[i]'h = c := ⟨_, rfl, fun _ => rfl⟩
        by_cases hdc : d = c
        · subst hdc
          have HN : Hid ((out ++ [(s.drop k).take (i - k)]) ++ spc d (s.drop (i + 1)) = spc d s) := by
            show _ = _
            obtain ⟨e1, e2⟩ := Hin.out hle
            rw [← e1, cut_hit hki hlt hd (fun j hj h1 h2 => e2 j hj h1 h2)]
            simp
          clear HT Hin Hend hd hE
          generalize (s.drop k).take (i - k) = x at *
          go_wp2_with (at_builtin; refine wpList_append_rw rfl _ _ 56 56 rfl 9 i0 (.string ⟨#[]⟩) 1 16 Tryz.underlying56 hi hz0 hz1 hz2 rfl rfl (HR.out.keep (S := fun _ => False) ((Mvs.refl _ _).alloc _) (fun _ _ c => c)) _ 1 _ rfl (src_one _ Tryz.underlying56) (by simp only [maxLen]; omega) (by omega) ?_)
          intro v4 w4 G4 hr4 hm4 hg4
          have T4 := hide (Texts.grow HB.out HG.out hr4 hm4 (by simpa using hg4))
          clear hr4 hm4 hg4
          go_wp2
          go_roundw
          case rel => exact ⟨i + 1, i + 1, out ++ [x], by go_num, by omega, by go_num, Nat.le_refl _, by simp; omega, (fun _ => ⟨HN.out, fun j _ h1 h2 => by omega⟩), (fun h => by omega), T4.out⟩
          case measure => simp [intOf] <;> omega
        · have bdc : ((d.toNat : Int) == (c.toNat : Int)) = false := beq_eq_false_iff_ne.2 (fun e => hdc (UInt8.toNat_inj.1 (by omega)))
          have bdc2 : ¬ (d.toNat : Int) = (c.toNat : Int) := beq_eq_false_iff_ne.1 bdc
          have HN : Hid (∀ j (hj : j < s.length), k ≤ j → j < i + 1 → s[j] ≠ c) := fun j hj h1 h2 => by
            by_cases hji : j = i
            · subst hji
              rw [hd]
              exact hdc
            · exact (Hin.out hle).2 j hj h1 (by omega)
          have HN1 := hide (Hin.out hle).1
          clear Hin Hend hd hE hsl
          go_wp2
          go_roundw
          case rel => exact ⟨i + 1, k, out, by go_num, by omega, rfl, by omega, by omega, (fun _ => ⟨HN1.out, HN.out⟩), (fun h => by omega), HT.out⟩
          case measure => simp [intOf] <;> omega
    · have hi2 : i = s.length + 1 := by omega
      have HE := hide (Hend.out hi2)
      have hle' : ¬ (i : Int) ≤ s.length := by omega
      have HT2 := HT.out
      rw [HE.out] at HT2
      have HT3 := hide HT2
      clear HT HT2 Hin Hend hi2 HE
      go_wp2
      go_ret
      exact ⟨_, rfl, HT3.out⟩
end Go.Proofs.YtbjencibkkhbhaaGreatDoor
