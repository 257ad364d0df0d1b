/- HeaderCounts: as many fields are told as may be. -/
import Derived.Test.YtgmdpjncgdojbaaDoorHs2
import Derived.Test.YtgmdpjncgdojbaaDoorHMath2
namespace Go.Proofs.YtgmdpjncgdojbaaDoor
open Go.RowKit Go.Shelf
theorem many_of (x : Int) : ∃ k : Nat, wrap64 ((IntKind.u64.wrap x).tmod 300) = (k : Int) ∧ k < 300 := by
  obtain ⟨u, hu⟩ : ∃ u, IntKind.u64.wrap x = u := ⟨_, rfl⟩
  have h0 : 0 ≤ u := by
    rw [← hu]
    simp only [IntKind.wrap, IntKind.signed, IntKind.bits]
    exact Int.emod_nonneg _ (by decide)
  rw [hu, Int.tmod_eq_emod_of_nonneg h0]
  have h1 : 0 ≤ u % 300 := Int.emod_nonneg _ (by decide)
  have h2 : u % 300 < 300 := Int.emod_lt_of_pos _ (by decide)
  generalize u % 300 = y at *
  refine ⟨y.toNat, ?_, by omega⟩
  unfold wrap64
  omega
theorem rep_next (i : Nat) : (List.replicate i abL).flatten ++ abL = (List.replicate (i + 1) abL).flatten := by
  rw [List.replicate_succ', List.flatten_append]
  simp
theorem two_lit (l : List UInt8) (a b : List UInt8) (h : a = b) : (⟨l.toArray⟩ : ByteArray) ++ ⟨a.toArray⟩ = ⟨(l ++ b).toArray⟩ := by
  subst h
  exact cat_lit l a
set_option maxRecDepth 20000 in
set_option maxHeartbeats 1000000 in
theorem hcounts_walk (x : Int) (w : World) (ea : Addr) (hE : EF w ea) : Calls Tryd.prog 8 #[.int .i64 x] w fun e w' => e = .returned (.bool true) ∧ Below w.heap.size w w' := by
  have HA := hide alive_yes
  have HEr := hide hE
  clear hE
  go_enter Tryd.func8, Tryd.ntmps8
  go_wp2_with fail
  refine (HA.out _).mono ?_
  rintro e w1 ⟨rfl, hb1⟩
  have HE1 := hide (HEr.out.below hb1)
  replace hb1 := hide hb1
  go_wp2
  obtain ⟨k, hk, hk3⟩ := many_of x
  rw [hk]
  generalize IntKind.u64.wrap x = u
  clear hk
  go_loopw [3, 13] (fun v3 v13 wr => wr = w1 ∧ ∃ i : Nat, i ≤ k ∧ v13 = .int .i64 i ∧ v3 = .string ⟨((List.replicate i abL).flatten).toArray⟩) (fun _ v13 _ => k - (intOf v13).toNat)
  case atStart => exact ⟨rfl, 0, Nat.zero_le _, rfl, rfl⟩
  case round =>
    obtain ⟨hwr, i, hik, rfl, rfl⟩ := hrel
    subst hwr
    have hfl := flat_ab i
    by_cases hlt : i < k
    · have hlt' : (i : Int) < k := by omega
      have e1 : (⟨((List.replicate i abL).flatten).toArray⟩ : ByteArray) ++ ⟨#[97, 58, 32, 98, 13, 10]⟩ = ⟨((List.replicate (i + 1) abL).flatten).toArray⟩ := by
        rw [← rep_next]
        exact cat_lit _ abL
      have hsz := size_lit (List.replicate i abL).flatten
      rw [hfl] at hsz
      generalize (List.replicate i abL).flatten = M at *
      generalize hM2 : (List.replicate (i + 1) abL).flatten = M2 at *
      have HM2 := hide hM2
      clear hfl hM2
      go_wp2
      go_roundw
      case rel => exact ⟨trivial, i + 1, by omega, by go_num, by rw [HM2.out]⟩
      case measure => simp [intOf]; omega
    · obtain rfl : i = k := by omega
      have e1 : (⟨((List.replicate i abL).flatten).toArray⟩ : ByteArray) ++ ⟨#[13, 10]⟩ = ⟨((List.replicate i abL).flatten ++ crL).toArray⟩ := cat_lit _ crL
      have hsz := size_lit (List.replicate i abL).flatten
      rw [hfl] at hsz
      have HD := hide (ab_hd i)
      have hml : ((List.replicate i abL).flatten ++ crL).length ≤ 1000000 := by
        rw [List.length_append, hfl]
        show _ + 2 ≤ _
        omega
      have HF := hide (fields_any _ wr ea (fun _ => HE1.out) hml)
      have HB := hide (fun w => body_any _ w hml)
      rw [show bodyL (splitS ((List.replicate i abL).flatten ++ crL)) 0 = 6 * i + 2 from ((hd_body _ _).symm.trans HD.out.2)] at HB
      generalize (List.replicate i abL).flatten = M at *
      generalize M ++ crL = MC at *
      have hml6 : (M.length : Int) = 6 * (i : Int) := by omega
      by_cases h200 : i ≤ 200
      · have g200 : ¬ ((i : Int) > 200) := by omega
        have HFO : Hid (∀ w e w', FOut MC ea w e w' → Below w.heap.size w w' ∧ ∃ A c, e = .returned (.tuple #[.slice A i c, .nilIface])) := fun w e w' h => by
          obtain ⟨hb, (⟨h1, _⟩ | ⟨_, v, rfl, hv⟩)⟩ := h
          · rw [HD.out.1] at h1
            omega
          · obtain ⟨A, c, rfl⟩ := hv.form
            exact ⟨hb, A, c, by rw [HD.out.1]⟩
        clear hfl
        go_wp2_with fail
        refine (HF.out).mono ?_
        rintro e w2 hO
        obtain ⟨hb2, A, c, rfl⟩ := HFO.out _ _ _ hO
        replace hb2 := hide hb2
        clear hO HFO HF
        go_wp2_with fail
        refine (HB.out _).mono ?_
        rintro e w3 ⟨rfl, hw3⟩
        have hb3 : Hid (Below w2.heap.size w2 w3) := by
          rw [hw3]
          exact Below.refl _ _
        clear hw3
        go_wp2
        go_ret
        have k2 := hb1.out.trans (hb2.out.mono hb1.out.size)
        refine ⟨?_, k2.trans (hb3.out.mono k2.size)⟩
        simp
      · have g200 : (i : Int) > 200 := by omega
        have HFO : Hid (∀ w e w', FOut MC ea w e w' → Below w.heap.size w w' ∧ e = .returned (.tuple #[.slice none 0 0, errP ea])) := fun w e w' h => by
          obtain ⟨hb, (⟨_, h1⟩ | ⟨h1, _⟩)⟩ := h
          · exact ⟨hb, h1⟩
          · rw [HD.out.1] at h1
            omega
        clear hfl
        go_wp2_with fail
        refine (HF.out).mono ?_
        rintro e w2 hO
        obtain ⟨hb2, rfl⟩ := HFO.out _ _ _ hO
        unfold errP
        replace hb2 := hide hb2
        clear hO HFO HF
        go_wp2
        go_ret
        exact ⟨rfl, hb1.out.trans (hb2.out.mono hb1.out.size)⟩
end Go.Proofs.YtgmdpjncgdojbaaDoor
