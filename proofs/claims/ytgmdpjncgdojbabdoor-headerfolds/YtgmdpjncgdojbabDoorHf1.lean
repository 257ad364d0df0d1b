/- HeaderFolds: a value folded at a blank is the value. -/
import Derived.Test.YtgmdpjncgdojbabDoorHs2
import Derived.Test.YtgmdpjncgdojbabDoorHr4
import Derived.Test.YtgmdpjncgdojbabDoorHTx
import Derived.Test.YtgmdpjncgdojbabDoorHMath4
namespace Go.Proofs.YtgmdpjncgdojbabDoor
open Go.RowKit Go.Shelf
theorem rem_of {k r : Nat} (h : k % 3 = r) : (k : Int).tmod 3 = (r : Int) := by
  rw [Int.tmod_eq_emod_of_nonneg (by omega)]
  omega
/-- Behind k words. -/
def FoS (k : Nat) (F T : List UInt8) : Prop := (k = 0 → F = [65, 58, 32] ∧ T = []) ∧ (0 < k → FoW F T)
theorem nbl_next {p : List UInt8} {k : Nat} (hk : k < p.length) (h : (p.take k).all nbB = true) (hc : nbB p[k] = true) : (p.take (k + 1)).all nbB = true := by
  rw [List.take_succ_eq_append_getElem hk, List.all_append, h]
  simp [hc]
set_option maxRecDepth 40000 in
set_option maxHeartbeats 8000000 in
theorem hfolds_walk (v : Value) (xs : List (List UInt8)) (w : World) (hv : TX w v xs) : Calls Tryd.prog 3 #[v] w fun e w' => e = .returned (.bool true) ∧ Below w.heap.size w w' := by
  have HA := hide alive_yes
  obtain ⟨A, c, rfl, hr⟩ := hv
  have HR := hide hr
  clear hr
  by_cases h1 : 1 ≤ xs.length
  · have g1 : decide ((xs.length : Int) < 1) = false := decide_eq_false (by omega)
    by_cases h2 : xs.length ≤ 40
    · have g2 : decide ((xs.length : Int) > 40) = false := decide_eq_false (by omega)
      go_enter Tryd.func3, Tryd.ntmps3
      go_wp2_with fail
      refine (HA.out _).mono ?_
      rintro e w1 ⟨rfl, hb1⟩
      replace hb1 := hide hb1
      go_wp2
      go_loopw [3, 4, 22] (fun v3 v4 v22 wr => ∃ (k : Nat) (F T : List UInt8), k ≤ xs.length ∧ v22 = .int .i64 k ∧ v3 = .string ⟨F.toArray⟩ ∧ v4 = .string ⟨T.toArray⟩ ∧ Hid (FoS k F T) ∧ F.length ≤ 3 + 63 * k ∧ T.length ≤ 61 * k ∧ Hid (Below w.heap.size w wr)) (fun _ _ v22 _ => xs.length - (intOf v22).toNat)
      case atStart => exact ⟨0, [65, 58, 32], [], Nat.zero_le _, rfl, rfl, rfl, ⟨fun _ => ⟨rfl, rfl⟩, fun h => by omega⟩, by decide, by decide, hb1⟩
      case round =>
        obtain ⟨k, F, T, hk, rfl, rfl, rfl, HS, hFl, hTl, HB⟩ := hrel
        have hbs := HB.out.size
        by_cases hlt : k < xs.length
        · obtain ⟨g, o, rfl, hgl, q0⟩ := HR.out k hlt
          have hlt' : (k : Int) < xs.length := by omega
          replace q0 := (HB.out.cell (p := ⟨g, o + k, none⟩) hgl).trans q0
          generalize xs[k] = n at *
          have hnz := size_lit n
          by_cases h3 : n.length ≤ 60
          · have g3 : decide ((n.length : Int) > 60) = false := decide_eq_false (by omega)
            by_cases h0 : n = []
            · subst h0
              go_wp2
              go_ret
              exact ⟨rfl, HB.out⟩
            have h0' : n.isEmpty = false := by simpa using h0
            go_wp2
            go_loopw [36] (fun v36 wq => wr = wq ∧ ∃ j : Nat, j ≤ n.length ∧ v36 = .int .i64 j ∧ Hid ((n.take j).all nbB = true)) (fun v36 _ => n.length - (intOf v36).toNat)
            case atStart => exact ⟨rfl, 0, Nat.zero_le _, rfl, by simp [Hid]⟩
            case round =>
              obtain ⟨hwq, j, hj, rfl, HJ⟩ := hrel
              subst hwq
              by_cases hjl : j < n.length
              · obtain ⟨b, hb, hat⟩ : ∃ b, n[j] = b ∧ ∀ h : j < (⟨n.toArray⟩ : ByteArray).size, (⟨n.toArray⟩ : ByteArray)[j]'h = b := ⟨_, rfl, fun _ => rfl⟩
                have hjl' : (j : Int) < n.length := by omega
                by_cases c1 : (b.toNat : Int) < 33
                · clear hb HS HJ
                  go_wp2
                  go_ret
                  exact ⟨rfl, HB.out⟩
                · by_cases c2 : (b.toNat : Int) > 126
                  · clear hb HS HJ
                    go_wp2
                    go_ret
                    exact ⟨rfl, HB.out⟩
                  · have HJ2 : Hid ((n.take (j + 1)).all nbB = true) := by
                      refine nbl_next hjl HJ.out ?_
                      rw [hb]
                      have h33 : 33 ≤ b.toNat := by omega
                      have h126 : b.toNat ≤ 126 := by omega
                      simp [nbB]
                      exact ⟨h33, h126⟩
                    clear hb HJ
                    go_wp2
                    go_roundw
                    case rel => exact ⟨by trivial, j + 1, by omega, by go_num, HJ2⟩
                    case measure => simp [intOf]; omega
              · obtain rfl : j = n.length := by omega
                have HAll : Hid (n.all nbB = true) := by
                  have := HJ.out
                  rw [List.take_length] at this
                  exact this
                by_cases hk0' : k = 0
                · subst hk0'
                  obtain ⟨hF0, hT0⟩ := HS.out.1 rfl
                  have HW2 := hide (FoW.first h0 HAll.out)
                  rw [← hF0] at HW2
                  have e2 := cat_lit F n
                  have e4 : (⟨T.toArray⟩ : ByteArray) ++ ⟨n.toArray⟩ = ⟨n.toArray⟩ := by
                    rw [hT0, cat_lit]
                    rfl
                  have s1 := size_lit F
                  have s3 := size_lit T
                  have l2 : (F ++ n).length ≤ 3 + 63 * (0 + 1) := by rw [List.length_append]; omega
                  have HL := hide l2
                  generalize F ++ n = F2 at *
                  have HS2 : Hid (FoS (0 + 1) F2 n) := ⟨fun h => by omega, fun _ => HW2.out⟩
                  clear HS HW2 HJ HAll l2 hF0 hT0
                  go_wp2
                  go_roundw
                  case rel => exact ⟨0 + 1, F2, n, by omega, by go_num, rfl, rfl, HS2, HL.out, by omega, HB⟩
                  case measure => simp [intOf]; omega
                · have h00 : 0 < k := by omega
                  have hr0 : k % 3 = 0 ∨ k % 3 = 1 ∨ k % 3 = 2 := by omega
                  rcases hr0 with hr3 | hr3 | hr3
                  · have hrem : (k : Int).tmod 3 = 0 := rem_of hr3
                    have HW2 := hide ((HS.out.2 h00).next 0 h0 HAll.out)
                    rw [show sepR 0 = [13, 10, 32] from rfl] at HW2
                    have e1 : (⟨F.toArray⟩ : ByteArray) ++ ⟨#[13, 10, 32]⟩ = ⟨(F ++ [13, 10, 32]).toArray⟩ := cat_lit F [13, 10, 32]
                    have e2 := cat_lit (F ++ [13, 10, 32]) n
                    have e3 : (⟨T.toArray⟩ : ByteArray) ++ ⟨#[32]⟩ = ⟨(T ++ [32]).toArray⟩ := cat_lit T [32]
                    have e4 := cat_lit (T ++ [32]) n
                    have s1 := size_lit F
                    have s2 := size_lit (F ++ [13, 10, 32])
                    have s3 := size_lit T
                    have s4 := size_lit (T ++ [32])
                    have l1 : (F ++ [13, 10, 32]).length ≤ 3 + 63 * k + 3 := by rw [List.length_append]; show _ + 3 ≤ _; omega
                    have l2 : (F ++ [13, 10, 32] ++ n).length ≤ 3 + 63 * (k + 1) := by rw [List.length_append]; omega
                    have l3 : (T ++ [32]).length ≤ 61 * k + 1 := by rw [List.length_append]; show _ + 1 ≤ _; omega
                    have l4 : (T ++ [32] ++ n).length ≤ 61 * (k + 1) := by rw [List.length_append]; omega
                    have HL := hide (And.intro l2 l4)
                    generalize F ++ [13, 10, 32] = F1 at *
                    generalize F1 ++ n = F2 at *
                    generalize T ++ [32] = T1 at *
                    generalize T1 ++ n = T2 at *
                    have HS2 : Hid (FoS (k + 1) F2 T2) := ⟨fun h => by omega, fun _ => HW2.out⟩
                    have hk0 : (k : Int) > 0 := by omega
                    clear hr3 HS HW2 HJ HAll h00 l2 l4
                    go_wp2
                    go_roundw
                    case rel => exact ⟨k + 1, F2, T2, by omega, by go_num, rfl, rfl, HS2, HL.out.1, HL.out.2, HB.out.alloc HB.out.size _⟩
                    case measure => simp [intOf]; omega
                  · have hrem : (k : Int).tmod 3 = 1 := rem_of hr3
                    have HW2 := hide ((HS.out.2 h00).next 1 h0 HAll.out)
                    rw [show sepR 1 = [32] from rfl] at HW2
                    have e1 : (⟨F.toArray⟩ : ByteArray) ++ ⟨#[32]⟩ = ⟨(F ++ [32]).toArray⟩ := cat_lit F [32]
                    have e2 := cat_lit (F ++ [32]) n
                    have e3 : (⟨T.toArray⟩ : ByteArray) ++ ⟨#[32]⟩ = ⟨(T ++ [32]).toArray⟩ := cat_lit T [32]
                    have e4 := cat_lit (T ++ [32]) n
                    have s1 := size_lit F
                    have s2 := size_lit (F ++ [32])
                    have s3 := size_lit T
                    have s4 := size_lit (T ++ [32])
                    have l1 : (F ++ [32]).length ≤ 3 + 63 * k + 3 := by rw [List.length_append]; show _ + 1 ≤ _; omega
                    have l2 : (F ++ [32] ++ n).length ≤ 3 + 63 * (k + 1) := by rw [List.length_append]; omega
                    have l3 : (T ++ [32]).length ≤ 61 * k + 1 := by rw [List.length_append]; show _ + 1 ≤ _; omega
                    have l4 : (T ++ [32] ++ n).length ≤ 61 * (k + 1) := by rw [List.length_append]; omega
                    have HL := hide (And.intro l2 l4)
                    generalize F ++ [32] = F1 at *
                    generalize F1 ++ n = F2 at *
                    generalize T ++ [32] = T1 at *
                    generalize T1 ++ n = T2 at *
                    have HS2 : Hid (FoS (k + 1) F2 T2) := ⟨fun h => by omega, fun _ => HW2.out⟩
                    have hk0 : (k : Int) > 0 := by omega
                    clear hr3 HS HW2 HJ HAll h00 l2 l4
                    go_wp2
                    go_roundw
                    case rel => exact ⟨k + 1, F2, T2, by omega, by go_num, rfl, rfl, HS2, HL.out.1, HL.out.2, HB.out.alloc HB.out.size _⟩
                    case measure => simp [intOf]; omega
                  · have hrem : (k : Int).tmod 3 = 2 := rem_of hr3
                    have HW2 := hide ((HS.out.2 h00).next 2 h0 HAll.out)
                    rw [show sepR 2 = [10, 32] from rfl] at HW2
                    have e1 : (⟨F.toArray⟩ : ByteArray) ++ ⟨#[10, 32]⟩ = ⟨(F ++ [10, 32]).toArray⟩ := cat_lit F [10, 32]
                    have e2 := cat_lit (F ++ [10, 32]) n
                    have e3 : (⟨T.toArray⟩ : ByteArray) ++ ⟨#[32]⟩ = ⟨(T ++ [32]).toArray⟩ := cat_lit T [32]
                    have e4 := cat_lit (T ++ [32]) n
                    have s1 := size_lit F
                    have s2 := size_lit (F ++ [10, 32])
                    have s3 := size_lit T
                    have s4 := size_lit (T ++ [32])
                    have l1 : (F ++ [10, 32]).length ≤ 3 + 63 * k + 3 := by rw [List.length_append]; show _ + 2 ≤ _; omega
                    have l2 : (F ++ [10, 32] ++ n).length ≤ 3 + 63 * (k + 1) := by rw [List.length_append]; omega
                    have l3 : (T ++ [32]).length ≤ 61 * k + 1 := by rw [List.length_append]; show _ + 1 ≤ _; omega
                    have l4 : (T ++ [32] ++ n).length ≤ 61 * (k + 1) := by rw [List.length_append]; omega
                    have HL := hide (And.intro l2 l4)
                    generalize F ++ [10, 32] = F1 at *
                    generalize F1 ++ n = F2 at *
                    generalize T ++ [32] = T1 at *
                    generalize T1 ++ n = T2 at *
                    have HS2 : Hid (FoS (k + 1) F2 T2) := ⟨fun h => by omega, fun _ => HW2.out⟩
                    have hk0 : (k : Int) > 0 := by omega
                    clear hr3 HS HW2 HJ HAll h00 l2 l4
                    go_wp2
                    go_roundw
                    case rel => exact ⟨k + 1, F2, T2, by omega, by go_num, rfl, rfl, HS2, HL.out.1, HL.out.2, HB.out.alloc HB.out.size _⟩
                    case measure => simp [intOf]; omega
          · have g3 : decide ((n.length : Int) > 60) = true := decide_eq_true (by omega)
            go_wp2
            go_ret
            exact ⟨rfl, HB.out⟩
        · obtain rfl : k = xs.length := by omega
          obtain ⟨E, f, hhd⟩ := folds_hd (HS.out.2 (by omega))
          have HD := hide hhd
          have e1 : (⟨F.toArray⟩ : ByteArray) ++ ⟨#[13, 10, 66, 58, 32, 99, 13, 10, 13, 10]⟩ = ⟨(F ++ [13, 10, 66, 58, 32, 99, 13, 10, 13, 10]).toArray⟩ := cat_lit F [13, 10, 66, 58, 32, 99, 13, 10, 13, 10]
          have s1 := size_lit F
          have l3 : (F ++ [13, 10, 66, 58, 32, 99, 13, 10, 13, 10]).length ≤ 1000000 := by
            rw [List.length_append]
            show _ + 10 ≤ _
            omega
          generalize F ++ [13, 10, 66, 58, 32, 99, 13, 10, 13, 10] = M3 at *
          have HF := hide (fields_any M3 wr ⟨0, 0, none⟩ (fun h => by rw [HD.out] at h; exact absurd h (by simp)) l3)
          have HFO : Hid (∀ w e w', FOut M3 ⟨0, 0, none⟩ w e w' → Below w.heap.size w w' ∧ ∃ v, e = .returned (.tuple #[v, .nilIface]) ∧ Fds w.heap.size w' v [⟨[65], T, 0, E⟩, f]) := fun w e w' h => by
            obtain ⟨hb, (⟨h1, _⟩ | ⟨_, v, rfl, hv⟩)⟩ := h
            · rw [HD.out] at h1
              exact absurd h1 (by simp)
            · rw [HD.out] at hv
              exact ⟨hb, v, rfl, hv⟩
          clear hhd HD HS hk hlt
          go_wp2_with fail
          refine (HF.out).mono ?_
          rintro e w3 hO
          obtain ⟨hb3, u, rfl, hu⟩ := HFO.out _ _ _ hO
          have HB3 := hide (HB.out.trans (hb3.mono HB.out.size))
          obtain ⟨g, o, cap, rfl, q1, q2, q3, q4, _, q5, _, _⟩ := hu.read 0 (by simp)
          obtain ⟨g', o', cap', ev, _, _, _, _, r0, r1, r2, r3⟩ := hu.read 1 (by simp)
          obtain ⟨rfl, rfl, rfl⟩ : g = g' ∧ o = o' ∧ cap = cap' := by
            simp at ev
            exact ⟨ev.1.1, ev.1.2, ev.2⟩
          simp only [List.getElem_cons_zero, List.getElem_cons_succ, List.length_cons, List.length_nil, Nat.zero_add, Nat.reduceAdd, Nat.zero_mul, Nat.one_mul, Nat.add_zero] at q1 q5 r0 r1 r2 r3 ⊢
          have HFR : Hid (∀ W, Below w3.heap.size w3 W → FR W (.slice (some ⟨g, o + 4, none⟩) 1 (cap - 1)) [f]) := fun W hW => by
            refine ⟨some ⟨g, o + 4, none⟩, cap - 1, rfl, fun i hi => ?_⟩
            obtain rfl : i = 0 := by simpa using hi
            refine ⟨g, o + 4, rfl, ?_, ?_, ?_, ?_⟩
            · exact (hW.cell (p := ⟨g, _, none⟩) q4).trans r0
            · exact (hW.cell (p := ⟨g, _, none⟩) q4).trans r1
            · exact (hW.cell (p := ⟨g, _, none⟩) q4).trans r2
            · exact (hW.cell (p := ⟨g, _, none⟩) q4).trans r3
          have HSm : Hid (∀ W, Below w3.heap.size w3 W → Calls Tryd.prog 6 #[.slice (some ⟨g, o + 4, none⟩) 1 (cap - 1), .slice (some ⟨g, o + 4, none⟩) 1 (cap - 1)] W fun e W' => e = .returned (.bool true) ∧ Below W.heap.size W W') := fun W hW =>
            (rsame_yes W (HFR.out W hW) (HFR.out W hW) (by simp)).mono (fun e W' ⟨h1, n, h2⟩ => ⟨h1, by rw [h2]; exact bel_drewN _ _⟩)
          have hn := ext_some w3
          have hc : ∀ (u : Ext w3), u.w.cell? ⟨g, o + 1, none⟩ = some (.string ⟨T.toArray⟩) := fun u => (ext_cell w3 u _ _ q4).trans q5
          clear hO HFO HF hu hb3 ev r0 r1 r2 r3
          go_wp2
          refine wp_region_ext (by kernel_rfl) (by kernel_rfl) ?_
          repeat (go_big_quiet_step ((go_at_call 6; exact ext_call (HSm.out _ (Ext.ok _)))))
          refine wpQuiet_nil ?_
          rintro w4 ⟨⟨_, hb4⟩, rfl⟩
          go_wp2
          go_ret
          exact ⟨by simp, HB3.out.trans (hb4.mono HB3.out.size)⟩
    · have g2 : decide ((xs.length : Int) > 40) = true := decide_eq_true (by omega)
      go_enter Tryd.func3, Tryd.ntmps3
      go_wp2_with fail
      refine (HA.out _).mono ?_
      rintro e w1 ⟨rfl, hb1⟩
      replace hb1 := hide hb1
      go_wp2
      go_ret
      exact ⟨rfl, hb1.out⟩
  · have g1 : decide ((xs.length : Int) < 1) = true := decide_eq_true (by omega)
    go_enter Tryd.func3, Tryd.ntmps3
    go_wp2_with fail
    refine (HA.out _).mono ?_
    rintro e w1 ⟨rfl, hb1⟩
    replace hb1 := hide hb1
    go_wp2
    go_ret
    exact ⟨rfl, hb1.out⟩
end Go.Proofs.YtgmdpjncgdojbabDoor
