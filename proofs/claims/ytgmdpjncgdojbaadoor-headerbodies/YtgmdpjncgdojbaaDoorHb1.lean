/- HeaderBodies: a body behind an empty line is just what was put there. -/
import Derived.Test.YtgmdpjncgdojbaaDoorHg1
import Derived.Test.YtgmdpjncgdojbaaDoorHr4
import Derived.Test.YtgmdpjncgdojbaaDoorHMath3
namespace Go.Proofs.YtgmdpjncgdojbaaDoor
open Go.RowKit Go.Shelf
theorem rem_of {k r : Nat} (h : k % 3 = r) : (k : Int).tmod 3 = (r : Int) := by
  rw [Int.tmod_eq_emod_of_nonneg (by omega)]
  omega
theorem take_ok_next {xs : List (List UInt8)} {k : Nat} (hk : k < xs.length) (h : ∀ x ∈ xs.take k, okN x) (hc : okN xs[k]) : ∀ x ∈ xs.take (k + 1), okN x := by
  intro x hx
  rw [List.take_succ_eq_append_getElem hk] at hx
  rcases List.mem_append.1 hx with hx | hx
  · exact h x hx
  · rw [List.mem_singleton.1 hx]
    exact hc
theorem lines_next {xs : List (List UInt8)} {k : Nat} (hk : k < xs.length) {M : List UInt8} (h : M = (linesFrom 0 (xs.take k)).flatten) : M ++ lnB k xs[k] = (linesFrom 0 (xs.take (k + 1))).flatten := by
  rw [List.take_succ_eq_append_getElem hk, linesFrom_snoc, List.flatten_append, ← h, List.length_take, Nat.min_eq_left (by omega)]
  simp
theorem ncb_next {p : List UInt8} {k : Nat} (hk : k < p.length) (h : (p.take k).all (fun c => nbB c && c != 58) = true) (hc : (nbB p[k] && p[k] != 58) = true) : (p.take (k + 1)).all (fun c => nbB c && c != 58) = true := by
  rw [List.take_succ_eq_append_getElem hk, List.all_append, h]
  simp at hc
  simp [hc]
theorem not_byteB {x : UInt8} {n : Nat} (hn : n < 256) (h : x ≠ n.toUInt8) : ((x.toNat : Int) == n) = false := by
  rw [beq_eq_false_iff_ne]
  intro e
  apply h
  apply UInt8.toNat_inj.1
  have : x.toNat = n := by omega
  rw [this]
  simp
  omega
set_option maxRecDepth 40000 in
set_option maxHeartbeats 8000000 in
theorem hbodies_walk (v : Value) (xs : List (List UInt8)) (s : List UInt8) (w : World) (hv : TX w v xs) : Calls Tryd.prog 7 #[v, .string ⟨s.toArray⟩] w fun e w' => e = .returned (.bool true) ∧ Below w.heap.size w w' := by
  have HA := hide alive_yes
  have hss := size_lit s
  have HV := hide hv
  obtain ⟨A, c, rfl, hr⟩ := hv
  have HR := hide hr
  clear hr
  by_cases h1 : xs.length ≤ 50
  · have g1 : decide ((xs.length : Int) > 50) = false := decide_eq_false (by omega)
    by_cases h2 : s.length ≤ 10000
    · have g2 : decide ((s.length : Int) > 10000) = false := decide_eq_false (by omega)
      go_enter Tryd.func7, Tryd.ntmps7
      go_wp2_with fail
      refine (HA.out _).mono ?_
      rintro e w1 ⟨rfl, hb1⟩
      replace hb1 := hide hb1
      go_wp2
      go_loopw [5, 25] (fun v5 v25 wr => ∃ (k : Nat) (M : List UInt8), k ≤ xs.length ∧ v25 = .int .i64 k ∧ v5 = .string ⟨M.toArray⟩ ∧ Hid (M = (linesFrom 0 (xs.take k)).flatten) ∧ Hid (∀ x ∈ xs.take k, okN x) ∧ Hid (Below w.heap.size w wr)) (fun _ v25 _ => xs.length - (intOf v25).toNat)
      case atStart => exact ⟨0, [], Nat.zero_le _, rfl, rfl, rfl, (fun x hx => by simp at hx), hb1⟩
      case round =>
        obtain ⟨k, M, hk, rfl, rfl, HM, HN, HB⟩ := hrel
        have hbs := HB.out.size
        have hMl : M.length ≤ 10350 := by
          have h3 := lines_len 0 _ HN.out
          rw [← HM.out, List.length_take] at h3
          omega
        by_cases hlt : k < xs.length
        · obtain ⟨g, o, rfl, hgl, q0⟩ := HR.out k hlt
          have hlt' : (k : Int) < xs.length := by omega
          replace q0 := (HB.out.cell (p := ⟨g, o + k, none⟩) hgl).trans q0
          have HMn0 := hide (fun h : Unit => lines_next hlt HM.out)
          have HNn0 := hide (fun h => take_ok_next hlt HN.out h)
          generalize xs[k] = n at *
          have hnz := size_lit n
          by_cases h3 : n.length ≤ 200
          · have g3 : ¬ ((n.length : Int) > 200) := by omega
            go_wp2
            go_loopw [35] (fun v35 wq => wr = wq ∧ ∃ j : Nat, j ≤ n.length ∧ v35 = .int .i64 j ∧ Hid ((n.take j).all (fun c => nbB c && c != 58) = true)) (fun v35 _ => n.length - (intOf v35).toNat)
            case atStart => exact ⟨rfl, 0, Nat.zero_le _, rfl, by simp [Hid]⟩
            case round =>
              obtain ⟨hwq, j, hj, rfl, HJ⟩ := hrel
              subst hwq
              by_cases hjl : j < n.length
              · obtain ⟨b, hb, hat⟩ : ∃ b, n[j] = b ∧ ∀ h : j < (⟨n.toArray⟩ : ByteArray).size, (⟨n.toArray⟩ : ByteArray)[j]'h = b := ⟨_, rfl, fun _ => rfl⟩
                have hjl' : (j : Int) < n.length := by omega
                by_cases c1 : (b.toNat : Int) < 33
                · clear hb HMn0 HNn0 HJ
                  go_wp2
                  go_ret
                  exact ⟨rfl, HB.out⟩
                · by_cases c2 : (b.toNat : Int) > 126
                  · clear hb HMn0 HNn0 HJ
                    go_wp2
                    go_ret
                    exact ⟨rfl, HB.out⟩
                  · by_cases c3 : b = 58
                    · subst c3
                      clear hb HMn0 HNn0 HJ
                      go_wp2
                      go_ret
                      exact ⟨rfl, HB.out⟩
                    · have c3' := not_byteB (n := 58) (by decide) c3
                      have HJ2 : Hid ((n.take (j + 1)).all (fun c => nbB c && c != 58) = true) := by
                        refine ncb_next hjl HJ.out ?_
                        rw [hb]
                        have h33 : 33 ≤ b.toNat := by omega
                        have h126 : b.toNat ≤ 126 := by omega
                        simp [nbB, c3]
                        exact ⟨h33, h126⟩
                      clear hb HMn0 HNn0 HJ
                      go_wp2
                      go_roundw
                      case rel => exact ⟨by trivial, j + 1, by omega, by go_num, HJ2⟩
                      case measure => simp [intOf]; omega
              · obtain rfl : j = n.length := by omega
                by_cases h0 : n = []
                · subst h0
                  clear HMn0 HNn0 HJ
                  go_wp2
                  go_ret
                  exact ⟨rfl, HB.out⟩
                have h0' : n.isEmpty = false := by simpa using h0
                have HN2 := hide (HNn0.out ⟨h0, by have := HJ.out; rw [List.take_length] at this; exact this, h3⟩)
                have HMn := hide (HMn0.out ())
                clear HMn0 HNn0 HM HN h0
                have hr0 : k % 3 = 0 ∨ k % 3 = 1 ∨ k % 3 = 2 := by omega
                rcases hr0 with hr3 | hr3 | hr3
                · have hrem : (k : Int).tmod 3 = 0 := rem_of hr3
                  have eL : lnB k n = n ++ [58, 32] ++ [120] ++ [13, 10] := by
                    unfold lnB
                    rw [hr3]
                    rfl
                  have e1 := cat_lit n [58, 32]
                  have e2 := cat_lit (n ++ [58, 32]) [120]
                  have e3 := cat_lit (n ++ [58, 32] ++ [120]) [13, 10]
                  have e4 := cat_lit M (n ++ [58, 32] ++ [120] ++ [13, 10])
                  have s1 := size_lit n
                  have s2 := size_lit (n ++ [58, 32])
                  have s3 := size_lit (n ++ [58, 32] ++ [120])
                  have s4 := size_lit (n ++ [58, 32] ++ [120] ++ [13, 10])
                  have s5 := size_lit M
                  have l2 : (n ++ [58, 32]).length ≤ 202 := by rw [List.length_append]; show _ + 2 ≤ _; omega
                  have l3 : (n ++ [58, 32] ++ [120]).length ≤ 205 := by rw [List.length_append]; show _ + 1 ≤ _; omega
                  have l4 : (n ++ [58, 32] ++ [120] ++ [13, 10]).length ≤ 207 := by rw [List.length_append]; show _ + 2 ≤ _; omega
                  rw [← eL] at e3 e4 s4 l4
                  have HM2 : Hid (M ++ lnB k n = (linesFrom 0 (xs.take (k + 1))).flatten) := HMn.out
                  generalize hX3 : n ++ [58, 32] ++ [120] = X3 at *
                  generalize hX2 : n ++ [58, 32] = X2 at *
                  generalize hX4 : lnB k n = X4 at *
                  generalize hX5 : M ++ X4 = X5 at *
                  replace e1 : (⟨n.toArray⟩ : ByteArray) ++ ⟨#[58, 32]⟩ = ⟨X2.toArray⟩ := e1
                  replace e2 : (⟨X2.toArray⟩ : ByteArray) ++ ⟨#[120]⟩ = ⟨X3.toArray⟩ := e2
                  replace e3 : (⟨X3.toArray⟩ : ByteArray) ++ ⟨#[13, 10]⟩ = ⟨X4.toArray⟩ := e3
                  clear hX2 hX3 hX4 hX5 eL HMn hr3 HJ
                  go_wp2
                  go_roundw
                  case rel => exact ⟨k + 1, X5, by omega, by go_num, rfl, HM2, HN2, HB.out.alloc HB.out.size _⟩
                  case measure => simp [intOf]; omega
                · have hrem : (k : Int).tmod 3 = 1 := rem_of hr3
                  have eL : lnB k n = n ++ [58, 32] ++ [121, 32, 122] ++ [13, 10] := by
                    unfold lnB
                    rw [hr3]
                    rfl
                  have e1 := cat_lit n [58, 32]
                  have e2 := cat_lit (n ++ [58, 32]) [121, 32, 122]
                  have e3 := cat_lit (n ++ [58, 32] ++ [121, 32, 122]) [13, 10]
                  have e4 := cat_lit M (n ++ [58, 32] ++ [121, 32, 122] ++ [13, 10])
                  have s1 := size_lit n
                  have s2 := size_lit (n ++ [58, 32])
                  have s3 := size_lit (n ++ [58, 32] ++ [121, 32, 122])
                  have s4 := size_lit (n ++ [58, 32] ++ [121, 32, 122] ++ [13, 10])
                  have s5 := size_lit M
                  have l2 : (n ++ [58, 32]).length ≤ 202 := by rw [List.length_append]; show _ + 2 ≤ _; omega
                  have l3 : (n ++ [58, 32] ++ [121, 32, 122]).length ≤ 205 := by rw [List.length_append]; show _ + 3 ≤ _; omega
                  have l4 : (n ++ [58, 32] ++ [121, 32, 122] ++ [13, 10]).length ≤ 207 := by rw [List.length_append]; show _ + 2 ≤ _; omega
                  rw [← eL] at e3 e4 s4 l4
                  have HM2 : Hid (M ++ lnB k n = (linesFrom 0 (xs.take (k + 1))).flatten) := HMn.out
                  generalize hX3 : n ++ [58, 32] ++ [121, 32, 122] = X3 at *
                  generalize hX2 : n ++ [58, 32] = X2 at *
                  generalize hX4 : lnB k n = X4 at *
                  generalize hX5 : M ++ X4 = X5 at *
                  replace e1 : (⟨n.toArray⟩ : ByteArray) ++ ⟨#[58, 32]⟩ = ⟨X2.toArray⟩ := e1
                  replace e2 : (⟨X2.toArray⟩ : ByteArray) ++ ⟨#[121, 32, 122]⟩ = ⟨X3.toArray⟩ := e2
                  replace e3 : (⟨X3.toArray⟩ : ByteArray) ++ ⟨#[13, 10]⟩ = ⟨X4.toArray⟩ := e3
                  clear hX2 hX3 hX4 hX5 eL HMn hr3 HJ
                  go_wp2
                  go_roundw
                  case rel => exact ⟨k + 1, X5, by omega, by go_num, rfl, HM2, HN2, HB.out.alloc HB.out.size _⟩
                  case measure => simp [intOf]; omega
                · have hrem : (k : Int).tmod 3 = 2 := rem_of hr3
                  have eL : lnB k n = n ++ [58, 32] ++ [] ++ [13, 10] := by
                    unfold lnB
                    rw [hr3]
                    rfl
                  have e1 := cat_lit n [58, 32]
                  have e2 := cat_lit (n ++ [58, 32]) []
                  have e3 := cat_lit (n ++ [58, 32] ++ []) [13, 10]
                  have e4 := cat_lit M (n ++ [58, 32] ++ [] ++ [13, 10])
                  have s1 := size_lit n
                  have s2 := size_lit (n ++ [58, 32])
                  have s3 := size_lit (n ++ [58, 32] ++ [])
                  have s4 := size_lit (n ++ [58, 32] ++ [] ++ [13, 10])
                  have s5 := size_lit M
                  have l2 : (n ++ [58, 32]).length ≤ 202 := by rw [List.length_append]; show _ + 2 ≤ _; omega
                  have l3 : (n ++ [58, 32] ++ []).length ≤ 205 := by rw [List.length_append]; show _ + 0 ≤ _; omega
                  have l4 : (n ++ [58, 32] ++ [] ++ [13, 10]).length ≤ 207 := by rw [List.length_append]; show _ + 2 ≤ _; omega
                  rw [← eL] at e3 e4 s4 l4
                  have HM2 : Hid (M ++ lnB k n = (linesFrom 0 (xs.take (k + 1))).flatten) := HMn.out
                  generalize hX3 : n ++ [58, 32] ++ [] = X3 at *
                  generalize hX2 : n ++ [58, 32] = X2 at *
                  generalize hX4 : lnB k n = X4 at *
                  generalize hX5 : M ++ X4 = X5 at *
                  replace e1 : (⟨n.toArray⟩ : ByteArray) ++ ⟨#[58, 32]⟩ = ⟨X2.toArray⟩ := e1
                  replace e2 : (⟨X2.toArray⟩ : ByteArray) ++ ⟨#[]⟩ = ⟨X3.toArray⟩ := e2
                  replace e3 : (⟨X3.toArray⟩ : ByteArray) ++ ⟨#[13, 10]⟩ = ⟨X4.toArray⟩ := e3
                  clear hX2 hX3 hX4 hX5 eL HMn hr3 HJ
                  go_wp2
                  go_roundw
                  case rel => exact ⟨k + 1, X5, by omega, by go_num, rfl, HM2, HN2, HB.out.alloc HB.out.size _⟩
                  case measure => simp [intOf]; omega
          · have g3 : (n.length : Int) > 200 := by omega
            clear HMn0 HNn0
            go_wp2
            go_ret
            exact ⟨rfl, HB.out⟩
        · obtain rfl : k = xs.length := by omega
          rw [List.take_length] at HM HN
          have HD := hide (bodies_hd xs s HN.out)
          rw [← HM.out] at HD
          obtain ⟨hfl, hfa⟩ := flds_at 0 xs 0 HN.out
          have HFA := hide hfa
          generalize flds (linesFrom 0 xs) 0 = fs at *
          have e1 := cat_lit M [13, 10]
          have e2 := cat_lit (M ++ [13, 10]) s
          have eM : M ++ [13, 10] ++ s = M ++ (crL ++ s) := by simp [crL]
          have s1 := size_lit M
          have s2 := size_lit (M ++ [13, 10])
          have l2 : (M ++ [13, 10]).length = M.length + 2 := by simp
          have l3 : (M ++ [13, 10] ++ s).length ≤ 1000000 := by
            rw [List.length_append, l2]
            omega
          rw [← eM] at HD
          rw [l2] at s2
          generalize M ++ [13, 10] = M2 at *
          generalize M2 ++ s = M3 at *
          replace e1 : (⟨M.toArray⟩ : ByteArray) ++ ⟨#[13, 10]⟩ = ⟨M2.toArray⟩ := e1
          have HBd := hide (fun w => body_any M3 w l3)
          rw [show bodyL (splitS M3) 0 = M.length + 2 from (hd_body _ _).symm.trans (by rw [HD.out])] at HBd
          have HF := hide (fields_any M3 wr ⟨0, 0, none⟩ (fun h => by rw [HD.out] at h; simp only at h; rw [hfl] at h; omega) l3)
          have HFO : Hid (∀ w e w', FOut M3 ⟨0, 0, none⟩ w e w' → Below w.heap.size w w' ∧ ∃ v, e = .returned (.tuple #[v, .nilIface]) ∧ Fds w.heap.size w' v fs) := fun w e w' h => by
            obtain ⟨hb, (⟨h1, _⟩ | ⟨_, v, rfl, hv⟩)⟩ := h
            · rw [HD.out] at h1
              simp only at h1
              rw [hfl] at h1
              omega
            · rw [HD.out] at hv
              exact ⟨hb, v, rfl, hv⟩
          have HFL := hide hfl
          obtain ⟨nn, hnn⟩ : ∃ nn, xs.length = nn := ⟨_, rfl⟩
          have HNN := hide hnn
          clear eM l2 HM HN hfl hfa HD hk hlt
          rw [hnn] at h1 g1 HFL ⊢
          clear hnn
          go_wp2_with fail
          refine (HBd.out _).mono ?_
          rintro e w2 ⟨rfl, hw2⟩
          obtain rfl : wr = w2 := hw2.symm
          go_wp2_with fail
          refine (HF.out).mono ?_
          rintro e w3 hO
          obtain ⟨hb3, u, rfl, hu⟩ := HFO.out _ _ _ hO
          have HB3 := hide (HB.out.trans (hb3.mono HB.out.size))
          obtain ⟨Au, cu, rfl⟩ := hu.form
          rw [HFL.out]
          have HU := hide hu
          clear hO HFO HF hu hb3
          go_wp2
          go_loopw [100] (fun v wq => ∃ k : Nat, k ≤ nn ∧ v = .int .i64 k ∧ Hid (Below w3.heap.size w3 wq)) (fun v _ => nn - (intOf v).toNat)
          case atStart => exact ⟨0, Nat.zero_le _, rfl, Below.refl _ _⟩
          case round =>
            obtain ⟨k, hk, rfl, HW⟩ := hrel
            by_cases hlt : k < nn
            · have hlt' : (k : Int) < nn := by omega
              have hlx : k < xs.length := by rw [HNN.out]; exact hlt
              have hlf : k < fs.length := by rw [HFL.out]; exact hlt
              obtain ⟨f, hf, hfn, hfv⟩ := HFA.out k hlx
              obtain ⟨g, o, cap, ev, _, _, _, q4, q0, q1, _, _⟩ := HU.out.read k hlf
              obtain rfl : Au = some ⟨g, o, none⟩ := by
                simp at ev
                exact ev.1
              have hff : fs[k] = f := by
                rw [List.getElem?_eq_getElem hlf] at hf
                exact Option.some.inj hf
              rw [hff, hfn] at q0
              rw [hff] at q1
              obtain ⟨g2, o2, rfl, hgl2, r0⟩ := HR.out k hlx
              replace q0 := (HW.out.cell (p := ⟨g, o + k * 4, none⟩) q4).trans q0
              replace q1 := (HW.out.cell (p := ⟨g, o + k * 4 + 1, none⟩) q4).trans q1
              replace r0 := ((HB3.out.trans (HW.out.mono HB3.out.size)).cell (p := ⟨g2, o2 + k, none⟩) hgl2).trans r0
              have hwz := HW.out.size
              have hg1 : g < wr.heap.size := by omega
              have hg2 : g2 < wr.heap.size := by have := HB3.out.size; omega
              generalize xs[k] = n at *
              clear hf hff ev
              have hr0 : k % 3 = 0 ∨ k % 3 = 1 ∨ k % 3 = 2 := by omega
              rcases hr0 with hr3 | hr3 | hr3
              · have hrem : (k : Int).tmod 3 = 0 := rem_of hr3
                have hfv2 : f.value = [120] := by
                  rw [hfv, Nat.zero_add, hr3]
                  rfl
                rw [hfv2] at q1
                clear hfv hfv2 hr3
                go_wp2
                go_region
                all_goals
                  go_wp2
                  go_roundw
                  case rel => exact ⟨k + 1, by omega, by go_num, by first | exact (HW.out.drew).alloc (by simp; exact HW.out.size) _ | exact (HW.out.alloc HW.out.size _).drew⟩
                  case measure => simp [intOf]; omega
              · have hrem : (k : Int).tmod 3 = 1 := rem_of hr3
                have hfv2 : f.value = [121, 32, 122] := by
                  rw [hfv, Nat.zero_add, hr3]
                  rfl
                rw [hfv2] at q1
                clear hfv hfv2 hr3
                go_wp2
                go_region
                all_goals
                  go_wp2
                  go_roundw
                  case rel => exact ⟨k + 1, by omega, by go_num, by first | exact (HW.out.drew).alloc (by simp; exact HW.out.size) _ | exact (HW.out.alloc HW.out.size _).drew⟩
                  case measure => simp [intOf]; omega
              · have hrem : (k : Int).tmod 3 = 2 := rem_of hr3
                have hfv2 : f.value = [] := by
                  rw [hfv, Nat.zero_add, hr3]
                  rfl
                rw [hfv2] at q1
                clear hfv hfv2 hr3
                go_wp2
                go_region
                all_goals
                  go_wp2
                  go_roundw
                  case rel => exact ⟨k + 1, by omega, by go_num, by first | exact (HW.out.drew).alloc (by simp; exact HW.out.size) _ | exact (HW.out.alloc HW.out.size _).drew⟩
                  case measure => simp [intOf]; omega
            · obtain rfl : k = nn := by omega
              go_wp2
              go_ret
              exact ⟨rfl, HB3.out.trans (HW.out.mono HB3.out.size)⟩
    · have g2 : decide ((s.length : Int) > 10000) = true := decide_eq_true (by omega)
      go_enter Tryd.func7, Tryd.ntmps7
      go_wp2_with fail
      refine (HA.out _).mono ?_
      rintro e w1 ⟨rfl, hb1⟩
      replace hb1 := hide hb1
      go_wp2
      go_ret
      exact ⟨rfl, hb1.out⟩
  · have g1 : decide ((xs.length : Int) > 50) = true := decide_eq_true (by omega)
    go_enter Tryd.func7, Tryd.ntmps7
    go_wp2_with fail
    refine (HA.out _).mono ?_
    rintro e w1 ⟨rfl, hb1⟩
    replace hb1 := hide hb1
    go_wp2
    go_ret
    exact ⟨rfl, hb1.out⟩
end Go.Proofs.YtgmdpjncgdojbaaDoor
