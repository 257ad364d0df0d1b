/- The document's Right of sections. -/
import Derived.Test.YtegplihhbdmnbaaGreatDoorU26
set_option linter.unusedVariables false
namespace Go.Proofs.YtegplihhbdmnbaaGreatDoor
open Go.RowKit Go.Shelf
theorem rgtW_plain {p : Spc} (h : p.what = [] ∨ p.what = wHead ∨ p.what = wText) : rgtW p = p.names.isEmpty := by
  unfold rgtW
  rcases h with h | h | h <;> rw [h] <;> cases p.names <;> rfl
theorem rgtW_mime {p : Spc} (h : p.what = wMime) : rgtW p = (p.names.isEmpty && !p.path.isEmpty) := by
  unfold rgtW
  rw [h]
  cases p.names <;> cases p.path <;> rfl
theorem rgtW_list {p : Spc} (h : p.what = wFlds ∨ p.what = wNot) : rgtW p = !p.names.isEmpty := by
  unfold rgtW
  rcases h with h | h <;> rw [h] <;> cases p.names <;> rfl
theorem rgtW_no {p : Spc} (h0 : p.what ≠ []) (h1 : p.what ≠ wHead) (h2 : p.what ≠ wText) (h3 : p.what ≠ wMime) (h4 : p.what ≠ wFlds) (h5 : p.what ≠ wNot) : rgtW p = false := by
  unfold rgtW lstB
  simp [h0, h1, h2, h3, h4, h5]
set_option maxRecDepth 20000 in
set_option maxHeartbeats 4000000 in
theorem rright_any (p : Spc) (pv nv : Value) (w : World) (hs : SpA w pv nv p) (hp : p.path.length ≤ 1000000) (hn : p.names.length ≤ 1000000) (hx : ∀ x ∈ p.names, x.length ≤ 1000000) :
    Calls Tryz.prog 25 #[spV pv nv p] w fun e w' => e = .returned (.bool (rgtB p)) ∧ Below w.heap.size w w' := by
  obtain ⟨path, what, names⟩ := p
  obtain ⟨A, c, rfl⟩ := hs.path.form
  obtain ⟨A2, c2, rfl⟩ := hs.names.form
  have HB0 : Hid (Below w.heap.size w (w.alloc (.cells #[.slice A path.length c, .string ⟨what.toArray⟩, .slice A2 names.length c2] 31))) := (Below.refl _ _).alloc (Nat.le_refl _) _
  have HP := hide (hs.path.below HB0.out)
  have HN := hide (hs.names.below HB0.out)
  have HX := hide hx
  clear hs hx
  unfold spV
  simp only at *
  by_cases h1 : 20 < path.length
  · have HV : Hid (rgtB ⟨path, what, names⟩ = false) := rgt_long (.inl h1)
    have h1' : (20 : Int) < path.length := by omega
    go_enter Tryz.func25, Tryz.ntmps25
    go_wp2
    go_ret
    exact ⟨by rw [HV.out]; rfl, HB0.out⟩
  by_cases h2 : 20 < names.length
  · have HV : Hid (rgtB ⟨path, what, names⟩ = false) := rgt_long (.inr h2)
    have h1' : ¬ (20 : Int) < path.length := by omega
    have h2' : (20 : Int) < names.length := by omega
    go_enter Tryz.func25, Tryz.ntmps25
    go_wp2
    go_ret
    exact ⟨by rw [HV.out]; rfl, HB0.out⟩
  have h1' : ¬ (20 : Int) < path.length := by omega
  have h2' : ¬ (20 : Int) < names.length := by omega
  have hpl : path.length ≤ 20 := by omega
  have hnl : names.length ≤ 20 := by omega
  have HNM : Hid (∀ (x : List UInt8) (W : World), x.length ≤ 1000000 → Calls Tryz.prog 50 #[.string ⟨x.toArray⟩] W fun e w' => e = .returned (.bool (nmeB x)) ∧ w' = W) := fun x W h => rname_any x W h
  go_enter Tryz.func25, Tryz.ntmps25
  go_wp2
  go_loop [21] (fun v => ∃ i : Nat, i ≤ path.length ∧ v = .int .i64 i ∧ Hid ((path.take i).all numB = true)) (fun v => path.length - (intOf v).toNat)
  case atStart => exact ⟨0, Nat.zero_le _, rfl, rfl⟩
  case round =>
    obtain ⟨i, hi, rfl, HA⟩ := hrel
    by_cases hlt : i < path.length
    · have hlt' : (i : Int) < path.length := by omega
      obtain ⟨g, o, cap, he, hg, q0⟩ := HP.out.at1 hlt
      obtain ⟨rfl, rfl⟩ : A = some ⟨g, o, none⟩ ∧ c = cap := by injection he with a b c; exact ⟨a, c⟩
      obtain ⟨x, hx⟩ : ∃ x, path[i] = x := ⟨_, rfl⟩
      have q1 : (w.alloc (.cells #[.slice (some ⟨g, o, none⟩) path.length c, .string ⟨what.toArray⟩, .slice A2 names.length c2] 31)).cell? ⟨g, o + i, none⟩ = some (.int .i64 x) := by rw [q0, hx]; rfl
      have hgl : g < w.heap.size + 1 := by simpa using hg
      clear q0 he
      by_cases hb : 1 ≤ x ∧ x ≤ 999
      · obtain ⟨hb1, hb2⟩ := hb
        have HN2 : Hid ((path.take (i + 1)).all numB = true) := by
          show _ = _
          rw [List.take_succ_eq_append_getElem hlt, List.all_append, HA.out, hx]
          simp [numB, hb1, hb2]
        have k1 : ¬ x < 1 := by omega
        have k2 : ¬ x > 999 := by omega
        clear hx
        go_wp2
        go_round
        case rel => exact ⟨i + 1, by omega, by go_num, HN2⟩
        case measure => simp [intOf]; omega
      · have HV : Hid (rgtB ⟨path, what, names⟩ = false) := rgt_num (i := i) hlt (by simp only; rw [hx]; simp [numB]; omega)
        clear hx
        by_cases k1 : x < 1
        · go_wp2
          go_ret
          exact ⟨by rw [HV.out]; rfl, HB0.out⟩
        · have k2 : x > 999 := by omega
          go_wp2
          go_ret
          exact ⟨by rw [HV.out]; rfl, HB0.out⟩
    · obtain rfl : i = path.length := by omega
      have hlt' : ¬ (path.length : Int) < path.length := by omega
      go_wp2
      go_loop [35] (fun v => ∃ i : Nat, i ≤ names.length ∧ v = .int .i64 i ∧ Hid ((names.take i).all nmeB = true)) (fun v => names.length - (intOf v).toNat)
      case atStart => exact ⟨0, Nat.zero_le _, rfl, rfl⟩
      case round =>
        obtain ⟨i, hi, rfl, HA2⟩ := hrel
        by_cases hlt : i < names.length
        · have hlt' : (i : Int) < names.length := by omega
          obtain ⟨g, o, cap, he, hg, q0⟩ := HN.out.at1 hlt
          obtain ⟨rfl, rfl⟩ : A2 = some ⟨g, o, none⟩ ∧ c2 = cap := by injection he with a b c; exact ⟨a, c⟩
          obtain ⟨x, hx⟩ : ∃ x, names[i] = x := ⟨_, rfl⟩
          have q1 : (w.alloc (.cells #[.slice A path.length c, .string ⟨what.toArray⟩, .slice (some ⟨g, o, none⟩) names.length c2] 31)).cell? ⟨g, o + i, none⟩ = some (.string ⟨x.toArray⟩) := by rw [q0, hx]; rfl
          have hgl : g < w.heap.size + 1 := by simpa using hg
          have HC := hide (fun W => HNM.out x W (by rw [← hx]; exact HX.out _ (List.getElem_mem hlt)))
          clear q0 he
          cases hq : nmeB x with
          | true =>
            have HN2 : Hid ((names.take (i + 1)).all nmeB = true) := by
              show _ = _
              rw [List.take_succ_eq_append_getElem hlt, List.all_append, HA2.out, hx]
              simp [hq]
            rw [hq] at HC
            clear hx hq
            go_wp2_with (first
              | (go_at_call 50; refine (HC.out _).mono ?_; rintro e w2 ⟨rfl, rfl⟩))
            go_round
            case rel => exact ⟨i + 1, by omega, by go_num, HN2⟩
            case measure => simp [intOf]; omega
          | false =>
            have HV : Hid (rgtB ⟨path, what, names⟩ = false) := rgt_nm (i := i) hlt (by simp only; rw [hx]; exact hq)
            rw [hq] at HC
            clear hx hq
            go_wp2_with (first
              | (go_at_call 50; refine (HC.out _).mono ?_; rintro e w2 ⟨rfl, rfl⟩))
            go_ret
            exact ⟨by rw [HV.out]; rfl, HB0.out⟩
        · obtain rfl : i = names.length := by omega
          have hlt2' : ¬ (names.length : Int) < names.length := by omega
          have HV : Hid (rgtB ⟨path, what, names⟩ = rgtW ⟨path, what, names⟩) := rgt_w hpl hnl HA.out HA2.out
          clear HA HA2 HNM HX HP HN
          by_cases e0 : what = []
          · have HW := hide (rgtW_plain (.inl e0) : rgtW ⟨path, what, names⟩ = _)
            subst e0
            cases names with
            | nil =>
              go_wp2
              go_ret
              exact ⟨by rw [HV.out, HW.out]; rfl, HB0.out⟩
            | cons a r =>
              have hpos : (0 : Int) < (a :: r).length := by simp
              go_wp2
              go_ret
              exact ⟨by rw [HV.out, HW.out]; rfl, HB0.out⟩
          by_cases e1 : what = [72, 69, 65, 68, 69, 82]
          · have HW := hide (rgtW_plain (.inr (.inl e1)) : rgtW ⟨path, what, names⟩ = _)
            subst e1
            cases names with
            | nil =>
              go_wp2
              go_ret
              exact ⟨by rw [HV.out, HW.out]; rfl, HB0.out⟩
            | cons a r =>
              have hpos : (0 : Int) < (a :: r).length := by simp
              go_wp2
              go_ret
              exact ⟨by rw [HV.out, HW.out]; rfl, HB0.out⟩
          by_cases e2 : what = [84, 69, 88, 84]
          · have HW := hide (rgtW_plain (.inr (.inr e2)) : rgtW ⟨path, what, names⟩ = _)
            subst e2
            cases names with
            | nil =>
              go_wp2
              go_ret
              exact ⟨by rw [HV.out, HW.out]; rfl, HB0.out⟩
            | cons a r =>
              have hpos : (0 : Int) < (a :: r).length := by simp
              go_wp2
              go_ret
              exact ⟨by rw [HV.out, HW.out]; rfl, HB0.out⟩
          by_cases e3 : what = [77, 73, 77, 69]
          · have HW := hide (rgtW_mime e3 : rgtW ⟨path, what, names⟩ = _)
            subst e3
            cases names with
            | nil =>
              cases path with
              | nil =>
                go_wp2
                go_ret
                exact ⟨by rw [HV.out, HW.out]; rfl, HB0.out⟩
              | cons a r =>
                have hpos : (0 : Int) < (a :: r).length := by simp
                go_wp2
                go_ret
                exact ⟨by rw [HV.out, HW.out]; rfl, HB0.out⟩
            | cons a r =>
              have hpos : (0 : Int) < (a :: r).length := by simp
              go_wp2
              go_ret
              exact ⟨by rw [HV.out, HW.out]; rfl, HB0.out⟩
          by_cases e4 : what = [72, 69, 65, 68, 69, 82, 46, 70, 73, 69, 76, 68, 83]
          · have HW := hide (rgtW_list (.inl e4) : rgtW ⟨path, what, names⟩ = _)
            subst e4
            cases names with
            | nil =>
              go_wp2
              go_ret
              exact ⟨by rw [HV.out, HW.out]; rfl, HB0.out⟩
            | cons a r =>
              have hpos : (0 : Int) < (a :: r).length := by simp
              go_wp2
              go_ret
              exact ⟨by rw [HV.out, HW.out]; rfl, HB0.out⟩
          by_cases e5 : what = [72, 69, 65, 68, 69, 82, 46, 70, 73, 69, 76, 68, 83, 46, 78, 79, 84]
          · have HW := hide (rgtW_list (.inr e5) : rgtW ⟨path, what, names⟩ = _)
            subst e5
            cases names with
            | nil =>
              go_wp2
              go_ret
              exact ⟨by rw [HV.out, HW.out]; rfl, HB0.out⟩
            | cons a r =>
              have hpos : (0 : Int) < (a :: r).length := by simp
              go_wp2
              go_ret
              exact ⟨by rw [HV.out, HW.out]; rfl, HB0.out⟩
          have HW : Hid (rgtW ⟨path, what, names⟩ = false) := rgtW_no e0 e1 e2 e3 e4 e5
          have k0 : what.isEmpty = false := by cases what with | nil => exact absurd rfl e0 | cons _ _ => rfl
          have k1 := beq_eq_false_iff_ne.2 e1
          have k2 := beq_eq_false_iff_ne.2 e2
          have k3 := beq_eq_false_iff_ne.2 e3
          have k4 := beq_eq_false_iff_ne.2 e4
          have k5 := beq_eq_false_iff_ne.2 e5
          clear e0 e1 e2 e3 e4 e5
          cases names with
          | nil =>
            go_wp2
            go_ret
            exact ⟨by rw [HV.out, HW.out]; rfl, HB0.out⟩
          | cons a r =>
            have hpos : (0 : Int) < (a :: r).length := by simp
            go_wp2
            go_ret
            exact ⟨by rw [HV.out, HW.out]; rfl, HB0.out⟩
end Go.Proofs.YtegplihhbdmnbaaGreatDoor
