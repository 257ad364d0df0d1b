/- The law BoxesStars. -/
import Derived.Test.YtelpjiiladbigaaDoorBl1
set_option linter.unusedSimpArgs false
set_option linter.unusedVariables false
namespace Go.Proofs.YtelpjiiladbigaaDoor
open Go.RowKit Go.Shelf
/-- Whether there is a slash among the first bytes. -/
def slK (b : List UInt8) (i : Nat) : Bool := (b.take i).contains 47
theorem slK_next {b : List UInt8} {i : Nat} (h : i < b.length) : slK b (i + 1) = (slK b i || b[i] == 47) := by
  unfold slK
  rw [List.take_succ_eq_append_getElem h, List.contains_append]
  congr 1
  rw [Bool.eq_iff_iff]
  simp
  exact ⟨fun h => h.symm, fun h => h.symm⟩
def noStar (t : List UInt8) : Prop := ∀ c ∈ t, starB c = false
theorem noStar_next {t : List UInt8} {i : Nat} (h : i < t.length) (h1 : noStar (t.take i)) (h2 : starB t[i] = false) : noStar (t.take (i + 1)) := by
  intro c hc
  rw [List.take_succ_eq_append_getElem h, List.mem_append] at hc
  rcases hc with hc | hc
  · exact h1 c hc
  · rw [List.mem_singleton] at hc
    rw [hc]
    exact h2
/-- What the law's last statement asks. -/
theorem star_facts {a b c : List UInt8} (ha : noStar a) (hc : noStar c) (q : Bool) : fit q [42] a = true ∧ fit q [37] b = !b.contains 47 ∧ fit q a a = true ∧ fit q (a ++ [42] ++ c) (a ++ b ++ c) = true ∧ (b.contains 47 = false → fit q (a ++ [37] ++ c) (a ++ b ++ c) = true) := by
  refine ⟨fit_all q a, fit_pct q b, fit_self q a ha, ?_, fun h => ?_⟩
  · have := fit_put (inb := q) (s := 42) rfl a b c ha hc (.inl rfl)
    simpa using this
  · have := fit_put (inb := q) (s := 37) rfl a b c ha hc (.inr (by simpa using h))
    simpa using this
set_option maxRecDepth 20000 in
set_option maxHeartbeats 2000000 in
theorem boxesStars_walk {B : Nat} {w : World} (hM : MX B w) (hB : B ≤ w.heap.size) (a b c : List UInt8) :
    Calls Tryd.prog 7 #[.string ⟨a.toArray⟩, .string ⟨b.toArray⟩, .string ⟨c.toArray⟩] w fun e w' => e = .returned (.bool true) ∧ Below w.heap.size w w' := by
  have HA := hide (alive13 hM hB)
  have HF : Hid (∀ (P N : List UInt8) (W : World), P.length ≤ 10000 → N.length ≤ 100000 → Below w.heap.size w W → Calls Tryd.prog 15 #[.string ⟨P.toArray⟩, .string ⟨N.toArray⟩] W fun e w' => e = .returned (.bool (fit (decide (N = inboxU)) P N)) ∧ Below w.heap.size w w') := fun P N W hP hN hW => (Fits_any (hM.keep (hW.mono hB)) (Nat.le_trans hB hW.size) P N hP hN).mono fun e w' h => ⟨h.1, hW.trans (h.2.mono hW.size)⟩
  clear hM
  have hs1 := size_lit a
  have hs2 := size_lit b
  have hs3 := size_lit c
  by_cases h1 : a.length ≤ 60
  case neg =>
    have h1' : (60 : Int) < a.length := by omega
    go_enter Tryd.func7, Tryd.ntmps7
    go_wp2_with (go_at_call 9; refine HA.out.mono ?_; rintro e w1 ⟨rfl, hb1⟩)
    go_ret
    exact ⟨rfl, hb1⟩
  have h1' : ¬ (60 : Int) < a.length := by omega
  by_cases h2 : b.length ≤ 60
  case neg =>
    have h2' : (60 : Int) < b.length := by omega
    go_enter Tryd.func7, Tryd.ntmps7
    go_wp2_with (go_at_call 9; refine HA.out.mono ?_; rintro e w1 ⟨rfl, hb1⟩)
    go_ret
    exact ⟨rfl, hb1⟩
  have h2' : ¬ (60 : Int) < b.length := by omega
  by_cases h3 : c.length ≤ 60
  case neg =>
    have h3' : (60 : Int) < c.length := by omega
    go_enter Tryd.func7, Tryd.ntmps7
    go_wp2_with (go_at_call 9; refine HA.out.mono ?_; rintro e w1 ⟨rfl, hb1⟩)
    go_ret
    exact ⟨rfl, hb1⟩
  have h3' : ¬ (60 : Int) < c.length := by omega
  go_enter Tryd.func7, Tryd.ntmps7
  go_wp2_with (go_at_call 9; refine HA.out.mono ?_; rintro e w1 ⟨rfl, hb1⟩; replace hb1 := hide hb1)
  go_loopw [7, 29] (fun v7 v29 wr => ∃ (i : Nat) (t : Bool), v29 = .int .i64 i ∧ i ≤ b.length ∧ v7 = .bool t ∧ Hid (t = slK b i) ∧ w1 = wr) (fun _ v29 _ => b.length - (intOf v29).toNat)
  case atStart => exact ⟨0, false, rfl, Nat.zero_le _, rfl, rfl, rfl⟩
  case round =>
    obtain ⟨i, t, rfl, hi, rfl, Ht, rfl⟩ := hrel
    by_cases hlt : i < b.length
    · have hlt' : (i : Int) < b.length := by omega
      obtain ⟨d, hd, hat⟩ : ∃ c, b[i] = c ∧ ∀ h : i < (⟨b.toArray⟩ : ByteArray).size, (⟨b.toArray⟩ : ByteArray)[i]'h = c := ⟨_, rfl, fun _ => rfl⟩
      have HN := hide (slK_next hlt)
      rw [hd, ← Ht.out] at HN
      clear hd
      cases t with
      | true =>
        go_wp2
        go_roundw
        case rel => exact ⟨i + 1, true, by go_num, by omega, rfl, by rw [HN.out]; exact rfl, trivial⟩
        case measure => simp [intOf] <;> omega
      | false =>
        by_cases h47 : d = 47
        · subst h47
          go_wp2
          go_roundw
          case rel => exact ⟨i + 1, true, by go_num, by omega, rfl, by rw [HN.out]; exact rfl, trivial⟩
          case measure => simp [intOf] <;> omega
        · have b3 : ¬ (d.toNat : Int) = 47 := u8_lit d 47 (by omega) h47
          have b3' : ((d.toNat : Int) == 47) = false := beq_eq_false_iff_ne.2 b3
          have HN2 : Hid (slK b (i + 1) = false) := by show _ = _; rw [HN.out]; simp [h47]
          go_wp2
          go_roundw
          case rel => exact ⟨i + 1, false, by go_num, by omega, rfl, by rw [HN2.out]; exact rfl, trivial⟩
          case measure => simp [intOf] <;> omega
    · obtain rfl : i = b.length := by omega
      have HS : Hid (t = b.contains 47) := by show _ = _; rw [Ht.out]; simp [slK]
      clear Ht
      go_wp2
      go_loopw [45] (fun v45 wr => ∃ k : Nat, v45 = .int .i64 k ∧ k ≤ 3 ∧ Hid ((0 < k → noStar a) ∧ (1 < k → noStar b) ∧ (2 < k → noStar c)) ∧ Hid (Blk wr w1.heap.size #[.string ⟨a.toArray⟩, .string ⟨b.toArray⟩, .string ⟨c.toArray⟩] 9) ∧ Hid (Below w.heap.size w wr)) (fun v45 _ => 3 - (intOf v45).toNat)
      case atStart => exact ⟨0, rfl, by omega, ⟨fun h => by omega, fun h => by omega, fun h => by omega⟩, Blk.new _ _ _, hb1.out.alloc hb1.out.size _⟩
      case round =>
        obtain ⟨k, rfl, hk, HK, HBl, HB⟩ := hrel
        by_cases hk3 : k < 3
        · obtain ⟨t, ht, htl, hts, hcell⟩ : ∃ t : List UInt8, Hid ((0 < k + 1 → (0 < k → noStar a) → noStar t → noStar a) ∧ (1 < k + 1 → (1 < k → noStar b) → noStar t → noStar b) ∧ (2 < k + 1 → (2 < k → noStar c) → noStar t → noStar c)) ∧ t.length ≤ 60 ∧ (⟨t.toArray⟩ : ByteArray).size = t.length ∧ wr.cell? ⟨w1.heap.size, k, none⟩ = some (.string ⟨t.toArray⟩) := by
            obtain rfl | rfl | rfl : k = 0 ∨ k = 1 ∨ k = 2 := by omega
            · exact ⟨a, ⟨fun _ _ h => h, fun h => by omega, fun h => by omega⟩, h1, hs1, HBl.out.cell 0⟩
            · exact ⟨b, ⟨fun _ h _ => h (by omega), fun _ _ h => h, fun h => by omega⟩, h2, hs2, HBl.out.cell 1⟩
            · exact ⟨c, ⟨fun _ h _ => h (by omega), fun _ h _ => h (by omega), fun _ _ h => h⟩, h3, hs3, HBl.out.cell 2⟩
          have hk3' : (k : Int) < 3 := by omega
          go_wp2
          go_loopw [51] (fun v51 wx => ∃ i : Nat, v51 = .int .i64 i ∧ i ≤ t.length ∧ Hid (noStar (t.take i)) ∧ wr = wx) (fun v51 _ => t.length - (intOf v51).toNat)
          case atStart => exact ⟨0, rfl, Nat.zero_le _, fun c h => by simp at h, rfl⟩
          case round =>
            obtain ⟨i, rfl, hi, Hno, rfl⟩ := hrel
            by_cases hlt : i < t.length
            · have hlt' : (i : Int) < t.length := by omega
              obtain ⟨d, hd, hat⟩ : ∃ c, t[i] = c ∧ ∀ h : i < (⟨t.toArray⟩ : ByteArray).size, (⟨t.toArray⟩ : ByteArray)[i]'h = c := ⟨_, rfl, fun _ => rfl⟩
              by_cases hst : starB d = true
              · have hcc : d = 42 ∨ d = 37 := by simpa [starB] using hst
                clear hst hd
                rcases hcc with rfl | rfl
                · go_wp2
                  go_ret
                  exact ⟨rfl, HB.out⟩
                · go_wp2
                  go_ret
                  exact ⟨rfl, HB.out⟩
              · have hst' : starB d = false := by simpa using hst
                obtain ⟨n1, n2⟩ : d ≠ 42 ∧ d ≠ 37 := by simpa [starB] using hst'
                have b1 : ¬ (d.toNat : Int) = 42 := u8_lit d 42 (by omega) n1
                have b2 : ¬ (d.toNat : Int) = 37 := u8_lit d 37 (by omega) n2
                have b1' : ((d.toNat : Int) == 42) = false := beq_eq_false_iff_ne.2 b1
                have b2' : ((d.toNat : Int) == 37) = false := beq_eq_false_iff_ne.2 b2
                have HN := hide (noStar_next hlt Hno.out (by rw [hd]; exact hst'))
                clear hst hst' n1 n2 hd
                go_wp2
                go_roundw
                case rel => exact ⟨i + 1, by go_num, by omega, HN.out, trivial⟩
                case measure => simp [intOf] <;> omega
            · obtain rfl : i = t.length := by omega
              have HK2 : Hid ((0 < k + 1 → noStar a) ∧ (1 < k + 1 → noStar b) ∧ (2 < k + 1 → noStar c)) := by
                have hn : noStar t := by have := Hno.out; rwa [List.take_length] at this
                have h := HK.out
                have g := ht.out
                exact ⟨fun x => g.1 x h.1 hn, fun x => g.2.1 x h.2.1 hn, fun x => g.2.2 x h.2.2 hn⟩
              go_wp2
              go_roundw
              case rel => exact ⟨k + 1, by go_num, by omega, HK2.out, HBl.out, HB.out⟩
              case measure => simp [intOf] <;> omega
        · obtain rfl : k = 3 := by omega
          have hna := HK.out.1 (by omega)
          have hnc := HK.out.2.2 (by omega)
          have hfa := fun q => star_facts (b := b) hna hnc q
          have H1 : Hid (∀ W, Below w.heap.size w W → Calls Tryd.prog 15 #[.string ⟨#[42]⟩, .string ⟨a.toArray⟩] W fun e w' => e = .returned (.bool true) ∧ Below w.heap.size w w') := fun W hW => by
            have := HF.out [42] a W (by simp) (by omega) hW
            rwa [(hfa _).1] at this
          have H2 : Hid (∀ W, Below w.heap.size w W → Calls Tryd.prog 15 #[.string ⟨#[37]⟩, .string ⟨b.toArray⟩] W fun e w' => e = .returned (.bool (!t)) ∧ Below w.heap.size w w') := fun W hW => by
            have := HF.out [37] b W (by simp) (by omega) hW
            rwa [(hfa _).2.1, ← HS.out] at this
          have H3 : Hid (∀ W, Below w.heap.size w W → Calls Tryd.prog 15 #[.string ⟨a.toArray⟩, .string ⟨a.toArray⟩] W fun e w' => e = .returned (.bool true) ∧ Below w.heap.size w w') := fun W hW => by
            have := HF.out a a W (by omega) (by omega) hW
            rwa [(hfa _).2.2.1] at this
          obtain ⟨p1, Hp1⟩ : ∃ p : List UInt8, Hid (p = a ++ [42]) := ⟨_, hide rfl⟩
          obtain ⟨p2, Hp2⟩ : ∃ p : List UInt8, Hid (p = a ++ [42] ++ c) := ⟨_, hide rfl⟩
          obtain ⟨p3, Hp3⟩ : ∃ p : List UInt8, Hid (p = a ++ b) := ⟨_, hide rfl⟩
          obtain ⟨p4, Hp4⟩ : ∃ p : List UInt8, Hid (p = a ++ b ++ c) := ⟨_, hide rfl⟩
          obtain ⟨p5, Hp5⟩ : ∃ p : List UInt8, Hid (p = a ++ [37]) := ⟨_, hide rfl⟩
          obtain ⟨p6, Hp6⟩ : ∃ p : List UInt8, Hid (p = a ++ [37] ++ c) := ⟨_, hide rfl⟩
          have e1 : (⟨a.toArray⟩ : ByteArray) ++ ⟨#[42]⟩ = ⟨p1.toArray⟩ := by rw [Hp1.out]; exact cat_lit a [42]
          have e2 : (⟨p1.toArray⟩ : ByteArray) ++ ⟨c.toArray⟩ = ⟨p2.toArray⟩ := by rw [Hp1.out, Hp2.out]; exact cat_lit _ _
          have e3 : (⟨a.toArray⟩ : ByteArray) ++ ⟨b.toArray⟩ = ⟨p3.toArray⟩ := by rw [Hp3.out]; exact cat_lit _ _
          have e4 : (⟨p3.toArray⟩ : ByteArray) ++ ⟨c.toArray⟩ = ⟨p4.toArray⟩ := by rw [Hp3.out, Hp4.out]; exact cat_lit _ _
          have e5 : (⟨a.toArray⟩ : ByteArray) ++ ⟨#[37]⟩ = ⟨p5.toArray⟩ := by rw [Hp5.out]; exact cat_lit a [37]
          have e6 : (⟨p5.toArray⟩ : ByteArray) ++ ⟨c.toArray⟩ = ⟨p6.toArray⟩ := by rw [Hp5.out, Hp6.out]; exact cat_lit _ _
          have l1 : p1.length ≤ 61 := by rw [Hp1.out]; simp; omega
          have l3 : p3.length ≤ 120 := by rw [Hp3.out]; simp; omega
          have l5 : p5.length ≤ 61 := by rw [Hp5.out]; simp; omega
          have z1 := size_lit p1
          have z3 := size_lit p3
          have z5 := size_lit p5
          have y1 : a.length + 1 ≤ 9223372036854775807 := by omega
          have y2 : p1.length + c.length ≤ 9223372036854775807 := by omega
          have y3 : a.length + b.length ≤ 9223372036854775807 := by omega
          have y4 : p3.length + c.length ≤ 9223372036854775807 := by omega
          have y5 : p5.length + c.length ≤ 9223372036854775807 := by omega
          have H4 : Hid (∀ W, Below w.heap.size w W → Calls Tryd.prog 15 #[.string ⟨p2.toArray⟩, .string ⟨p4.toArray⟩] W fun e w' => e = .returned (.bool true) ∧ Below w.heap.size w w') := fun W hW => by
            have := HF.out p2 p4 W (by rw [Hp2.out]; simp; omega) (by rw [Hp4.out]; simp; omega) hW
            rw [Hp2.out, Hp4.out] at this
            rw [(hfa _).2.2.2.1] at this
            rw [Hp2.out, Hp4.out]
            exact this
          have H5 : Hid (t = false → ∀ W, Below w.heap.size w W → Calls Tryd.prog 15 #[.string ⟨p6.toArray⟩, .string ⟨p4.toArray⟩] W fun e w' => e = .returned (.bool true) ∧ Below w.heap.size w w') := fun ht W hW => by
            have := HF.out p6 p4 W (by rw [Hp6.out]; simp; omega) (by rw [Hp4.out]; simp; omega) hW
            rw [Hp6.out, Hp4.out] at this
            rw [(hfa _).2.2.2.2 (by rw [← HS.out]; exact ht)] at this
            rw [Hp6.out, Hp4.out]
            exact this
          clear hna hnc hfa HF HK HS HBl
          cases t with
          | true =>
            go_wp2_with fail
            refine (H1.out _ HB.out).mono ?_
            rintro e w2 ⟨rfl, hb2⟩
            clear H1
            replace hb2 := hide hb2
            go_wp2_with fail
            refine (H2.out _ hb2.out).mono ?_
            rintro e w3 ⟨rfl, hb3⟩
            clear H2 hb2
            replace hb3 := hide hb3
            go_wp2_with fail
            refine (H3.out _ hb3.out).mono ?_
            rintro e w4 ⟨rfl, hb4⟩
            clear H3 hb3
            replace hb4 := hide hb4
            go_wp2_with fail
            refine (H4.out _ hb4.out).mono ?_
            rintro e w5 ⟨rfl, hb5⟩
            clear H4 hb4
            replace hb5 := hide hb5
            go_wp2_with fail
            go_ret
            exact ⟨rfl, hb5.out⟩
          | false =>
            replace H5 := hide (H5.out rfl)
            go_wp2_with fail
            refine (H1.out _ HB.out).mono ?_
            rintro e w2 ⟨rfl, hb2⟩
            clear H1
            replace hb2 := hide hb2
            go_wp2_with fail
            refine (H2.out _ hb2.out).mono ?_
            rintro e w3 ⟨rfl, hb3⟩
            clear H2 hb2
            replace hb3 := hide hb3
            go_wp2_with fail
            refine (H3.out _ hb3.out).mono ?_
            rintro e w4 ⟨rfl, hb4⟩
            clear H3 hb3
            replace hb4 := hide hb4
            go_wp2_with fail
            refine (H4.out _ hb4.out).mono ?_
            rintro e w5 ⟨rfl, hb5⟩
            clear H4 hb4
            replace hb5 := hide hb5
            go_wp2_with fail
            refine (H5.out _ hb5.out).mono ?_
            rintro e w6 ⟨rfl, hb6⟩
            clear H5 hb5
            replace hb6 := hide hb6
            go_wp2_with fail
            go_ret
            exact ⟨rfl, hb6.out⟩
end Go.Proofs.YtelpjiiladbigaaDoor
