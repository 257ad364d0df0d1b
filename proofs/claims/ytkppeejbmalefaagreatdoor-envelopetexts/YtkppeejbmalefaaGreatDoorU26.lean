/- Addresses and Same of the document's layer 11. -/
import Derived.Test.YtkppeejbmalefaaGreatDoorU25
set_option linter.unusedSimpArgs false
namespace Go.Proofs.YtkppeejbmalefaaGreatDoor
open Go.RowKit Go.Shelf
/-- Addresses in a row of this call's own, beside the marks. -/
structure AW (w : World) (g : Nat) (s : List UInt8) (wr : World) (v : Value) (xs : List Ad) : Prop where
  row : ∃ G, Rw wr 3 v xs.length (xs.flatMap Ad.cs) G ∧ ∀ q, G = some q → w.heap.size ≤ q ∧ q ≠ g
  mrk : Blk wr g (mrow s s.length).toArray 3
  bel : Below w.heap.size w wr
theorem AW.below {w wr w' : World} {g : Nat} {s : List UInt8} {v : Value} {xs : List Ad} (h : AW w g s wr v xs) (hb : Below wr.heap.size wr w') : AW w g s w' v xs := by
  obtain ⟨G, h1, h2⟩ := h.row
  exact ⟨⟨G, h1.keep (S := fun _ => False) (Mvs.of_below hb) (fun _ _ c => c), h2⟩, h.mrk.below hb h.mrk.lt, h.bel.trans (hb.mono h.bel.size)⟩
theorem AW.form {w wr : World} {g : Nat} {s : List UInt8} {v : Value} {xs : List Ad} (h : AW w g s wr v xs) : ∃ A c, v = .slice A xs.length c := by
  obtain ⟨G, h1, _⟩ := h.row
  exact h1.form
theorem AW.grow {w wr W w1 : World} {g : Nat} {s : List UInt8} {v v1 : Value} {xs : List Ad} {x : Ad} {G G1 : Option Nat} (h : AW w g s wr v xs) (hG : ∀ q, G = some q → w.heap.size ≤ q ∧ q ≠ g) (hb : Below wr.heap.size wr W)
    (hr : Rw w1 3 v1 (xs.length + 1) (xs.flatMap Ad.cs ++ x.cs) G1) (hm : Mvs (fun k => some k = G) W w1) (hg : G1 = G ∨ G1 = some W.heap.size) : AW w g s w1 v1 (xs ++ [x]) := by
  have hW := h.below hb
  have hlt := hW.mrk.lt
  have hws := hW.bel.size
  refine ⟨⟨G1, ?_, ?_⟩, ?_, ?_⟩
  · rw [List.length_append, List.flatMap_append]
    simpa using hr
  · rintro q rfl
    rcases hg with e | e
    · exact hG q e.symm
    · cases e
      exact ⟨hws, fun e => by omega⟩
  · exact hm.blk hW.mrk (fun e => (hG g e.symm).2 rfl)
  · exact hW.bel.trans (hm.below (fun q hq e => by have := (hG q e.symm).1; omega) hws)
theorem AW.rowOf {w wr : World} {g : Nat} {s : List UInt8} {v : Value} {xs : List Ad} (h : AW w g s wr v xs) : RowOf Ad.cs 3 w.heap.size wr v xs := by
  obtain ⟨G, h1, h2⟩ := h.row
  exact ⟨G, h1, fun q e => (h2 q e).1⟩
theorem AW.cell {w wr : World} {g : Nat} {s : List UInt8} {v : Value} {xs : List Ad} (h : AW w g s wr v xs) {i : Nat} (hi : i < s.length) : wr.cell? ⟨g, i, none⟩ = some (.int .i64 ((mkN (rn .o (s.take i)) s[i] : Nat) : Int)) := by
  rw [h.mrk.cell, List.getElem?_toArray, mrow_at hi]
/-- Where the loop stands. -/
def Aps (s : List UInt8) (xs : List Ad) (fr i : Nat) : Prop :=
  (i ≤ s.length ∧ fr ≤ i ∧ (xs ++ adsP (pcs (rn .o (s.take i)) ((s.drop fr).take (i - fr)) (s.drop i))).take 50 = adsV s) ∨ (i = s.length + 1 ∧ xs = adsV s)
theorem Aps.start (s : List UInt8) : Aps s [] 0 0 := .inl ⟨Nat.zero_le _, Nat.le_refl _, by simp [rn, adsV, adsL]⟩
theorem Aps.next {s : List UInt8} {xs : List Ad} {fr i : Nat} (h : Aps s xs fr i) (hi : i < s.length) (hno : ¬ (s[i] = 44 ∧ mkN (rn .o (s.take i)) s[i] = 0)) : Aps s xs fr (i + 1) := by
  rcases h with ⟨h1, h2, h3⟩ | ⟨h1, _⟩
  · refine .inl ⟨hi, by omega, ?_⟩
    rw [← h3, rn_take hi, mid_next h2 hi]
    congr 3
    conv => rhs; rw [drop_at hi]
    have e1 : ∀ t cur c r, pcs t cur (c :: r) = if t = .o ∧ c = 44 then cur :: pcs .o [] r else pcs (nx t c) (cur ++ [c]) r := fun _ _ _ _ => rfl
    rw [e1, if_neg]
    rintro ⟨a1, a2⟩
    exact hno ⟨a2, by rw [a1, a2]; rfl⟩
  · omega
/-- What a cut gives. -/
theorem Aps.cut {s : List UInt8} {xs : List Ad} {fr i : Nat} (h : Aps s xs fr i) (hi : i ≤ s.length) (hc : ∀ h : i < s.length, s[i] = 44 ∧ mkN (rn .o (s.take i)) s[i] = 0) (hx : xs.length ≤ 50) :
    fr ≤ i ∧ ((Lib.trimS ((s.drop fr).take (i - fr)) [32, 9]).isEmpty = true → Aps s xs (i + 1) (i + 1)) ∧ (xs.length = 50 → Aps s xs (i + 1) (i + 1)) ∧
    (xs.length < 50 → (Lib.trimS ((s.drop fr).take (i - fr)) [32, 9]).isEmpty = false → Aps s (xs ++ [adO (Lib.trimS ((s.drop fr).take (i - fr)) [32, 9])]) (i + 1) (i + 1)) := by
  rcases h with ⟨_, h2, h3⟩ | ⟨h1, _⟩
  · refine ⟨h2, ?_⟩
    have key : ∃ rest : List Ad, (xs ++ ((if (Lib.trimS ((s.drop fr).take (i - fr)) [32, 9]).isEmpty then [] else [adO (Lib.trimS ((s.drop fr).take (i - fr)) [32, 9])]) ++ rest)).take 50 = adsV s ∧ ∀ ys : List Ad, ys.length ≤ 50 → (ys ++ rest).take 50 = adsV s → Aps s ys (i + 1) (i + 1) := by
      by_cases hlt : i < s.length
      · obtain ⟨c1, c2⟩ := hc hlt
        have hst : rn .o (s.take i) = .o := by
          rw [c1] at c2
          cases hq : rn .o (s.take i) with
          | o => rfl
          | _ => rw [hq] at c2; simp [mkN] at c2
        refine ⟨adsP (pcs .o [] (s.drop (i + 1))), ?_, fun ys hy h => .inl ⟨hlt, Nat.le_refl _, ?_⟩⟩
        · rw [← h3, hst, drop_at hlt, c1, ← adsP_cons]
          rfl
        · rw [rn_take hlt, hst, c1, Nat.sub_self, List.take_zero]
          exact h
      · have hie : i = s.length := by omega
        refine ⟨[], ?_, fun ys hy h => .inr ⟨by omega, ?_⟩⟩
        · rw [← h3, List.drop_of_length_le (l := s) (i := i) (by omega)]
          show _ = (xs ++ adsP [_]).take 50
          rw [adsP_cons]
          rfl
        · rw [List.append_nil, List.take_of_length_le hy] at h
          exact h
    obtain ⟨rest, k1, k2⟩ := key
    refine ⟨fun he => ?_, fun he => ?_, fun he hn => ?_⟩
    · rw [he] at k1
      exact k2 xs hx k1
    · refine k2 xs hx ?_
      rw [← k1, List.take_append_of_le_length (by omega), List.take_append_of_le_length (by omega)]
    · rw [hn] at k1
      refine k2 _ (by simp; omega) ?_
      rw [← k1]
      simp
  · omega
set_option maxRecDepth 20000 in
set_option maxHeartbeats 4000000 in
theorem rads_any (s : List UInt8) (w : World) (hl : s.length ≤ 999999) :
    Calls Tryz.prog 22 #[.string ⟨s.toArray⟩] w fun e w' => Below w.heap.size w w' ∧ ∃ u, e = .returned u ∧ RowOf Ad.cs 3 w.heap.size w' u (adsV s) := by
  have hsz := size_lit s
  obtain ⟨i0, hi0, hz0, hz1, hz2⟩ := info_three adInfo
  have hA := (Below.refl w.heap.size w).alloc (Nat.le_refl _) (.cells #[] 39)
  have hs0 : (w.alloc (.cells #[] 39)).heap.size = w.heap.size + 1 := World.size_alloc _ _
  have hRw : Rw (w.alloc (.cells #[] 39)) 3 (.slice (some ⟨w.heap.size, 0, none⟩) 0 0) 0 [] (some w.heap.size) := Rw.new (e := 39) [] [] (Blk.new w #[] 39) rfl rfl (Nat.le_refl _) (by simp only [maxLen]; omega)
  have HMc := hide (marks_any s (w.alloc (.cells #[] 39)) (by omega))
  rw [hs0] at HMc
  have HA0 : Hid (∀ w2, MK (w.alloc (.cells #[] 39)) (w.heap.size + 1) s s.length w2 → AW w (w.heap.size + 1) s w2 (.slice (some ⟨w.heap.size, 0, none⟩) 0 0) []) := fun w2 hm => by
    refine ⟨⟨some w.heap.size, hRw.keep (S := fun _ => False) (Mvs.of_below hm.bel) (fun _ _ c => c), fun q e => by cases e; exact ⟨Nat.le_refl _, by omega⟩⟩, hm.blk, hA.trans (hm.bel.mono (by rw [hs0]; omega))⟩
  obtain ⟨b, hb⟩ : ∃ b, w.heap.size = b := ⟨_, rfl⟩
  rw [hb] at HA0 HMc
  have HBe := hide hb
  clear hA hRw hs0
  go_enter Tryz.func22, Tryz.ntmps22
  go_wp2_with fail
  clear hb
  refine HMc.out.mono ?_
  rintro e w2 ⟨rfl, hmk⟩
  have HA2 := hide (HA0.out w2 hmk)
  clear hmk HMc HA0
  go_wp2
  go_loopw [3, 5, 6] (fun v3 v5 v6 wr => ∃ (fr i : Nat) (xs : List Ad), v5 = .int .i64 fr ∧ v6 = .int .i64 i ∧ i ≤ s.length + 1 ∧ xs.length ≤ 50 ∧ Hid (AW w (b + 1) s wr v3 xs) ∧ Hid (Aps s xs fr i)) (fun _ _ v6 _ => s.length + 1 - (intOf v6).toNat)
  case atStart => exact ⟨0, 0, [], rfl, rfl, by omega, by simp, HA2, Aps.start s⟩
  case round =>
    obtain ⟨fr, i, xs, rfl, rfl, hi, hx, HA, HP⟩ := hrel
    clear HA2
    obtain ⟨A, c0, rfl⟩ := HA.out.form
    by_cases hle : i ≤ s.length
    · have hle' : (i : Int) ≤ s.length := by omega
      by_cases hlt : i < s.length
      · have hlt' : (i : Int) < s.length := by omega
        obtain ⟨c, hc, hat⟩ := at_str s i hlt
        have hcell := HA.out.cell hlt
        obtain ⟨m, hm⟩ : ∃ m, mkN (rn .o (s.take i)) s[i] = m := ⟨_, rfl⟩
        rw [hm] at hcell
        by_cases h44 : c = 44
        · by_cases hm0 : m = 0
          · have hcut := HP.out.cut hle (fun _ => ⟨hc.trans h44, hm.trans hm0⟩) hx
            subst h44
            subst hm0
            have hcell' : wr.cell? ⟨b + 1, i, none⟩ = some (.int .i64 0) := hcell
            clear hcell hm HP
            obtain ⟨hfr, n1, n2, n3⟩ := hcut
            have e3 := slice_en s fr i hfr hle (B := (fr : Int)) (E := (i : Int)) rfl rfl
            have hpl : ((s.drop fr).take (i - fr)).length ≤ 1000000 := by rw [List.length_take, List.length_drop]; omega
            have HTr := hide (fun w => rtr11_any ((s.drop fr).take (i - fr)) w hpl)
            have htl := Nat.le_trans (trim_len ((s.drop fr).take (i - fr))) hpl
            generalize Lib.trimS ((s.drop fr).take (i - fr)) [32, 9] = pc at *
            generalize (s.drop fr).take (i - fr) = cu at *
            by_cases hpe : pc = []
            · have HPn := hide (n1 (by rw [hpe]; rfl))
              subst hpe
              clear n1 n2 n3
              go_wp2_with (first
                | (go_at_call 47; refine (HTr.out _).mono ?_; rintro e w3 ⟨rfl, rfl⟩))
              go_roundw
              case rel => exact ⟨i + 1, i + 1, xs, by go_num, by go_num, by omega, hx, HA, HPn⟩
              case measure => simp [intOf]; omega
            · have hpe' : pc.isEmpty = false := by simpa using hpe
              by_cases h50 : xs.length = 50
              · have HPn := hide (n2 h50)
                have h50' : ¬ ((xs.length : Int) < 50) := by omega
                clear n1 n2 n3 hpe h50
                go_wp2_with (first
                  | (go_at_call 47; refine (HTr.out _).mono ?_; rintro e w3 ⟨rfl, rfl⟩))
                go_roundw
                case rel => exact ⟨i + 1, i + 1, xs, by go_num, by go_num, by omega, hx, HA, HPn⟩
                case measure => simp [intOf]; omega
              · have HPn := hide (n3 (by omega) hpe')
                have h50' : (xs.length : Int) < 50 := by omega
                have HOn := hide (fun w => one_any pc w htl)
                obtain ⟨q, hq⟩ : ∃ q, adO pc = q := ⟨_, rfl⟩
                rw [hq] at HOn HPn
                unfold adAgg at HOn
                obtain ⟨G, hrw, hg⟩ := HA.out.row
                have HRw := hide hrw
                have HG := hide hg
                clear n1 n2 n3 hpe hq hrw hg
                go_wp2_with (first
                  | (go_at_call 47; refine (HTr.out _).mono ?_; rintro e w3 ⟨rfl, rfl⟩)
                  | (go_at_call 48; refine (HOn.out _).mono ?_; rintro e w4 ⟨rfl, hb4⟩
                     have HM4 := hide (Mvs.of_below (S := fun _ => False) hb4)
                     have HB4 := hide hb4
                     clear hb4)
                  | (at_builtin; refine wpList_append_rw rfl _ _ 36 36 rfl 39 i0 (.agg #[.string ⟨#[]⟩, .string ⟨#[]⟩, .string ⟨#[]⟩]) 3 48 Tryz.underlying36 hi0 hz0 hz1 hz2 rfl rfl (HRw.out.keep (S := fun _ => False) (HM4.out.alloc _) (fun _ _ c => c)) _ 1 q.cs rfl (src_ad q) (by simp only [maxLen]; omega) (by omega) ?_))
                intro v1 w5 G1 hr1 hm1 hg1
                have HA5 := hide (HA.out.grow HG.out (HB4.out.alloc HB4.out.size _) hr1 hm1 (by simpa using hg1))
                obtain ⟨A1, c1, rfl⟩ := hr1.form
                clear hr1 hm1 hg1
                go_wp2
                go_roundw
                case rel => exact ⟨i + 1, i + 1, xs ++ [q], by go_num, by go_num, by omega, by rw [List.length_append]; simp; omega, HA5, HPn⟩
                case measure => simp [intOf]; omega
          · have HPn := hide (HP.out.next hlt (fun e => hm0 (hm ▸ e.2)))
            subst h44
            have hm0' : ((m : Int) == 0) = false := by rw [beq_eq_false_iff_ne]; omega
            have hm0'' : ¬ ((m : Int) = 0) := by omega
            clear HP hm
            go_wp2
            go_roundw
            case rel => exact ⟨fr, i + 1, xs, rfl, by go_num, by omega, hx, HA, HPn⟩
            case measure => simp [intOf]; omega
        · have HPn := hide (HP.out.next hlt (fun e => h44 (hc ▸ e.1)))
          have h44' := u8_ne (k := 44) rfl h44
          have h44'' := u8_bne (k := 44) rfl h44
          clear HP hm
          go_wp2
          go_roundw
          case rel => exact ⟨fr, i + 1, xs, rfl, by go_num, by omega, hx, HA, HPn⟩
          case measure => simp [intOf]; omega
      · have hlt' : ¬ ((i : Int) < s.length) := by omega
        have hcut := HP.out.cut hle (fun h => absurd h hlt) hx
        clear HP
        obtain ⟨hfr, n1, n2, n3⟩ := hcut
        have e3 := slice_en s fr i hfr hle (B := (fr : Int)) (E := (i : Int)) rfl rfl
        have hpl : ((s.drop fr).take (i - fr)).length ≤ 1000000 := by rw [List.length_take, List.length_drop]; omega
        have HTr := hide (fun w => rtr11_any ((s.drop fr).take (i - fr)) w hpl)
        have htl := Nat.le_trans (trim_len ((s.drop fr).take (i - fr))) hpl
        generalize Lib.trimS ((s.drop fr).take (i - fr)) [32, 9] = pc at *
        generalize (s.drop fr).take (i - fr) = cu at *
        by_cases hpe : pc = []
        · have HPn := hide (n1 (by rw [hpe]; rfl))
          subst hpe
          clear n1 n2 n3
          go_wp2_with (first
            | (go_at_call 47; refine (HTr.out _).mono ?_; rintro e w3 ⟨rfl, rfl⟩))
          go_roundw
          case rel => exact ⟨i + 1, i + 1, xs, by go_num, by go_num, by omega, hx, HA, HPn⟩
          case measure => simp [intOf]; omega
        · have hpe' : pc.isEmpty = false := by simpa using hpe
          by_cases h50 : xs.length = 50
          · have HPn := hide (n2 h50)
            have h50' : ¬ ((xs.length : Int) < 50) := by omega
            clear n1 n2 n3 hpe h50
            go_wp2_with (first
              | (go_at_call 47; refine (HTr.out _).mono ?_; rintro e w3 ⟨rfl, rfl⟩))
            go_roundw
            case rel => exact ⟨i + 1, i + 1, xs, by go_num, by go_num, by omega, hx, HA, HPn⟩
            case measure => simp [intOf]; omega
          · have HPn := hide (n3 (by omega) hpe')
            have h50' : (xs.length : Int) < 50 := by omega
            have HOn := hide (fun w => one_any pc w htl)
            obtain ⟨q, hq⟩ : ∃ q, adO pc = q := ⟨_, rfl⟩
            rw [hq] at HOn HPn
            unfold adAgg at HOn
            obtain ⟨G, hrw, hg⟩ := HA.out.row
            have HRw := hide hrw
            have HG := hide hg
            clear n1 n2 n3 hpe hq hrw hg
            go_wp2_with (first
              | (go_at_call 47; refine (HTr.out _).mono ?_; rintro e w3 ⟨rfl, rfl⟩)
              | (go_at_call 48; refine (HOn.out _).mono ?_; rintro e w4 ⟨rfl, hb4⟩
                 have HM4 := hide (Mvs.of_below (S := fun _ => False) hb4)
                 have HB4 := hide hb4
                 clear hb4)
              | (at_builtin; refine wpList_append_rw rfl _ _ 36 36 rfl 39 i0 (.agg #[.string ⟨#[]⟩, .string ⟨#[]⟩, .string ⟨#[]⟩]) 3 48 Tryz.underlying36 hi0 hz0 hz1 hz2 rfl rfl (HRw.out.keep (S := fun _ => False) (HM4.out.alloc _) (fun _ _ c => c)) _ 1 q.cs rfl (src_ad q) (by simp only [maxLen]; omega) (by omega) ?_))
            intro v1 w5 G1 hr1 hm1 hg1
            have HA5 := hide (HA.out.grow HG.out (HB4.out.alloc HB4.out.size _) hr1 hm1 (by simpa using hg1))
            obtain ⟨A1, c1, rfl⟩ := hr1.form
            clear hr1 hm1 hg1
            go_wp2
            go_roundw
            case rel => exact ⟨i + 1, i + 1, xs ++ [q], by go_num, by go_num, by omega, by rw [List.length_append]; simp; omega, HA5, HPn⟩
            case measure => simp [intOf]; omega
    · have hle' : ¬ ((i : Int) ≤ s.length) := by omega
      have HV : Hid (xs = adsV s) := by
        rcases HP.out with ⟨h, _⟩ | ⟨_, h⟩
        · omega
        · exact h
      clear HP
      go_wp2
      go_ret
      exact ⟨HA.out.bel, _, rfl, by rw [← HV.out]; exact HA.out.rowOf⟩
end Go.Proofs.YtkppeejbmalefaaGreatDoor
