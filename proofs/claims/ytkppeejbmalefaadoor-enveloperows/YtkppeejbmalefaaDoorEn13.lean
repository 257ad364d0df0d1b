/- EnvelopeRows. -/
import Derived.Test.YtkppeejbmalefaaDoorEn12
set_option linter.unusedSimpArgs false
set_option linter.unusedVariables false
namespace Go.Proofs.YtkppeejbmalefaaDoor
open Go.RowKit Go.Shelf
def okT (t : List UInt8) : Prop := t ≠ [] ∧ t.all alB = true ∧ t.length ≤ 100
theorem okA_of {a : Ad} (h : ∀ t ∈ [a.name, a.loc, a.dom], okT t) : okA a := fun t ht => h t (by simpa using ht)
theorem al_take {t : List UInt8} {j : Nat} (hj : j < t.length) (h : (t.take j).all alB = true) (hc : alB t[j] = true) : (t.take (j + 1)).all alB = true := by
  rw [List.take_succ_eq_append_getElem hj, List.all_append, h]
  simp [hc]
theorem al_yes {c : UInt8} (h : alB c = true) : (97 ≤ c.toNat ∧ c.toNat ≤ 122) ∨ (c.toNat < 97 ∧ 48 ≤ c.toNat ∧ c.toNat ≤ 57) := by
  simp [alB] at h
  omega
theorem al_no {c : UInt8} (h : alB c = false) : (c.toNat < 97 ∨ 122 < c.toNat) ∧ (c.toNat < 48 ∨ 57 < c.toNat) := by
  simp [alB] at h
  omega
theorem okA_next {xs : List Ad} {k : Nat} (hk : k < xs.length) (h : ∀ x ∈ xs.take k, okA x) (hx : okA xs[k]) : ∀ x ∈ xs.take (k + 1), okA x := fun x hm => by
  rw [List.take_succ_eq_append_getElem hk] at hm
  rcases List.mem_append.1 hm with hm | hm
  · exact h x hm
  · rw [List.mem_singleton.1 hm]
    exact hx
theorem row_next {xs : List Ad} {k : Nat} (hk : k < xs.length) : rowT 0 (xs.take (k + 1)) = rowT 0 (xs.take k) ++ ((if 0 < k then [32, 44, 32] else []) ++ pcT k xs[k]) := by
  rw [List.take_succ_eq_append_getElem hk, row_snoc]
  have : 0 + (xs.take k).length = k := by rw [List.length_take]; omega
  rw [this]
theorem lens3 (t : List UInt8) (h : okT t) : t.length ≤ 100 := h.2.2
set_option maxRecDepth 20000 in
set_option maxHeartbeats 4000000 in
theorem envelopeRows_walk (v : Value) (xs : List Ad) (w : World) (hr : ReadOf Ad.cs 3 w v xs) (hx : ∀ x ∈ xs, adLe 140737488351232 x) (ht : TabM w) (ea : Addr) (hE : EF w ea) : Calls Tryd.prog 5 #[v] w fun e w' => e = .returned (.bool true) ∧ Below w.heap.size w w' := by
  have HA := hide (alive11 w ht)
  have HR := hide hr
  have HX := hide hx
  clear hE
  obtain ⟨A, c, rfl, hc⟩ := hr
  have HC := hide hc
  clear hc hx ht
  by_cases h50 : xs.length ≤ 50
  · have h50' : ¬ ((xs.length : Int) > 50) := by omega
    go_enter Tryd.func5, Tryd.ntmps5
    go_wp2_with fail
    refine HA.out.mono ?_
    rintro e w1 ⟨rfl, hb1⟩
    have HB1 := hide hb1
    clear hb1 HA
    go_wp2
    go_loopw [3, 16] (fun v3 v16 wr => ∃ (k : Nat) (s : List UInt8), v16 = .int .i64 k ∧ k ≤ xs.length ∧ v3 = .string ⟨s.toArray⟩ ∧ Hid (s = rowT 0 (xs.take k)) ∧ Hid (∀ x ∈ xs.take k, okA x) ∧ Hid (Below w.heap.size w wr)) (fun _ v16 _ => xs.length - (intOf v16).toNat)
    case atStart => exact ⟨0, [], rfl, Nat.zero_le _, rfl, rfl, (fun x hx => by simp at hx), HB1⟩
    case round =>
      obtain ⟨k, s, rfl, hk, rfl, HS, HO, HB⟩ := hrel
      clear HB1
      have hbs := HB.out.size
      have hsl : s.length ≤ 309 * 50 := by
        rw [HS.out]
        have h1 := rowT_len (xs.take k) 0 HO.out
        have h2 : (xs.take k).length ≤ 50 := by rw [List.length_take]; omega
        omega
      have hsz := size_lit s
      by_cases hlt : k < xs.length
      · have hlt' : (k : Int) < xs.length := by omega
        obtain ⟨g, o, rfl, hg, hcs⟩ := HC.out k hlt
        have HOn := hide (fun h => okA_next hlt HO.out h)
        have HRn := hide (row_next hlt)
        rw [← HS.out] at HRn
        have hxk := HX.out _ (List.getElem_mem hlt)
        obtain ⟨q, hq⟩ : ∃ q, xs[k] = q := ⟨_, rfl⟩
        rw [hq] at hcs HOn HRn hxk
        obtain ⟨x1, x2, x3⟩ := hxk
        have k0 : wr.cell? ⟨g, o + k * 3, none⟩ = some (.string ⟨q.name.toArray⟩) := (HB.out.cell (p := ⟨g, _, none⟩) hg).trans (hcs 0 (by omega))
        have k1 : wr.cell? ⟨g, o + k * 3 + 1, none⟩ = some (.string ⟨q.loc.toArray⟩) := (HB.out.cell (p := ⟨g, _, none⟩) hg).trans (hcs 1 (by omega))
        have k2 : wr.cell? ⟨g, o + k * 3 + 2, none⟩ = some (.string ⟨q.dom.toArray⟩) := (HB.out.cell (p := ⟨g, _, none⟩) hg).trans (hcs 2 (by omega))
        obtain ⟨nm, lo, dm⟩ := q
        dsimp only at k0 k1 k2 x1 x2 x3
        have hD1 := Blk.new wr #[.string ⟨nm.toArray⟩, .string ⟨lo.toArray⟩, .string ⟨dm.toArray⟩] 29
        have hA1 := (Below.refl wr.heap.size wr).alloc (Nat.le_refl _) (.cells #[.string ⟨nm.toArray⟩, .string ⟨lo.toArray⟩, .string ⟨dm.toArray⟩] 29)
        have hz1 : (wr.alloc (.cells #[.string ⟨nm.toArray⟩, .string ⟨lo.toArray⟩, .string ⟨dm.toArray⟩] 29)).heap.size = wr.heap.size + 1 := World.size_alloc _ _
        have hT2 := tx_of (wr.alloc (.cells #[.string ⟨nm.toArray⟩, .string ⟨lo.toArray⟩, .string ⟨dm.toArray⟩] 29)) [nm, lo, dm] (.cells #[.string ⟨nm.toArray⟩, .string ⟨lo.toArray⟩, .string ⟨dm.toArray⟩] 9) rfl (k := 3) rfl
        rw [hz1] at hT2
        have HT2 := hide hT2
        have HK2 := hide (hD1.alloc (.cells #[.string ⟨nm.toArray⟩, .string ⟨lo.toArray⟩, .string ⟨dm.toArray⟩] 9))
        have HB2 := hide (HB.out.trans ((hA1.alloc (by rw [hz1]; omega) (.cells #[.string ⟨nm.toArray⟩, .string ⟨lo.toArray⟩, .string ⟨dm.toArray⟩] 9)).mono hbs))
        clear hD1 hA1 hz1 hT2 hcs hq HO HS HX HC
        go_wp2
        obtain ⟨W2, hW2⟩ : ∃ W2, (wr.alloc (.cells #[.string ⟨nm.toArray⟩, .string ⟨lo.toArray⟩, .string ⟨dm.toArray⟩] 29)).alloc (.cells #[.string ⟨nm.toArray⟩, .string ⟨lo.toArray⟩, .string ⟨dm.toArray⟩] 9) = W2 := ⟨_, rfl⟩
        obtain ⟨D, hD⟩ : ∃ D, wr.heap.size = D := ⟨_, rfl⟩
        rw [hW2, hD] at HT2 HK2
        rw [hW2] at HB2
        rw [hW2, hD]
        clear hW2 hD k0 k1 k2 HB
        go_loop [29] (fun v29 => ∃ j : Nat, v29 = .int .i64 j ∧ j ≤ 3 ∧ Hid (∀ t ∈ ([nm, lo, dm] : List (List UInt8)).take j, okT t)) (fun v29 => 3 - (intOf v29).toNat)
        case atStart => exact ⟨0, rfl, by omega, fun t h => by simp at h⟩
        case round =>
          obtain ⟨j, rfl, hj, HJ⟩ := hrel
          by_cases hj3 : j < 3
          · have hj3' : (j : Int) < 3 := by omega
            have hjl : j < ([nm, lo, dm] : List (List UInt8)).length := hj3
            have hcj : W2.cell? ⟨D + 1, j, none⟩ = some (.string ⟨([nm, lo, dm] : List (List UInt8))[j].toArray⟩) := by
              obtain ⟨A2, c2, e2, h2⟩ := HT2.out
              obtain ⟨g2, o2, e3, _, h3⟩ := h2 j hjl
              cases e2
              cases e3
              rw [Nat.zero_add] at h3
              exact h3
            have HJn : Hid (okT ([nm, lo, dm] : List (List UInt8))[j] → ∀ t ∈ ([nm, lo, dm] : List (List UInt8)).take (j + 1), okT t) := fun h t ht => by
              rw [List.take_succ_eq_append_getElem hjl] at ht
              rcases List.mem_append.1 ht with ht | ht
              · exact HJ.out t ht
              · rw [List.mem_singleton.1 ht]
                exact h
            have htl : ([nm, lo, dm] : List (List UInt8))[j].length ≤ 140737488351232 := by
              match j, hj3 with
              | 0, _ => exact x1
              | 1, _ => exact x2
              | 2, _ => exact x3
            generalize ([nm, lo, dm] : List (List UInt8))[j] = t at *
            have hst := size_lit t
            by_cases ht100 : t.length ≤ 100
            · have ht100' : ¬ ((t.length : Int) > 100) := by omega
              by_cases ht0 : t = []
              · subst ht0
                clear HJ HJn
                go_wp2
                go_ret
                exact ⟨rfl, HB2.out⟩
              · have ht0' : t.isEmpty = false := by simpa using ht0
                have HNe := hide ht0
                clear ht0 HJ
                go_wp2
                go_loop [42] (fun v42 => ∃ p : Nat, v42 = .int .i64 p ∧ p ≤ t.length ∧ Hid ((t.take p).all alB = true)) (fun v42 => t.length - (intOf v42).toNat)
                case atStart => exact ⟨0, rfl, Nat.zero_le _, rfl⟩
                case round =>
                  obtain ⟨p, rfl, hp, HP⟩ := hrel
                  by_cases hpl : p < t.length
                  · have hpl' : (p : Int) < t.length := by omega
                    obtain ⟨d, hd, hat⟩ := at_str t p hpl
                    cases hal : alB d with
                    | true =>
                      have HPn := hide (al_take hpl HP.out (hd ▸ hal))
                      rcases al_yes hal with ⟨y1, y2⟩ | ⟨y1, y2, y3⟩
                      · have z1 : ¬ ((d.toNat : Int) < 97) := by omega
                        have z2 : ¬ ((d.toNat : Int) > 122) := by omega
                        clear HP hal
                        go_wp2
                        go_round
                        case rel => exact ⟨p + 1, by go_num, hpl, HPn⟩
                        case measure => simp [intOf]; omega
                      · have z1 : ((d.toNat : Int) < 97) := by omega
                        have z2 : ¬ ((d.toNat : Int) < 48) := by omega
                        have z3 : ¬ ((d.toNat : Int) > 57) := by omega
                        clear HP hal
                        go_wp2
                        go_round
                        case rel => exact ⟨p + 1, by go_num, hpl, HPn⟩
                        case measure => simp [intOf]; omega
                    | false =>
                      obtain ⟨y1, y2⟩ := al_no hal
                      clear HP hal
                      rcases y1 with y1 | y1
                      · have z1 : ((d.toNat : Int) < 97) := by omega
                        rcases y2 with y2 | y2
                        · have z2 : ((d.toNat : Int) < 48) := by omega
                          go_wp2
                          go_ret
                          exact ⟨rfl, HB2.out⟩
                        · have z2 : ¬ ((d.toNat : Int) < 48) := by omega
                          have z3 : ((d.toNat : Int) > 57) := by omega
                          go_wp2
                          go_ret
                          exact ⟨rfl, HB2.out⟩
                      · have z1 : ¬ ((d.toNat : Int) < 97) := by omega
                        have z2 : ((d.toNat : Int) > 122) := by omega
                        have z3 : ¬ ((d.toNat : Int) < 48) := by omega
                        have z4 : ((d.toNat : Int) > 57) := by omega
                        go_wp2
                        go_ret
                        exact ⟨rfl, HB2.out⟩
                  · have hpl' : ¬ ((p : Int) < t.length) := by omega
                    have HJ2 := hide (HJn.out ⟨HNe.out, by have := HP.out; rwa [List.take_of_length_le (by omega)] at this, ht100⟩)
                    have hj1 : j + 1 ≤ 3 := hj3
                    clear HP HJn
                    go_wp2
                    go_round
                    case rel => exact ⟨j + 1, by go_num, hj1, HJ2⟩
                    case measure => simp [intOf]; omega
            · have ht100' : ((t.length : Int) > 100) := by omega
              clear HJ HJn
              go_wp2
              go_ret
              exact ⟨rfl, HB2.out⟩
          · have hj3' : ¬ ((j : Int) < 3) := by omega
            have hok : ∀ t ∈ ([nm, lo, dm] : List (List UInt8)), okT t := fun t ht => HJ.out t (by rw [List.take_of_length_le (by simp; omega)]; exact ht)
            have HON := hide (HOn.out (okA_of hok))
            have l1 := lens3 nm (hok nm (by simp))
            have l2 := lens3 lo (hok lo (by simp))
            have l3 := lens3 dm (hok dm (by simp))
            have HPc := hide (pcT_len k (okA_of (a := ⟨nm, lo, dm⟩) hok))
            clear hok HJ HOn x1 x2 x3 HT2
            have hk1 : k + 1 ≤ xs.length := hlt
            by_cases hk00 : k = 0
            · have hk0 : ¬ ((k : Int) > 0) := by omega
              have HRm : Hid (rowT 0 (xs.take (k + 1)) = s ++ pcT k ⟨nm, lo, dm⟩) := by rw [show (if 0 < k then ([32, 44, 32] : List UInt8) else []) = [] from if_neg (by omega), List.nil_append] at HRn; exact HRn
              have hp1 : (k : Int) % 2 = 0 := by omega
              have hp2 : (k : Int).tmod 2 = 0 := by rw [Int.tmod_eq_emod_of_nonneg (by omega)]; exact hp1
              have c1 : (⟨#[34]⟩ : ByteArray) ++ ⟨nm.toArray⟩ = ⟨(34 :: nm).toArray⟩ := cat_lit [34] nm
              have c2 : (⟨(34 :: nm).toArray⟩ : ByteArray) ++ ⟨#[34]⟩ = ⟨(34 :: (nm ++ [34])).toArray⟩ := cat_lit (34 :: nm) [34]
              obtain ⟨q1, e1⟩ : ∃ q, 34 :: nm = q := ⟨_, rfl⟩
              obtain ⟨q2, e2⟩ : ∃ q, 34 :: (nm ++ [34]) = q := ⟨_, rfl⟩
              rw [e1] at c1 c2
              rw [e2] at c2
              have c3 : (⟨nm.toArray⟩ : ByteArray) ++ ⟨#[32, 60]⟩ = ⟨(nm ++ [32, 60]).toArray⟩ := cat_lit nm [32, 60]
              obtain ⟨q3, e3⟩ : ∃ q, nm ++ [32, 60] = q := ⟨_, rfl⟩
              rw [e3] at c3
              have c4 : (⟨q3.toArray⟩ : ByteArray) ++ ⟨lo.toArray⟩ = ⟨(q3 ++ lo).toArray⟩ := cat_lit q3 lo
              obtain ⟨q4, e4⟩ : ∃ q, q3 ++ lo = q := ⟨_, rfl⟩
              rw [e4] at c4
              have c5 : (⟨q4.toArray⟩ : ByteArray) ++ ⟨#[64]⟩ = ⟨(q4 ++ [64]).toArray⟩ := cat_lit q4 [64]
              obtain ⟨q5, e5⟩ : ∃ q, q4 ++ [64] = q := ⟨_, rfl⟩
              rw [e5] at c5
              have c6 : (⟨q5.toArray⟩ : ByteArray) ++ ⟨dm.toArray⟩ = ⟨(q5 ++ dm).toArray⟩ := cat_lit q5 dm
              obtain ⟨q6, e6⟩ : ∃ q, q5 ++ dm = q := ⟨_, rfl⟩
              rw [e6] at c6
              have c7 : (⟨q6.toArray⟩ : ByteArray) ++ ⟨#[62]⟩ = ⟨(q6 ++ [62]).toArray⟩ := cat_lit q6 [62]
              obtain ⟨q7, e7⟩ : ∃ q, q6 ++ [62] = q := ⟨_, rfl⟩
              rw [e7] at c7
              have hq7 : q7 = pcT k ⟨nm, lo, dm⟩ := by rw [← e7, ← e6, ← e5, ← e4, ← e3]; unfold pcT nmT; rw [if_pos (by omega)]; simp
              rw [← hq7] at HRm HPc
              have c8 : (⟨s.toArray⟩ : ByteArray) ++ ⟨q7.toArray⟩ = ⟨(s ++ q7).toArray⟩ := cat_lit s q7
              obtain ⟨s2, e8⟩ : ∃ q, s ++ q7 = q := ⟨_, rfl⟩
              rw [e8] at c8 HRm
              have z1 : q1.length ≤ 101 := by rw [← e1]; simp; omega
              have z2 : q2.length ≤ 102 := by rw [← e2]; simp; omega
              have z3 : q3.length ≤ 104 := by rw [← e3, List.length_append]; simp; omega
              have z4 : q4.length ≤ 204 := by rw [← e4, List.length_append]; omega
              have z5 : q5.length ≤ 205 := by rw [← e5, List.length_append]; simp; omega
              have z6 : q6.length ≤ 305 := by rw [← e6, List.length_append]; omega
              have z7 : q7.length ≤ 306 := HPc.out
              have sz_nm := size_lit nm
              have sz_lo := size_lit lo
              have sz_dm := size_lit dm
              have sz_q1 := size_lit q1
              have sz_q2 := size_lit q2
              have sz_q3 := size_lit q3
              have sz_q4 := size_lit q4
              have sz_q5 := size_lit q5
              have sz_q6 := size_lit q6
              have sz_q7 := size_lit q7
              have f5 : 1 + nm.length ≤ 9223372036854775807 := by omega
              have f6 : q1.length ≤ 9223372036854775806 := by omega
              have f12 : ¬ (9223372036854775807 < nm.length + 2) := by omega
              have f15 : ¬ (9223372036854775807 < q3.length + lo.length) := by omega
              have f16 : ¬ (9223372036854775807 < q4.length + 1) := by omega
              have f19 : ¬ (9223372036854775807 < q5.length + dm.length) := by omega
              have f20 : ¬ (9223372036854775807 < q6.length + 1) := by omega
              have f21 : ¬ (9223372036854775807 < s.length + q7.length) := by omega
              have HRd := hide HRm.out
              clear HRn HRm hq7 e1 e2 e3 e4 e5 e6 e7 e8 HPc
              go_wp2_with fail
              have HKd := hide (HK2.out.drewN 1)
              have HT0 : W2.drew.cell? ⟨D, 0, none⟩ = some (.string ⟨nm.toArray⟩) ∧ W2.drew.cell? ⟨D, 1, none⟩ = some (.string ⟨lo.toArray⟩) ∧ W2.drew.cell? ⟨D, 2, none⟩ = some (.string ⟨dm.toArray⟩) := ⟨HK2.out.cell 0, HK2.out.cell 1, HK2.out.cell 2⟩
              have hlD := HK2.out.lt
              refine regionL 22 (fun W => W.cell? ⟨D, 0, none⟩ = some (.string ⟨nm.toArray⟩) ∧ W.cell? ⟨D, 1, none⟩ = some (.string ⟨lo.toArray⟩) ∧ W.cell? ⟨D, 2, none⟩ = some (.string ⟨dm.toArray⟩)) (by kernel_rfl) ?_
              refine takeW (i := 0) (v := (.string ⟨s.toArray⟩)) rfl (by kernel_rfl) (by kernel_rfl) (by kernel_rfl) rfl (fun _ _ _ h => h) (fun _ => HT0) (Or.inl ⟨by rfl, fun W _ => by go_simp⟩) ?_
              simp only [Act.put, List.getElem_toArray, List.getElem_cons_succ, List.getElem_cons_zero, List.setIfInBounds_toArray, List.set_cons_zero, List.set_cons_succ]
              refine takeW (i := 1) (v := (.pointer (some ⟨D, 0, none⟩))) rfl (by kernel_rfl) (by kernel_rfl) (by kernel_rfl) rfl (fun _ _ _ h => h) (fun _ => HT0) (Or.inl ⟨by rfl, fun W _ => by go_simp⟩) ?_
              simp only [Act.put, List.getElem_toArray, List.getElem_cons_succ, List.getElem_cons_zero, List.setIfInBounds_toArray, List.set_cons_zero, List.set_cons_succ]
              refine takeL (i := 2) (v := (.string ⟨nm.toArray⟩)) rfl (by kernel_rfl) (by kernel_rfl) (by kernel_rfl) (by kernel_rfl) (by kernel_rfl) (fun _ _ _ h => h) HT0 (Or.inl ⟨by rfl, fun W hW => by obtain ⟨t0, t1, t2⟩ := hW; go_simp⟩) ?_
              simp only [Act.put, List.getElem_toArray, List.getElem_cons_succ, List.getElem_cons_zero, List.setIfInBounds_toArray, List.set_cons_zero, List.set_cons_succ]
              refine takeW (i := 3) (v := (.pointer (some ⟨D, 0, none⟩))) rfl (by kernel_rfl) (by kernel_rfl) (by kernel_rfl) rfl (fun _ _ _ h => h) (fun _ => HT0) (Or.inl ⟨by rfl, fun W _ => by go_simp⟩) ?_
              simp only [Act.put, List.getElem_toArray, List.getElem_cons_succ, List.getElem_cons_zero, List.setIfInBounds_toArray, List.set_cons_zero, List.set_cons_succ]
              refine takeL (i := 4) (v := (.string ⟨nm.toArray⟩)) rfl (by kernel_rfl) (by kernel_rfl) (by kernel_rfl) (by kernel_rfl) (by kernel_rfl) (fun _ _ _ h => h) HT0 (Or.inl ⟨by rfl, fun W hW => by obtain ⟨t0, t1, t2⟩ := hW; go_simp⟩) ?_
              simp only [Act.put, List.getElem_toArray, List.getElem_cons_succ, List.getElem_cons_zero, List.setIfInBounds_toArray, List.set_cons_zero, List.set_cons_succ]
              refine takeW (i := 5) (v := (.string ⟨q1.toArray⟩)) rfl (by kernel_rfl) (by kernel_rfl) (by kernel_rfl) rfl (fun _ _ _ h => h) (fun _ => HT0) (Or.inl ⟨by rfl, fun W _ => by go_simp⟩) ?_
              simp only [Act.put, List.getElem_toArray, List.getElem_cons_succ, List.getElem_cons_zero, List.setIfInBounds_toArray, List.set_cons_zero, List.set_cons_succ]
              refine takeW (i := 6) (v := (.string ⟨q2.toArray⟩)) rfl (by kernel_rfl) (by kernel_rfl) (by kernel_rfl) rfl (fun _ _ _ h => h) (fun _ => HT0) (Or.inl ⟨by rfl, fun W _ => by go_simp⟩) ?_
              simp only [Act.put, List.getElem_toArray, List.getElem_cons_succ, List.getElem_cons_zero, List.setIfInBounds_toArray, List.set_cons_zero, List.set_cons_succ]
              refine takeW (i := 8) (v := (.int .i64 k)) rfl (by kernel_rfl) (by kernel_rfl) (by kernel_rfl) rfl (fun _ _ _ h => h) (fun _ => HT0) (Or.inl ⟨by rfl, fun W _ => by go_simp⟩) ?_
              simp only [Act.put, List.getElem_toArray, List.getElem_cons_succ, List.getElem_cons_zero, List.setIfInBounds_toArray, List.set_cons_zero, List.set_cons_succ]
              refine takeW (i := 9) (v := (.int .i64 0)) rfl (by kernel_rfl) (by kernel_rfl) (by kernel_rfl) rfl (fun _ _ _ h => h) (fun _ => HT0) (Or.inl ⟨by rfl, fun W _ => by go_simp⟩) ?_
              simp only [Act.put, List.getElem_toArray, List.getElem_cons_succ, List.getElem_cons_zero, List.setIfInBounds_toArray, List.set_cons_zero, List.set_cons_succ]
              refine takeW (i := 13) (v := (.pointer (some ⟨D, 1, none⟩))) rfl (by kernel_rfl) (by kernel_rfl) (by kernel_rfl) rfl (fun _ _ _ h => h) (fun _ => HT0) (Or.inl ⟨by rfl, fun W _ => by go_simp⟩) ?_
              simp only [Act.put, List.getElem_toArray, List.getElem_cons_succ, List.getElem_cons_zero, List.setIfInBounds_toArray, List.set_cons_zero, List.set_cons_succ]
              refine takeL (i := 14) (v := (.string ⟨lo.toArray⟩)) rfl (by kernel_rfl) (by kernel_rfl) (by kernel_rfl) (by kernel_rfl) (by kernel_rfl) (fun _ _ _ h => h) HT0 (Or.inl ⟨by rfl, fun W hW => by obtain ⟨t0, t1, t2⟩ := hW; go_simp⟩) ?_
              simp only [Act.put, List.getElem_toArray, List.getElem_cons_succ, List.getElem_cons_zero, List.setIfInBounds_toArray, List.set_cons_zero, List.set_cons_succ]
              refine takeW (i := 17) (v := (.pointer (some ⟨D, 2, none⟩))) rfl (by kernel_rfl) (by kernel_rfl) (by kernel_rfl) rfl (fun _ _ _ h => h) (fun _ => HT0) (Or.inl ⟨by rfl, fun W _ => by go_simp⟩) ?_
              simp only [Act.put, List.getElem_toArray, List.getElem_cons_succ, List.getElem_cons_zero, List.setIfInBounds_toArray, List.set_cons_zero, List.set_cons_succ]
              refine takeL (i := 18) (v := (.string ⟨dm.toArray⟩)) rfl (by kernel_rfl) (by kernel_rfl) (by kernel_rfl) (by kernel_rfl) (by kernel_rfl) (fun _ _ _ h => h) HT0 (Or.inl ⟨by rfl, fun W hW => by obtain ⟨t0, t1, t2⟩ := hW; go_simp⟩) ?_
              simp only [Act.put, List.getElem_toArray, List.getElem_cons_succ, List.getElem_cons_zero, List.setIfInBounds_toArray, List.set_cons_zero, List.set_cons_succ]
              have hdw : W2.drew.heap.size = W2.heap.size := rfl
              have HKn := hide (Blk.new W2.drew #[.string ⟨nm.toArray⟩, .string ⟨q2.toArray⟩] 9)
              have HBn : Hid (Below w.heap.size w (W2.drew.alloc (.cells #[.string ⟨nm.toArray⟩, .string ⟨q2.toArray⟩] 9))) := HB2.out.drew.alloc HB2.out.size _
              have HT1 : Hid ((W2.drew.alloc (.cells #[.string ⟨nm.toArray⟩, .string ⟨q2.toArray⟩] 9)).cell? ⟨D, 0, none⟩ = some (.string ⟨nm.toArray⟩) ∧ (W2.drew.alloc (.cells #[.string ⟨nm.toArray⟩, .string ⟨q2.toArray⟩] 9)).cell? ⟨D, 1, none⟩ = some (.string ⟨lo.toArray⟩) ∧ (W2.drew.alloc (.cells #[.string ⟨nm.toArray⟩, .string ⟨q2.toArray⟩] 9)).cell? ⟨D, 2, none⟩ = some (.string ⟨dm.toArray⟩)) := ⟨(HKd.out.alloc (.cells #[.string ⟨nm.toArray⟩, .string ⟨q2.toArray⟩] 9)).cell 0, (HKd.out.alloc (.cells #[.string ⟨nm.toArray⟩, .string ⟨q2.toArray⟩] 9)).cell 1, (HKd.out.alloc (.cells #[.string ⟨nm.toArray⟩, .string ⟨q2.toArray⟩] 9)).cell 2⟩
              refine readyL (rs := [7]) (by kernel_rfl) (by simp) ?_
              refine AllL.cons rfl (fun K hK => ?_) AllL.nil
              try simp only [List.getElem_toArray, List.getElem_cons_succ, List.getElem_cons_zero]
              go_simp
              refine hK.out _ _ (fun _ => HT1.out) (fun _ => ?_)
              clear hK K
              try simp only [Act.put, List.getElem_toArray, List.getElem_cons_succ, List.getElem_cons_zero, List.setIfInBounds_toArray, List.set_cons_zero, List.set_cons_succ]
              obtain ⟨W3, hW3⟩ : ∃ W3, W2.drew.alloc (.cells #[.string ⟨nm.toArray⟩, .string ⟨q2.toArray⟩] 9) = W3 := ⟨_, rfl⟩
              rw [hW3] at HKn HBn HT1
              show anyL _ _ _ _ _ _ _ _ _ (W2.drew.alloc (.cells #[.string ⟨nm.toArray⟩, .string ⟨q2.toArray⟩] 9))
              rw [hW3]
              have hn0 : W3.cell? ⟨W2.heap.size, 0, none⟩ = some (.string ⟨nm.toArray⟩) := HKn.out.cell 0
              clear hW3
              refine readyL (rs := [10]) (by kernel_rfl) (by simp) ?_
              refine AllL.cons rfl (fun K hK => ?_) AllL.nil
              try simp only [List.getElem_toArray, List.getElem_cons_succ, List.getElem_cons_zero]
              go_simp
              refine hK.out _ _ (fun _ => HT1.out) (fun _ => ?_)
              clear hK K
              try simp only [Act.put, List.getElem_toArray, List.getElem_cons_succ, List.getElem_cons_zero, List.setIfInBounds_toArray, List.set_cons_zero, List.set_cons_succ]
              refine readyL (rs := [11]) (by kernel_rfl) (by simp) ?_
              refine AllL.cons rfl (fun K hK => ?_) AllL.nil
              try simp only [List.getElem_toArray, List.getElem_cons_succ, List.getElem_cons_zero]
              go_simp
              refine hK.out _ _ (fun _ => HT1.out) (fun _ => ?_)
              clear hK K
              try simp only [Act.put, List.getElem_toArray, List.getElem_cons_succ, List.getElem_cons_zero, List.setIfInBounds_toArray, List.set_cons_zero, List.set_cons_succ]
              refine readyL (rs := [12]) (by kernel_rfl) (by simp) ?_
              refine AllL.cons rfl (fun K hK => ?_) AllL.nil
              try simp only [List.getElem_toArray, List.getElem_cons_succ, List.getElem_cons_zero]
              go_simp
              refine hK.out _ _ (fun _ => HT1.out) (fun _ => ?_)
              clear hK K
              try simp only [Act.put, List.getElem_toArray, List.getElem_cons_succ, List.getElem_cons_zero, List.setIfInBounds_toArray, List.set_cons_zero, List.set_cons_succ]
              refine readyL (rs := [15]) (by kernel_rfl) (by simp) ?_
              refine AllL.cons rfl (fun K hK => ?_) AllL.nil
              try simp only [List.getElem_toArray, List.getElem_cons_succ, List.getElem_cons_zero]
              go_simp
              refine hK.out _ _ (fun _ => HT1.out) (fun _ => ?_)
              clear hK K
              try simp only [Act.put, List.getElem_toArray, List.getElem_cons_succ, List.getElem_cons_zero, List.setIfInBounds_toArray, List.set_cons_zero, List.set_cons_succ]
              refine readyL (rs := [16]) (by kernel_rfl) (by simp) ?_
              refine AllL.cons rfl (fun K hK => ?_) AllL.nil
              try simp only [List.getElem_toArray, List.getElem_cons_succ, List.getElem_cons_zero]
              go_simp
              refine hK.out _ _ (fun _ => HT1.out) (fun _ => ?_)
              clear hK K
              try simp only [Act.put, List.getElem_toArray, List.getElem_cons_succ, List.getElem_cons_zero, List.setIfInBounds_toArray, List.set_cons_zero, List.set_cons_succ]
              refine readyL (rs := [19]) (by kernel_rfl) (by simp) ?_
              refine AllL.cons rfl (fun K hK => ?_) AllL.nil
              try simp only [List.getElem_toArray, List.getElem_cons_succ, List.getElem_cons_zero]
              go_simp
              refine hK.out _ _ (fun _ => HT1.out) (fun _ => ?_)
              clear hK K
              try simp only [Act.put, List.getElem_toArray, List.getElem_cons_succ, List.getElem_cons_zero, List.setIfInBounds_toArray, List.set_cons_zero, List.set_cons_succ]
              refine readyL (rs := [20]) (by kernel_rfl) (by simp) ?_
              refine AllL.cons rfl (fun K hK => ?_) AllL.nil
              try simp only [List.getElem_toArray, List.getElem_cons_succ, List.getElem_cons_zero]
              go_simp
              refine hK.out _ _ (fun _ => HT1.out) (fun _ => ?_)
              clear hK K
              try simp only [Act.put, List.getElem_toArray, List.getElem_cons_succ, List.getElem_cons_zero, List.setIfInBounds_toArray, List.set_cons_zero, List.set_cons_succ]
              refine readyL (rs := [21]) (by kernel_rfl) (by simp) ?_
              refine AllL.cons rfl (fun K hK => ?_) AllL.nil
              try simp only [List.getElem_toArray, List.getElem_cons_succ, List.getElem_cons_zero]
              go_simp
              refine hK.out _ _ (fun _ => HT1.out) (fun _ => ?_)
              clear hK K
              try simp only [Act.put, List.getElem_toArray, List.getElem_cons_succ, List.getElem_cons_zero, List.setIfInBounds_toArray, List.set_cons_zero, List.set_cons_succ]
              refine readyL (rs := [22]) (by kernel_rfl) (by simp) ?_
              refine AllL.cons rfl (fun K hK => ?_) AllL.nil
              try simp only [List.getElem_toArray, List.getElem_cons_succ, List.getElem_cons_zero]
              go_simp
              refine hK.out _ _ (vac (by kernel_rfl)) (fun _ => ?_)
              clear hK K
              try simp only [Act.put, List.getElem_toArray, List.getElem_cons_succ, List.getElem_cons_zero, List.setIfInBounds_toArray, List.set_cons_zero, List.set_cons_succ]
              refine doneL (by kernel_rfl) ?_ _
              go_wp2
              go_roundw
              case rel => exact ⟨k + 1, s2, by go_num, hk1, rfl, HRd.out.symm, HON, HBn⟩
              case measure => simp [intOf]; omega
            · rcases Nat.mod_two_eq_zero_or_one k with hpar | hpar
              · have hk0 : ((k : Int) > 0) := by omega
                have c0 : (⟨s.toArray⟩ : ByteArray) ++ ⟨#[32, 44, 32]⟩ = ⟨(s ++ [32, 44, 32]).toArray⟩ := cat_lit s [32, 44, 32]
                obtain ⟨s1, hs1⟩ : ∃ s1, s ++ [32, 44, 32] = s1 := ⟨_, rfl⟩
                have HRm : Hid (rowT 0 (xs.take (k + 1)) = s1 ++ pcT k ⟨nm, lo, dm⟩) := by rw [show (if 0 < k then ([32, 44, 32] : List UInt8) else []) = [32, 44, 32] from if_pos (by omega), ← List.append_assoc, hs1] at HRn; exact HRn
                have hs1l : s1.length ≤ 309 * 50 + 3 := by rw [← hs1]; simp; omega
                rw [hs1] at c0
                have hs1z := size_lit s1
                clear hs1
                have hp1 : (k : Int) % 2 = 0 := by omega
                have hp2 : (k : Int).tmod 2 = 0 := by rw [Int.tmod_eq_emod_of_nonneg (by omega)]; exact hp1
                have c1 : (⟨#[34]⟩ : ByteArray) ++ ⟨nm.toArray⟩ = ⟨(34 :: nm).toArray⟩ := cat_lit [34] nm
                have c2 : (⟨(34 :: nm).toArray⟩ : ByteArray) ++ ⟨#[34]⟩ = ⟨(34 :: (nm ++ [34])).toArray⟩ := cat_lit (34 :: nm) [34]
                obtain ⟨q1, e1⟩ : ∃ q, 34 :: nm = q := ⟨_, rfl⟩
                obtain ⟨q2, e2⟩ : ∃ q, 34 :: (nm ++ [34]) = q := ⟨_, rfl⟩
                rw [e1] at c1 c2
                rw [e2] at c2
                have c3 : (⟨nm.toArray⟩ : ByteArray) ++ ⟨#[32, 60]⟩ = ⟨(nm ++ [32, 60]).toArray⟩ := cat_lit nm [32, 60]
                obtain ⟨q3, e3⟩ : ∃ q, nm ++ [32, 60] = q := ⟨_, rfl⟩
                rw [e3] at c3
                have c4 : (⟨q3.toArray⟩ : ByteArray) ++ ⟨lo.toArray⟩ = ⟨(q3 ++ lo).toArray⟩ := cat_lit q3 lo
                obtain ⟨q4, e4⟩ : ∃ q, q3 ++ lo = q := ⟨_, rfl⟩
                rw [e4] at c4
                have c5 : (⟨q4.toArray⟩ : ByteArray) ++ ⟨#[64]⟩ = ⟨(q4 ++ [64]).toArray⟩ := cat_lit q4 [64]
                obtain ⟨q5, e5⟩ : ∃ q, q4 ++ [64] = q := ⟨_, rfl⟩
                rw [e5] at c5
                have c6 : (⟨q5.toArray⟩ : ByteArray) ++ ⟨dm.toArray⟩ = ⟨(q5 ++ dm).toArray⟩ := cat_lit q5 dm
                obtain ⟨q6, e6⟩ : ∃ q, q5 ++ dm = q := ⟨_, rfl⟩
                rw [e6] at c6
                have c7 : (⟨q6.toArray⟩ : ByteArray) ++ ⟨#[62]⟩ = ⟨(q6 ++ [62]).toArray⟩ := cat_lit q6 [62]
                obtain ⟨q7, e7⟩ : ∃ q, q6 ++ [62] = q := ⟨_, rfl⟩
                rw [e7] at c7
                have hq7 : q7 = pcT k ⟨nm, lo, dm⟩ := by rw [← e7, ← e6, ← e5, ← e4, ← e3]; unfold pcT nmT; rw [if_pos (by omega)]; simp
                rw [← hq7] at HRm HPc
                have c8 : (⟨s1.toArray⟩ : ByteArray) ++ ⟨q7.toArray⟩ = ⟨(s1 ++ q7).toArray⟩ := cat_lit s1 q7
                obtain ⟨s2, e8⟩ : ∃ q, s1 ++ q7 = q := ⟨_, rfl⟩
                rw [e8] at c8 HRm
                have z1 : q1.length ≤ 101 := by rw [← e1]; simp; omega
                have z2 : q2.length ≤ 102 := by rw [← e2]; simp; omega
                have z3 : q3.length ≤ 104 := by rw [← e3, List.length_append]; simp; omega
                have z4 : q4.length ≤ 204 := by rw [← e4, List.length_append]; omega
                have z5 : q5.length ≤ 205 := by rw [← e5, List.length_append]; simp; omega
                have z6 : q6.length ≤ 305 := by rw [← e6, List.length_append]; omega
                have z7 : q7.length ≤ 306 := HPc.out
                have sz_nm := size_lit nm
                have sz_lo := size_lit lo
                have sz_dm := size_lit dm
                have sz_q1 := size_lit q1
                have sz_q2 := size_lit q2
                have sz_q3 := size_lit q3
                have sz_q4 := size_lit q4
                have sz_q5 := size_lit q5
                have sz_q6 := size_lit q6
                have sz_q7 := size_lit q7
                have f5 : 1 + nm.length ≤ 9223372036854775807 := by omega
                have f6 : q1.length ≤ 9223372036854775806 := by omega
                have f12 : ¬ (9223372036854775807 < nm.length + 2) := by omega
                have f15 : ¬ (9223372036854775807 < q3.length + lo.length) := by omega
                have f16 : ¬ (9223372036854775807 < q4.length + 1) := by omega
                have f19 : ¬ (9223372036854775807 < q5.length + dm.length) := by omega
                have f20 : ¬ (9223372036854775807 < q6.length + 1) := by omega
                have f21 : ¬ (9223372036854775807 < s1.length + q7.length) := by omega
                have HRd := hide HRm.out
                clear HRn HRm hq7 e1 e2 e3 e4 e5 e6 e7 e8 HPc
                go_wp2_with fail
                have HKd := hide (HK2.out.drewN 1)
                have HT0 : W2.drew.cell? ⟨D, 0, none⟩ = some (.string ⟨nm.toArray⟩) ∧ W2.drew.cell? ⟨D, 1, none⟩ = some (.string ⟨lo.toArray⟩) ∧ W2.drew.cell? ⟨D, 2, none⟩ = some (.string ⟨dm.toArray⟩) := ⟨HK2.out.cell 0, HK2.out.cell 1, HK2.out.cell 2⟩
                have hlD := HK2.out.lt
                refine regionL 22 (fun W => W.cell? ⟨D, 0, none⟩ = some (.string ⟨nm.toArray⟩) ∧ W.cell? ⟨D, 1, none⟩ = some (.string ⟨lo.toArray⟩) ∧ W.cell? ⟨D, 2, none⟩ = some (.string ⟨dm.toArray⟩)) (by kernel_rfl) ?_
                refine takeW (i := 0) (v := (.string ⟨s1.toArray⟩)) rfl (by kernel_rfl) (by kernel_rfl) (by kernel_rfl) rfl (fun _ _ _ h => h) (fun _ => HT0) (Or.inl ⟨by rfl, fun W _ => by go_simp⟩) ?_
                simp only [Act.put, List.getElem_toArray, List.getElem_cons_succ, List.getElem_cons_zero, List.setIfInBounds_toArray, List.set_cons_zero, List.set_cons_succ]
                refine takeW (i := 1) (v := (.pointer (some ⟨D, 0, none⟩))) rfl (by kernel_rfl) (by kernel_rfl) (by kernel_rfl) rfl (fun _ _ _ h => h) (fun _ => HT0) (Or.inl ⟨by rfl, fun W _ => by go_simp⟩) ?_
                simp only [Act.put, List.getElem_toArray, List.getElem_cons_succ, List.getElem_cons_zero, List.setIfInBounds_toArray, List.set_cons_zero, List.set_cons_succ]
                refine takeL (i := 2) (v := (.string ⟨nm.toArray⟩)) rfl (by kernel_rfl) (by kernel_rfl) (by kernel_rfl) (by kernel_rfl) (by kernel_rfl) (fun _ _ _ h => h) HT0 (Or.inl ⟨by rfl, fun W hW => by obtain ⟨t0, t1, t2⟩ := hW; go_simp⟩) ?_
                simp only [Act.put, List.getElem_toArray, List.getElem_cons_succ, List.getElem_cons_zero, List.setIfInBounds_toArray, List.set_cons_zero, List.set_cons_succ]
                refine takeW (i := 3) (v := (.pointer (some ⟨D, 0, none⟩))) rfl (by kernel_rfl) (by kernel_rfl) (by kernel_rfl) rfl (fun _ _ _ h => h) (fun _ => HT0) (Or.inl ⟨by rfl, fun W _ => by go_simp⟩) ?_
                simp only [Act.put, List.getElem_toArray, List.getElem_cons_succ, List.getElem_cons_zero, List.setIfInBounds_toArray, List.set_cons_zero, List.set_cons_succ]
                refine takeL (i := 4) (v := (.string ⟨nm.toArray⟩)) rfl (by kernel_rfl) (by kernel_rfl) (by kernel_rfl) (by kernel_rfl) (by kernel_rfl) (fun _ _ _ h => h) HT0 (Or.inl ⟨by rfl, fun W hW => by obtain ⟨t0, t1, t2⟩ := hW; go_simp⟩) ?_
                simp only [Act.put, List.getElem_toArray, List.getElem_cons_succ, List.getElem_cons_zero, List.setIfInBounds_toArray, List.set_cons_zero, List.set_cons_succ]
                refine takeW (i := 5) (v := (.string ⟨q1.toArray⟩)) rfl (by kernel_rfl) (by kernel_rfl) (by kernel_rfl) rfl (fun _ _ _ h => h) (fun _ => HT0) (Or.inl ⟨by rfl, fun W _ => by go_simp⟩) ?_
                simp only [Act.put, List.getElem_toArray, List.getElem_cons_succ, List.getElem_cons_zero, List.setIfInBounds_toArray, List.set_cons_zero, List.set_cons_succ]
                refine takeW (i := 6) (v := (.string ⟨q2.toArray⟩)) rfl (by kernel_rfl) (by kernel_rfl) (by kernel_rfl) rfl (fun _ _ _ h => h) (fun _ => HT0) (Or.inl ⟨by rfl, fun W _ => by go_simp⟩) ?_
                simp only [Act.put, List.getElem_toArray, List.getElem_cons_succ, List.getElem_cons_zero, List.setIfInBounds_toArray, List.set_cons_zero, List.set_cons_succ]
                refine takeW (i := 8) (v := (.int .i64 k)) rfl (by kernel_rfl) (by kernel_rfl) (by kernel_rfl) rfl (fun _ _ _ h => h) (fun _ => HT0) (Or.inl ⟨by rfl, fun W _ => by go_simp⟩) ?_
                simp only [Act.put, List.getElem_toArray, List.getElem_cons_succ, List.getElem_cons_zero, List.setIfInBounds_toArray, List.set_cons_zero, List.set_cons_succ]
                refine takeW (i := 9) (v := (.int .i64 0)) rfl (by kernel_rfl) (by kernel_rfl) (by kernel_rfl) rfl (fun _ _ _ h => h) (fun _ => HT0) (Or.inl ⟨by rfl, fun W _ => by go_simp⟩) ?_
                simp only [Act.put, List.getElem_toArray, List.getElem_cons_succ, List.getElem_cons_zero, List.setIfInBounds_toArray, List.set_cons_zero, List.set_cons_succ]
                refine takeW (i := 13) (v := (.pointer (some ⟨D, 1, none⟩))) rfl (by kernel_rfl) (by kernel_rfl) (by kernel_rfl) rfl (fun _ _ _ h => h) (fun _ => HT0) (Or.inl ⟨by rfl, fun W _ => by go_simp⟩) ?_
                simp only [Act.put, List.getElem_toArray, List.getElem_cons_succ, List.getElem_cons_zero, List.setIfInBounds_toArray, List.set_cons_zero, List.set_cons_succ]
                refine takeL (i := 14) (v := (.string ⟨lo.toArray⟩)) rfl (by kernel_rfl) (by kernel_rfl) (by kernel_rfl) (by kernel_rfl) (by kernel_rfl) (fun _ _ _ h => h) HT0 (Or.inl ⟨by rfl, fun W hW => by obtain ⟨t0, t1, t2⟩ := hW; go_simp⟩) ?_
                simp only [Act.put, List.getElem_toArray, List.getElem_cons_succ, List.getElem_cons_zero, List.setIfInBounds_toArray, List.set_cons_zero, List.set_cons_succ]
                refine takeW (i := 17) (v := (.pointer (some ⟨D, 2, none⟩))) rfl (by kernel_rfl) (by kernel_rfl) (by kernel_rfl) rfl (fun _ _ _ h => h) (fun _ => HT0) (Or.inl ⟨by rfl, fun W _ => by go_simp⟩) ?_
                simp only [Act.put, List.getElem_toArray, List.getElem_cons_succ, List.getElem_cons_zero, List.setIfInBounds_toArray, List.set_cons_zero, List.set_cons_succ]
                refine takeL (i := 18) (v := (.string ⟨dm.toArray⟩)) rfl (by kernel_rfl) (by kernel_rfl) (by kernel_rfl) (by kernel_rfl) (by kernel_rfl) (fun _ _ _ h => h) HT0 (Or.inl ⟨by rfl, fun W hW => by obtain ⟨t0, t1, t2⟩ := hW; go_simp⟩) ?_
                simp only [Act.put, List.getElem_toArray, List.getElem_cons_succ, List.getElem_cons_zero, List.setIfInBounds_toArray, List.set_cons_zero, List.set_cons_succ]
                have hdw : W2.drew.heap.size = W2.heap.size := rfl
                have HKn := hide (Blk.new W2.drew #[.string ⟨nm.toArray⟩, .string ⟨q2.toArray⟩] 9)
                have HBn : Hid (Below w.heap.size w (W2.drew.alloc (.cells #[.string ⟨nm.toArray⟩, .string ⟨q2.toArray⟩] 9))) := HB2.out.drew.alloc HB2.out.size _
                have HT1 : Hid ((W2.drew.alloc (.cells #[.string ⟨nm.toArray⟩, .string ⟨q2.toArray⟩] 9)).cell? ⟨D, 0, none⟩ = some (.string ⟨nm.toArray⟩) ∧ (W2.drew.alloc (.cells #[.string ⟨nm.toArray⟩, .string ⟨q2.toArray⟩] 9)).cell? ⟨D, 1, none⟩ = some (.string ⟨lo.toArray⟩) ∧ (W2.drew.alloc (.cells #[.string ⟨nm.toArray⟩, .string ⟨q2.toArray⟩] 9)).cell? ⟨D, 2, none⟩ = some (.string ⟨dm.toArray⟩)) := ⟨(HKd.out.alloc (.cells #[.string ⟨nm.toArray⟩, .string ⟨q2.toArray⟩] 9)).cell 0, (HKd.out.alloc (.cells #[.string ⟨nm.toArray⟩, .string ⟨q2.toArray⟩] 9)).cell 1, (HKd.out.alloc (.cells #[.string ⟨nm.toArray⟩, .string ⟨q2.toArray⟩] 9)).cell 2⟩
                refine readyL (rs := [7]) (by kernel_rfl) (by simp) ?_
                refine AllL.cons rfl (fun K hK => ?_) AllL.nil
                try simp only [List.getElem_toArray, List.getElem_cons_succ, List.getElem_cons_zero]
                go_simp
                refine hK.out _ _ (fun _ => HT1.out) (fun _ => ?_)
                clear hK K
                try simp only [Act.put, List.getElem_toArray, List.getElem_cons_succ, List.getElem_cons_zero, List.setIfInBounds_toArray, List.set_cons_zero, List.set_cons_succ]
                obtain ⟨W3, hW3⟩ : ∃ W3, W2.drew.alloc (.cells #[.string ⟨nm.toArray⟩, .string ⟨q2.toArray⟩] 9) = W3 := ⟨_, rfl⟩
                rw [hW3] at HKn HBn HT1
                show anyL _ _ _ _ _ _ _ _ _ (W2.drew.alloc (.cells #[.string ⟨nm.toArray⟩, .string ⟨q2.toArray⟩] 9))
                rw [hW3]
                have hn0 : W3.cell? ⟨W2.heap.size, 0, none⟩ = some (.string ⟨nm.toArray⟩) := HKn.out.cell 0
                clear hW3
                refine readyL (rs := [10]) (by kernel_rfl) (by simp) ?_
                refine AllL.cons rfl (fun K hK => ?_) AllL.nil
                try simp only [List.getElem_toArray, List.getElem_cons_succ, List.getElem_cons_zero]
                go_simp
                refine hK.out _ _ (fun _ => HT1.out) (fun _ => ?_)
                clear hK K
                try simp only [Act.put, List.getElem_toArray, List.getElem_cons_succ, List.getElem_cons_zero, List.setIfInBounds_toArray, List.set_cons_zero, List.set_cons_succ]
                refine readyL (rs := [11]) (by kernel_rfl) (by simp) ?_
                refine AllL.cons rfl (fun K hK => ?_) AllL.nil
                try simp only [List.getElem_toArray, List.getElem_cons_succ, List.getElem_cons_zero]
                go_simp
                refine hK.out _ _ (fun _ => HT1.out) (fun _ => ?_)
                clear hK K
                try simp only [Act.put, List.getElem_toArray, List.getElem_cons_succ, List.getElem_cons_zero, List.setIfInBounds_toArray, List.set_cons_zero, List.set_cons_succ]
                refine readyL (rs := [12]) (by kernel_rfl) (by simp) ?_
                refine AllL.cons rfl (fun K hK => ?_) AllL.nil
                try simp only [List.getElem_toArray, List.getElem_cons_succ, List.getElem_cons_zero]
                go_simp
                refine hK.out _ _ (fun _ => HT1.out) (fun _ => ?_)
                clear hK K
                try simp only [Act.put, List.getElem_toArray, List.getElem_cons_succ, List.getElem_cons_zero, List.setIfInBounds_toArray, List.set_cons_zero, List.set_cons_succ]
                refine readyL (rs := [15]) (by kernel_rfl) (by simp) ?_
                refine AllL.cons rfl (fun K hK => ?_) AllL.nil
                try simp only [List.getElem_toArray, List.getElem_cons_succ, List.getElem_cons_zero]
                go_simp
                refine hK.out _ _ (fun _ => HT1.out) (fun _ => ?_)
                clear hK K
                try simp only [Act.put, List.getElem_toArray, List.getElem_cons_succ, List.getElem_cons_zero, List.setIfInBounds_toArray, List.set_cons_zero, List.set_cons_succ]
                refine readyL (rs := [16]) (by kernel_rfl) (by simp) ?_
                refine AllL.cons rfl (fun K hK => ?_) AllL.nil
                try simp only [List.getElem_toArray, List.getElem_cons_succ, List.getElem_cons_zero]
                go_simp
                refine hK.out _ _ (fun _ => HT1.out) (fun _ => ?_)
                clear hK K
                try simp only [Act.put, List.getElem_toArray, List.getElem_cons_succ, List.getElem_cons_zero, List.setIfInBounds_toArray, List.set_cons_zero, List.set_cons_succ]
                refine readyL (rs := [19]) (by kernel_rfl) (by simp) ?_
                refine AllL.cons rfl (fun K hK => ?_) AllL.nil
                try simp only [List.getElem_toArray, List.getElem_cons_succ, List.getElem_cons_zero]
                go_simp
                refine hK.out _ _ (fun _ => HT1.out) (fun _ => ?_)
                clear hK K
                try simp only [Act.put, List.getElem_toArray, List.getElem_cons_succ, List.getElem_cons_zero, List.setIfInBounds_toArray, List.set_cons_zero, List.set_cons_succ]
                refine readyL (rs := [20]) (by kernel_rfl) (by simp) ?_
                refine AllL.cons rfl (fun K hK => ?_) AllL.nil
                try simp only [List.getElem_toArray, List.getElem_cons_succ, List.getElem_cons_zero]
                go_simp
                refine hK.out _ _ (fun _ => HT1.out) (fun _ => ?_)
                clear hK K
                try simp only [Act.put, List.getElem_toArray, List.getElem_cons_succ, List.getElem_cons_zero, List.setIfInBounds_toArray, List.set_cons_zero, List.set_cons_succ]
                refine readyL (rs := [21]) (by kernel_rfl) (by simp) ?_
                refine AllL.cons rfl (fun K hK => ?_) AllL.nil
                try simp only [List.getElem_toArray, List.getElem_cons_succ, List.getElem_cons_zero]
                go_simp
                refine hK.out _ _ (fun _ => HT1.out) (fun _ => ?_)
                clear hK K
                try simp only [Act.put, List.getElem_toArray, List.getElem_cons_succ, List.getElem_cons_zero, List.setIfInBounds_toArray, List.set_cons_zero, List.set_cons_succ]
                refine readyL (rs := [22]) (by kernel_rfl) (by simp) ?_
                refine AllL.cons rfl (fun K hK => ?_) AllL.nil
                try simp only [List.getElem_toArray, List.getElem_cons_succ, List.getElem_cons_zero]
                go_simp
                refine hK.out _ _ (vac (by kernel_rfl)) (fun _ => ?_)
                clear hK K
                try simp only [Act.put, List.getElem_toArray, List.getElem_cons_succ, List.getElem_cons_zero, List.setIfInBounds_toArray, List.set_cons_zero, List.set_cons_succ]
                refine doneL (by kernel_rfl) ?_ _
                go_wp2
                go_roundw
                case rel => exact ⟨k + 1, s2, by go_num, hk1, rfl, HRd.out.symm, HON, HBn⟩
                case measure => simp [intOf]; omega
              · have hk0 : ((k : Int) > 0) := by omega
                have c0 : (⟨s.toArray⟩ : ByteArray) ++ ⟨#[32, 44, 32]⟩ = ⟨(s ++ [32, 44, 32]).toArray⟩ := cat_lit s [32, 44, 32]
                obtain ⟨s1, hs1⟩ : ∃ s1, s ++ [32, 44, 32] = s1 := ⟨_, rfl⟩
                have HRm : Hid (rowT 0 (xs.take (k + 1)) = s1 ++ pcT k ⟨nm, lo, dm⟩) := by rw [show (if 0 < k then ([32, 44, 32] : List UInt8) else []) = [32, 44, 32] from if_pos (by omega), ← List.append_assoc, hs1] at HRn; exact HRn
                have hs1l : s1.length ≤ 309 * 50 + 3 := by rw [← hs1]; simp; omega
                rw [hs1] at c0
                have hs1z := size_lit s1
                clear hs1
                have hp1 : (k : Int) % 2 = 1 := by omega
                have hp2 : (k : Int).tmod 2 = 1 := by rw [Int.tmod_eq_emod_of_nonneg (by omega)]; exact hp1
                have c1 : (⟨#[34]⟩ : ByteArray) ++ ⟨nm.toArray⟩ = ⟨(34 :: nm).toArray⟩ := cat_lit [34] nm
                have c2 : (⟨(34 :: nm).toArray⟩ : ByteArray) ++ ⟨#[34]⟩ = ⟨(34 :: (nm ++ [34])).toArray⟩ := cat_lit (34 :: nm) [34]
                obtain ⟨q1, e1⟩ : ∃ q, 34 :: nm = q := ⟨_, rfl⟩
                obtain ⟨q2, e2⟩ : ∃ q, 34 :: (nm ++ [34]) = q := ⟨_, rfl⟩
                rw [e1] at c1 c2
                rw [e2] at c2
                have c3 : (⟨q2.toArray⟩ : ByteArray) ++ ⟨#[32, 60]⟩ = ⟨(q2 ++ [32, 60]).toArray⟩ := cat_lit q2 [32, 60]
                obtain ⟨q3, e3⟩ : ∃ q, q2 ++ [32, 60] = q := ⟨_, rfl⟩
                rw [e3] at c3
                have c4 : (⟨q3.toArray⟩ : ByteArray) ++ ⟨lo.toArray⟩ = ⟨(q3 ++ lo).toArray⟩ := cat_lit q3 lo
                obtain ⟨q4, e4⟩ : ∃ q, q3 ++ lo = q := ⟨_, rfl⟩
                rw [e4] at c4
                have c5 : (⟨q4.toArray⟩ : ByteArray) ++ ⟨#[64]⟩ = ⟨(q4 ++ [64]).toArray⟩ := cat_lit q4 [64]
                obtain ⟨q5, e5⟩ : ∃ q, q4 ++ [64] = q := ⟨_, rfl⟩
                rw [e5] at c5
                have c6 : (⟨q5.toArray⟩ : ByteArray) ++ ⟨dm.toArray⟩ = ⟨(q5 ++ dm).toArray⟩ := cat_lit q5 dm
                obtain ⟨q6, e6⟩ : ∃ q, q5 ++ dm = q := ⟨_, rfl⟩
                rw [e6] at c6
                have c7 : (⟨q6.toArray⟩ : ByteArray) ++ ⟨#[62]⟩ = ⟨(q6 ++ [62]).toArray⟩ := cat_lit q6 [62]
                obtain ⟨q7, e7⟩ : ∃ q, q6 ++ [62] = q := ⟨_, rfl⟩
                rw [e7] at c7
                have hq7 : q7 = pcT k ⟨nm, lo, dm⟩ := by rw [← e7, ← e6, ← e5, ← e4, ← e3]; rw [← e2]; unfold pcT nmT; rw [if_neg (by omega)]; simp
                rw [← hq7] at HRm HPc
                have c8 : (⟨s1.toArray⟩ : ByteArray) ++ ⟨q7.toArray⟩ = ⟨(s1 ++ q7).toArray⟩ := cat_lit s1 q7
                obtain ⟨s2, e8⟩ : ∃ q, s1 ++ q7 = q := ⟨_, rfl⟩
                rw [e8] at c8 HRm
                have z1 : q1.length ≤ 101 := by rw [← e1]; simp; omega
                have z2 : q2.length ≤ 102 := by rw [← e2]; simp; omega
                have z3 : q3.length ≤ 104 := by rw [← e3, List.length_append]; simp; omega
                have z4 : q4.length ≤ 204 := by rw [← e4, List.length_append]; omega
                have z5 : q5.length ≤ 205 := by rw [← e5, List.length_append]; simp; omega
                have z6 : q6.length ≤ 305 := by rw [← e6, List.length_append]; omega
                have z7 : q7.length ≤ 306 := HPc.out
                have sz_nm := size_lit nm
                have sz_lo := size_lit lo
                have sz_dm := size_lit dm
                have sz_q1 := size_lit q1
                have sz_q2 := size_lit q2
                have sz_q3 := size_lit q3
                have sz_q4 := size_lit q4
                have sz_q5 := size_lit q5
                have sz_q6 := size_lit q6
                have sz_q7 := size_lit q7
                have f5 : 1 + nm.length ≤ 9223372036854775807 := by omega
                have f6 : q1.length ≤ 9223372036854775806 := by omega
                have f12 : ¬ (9223372036854775807 < q2.length + 2) := by omega
                have f15 : ¬ (9223372036854775807 < q3.length + lo.length) := by omega
                have f16 : ¬ (9223372036854775807 < q4.length + 1) := by omega
                have f19 : ¬ (9223372036854775807 < q5.length + dm.length) := by omega
                have f20 : ¬ (9223372036854775807 < q6.length + 1) := by omega
                have f21 : ¬ (9223372036854775807 < s1.length + q7.length) := by omega
                have HRd := hide HRm.out
                clear HRn HRm hq7 e1 e2 e3 e4 e5 e6 e7 e8 HPc
                go_wp2_with fail
                have HKd := hide (HK2.out.drewN 1)
                have HT0 : W2.drew.cell? ⟨D, 0, none⟩ = some (.string ⟨nm.toArray⟩) ∧ W2.drew.cell? ⟨D, 1, none⟩ = some (.string ⟨lo.toArray⟩) ∧ W2.drew.cell? ⟨D, 2, none⟩ = some (.string ⟨dm.toArray⟩) := ⟨HK2.out.cell 0, HK2.out.cell 1, HK2.out.cell 2⟩
                have hlD := HK2.out.lt
                refine regionL 22 (fun W => W.cell? ⟨D, 0, none⟩ = some (.string ⟨nm.toArray⟩) ∧ W.cell? ⟨D, 1, none⟩ = some (.string ⟨lo.toArray⟩) ∧ W.cell? ⟨D, 2, none⟩ = some (.string ⟨dm.toArray⟩)) (by kernel_rfl) ?_
                refine takeW (i := 0) (v := (.string ⟨s1.toArray⟩)) rfl (by kernel_rfl) (by kernel_rfl) (by kernel_rfl) rfl (fun _ _ _ h => h) (fun _ => HT0) (Or.inl ⟨by rfl, fun W _ => by go_simp⟩) ?_
                simp only [Act.put, List.getElem_toArray, List.getElem_cons_succ, List.getElem_cons_zero, List.setIfInBounds_toArray, List.set_cons_zero, List.set_cons_succ]
                refine takeW (i := 1) (v := (.pointer (some ⟨D, 0, none⟩))) rfl (by kernel_rfl) (by kernel_rfl) (by kernel_rfl) rfl (fun _ _ _ h => h) (fun _ => HT0) (Or.inl ⟨by rfl, fun W _ => by go_simp⟩) ?_
                simp only [Act.put, List.getElem_toArray, List.getElem_cons_succ, List.getElem_cons_zero, List.setIfInBounds_toArray, List.set_cons_zero, List.set_cons_succ]
                refine takeL (i := 2) (v := (.string ⟨nm.toArray⟩)) rfl (by kernel_rfl) (by kernel_rfl) (by kernel_rfl) (by kernel_rfl) (by kernel_rfl) (fun _ _ _ h => h) HT0 (Or.inl ⟨by rfl, fun W hW => by obtain ⟨t0, t1, t2⟩ := hW; go_simp⟩) ?_
                simp only [Act.put, List.getElem_toArray, List.getElem_cons_succ, List.getElem_cons_zero, List.setIfInBounds_toArray, List.set_cons_zero, List.set_cons_succ]
                refine takeW (i := 3) (v := (.pointer (some ⟨D, 0, none⟩))) rfl (by kernel_rfl) (by kernel_rfl) (by kernel_rfl) rfl (fun _ _ _ h => h) (fun _ => HT0) (Or.inl ⟨by rfl, fun W _ => by go_simp⟩) ?_
                simp only [Act.put, List.getElem_toArray, List.getElem_cons_succ, List.getElem_cons_zero, List.setIfInBounds_toArray, List.set_cons_zero, List.set_cons_succ]
                refine takeL (i := 4) (v := (.string ⟨nm.toArray⟩)) rfl (by kernel_rfl) (by kernel_rfl) (by kernel_rfl) (by kernel_rfl) (by kernel_rfl) (fun _ _ _ h => h) HT0 (Or.inl ⟨by rfl, fun W hW => by obtain ⟨t0, t1, t2⟩ := hW; go_simp⟩) ?_
                simp only [Act.put, List.getElem_toArray, List.getElem_cons_succ, List.getElem_cons_zero, List.setIfInBounds_toArray, List.set_cons_zero, List.set_cons_succ]
                refine takeW (i := 5) (v := (.string ⟨q1.toArray⟩)) rfl (by kernel_rfl) (by kernel_rfl) (by kernel_rfl) rfl (fun _ _ _ h => h) (fun _ => HT0) (Or.inl ⟨by rfl, fun W _ => by go_simp⟩) ?_
                simp only [Act.put, List.getElem_toArray, List.getElem_cons_succ, List.getElem_cons_zero, List.setIfInBounds_toArray, List.set_cons_zero, List.set_cons_succ]
                refine takeW (i := 6) (v := (.string ⟨q2.toArray⟩)) rfl (by kernel_rfl) (by kernel_rfl) (by kernel_rfl) rfl (fun _ _ _ h => h) (fun _ => HT0) (Or.inl ⟨by rfl, fun W _ => by go_simp⟩) ?_
                simp only [Act.put, List.getElem_toArray, List.getElem_cons_succ, List.getElem_cons_zero, List.setIfInBounds_toArray, List.set_cons_zero, List.set_cons_succ]
                refine takeW (i := 8) (v := (.int .i64 k)) rfl (by kernel_rfl) (by kernel_rfl) (by kernel_rfl) rfl (fun _ _ _ h => h) (fun _ => HT0) (Or.inl ⟨by rfl, fun W _ => by go_simp⟩) ?_
                simp only [Act.put, List.getElem_toArray, List.getElem_cons_succ, List.getElem_cons_zero, List.setIfInBounds_toArray, List.set_cons_zero, List.set_cons_succ]
                refine takeW (i := 9) (v := (.int .i64 1)) rfl (by kernel_rfl) (by kernel_rfl) (by kernel_rfl) rfl (fun _ _ _ h => h) (fun _ => HT0) (Or.inl ⟨by rfl, fun W _ => by go_simp⟩) ?_
                simp only [Act.put, List.getElem_toArray, List.getElem_cons_succ, List.getElem_cons_zero, List.setIfInBounds_toArray, List.set_cons_zero, List.set_cons_succ]
                refine takeW (i := 13) (v := (.pointer (some ⟨D, 1, none⟩))) rfl (by kernel_rfl) (by kernel_rfl) (by kernel_rfl) rfl (fun _ _ _ h => h) (fun _ => HT0) (Or.inl ⟨by rfl, fun W _ => by go_simp⟩) ?_
                simp only [Act.put, List.getElem_toArray, List.getElem_cons_succ, List.getElem_cons_zero, List.setIfInBounds_toArray, List.set_cons_zero, List.set_cons_succ]
                refine takeL (i := 14) (v := (.string ⟨lo.toArray⟩)) rfl (by kernel_rfl) (by kernel_rfl) (by kernel_rfl) (by kernel_rfl) (by kernel_rfl) (fun _ _ _ h => h) HT0 (Or.inl ⟨by rfl, fun W hW => by obtain ⟨t0, t1, t2⟩ := hW; go_simp⟩) ?_
                simp only [Act.put, List.getElem_toArray, List.getElem_cons_succ, List.getElem_cons_zero, List.setIfInBounds_toArray, List.set_cons_zero, List.set_cons_succ]
                refine takeW (i := 17) (v := (.pointer (some ⟨D, 2, none⟩))) rfl (by kernel_rfl) (by kernel_rfl) (by kernel_rfl) rfl (fun _ _ _ h => h) (fun _ => HT0) (Or.inl ⟨by rfl, fun W _ => by go_simp⟩) ?_
                simp only [Act.put, List.getElem_toArray, List.getElem_cons_succ, List.getElem_cons_zero, List.setIfInBounds_toArray, List.set_cons_zero, List.set_cons_succ]
                refine takeL (i := 18) (v := (.string ⟨dm.toArray⟩)) rfl (by kernel_rfl) (by kernel_rfl) (by kernel_rfl) (by kernel_rfl) (by kernel_rfl) (fun _ _ _ h => h) HT0 (Or.inl ⟨by rfl, fun W hW => by obtain ⟨t0, t1, t2⟩ := hW; go_simp⟩) ?_
                simp only [Act.put, List.getElem_toArray, List.getElem_cons_succ, List.getElem_cons_zero, List.setIfInBounds_toArray, List.set_cons_zero, List.set_cons_succ]
                have hdw : W2.drew.heap.size = W2.heap.size := rfl
                have HKn := hide (Blk.new W2.drew #[.string ⟨nm.toArray⟩, .string ⟨q2.toArray⟩] 9)
                have HBn : Hid (Below w.heap.size w (W2.drew.alloc (.cells #[.string ⟨nm.toArray⟩, .string ⟨q2.toArray⟩] 9))) := HB2.out.drew.alloc HB2.out.size _
                have HT1 : Hid ((W2.drew.alloc (.cells #[.string ⟨nm.toArray⟩, .string ⟨q2.toArray⟩] 9)).cell? ⟨D, 0, none⟩ = some (.string ⟨nm.toArray⟩) ∧ (W2.drew.alloc (.cells #[.string ⟨nm.toArray⟩, .string ⟨q2.toArray⟩] 9)).cell? ⟨D, 1, none⟩ = some (.string ⟨lo.toArray⟩) ∧ (W2.drew.alloc (.cells #[.string ⟨nm.toArray⟩, .string ⟨q2.toArray⟩] 9)).cell? ⟨D, 2, none⟩ = some (.string ⟨dm.toArray⟩)) := ⟨(HKd.out.alloc (.cells #[.string ⟨nm.toArray⟩, .string ⟨q2.toArray⟩] 9)).cell 0, (HKd.out.alloc (.cells #[.string ⟨nm.toArray⟩, .string ⟨q2.toArray⟩] 9)).cell 1, (HKd.out.alloc (.cells #[.string ⟨nm.toArray⟩, .string ⟨q2.toArray⟩] 9)).cell 2⟩
                refine readyL (rs := [7]) (by kernel_rfl) (by simp) ?_
                refine AllL.cons rfl (fun K hK => ?_) AllL.nil
                try simp only [List.getElem_toArray, List.getElem_cons_succ, List.getElem_cons_zero]
                go_simp
                refine hK.out _ _ (fun _ => HT1.out) (fun _ => ?_)
                clear hK K
                try simp only [Act.put, List.getElem_toArray, List.getElem_cons_succ, List.getElem_cons_zero, List.setIfInBounds_toArray, List.set_cons_zero, List.set_cons_succ]
                obtain ⟨W3, hW3⟩ : ∃ W3, W2.drew.alloc (.cells #[.string ⟨nm.toArray⟩, .string ⟨q2.toArray⟩] 9) = W3 := ⟨_, rfl⟩
                rw [hW3] at HKn HBn HT1
                show anyL _ _ _ _ _ _ _ _ _ (W2.drew.alloc (.cells #[.string ⟨nm.toArray⟩, .string ⟨q2.toArray⟩] 9))
                rw [hW3]
                have hn1 : W3.cell? ⟨W2.heap.size, 1, none⟩ = some (.string ⟨q2.toArray⟩) := HKn.out.cell 1
                clear hW3
                refine readyL (rs := [10]) (by kernel_rfl) (by simp) ?_
                refine AllL.cons rfl (fun K hK => ?_) AllL.nil
                try simp only [List.getElem_toArray, List.getElem_cons_succ, List.getElem_cons_zero]
                go_simp
                refine hK.out _ _ (fun _ => HT1.out) (fun _ => ?_)
                clear hK K
                try simp only [Act.put, List.getElem_toArray, List.getElem_cons_succ, List.getElem_cons_zero, List.setIfInBounds_toArray, List.set_cons_zero, List.set_cons_succ]
                refine readyL (rs := [11]) (by kernel_rfl) (by simp) ?_
                refine AllL.cons rfl (fun K hK => ?_) AllL.nil
                try simp only [List.getElem_toArray, List.getElem_cons_succ, List.getElem_cons_zero]
                go_simp
                refine hK.out _ _ (fun _ => HT1.out) (fun _ => ?_)
                clear hK K
                try simp only [Act.put, List.getElem_toArray, List.getElem_cons_succ, List.getElem_cons_zero, List.setIfInBounds_toArray, List.set_cons_zero, List.set_cons_succ]
                refine readyL (rs := [12]) (by kernel_rfl) (by simp) ?_
                refine AllL.cons rfl (fun K hK => ?_) AllL.nil
                try simp only [List.getElem_toArray, List.getElem_cons_succ, List.getElem_cons_zero]
                go_simp
                refine hK.out _ _ (fun _ => HT1.out) (fun _ => ?_)
                clear hK K
                try simp only [Act.put, List.getElem_toArray, List.getElem_cons_succ, List.getElem_cons_zero, List.setIfInBounds_toArray, List.set_cons_zero, List.set_cons_succ]
                refine readyL (rs := [15]) (by kernel_rfl) (by simp) ?_
                refine AllL.cons rfl (fun K hK => ?_) AllL.nil
                try simp only [List.getElem_toArray, List.getElem_cons_succ, List.getElem_cons_zero]
                go_simp
                refine hK.out _ _ (fun _ => HT1.out) (fun _ => ?_)
                clear hK K
                try simp only [Act.put, List.getElem_toArray, List.getElem_cons_succ, List.getElem_cons_zero, List.setIfInBounds_toArray, List.set_cons_zero, List.set_cons_succ]
                refine readyL (rs := [16]) (by kernel_rfl) (by simp) ?_
                refine AllL.cons rfl (fun K hK => ?_) AllL.nil
                try simp only [List.getElem_toArray, List.getElem_cons_succ, List.getElem_cons_zero]
                go_simp
                refine hK.out _ _ (fun _ => HT1.out) (fun _ => ?_)
                clear hK K
                try simp only [Act.put, List.getElem_toArray, List.getElem_cons_succ, List.getElem_cons_zero, List.setIfInBounds_toArray, List.set_cons_zero, List.set_cons_succ]
                refine readyL (rs := [19]) (by kernel_rfl) (by simp) ?_
                refine AllL.cons rfl (fun K hK => ?_) AllL.nil
                try simp only [List.getElem_toArray, List.getElem_cons_succ, List.getElem_cons_zero]
                go_simp
                refine hK.out _ _ (fun _ => HT1.out) (fun _ => ?_)
                clear hK K
                try simp only [Act.put, List.getElem_toArray, List.getElem_cons_succ, List.getElem_cons_zero, List.setIfInBounds_toArray, List.set_cons_zero, List.set_cons_succ]
                refine readyL (rs := [20]) (by kernel_rfl) (by simp) ?_
                refine AllL.cons rfl (fun K hK => ?_) AllL.nil
                try simp only [List.getElem_toArray, List.getElem_cons_succ, List.getElem_cons_zero]
                go_simp
                refine hK.out _ _ (fun _ => HT1.out) (fun _ => ?_)
                clear hK K
                try simp only [Act.put, List.getElem_toArray, List.getElem_cons_succ, List.getElem_cons_zero, List.setIfInBounds_toArray, List.set_cons_zero, List.set_cons_succ]
                refine readyL (rs := [21]) (by kernel_rfl) (by simp) ?_
                refine AllL.cons rfl (fun K hK => ?_) AllL.nil
                try simp only [List.getElem_toArray, List.getElem_cons_succ, List.getElem_cons_zero]
                go_simp
                refine hK.out _ _ (fun _ => HT1.out) (fun _ => ?_)
                clear hK K
                try simp only [Act.put, List.getElem_toArray, List.getElem_cons_succ, List.getElem_cons_zero, List.setIfInBounds_toArray, List.set_cons_zero, List.set_cons_succ]
                refine readyL (rs := [22]) (by kernel_rfl) (by simp) ?_
                refine AllL.cons rfl (fun K hK => ?_) AllL.nil
                try simp only [List.getElem_toArray, List.getElem_cons_succ, List.getElem_cons_zero]
                go_simp
                refine hK.out _ _ (vac (by kernel_rfl)) (fun _ => ?_)
                clear hK K
                try simp only [Act.put, List.getElem_toArray, List.getElem_cons_succ, List.getElem_cons_zero, List.setIfInBounds_toArray, List.set_cons_zero, List.set_cons_succ]
                refine doneL (by kernel_rfl) ?_ _
                go_wp2
                go_roundw
                case rel => exact ⟨k + 1, s2, by go_num, hk1, rfl, HRd.out.symm, HON, HBn⟩
                case measure => simp [intOf]; omega
      · obtain rfl : k = xs.length := by omega
        rw [List.take_length] at HS HO
        have HAd := hide (fun w => ads_any s w (by omega))
        have hV : adsV s = xs := by rw [HS.out]; exact row_ads xs HO.out h50
        rw [hV] at HAd
        have HRb : Hid (∀ W, Below wr.heap.size wr W → ReadOf Ad.cs 3 W (.slice A xs.length c) xs) := fun W hb => HR.out.below (HB.out.trans (hb.mono hbs))
        clear HS HO HC hV
        go_wp2_with fail
        refine (HAd.out _).mono ?_
        rintro e w2 ⟨hb2, u, rfl, hr2⟩
        have HS2 := hide (asame_yes w2 (hr2.reads Ad.cs_len) (HRb.out w2 hb2) (by omega))
        have HB2 := hide (HB.out.trans (hb2.mono hbs))
        obtain ⟨A2, c2, rfl⟩ := hr2.form
        clear hb2 hr2
        go_wp2_with fail
        refine HS2.out.mono ?_
        rintro e w3 ⟨rfl, n3, rfl⟩
        have HB3 := hide (HB2.out.trans ((bel_drewN w2 n3).mono HB2.out.size))
        go_wp2
        go_ret
        exact ⟨rfl, HB3.out⟩
  · have h50' : ((xs.length : Int) > 50) := by omega
    go_enter Tryd.func5, Tryd.ntmps5
    go_wp2_with fail
    refine HA.out.mono ?_
    rintro e w1 ⟨rfl, hb1⟩
    have HB1 := hide hb1
    clear hb1 HA
    go_wp2
    go_ret
    exact ⟨rfl, HB1.out⟩
end Go.Proofs.YtkppeejbmalefaaDoor
