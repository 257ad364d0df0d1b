/- Addresses of package envelope. -/
import Derived.Test.YtkppeejbmalefaaDoorEn3
import Derived.Test.YtkppeejbmalefaaDoorRws
import Derived.Test.YtkppeejbmalefaaDoorHd5
import Derived.Test.YtkppeejbmalefaaDoorHr0
namespace Go.Proofs.YtkppeejbmalefaaDoor
open Go.RowKit Go.Shelf
def Ad.cs (a : Ad) : List Value := [.string ⟨a.name.toArray⟩, .string ⟨a.loc.toArray⟩, .string ⟨a.dom.toArray⟩]
theorem Ad.cs_len (a : Ad) : a.cs.length = 3 := rfl
theorem adInfo : (Tryd.prog.info? 29).map (fun i => (i.zero, i.size, i.bytes)) = some (some (.agg #[.string ⟨#[]⟩, .string ⟨#[]⟩, .string ⟨#[]⟩]), 3, 48) := by kernel_rfl
theorem src_ad {w : World} (p : Ad) {k : Nat} : Src Tryd.prog 3 23 (.slice (some ⟨w.heap.size, 0, none⟩) 1 k) 1 p.cs (w.alloc (.cells #[.string ⟨p.name.toArray⟩, .string ⟨p.loc.toArray⟩, .string ⟨p.dom.toArray⟩] 29)) := by
  refine Src.ofSlice _ Tryd.underlying23 ⟨w.heap.size, 0, none⟩ 1 k _ (by simp [Ad.cs]) (fun j u hu => ?_) (by simp [Value.oneCell', Ad.cs])
  have hk := Blk.new w #[.string ⟨p.name.toArray⟩, .string ⟨p.loc.toArray⟩, .string ⟨p.dom.toArray⟩] 29
  simp only [Addr.add_lit, Nat.zero_add]
  rw [hk.cell]
  simpa [Ad.cs] using hu
theorem trimP (t : List UInt8) : Lib.trimPrefix (t.drop (plE 44 .o t)) [44] = t.drop (plE 44 .o t + 1) := by
  have hle := plE_le 44 .o t
  by_cases h : plE 44 .o t < t.length
  · have := (plE_run (m := 44) (s := .o) (l := t) h).2
    have h2 : t.drop (plE 44 .o t) = 44 :: t.drop (plE 44 .o t + 1) := by
      rw [drop_at h]
      congr 1
      rw [List.getElem?_eq_getElem h] at this
      exact Option.some.inj this
    rw [h2]
    simp [Lib.trimPrefix, Lib.hasPrefix, List.isPrefixOf]
  · rw [List.drop_of_length_le (by omega), List.drop_of_length_le (by omega)]
    simp [Lib.trimPrefix, Lib.hasPrefix, List.isPrefixOf]
theorem tp_any (s x : List UInt8) (w : World) (h : Lib.trimPrefix s [44] = x) : Calls Tryd.prog 18 #[.string ⟨s.toArray⟩, .string ⟨#[44]⟩] w fun e w' => e = .returned (.string ⟨x.toArray⟩) ∧ w' = w := by
  subst h
  exact Tryd.strings_TrimPrefix ⟨s.toArray⟩ ⟨#[44]⟩ w
theorem ads_end {xs ys : List Ad} {v : List UInt8} (h : (xs ++ ys).take 50 = adsV v) (hx : xs.length ≤ 50) (he : ys = [] ∨ xs.length = 50) : xs = adsV v := by
  rw [← h]
  rcases he with rfl | he
  · rw [List.append_nil, List.take_of_length_le hx]
  · rw [List.take_append, he, List.take_of_length_le (by omega)]
    simp
set_option maxHeartbeats 2000000 in
theorem ads_any (v : List UInt8) (w : World) (hl : v.length ≤ 1000000) :
    Calls Tryd.prog 8 #[.string ⟨v.toArray⟩] w fun e w' => Below w.heap.size w w' ∧ ∃ u, e = .returned u ∧ RowOf Ad.cs 3 w.heap.size w' u (adsV v) := by
  obtain ⟨i0, hi, hz0, hz1, hz2⟩ := info_three adInfo
  have HS : Hid (([] ++ adsL v).take 50 = adsV v) := rfl
  go_enter Tryd.func8, Tryd.ntmps8
  go_wp2
  go_loopw [0, 3] (fun v0 v3 wr => ∃ (t : List UInt8) (xs : List Ad), v0 = .string ⟨t.toArray⟩ ∧ t.length ≤ 1000000 ∧ xs.length ≤ 50 ∧ Hid (RowOf Ad.cs 3 w.heap.size wr v3 xs) ∧ Hid (Below w.heap.size w wr) ∧ Hid ((xs ++ adsL t).take 50 = adsV v)) (fun v0 _ _ => Lib.strSize v0)
  case atStart => exact ⟨v, [], rfl, hl, Nat.zero_le _, RowOf.nil _ _ _ _, Below.refl _ _, HS⟩
  case round =>
    obtain ⟨t, xs, rfl, htl, hxl, HR, HB, HT⟩ := hrel
    clear HS
    obtain ⟨A, c, rfl⟩ := HR.out.form
    have hbs := HB.out.size
    have hsz := size_lit t
    by_cases h0 : t = []
    · have HV := hide (ads_end HT.out hxl (.inl (by rw [h0, adsL_nil])))
      subst h0
      clear HT
      go_wp2
      go_ret
      exact ⟨HB.out, _, rfl, by rw [← HV.out]; exact HR.out⟩
    · have h0' : t.isEmpty = false := by simpa using h0
      by_cases h50 : xs.length = 50
      · have HV := hide (ads_end HT.out hxl (.inr h50))
        have h50' : ¬ ((xs.length : Int) < 50) := by omega
        clear HT h50 h0
        go_wp2
        go_ret
        exact ⟨HB.out, _, rfl, by rw [← HV.out]; exact HR.out⟩
      · have h50' : (xs.length : Int) < 50 := by omega
        have hst := adsL_step t
        have hpl := plE_le 44 .o t
        have HP := hide (fun w => place_any t 44 w htl)
        obtain ⟨k, hk⟩ : ∃ k, plE 44 .o t = k := ⟨_, rfl⟩
        have hkl : (t.take k).length ≤ 1000000 := by rw [List.length_take]; omega
        have HTr := hide (fun w => trim_any (t.take k) w hkl)
        have HTp := hide (fun w => tp_any (t.drop k) (t.drop (k + 1)) w (by rw [← hk]; exact trimP t))
        rw [hk] at hst HP hpl
        have e1 : (⟨t.toArray⟩ : ByteArray).extract 0 k = ⟨(t.take k).toArray⟩ := ext_take t k
        have e2 : (⟨t.toArray⟩ : ByteArray).extract k t.length = ⟨(t.drop k).toArray⟩ := ext_drop t k
        have htr := trim_len (t.take k)
        have hm : Lib.strSize (.string ⟨(t.drop (k + 1)).toArray⟩) < Lib.strSize (.string ⟨t.toArray⟩) := by
          have : 0 < t.length := List.length_pos_iff.2 h0
          show (⟨(t.drop (k + 1)).toArray⟩ : ByteArray).size < (⟨t.toArray⟩ : ByteArray).size
          rw [size_lit, size_lit, List.length_drop]
          omega
        have hdl : (t.drop (k + 1)).length ≤ 1000000 := by rw [List.length_drop]; omega
        generalize Lib.trimS (t.take k) [32, 9] = pc at *
        by_cases hpe : pc = []
        · subst hpe
          have HN : Hid ((xs ++ adsL (t.drop (k + 1))).take 50 = adsV v) := by
            have := HT.out
            rw [hst] at this
            exact this
          generalize t.drop (k + 1) = t2 at *
          generalize t.take k = tk at *
          clear hst HT hk h0 h50
          go_wp2_with (first
            | (go_at_call 15; refine (HP.out _).mono ?_; rintro e w1 ⟨rfl, rfl⟩)
            | (go_at_call 16; refine (HTr.out _).mono ?_; rintro e w2 ⟨rfl, hb2⟩; replace hb2 := hide hb2)
            | (go_at_call 18; refine (HTp.out _).mono ?_; rintro e w3 ⟨rfl, rfl⟩))
          go_roundw
          case rel => exact ⟨t2, xs, rfl, hdl, hxl, HR.out.below hb2.out, HB.out.trans (hb2.out.mono hbs), HN⟩
          case measure => exact hm
        · have hpe' : pc.isEmpty = false := by simpa using hpe
          have HA := hide (fun w => addr_any pc w (by omega))
          have HN : Hid (((xs ++ [adO pc]) ++ adsL (t.drop (k + 1))).take 50 = adsV v) := by
            have := HT.out
            rw [hst, hpe'] at this
            show _ = _
            rw [← this]
            simp
          generalize t.drop (k + 1) = t2 at *
          generalize t.take k = tk at *
          obtain ⟨q, hq⟩ : ∃ q, adO pc = q := ⟨_, rfl⟩
          rw [hq] at HA HN
          unfold adAgg at HA
          obtain ⟨G, hrw, hg⟩ := HR.out
          have HRw := hide hrw
          have HG := hide hg
          clear hst HT hk h0 h50 hpe hq hrw hg HR
          go_wp2_with (first
            | (go_at_call 15; refine (HP.out _).mono ?_; rintro e w1 ⟨rfl, rfl⟩)
            | (go_at_call 16; refine (HTr.out _).mono ?_; rintro e w2 ⟨rfl, hb2⟩; replace hb2 := hide hb2)
            | (go_at_call 17; refine (HA.out _).mono ?_; rintro e w3 ⟨rfl, hb3⟩
               have HB3 := hide (HB.out.trans ((hb2.out.trans (hb3.mono hb2.out.size)).mono hbs))
               have HM3 := hide (Mvs.of_below (S := fun _ => False) (hb2.out.trans (hb3.mono hb2.out.size)))
               have hs3 := HB3.out.size
               clear hb3 hb2)
            | (at_builtin; refine wpList_append_rw rfl _ _ 23 23 rfl 29 i0 (.agg #[.string ⟨#[]⟩, .string ⟨#[]⟩, .string ⟨#[]⟩]) 3 48 Tryd.underlying23 hi hz0 hz1 hz2 rfl rfl (HRw.out.keep (S := fun _ => False) (HM3.out.alloc _) (fun _ _ c => c)) _ 1 q.cs rfl (src_ad q) (by simp only [maxLen]; omega) (by omega) ?_))
          intro v1 w4 G1 hr1 hm1 hg1
          have HR4 := hide (RowOf.growN HG.out hr1 hg1 (by first | omega | (rw [World.size_alloc]; omega)))
          have HB4 := hide ((HB3.out.alloc hs3 _).trans ((hm1.below (fun q hq e => by have := HG.out q e.symm; omega) (by rw [World.size_alloc]; omega))))
          obtain ⟨A1, c1, rfl⟩ := hr1.form
          clear hr1 hm1 hg1
          go_wp2_with (first
            | (go_at_call 18; refine (HTp.out _).mono ?_; rintro e w5 ⟨rfl, rfl⟩))
          go_roundw
          case rel => exact ⟨t2, xs ++ [q], rfl, hdl, by rw [List.length_append]; simp; omega, HR4, HB4, HN⟩
          case measure => exact hm
end Go.Proofs.YtkppeejbmalefaaDoor
