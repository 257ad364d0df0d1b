/- one of the document's layer 11. -/
import Derived.Test.YtkppeejbmalefaaGreatDoorU24
set_option linter.unusedSimpArgs false
namespace Go.Proofs.YtkppeejbmalefaaGreatDoor
open Go.RowKit Go.Shelf
theorem mrow_at {s : List UInt8} {i : Nat} (hi : i < s.length) : (mrow s s.length)[i]? = some (.int .i64 ((mkN (rn .o (s.take i)) s[i] : Nat) : Int)) := by
  unfold mrow
  rw [Nat.sub_self, List.replicate_zero, List.append_nil, List.take_of_length_le (by rw [mks_len]; exact Nat.le_refl _), List.getElem?_map, mks_at _ _ _ hi]
  rfl
theorem slice_en (s : List UInt8) (b e : Nat) (h1 : b ≤ e) (h2 : e ≤ s.length) {B E : Int} (hB : (b : Int) = B) (hE : (e : Int) = E) (w : World) : (Instr.slice 9 (.string ⟨s.toArray⟩) (some (.int .i64 B)) (some (.int .i64 E)) none).run Tryz.prog w = .ok (.string ⟨((s.drop b).take (e - b)).toArray⟩) w := by
  subst hB
  subst hE
  have := run_slice_string (P := Tryz.prog) w 9 ⟨s.toArray⟩ .i64 .i64 (b : Int) (e : Int) Tryz.underlying9 (by omega) (by omega) (by rw [size_lit]; omega)
  rw [this]
  rw [show ((b : Int)).toNat = b from by omega, show ((e : Int)).toNat = e from by omega, ext_mid s b e]
theorem locK_zero (l : List UInt8) : locK l 0 = (l, []) := by
  unfold locK
  rw [if_pos (by simp [Go.Lib.Pa.lastIdx])]
theorem locK_hit {l : List UInt8} {j : Nat} (hj : j < l.length) (h : l[j] = 64) : locK l (j + 1) = (l.take j, l.drop (j + 1)) := by
  have e : Go.Lib.Pa.lastIdx l 64 (j + 1) = (j : Int) := by
    unfold Go.Lib.Pa.lastIdx
    rw [List.getElem?_eq_getElem hj, h, if_pos rfl]
  unfold locK
  rw [e, if_neg (by omega)]
  simp
theorem locK_miss {l : List UInt8} {j : Nat} (hj : j < l.length) (h : l[j] ≠ 64) : locK l (j + 1) = locK l j := by
  have e : Go.Lib.Pa.lastIdx l 64 (j + 1) = Go.Lib.Pa.lastIdx l 64 j := by
    conv => lhs; unfold Go.Lib.Pa.lastIdx
    rw [List.getElem?_eq_getElem hj, if_neg (fun e => h (Option.some.inj e))]
  unfold locK
  rw [e]
theorem tow_next {l : List UInt8} {j : Nat} (hj : j < l.length) (h : l[j] ≠ 62) : tow (l.drop j) = l[j] :: tow (l.drop (j + 1)) := by
  rw [drop_at hj]
  unfold tow
  rw [List.takeWhile_cons, if_pos (by simp [h])]
theorem tow_stop {l : List UInt8} {j : Nat} (hj : j < l.length) (h : l[j] = 62) : tow (l.drop j) = [] := by
  rw [drop_at hj]
  unfold tow
  rw [List.takeWhile_cons, if_neg (by simp [h])]
theorem tow_end {l : List UInt8} {j : Nat} (hj : l.length ≤ j) : tow (l.drop j) = [] := by
  rw [List.drop_of_length_le hj]
  rfl
theorem mid_next {l : List UInt8} {a j : Nat} (ha : a ≤ j) (hj : j < l.length) : (l.drop a).take (j + 1 - a) = (l.drop a).take (j - a) ++ [l[j]] := by
  have h1 : j - a < (l.drop a).length := by rw [List.length_drop]; omega
  rw [show j + 1 - a = (j - a) + 1 by omega, List.take_succ_eq_append_getElem h1, List.getElem_drop]
  congr 3
  omega
/-- The two structs of the call, in blocks b and b + 1. -/
structure Two (w : World) (b : Nat) (x y z : List UInt8) (wr : World) : Prop where
  res : Blk wr b #[.string ⟨#[]⟩, .string ⟨#[]⟩, .string ⟨#[]⟩] 39
  loc : Blk wr (b + 1) #[.string ⟨x.toArray⟩, .string ⟨y.toArray⟩, .string ⟨z.toArray⟩] 39
  bel : Below w.heap.size w wr
  ge : w.heap.size ≤ b
theorem Two.below {w wr w' : World} {b : Nat} {x y z : List UInt8} (h : Two w b x y z wr) (hb : Below wr.heap.size wr w') : Two w b x y z w' :=
  ⟨h.res.below hb h.res.lt, h.loc.below hb h.loc.lt, h.bel.trans (hb.mono h.bel.size), h.ge⟩
theorem Two.set0 {w wr : World} {b : Nat} {x y z : List UInt8} (h : Two w b x y z wr) (t : List UInt8) : Two w b t y z (wr.setCell ⟨b + 1, 0, none⟩ (.string ⟨t.toArray⟩)) :=
  ⟨h.res.set_other _ _ (by simp), h.loc.set 0 _, h.bel.setCell (Nat.le_trans h.ge (Nat.le_succ _)) _, h.ge⟩
theorem Two.set1 {w wr : World} {b : Nat} {x y z : List UInt8} (h : Two w b x y z wr) (t : List UInt8) : Two w b x t z (wr.setCell ⟨b + 1, 1, none⟩ (.string ⟨t.toArray⟩)) :=
  ⟨h.res.set_other _ _ (by simp), h.loc.set 1 _, h.bel.setCell (Nat.le_trans h.ge (Nat.le_succ _)) _, h.ge⟩
theorem Two.set2 {w wr : World} {b : Nat} {x y z : List UInt8} (h : Two w b x y z wr) (t : List UInt8) : Two w b x y t (wr.setCell ⟨b + 1, 2, none⟩ (.string ⟨t.toArray⟩)) :=
  ⟨h.res.set_other _ _ (by simp), h.loc.set 2 _, h.bel.setCell (Nat.le_trans h.ge (Nat.le_succ _)) _, h.ge⟩
theorem Two.new (w : World) : Two w w.heap.size [] [] [] ((w.alloc (.cells #[.string ⟨#[]⟩, .string ⟨#[]⟩, .string ⟨#[]⟩] 39)).alloc (.cells #[.string ⟨#[]⟩, .string ⟨#[]⟩, .string ⟨#[]⟩] 39)) :=
  ⟨(Blk.new w _ _).alloc _, by have := Blk.new (w.alloc (.cells #[.string ⟨#[]⟩, .string ⟨#[]⟩, .string ⟨#[]⟩] 39)) #[.string ⟨#[]⟩, .string ⟨#[]⟩, .string ⟨#[]⟩] 39; rw [World.size_alloc] at this; exact this, ((Below.refl _ _).alloc (Nat.le_refl _) _).alloc (by rw [World.size_alloc]; omega) _, Nat.le_refl _⟩
set_option maxRecDepth 20000 in
set_option maxHeartbeats 4000000 in
theorem one_any (p : List UInt8) (w : World) (hl : p.length ≤ 1000000) :
    Calls Tryz.prog 48 #[.string ⟨p.toArray⟩] w fun e w' => e = .returned (adAgg (adO p)) ∧ Below w.heap.size w w' := by
  have hsz := size_lit p
  have HT0 := hide (Two.new w)
  have hs0 : ((w.alloc (.cells #[.string ⟨#[]⟩, .string ⟨#[]⟩, .string ⟨#[]⟩] 39)).alloc (.cells #[.string ⟨#[]⟩, .string ⟨#[]⟩, .string ⟨#[]⟩] 39)).heap.size = w.heap.size + 1 + 1 := by rw [World.size_alloc, World.size_alloc]
  have HMc := hide (marks_any p ((w.alloc (.cells #[.string ⟨#[]⟩, .string ⟨#[]⟩, .string ⟨#[]⟩] 39)).alloc (.cells #[.string ⟨#[]⟩, .string ⟨#[]⟩, .string ⟨#[]⟩] 39)) hl)
  rw [hs0] at HMc
  have hple := plE_le 60 .o p
  obtain ⟨k, hk⟩ : ∃ k, plE 60 .o p = k := ⟨_, rfl⟩
  rw [hk] at hple
  have HK := hide hk
  obtain ⟨b, hb⟩ : ∃ b, w.heap.size = b := ⟨_, rfl⟩
  have HBe := hide hb
  rw [hb] at HT0 HMc
  clear hk
  go_enter Tryz.func48, Tryz.ntmps48
  go_wp2_with fail
  clear hb hs0
  refine HMc.out.mono ?_
  rintro e w2 ⟨rfl, hmk⟩
  have HT2 := hide (HT0.out.below (⟨hmk.bel.os, hmk.bel.tape, hmk.bel.output, hmk.bel.size, hmk.bel.block⟩))
  have HC2 : Hid (∀ i (hi : i < p.length), w2.cell? ⟨b + 1 + 1, i, none⟩ = some (.int .i64 ((mkN (rn .o (p.take i)) p[i] : Nat) : Int))) := fun i hi => by
    rw [hmk.blk.cell, List.getElem?_toArray, mrow_at hi]
  clear hmk HMc HT0
  go_wp2
  go_loopw [0, 5] (fun v0 v5 wr => wr = w2 ∧ v0 = .string ⟨p.toArray⟩ ∧ ∃ i : Nat, v5 = .int .i64 i ∧ i ≤ k) (fun _ v5 _ => p.length - (intOf v5).toNat)
  case atStart => exact ⟨rfl, rfl, 0, rfl, Nat.zero_le _⟩
  case round =>
    obtain ⟨rfl, rfl, i, rfl, hik⟩ := hrel
    by_cases hlt : i < p.length
    · have hlt' : (i : Int) < p.length := by omega
      obtain ⟨c, hc, hat⟩ := at_str p i hlt
      have hcell := HC2.out i hlt
      by_cases hki : i = k
      · subst hki
        have hrun := plE_run (m := 60) (s := .o) (l := p) (by rw [HK.out]; exact hlt)
        rw [HK.out] at hrun
        have h60 : c = 60 := by
          have := hrun.2
          rw [List.getElem?_eq_getElem hlt, hc] at this
          exact Option.some.inj this
        subst h60
        rw [hc, hrun.1] at hcell
        have hcell' : wr.cell? ⟨b + 1 + 1, i, none⟩ = some (.int .i64 0) := hcell
        have htl : (p.take i).length ≤ 1000000 := by rw [List.length_take]; omega
        have HTr := hide (fun w => rtr11_any (p.take i) w htl)
        have HMe := hide (fun w => meant_any (Lib.trimS (p.take i) [32, 9]) (rn_trim hrun.1) w (Nat.le_trans (trim_len _) htl))
        have e1 : (⟨p.toArray⟩ : ByteArray).extract 0 i = ⟨(p.take i).toArray⟩ := ext_take p i
        have HNA : Hid (nmA p = (nmV (Lib.trimS (p.take i) [32, 9]), tow (p.drop (i + 1)))) := by
          show _ = _
          unfold nmA
          rw [HK.out, if_pos hlt]
        generalize nmV (Lib.trimS (p.take i) [32, 9]) = nm at *
        generalize Lib.trimS (p.take i) [32, 9] = tr at *
        generalize p.take i = tk at *
        clear hcell hrun HC2
        go_wp2_with (first
          | (go_at_call 47; refine (HTr.out _).mono ?_; rintro e w3 ⟨rfl, rfl⟩)
          | (go_at_call 81; refine (HMe.out _).mono ?_; rintro e w4 ⟨rfl, hb4⟩
             have HT4 := hide (HT2.out.below hb4)
             have hq0 := HT4.out.loc.cell 0
             have hf0 := HT4.out.loc.frozen 0
             have hl0 := HT4.out.loc.lt
             clear hb4))
        have HT5 := hide (HT4.out.set0 nm)
        go_loopw [6] (fun v6 wx => ∃ j : Nat, v6 = .int .i64 j ∧ i + 1 ≤ j ∧ j ≤ p.length ∧ Hid (Two w b nm [] [] wx) ∧ Hid (tow (p.drop (i + 1)) = (p.drop (i + 1)).take (j - (i + 1)) ++ tow (p.drop j))) (fun v6 _ => p.length - (intOf v6).toNat)
        case atStart => exact ⟨i + 1, by go_num, Nat.le_refl _, hlt, HT5, by show _ = _; simp⟩
        case round =>
          clear HT5 hq0 hf0 hl0 HT4
          obtain ⟨j, rfl, hij, hjl, HT5, HJ⟩ := hrel
          have hij' : (i : Int) + 1 ≤ (j : Int) := by omega
          have hjl' : (j : Int) ≤ p.length := by omega
          have hout : tow (p.drop j) = [] → Hid (nmA p = (nm, (p.drop (i + 1)).take (j - (i + 1)))) := fun h => by
            show _ = _
            rw [HNA.out, HJ.out, h, List.append_nil]
          have e3 := slice_en p (i + 1) j hij hjl (B := (i : Int) + 1) (E := (j : Int)) (by omega) rfl
          have hadl : ((p.drop (i + 1)).take (j - (i + 1))).length ≤ 1000000 := by rw [List.length_take, List.length_drop]; omega
          by_cases hj : j < p.length
          · have hj' : (j : Int) < p.length := by omega
            obtain ⟨d, hd, hat2⟩ := at_str p j hj
            by_cases h62 : d = 62
            · subst h62
              have HNB := hout (tow_stop hj hd)
              generalize (p.drop (i + 1)).take (j - (i + 1)) = ad at *
              clear hout HJ HNA
              have HT6 := hide (HT5.out.set1 ad)
              have hq1 := HT5.out.loc.cell 1
              have hf1 := HT5.out.loc.frozen 1
              have hl1 := HT5.out.loc.lt
              have hsa := size_lit ad
              have HZ := hide (locK_zero ad)
              go_wp2
              go_loopw [7] (fun v7 wy => ∃ q : Nat, v7 = .int .i64 q ∧ q ≤ ad.length ∧ Hid (Two w b nm (locK ad q).1 (locK ad q).2 wy)) (fun v7 _ => ad.length - (intOf v7).toNat)
              case atStart => exact ⟨0, rfl, Nat.zero_le _, by rw [HZ.out]; exact HT6⟩
              case round =>
                obtain ⟨q, rfl, hq, HTq⟩ := hrel
                clear HT6 HT5 hq1 hf1 hl1 HZ
                by_cases hql : q < ad.length
                · have hql' : (q : Int) < ad.length := by omega
                  obtain ⟨x, hx, hat9⟩ := at_str ad q hql
                  by_cases h64 : x = 64
                  · subst h64
                    have HLk := hide (locK_hit hql hx)
                    have f1 : (⟨ad.toArray⟩ : ByteArray).extract 0 q = ⟨(ad.take q).toArray⟩ := ext_take ad q
                    have f2 : (⟨ad.toArray⟩ : ByteArray).extract (q + 1) ad.length = ⟨(ad.drop (q + 1)).toArray⟩ := ext_drop ad (q + 1)
                    generalize (locK ad q).1 = y1 at *
                    generalize (locK ad q).2 = y2 at *
                    have HT9 := hide ((HTq.out.set1 (ad.take q)).set2 (ad.drop (q + 1)))
                    skip
                    have hwr : IntKind.i64.wrap ((q : Int) + 1) = (q : Int) + 1 := wrap_nat (by omega) (by omega)
                    have hb1 : ¬ ((ad.length : Int) < (q : Int) + 1) := by omega
                    have hb0 : (0 : Int) ≤ (q : Int) + 1 := by omega
                    go_wp2_with fail
                    refine regionL 11 (fun _ => True) (by kernel_rfl) ?_
                    refine takeW (i := 0) (v := (.string ⟨ad.toArray⟩)) rfl (by kernel_rfl) (by kernel_rfl) (by kernel_rfl) rfl (fun _ _ _ h => h) (fun _ => trivial) (Or.inl ⟨by rfl, fun W _ => by go_simp⟩) ?_
                    simp only [Act.put, List.getElem_toArray, List.getElem_cons_succ, List.getElem_cons_zero, List.setIfInBounds_toArray, List.set_cons_zero, List.set_cons_succ]
                    refine takeW (i := 1) (v := (.int .i64 q)) rfl (by kernel_rfl) (by kernel_rfl) (by kernel_rfl) rfl (fun _ _ _ h => h) (fun _ => trivial) (Or.inl ⟨by rfl, fun W _ => by go_simp⟩) ?_
                    simp only [Act.put, List.getElem_toArray, List.getElem_cons_succ, List.getElem_cons_zero, List.setIfInBounds_toArray, List.set_cons_zero, List.set_cons_succ]
                    refine takeW (i := 2) (v := (.string ⟨(ad.take q).toArray⟩)) rfl (by kernel_rfl) (by kernel_rfl) (by kernel_rfl) rfl (fun _ _ _ h => h) (fun _ => trivial) (Or.inl ⟨by rfl, fun W _ => by go_simp⟩) ?_
                    simp only [Act.put, List.getElem_toArray, List.getElem_cons_succ, List.getElem_cons_zero, List.setIfInBounds_toArray, List.set_cons_zero, List.set_cons_succ]
                    refine takeW (i := 3) (v := (.string ⟨ad.toArray⟩)) rfl (by kernel_rfl) (by kernel_rfl) (by kernel_rfl) rfl (fun _ _ _ h => h) (fun _ => trivial) (Or.inl ⟨by rfl, fun W _ => by go_simp⟩) ?_
                    simp only [Act.put, List.getElem_toArray, List.getElem_cons_succ, List.getElem_cons_zero, List.setIfInBounds_toArray, List.set_cons_zero, List.set_cons_succ]
                    refine takeW (i := 4) (v := (.int .i64 q)) rfl (by kernel_rfl) (by kernel_rfl) (by kernel_rfl) rfl (fun _ _ _ h => h) (fun _ => trivial) (Or.inl ⟨by rfl, fun W _ => by go_simp⟩) ?_
                    simp only [Act.put, List.getElem_toArray, List.getElem_cons_succ, List.getElem_cons_zero, List.setIfInBounds_toArray, List.set_cons_zero, List.set_cons_succ]
                    refine takeW (i := 5) (v := (.int .i64 ((q : Int) + 1))) rfl (by kernel_rfl) (by kernel_rfl) (by kernel_rfl) rfl (fun _ _ _ h => h) (fun _ => trivial) (Or.inl ⟨by rfl, fun W _ => by go_simp⟩) ?_
                    simp only [Act.put, List.getElem_toArray, List.getElem_cons_succ, List.getElem_cons_zero, List.setIfInBounds_toArray, List.set_cons_zero, List.set_cons_succ]
                    refine takeW (i := 6) (v := (.string ⟨(ad.drop (q + 1)).toArray⟩)) rfl (by kernel_rfl) (by kernel_rfl) (by kernel_rfl) rfl (fun _ _ _ h => h) (fun _ => trivial) (Or.inl ⟨by rfl, fun W _ => by go_simp⟩) ?_
                    simp only [Act.put, List.getElem_toArray, List.getElem_cons_succ, List.getElem_cons_zero, List.setIfInBounds_toArray, List.set_cons_zero, List.set_cons_succ]
                    refine takeW (i := 7) (v := (.pointer (some ⟨b + 1, 1, none⟩))) rfl (by kernel_rfl) (by kernel_rfl) (by kernel_rfl) rfl (fun _ _ _ h => h) (fun _ => trivial) (Or.inl ⟨by rfl, fun W _ => by go_simp⟩) ?_
                    simp only [Act.put, List.getElem_toArray, List.getElem_cons_succ, List.getElem_cons_zero, List.setIfInBounds_toArray, List.set_cons_zero, List.set_cons_succ]
                    have hd1 := HTq.out.loc.cell
                    have hd2 := HTq.out.loc.frozen
                    have hd3 := HTq.out.loc.lt
                    refine readyL (rs := [8]) (by kernel_rfl) (by simp) ?_
                    refine AllL.cons rfl (fun K hK => ?_) AllL.nil
                    try simp only [List.getElem_toArray, List.getElem_cons_succ, List.getElem_cons_zero]
                    go_simp
                    refine hK.out _ _ (fun _ => trivial) (fun _ => ?_)
                    clear hK K
                    try simp only [Act.put, List.getElem_toArray, List.getElem_cons_succ, List.getElem_cons_zero, List.setIfInBounds_toArray, List.set_cons_zero, List.set_cons_succ]
                    refine readyL (rs := [9]) (by kernel_rfl) (by simp) ?_
                    refine AllL.cons rfl (fun K hK => ?_) AllL.nil
                    try simp only [List.getElem_toArray, List.getElem_cons_succ, List.getElem_cons_zero]
                    go_simp
                    refine hK.out _ _ (fun _ => trivial) (fun _ => ?_)
                    clear hK K
                    try simp only [Act.put, List.getElem_toArray, List.getElem_cons_succ, List.getElem_cons_zero, List.setIfInBounds_toArray, List.set_cons_zero, List.set_cons_succ]
                    refine readyL (rs := [10]) (by kernel_rfl) (by simp) ?_
                    refine AllL.cons rfl (fun K hK => ?_) AllL.nil
                    try simp only [List.getElem_toArray, List.getElem_cons_succ, List.getElem_cons_zero]
                    go_simp
                    refine hK.out _ _ (fun _ => trivial) (fun _ => ?_)
                    clear hK K
                    try simp only [Act.put, List.getElem_toArray, List.getElem_cons_succ, List.getElem_cons_zero, List.setIfInBounds_toArray, List.set_cons_zero, List.set_cons_succ]
                    refine doneL (by kernel_rfl) ?_ _
                    clear hd1 hd2 hd3
                    go_wp2
                    go_roundw
                    case rel => exact ⟨q + 1, by go_num, by omega, by rw [HLk.out]; exact ⟨HT9.out.res, HT9.out.loc, ⟨HT9.out.bel.os, HT9.out.bel.tape, HT9.out.bel.output, HT9.out.bel.size, HT9.out.bel.block⟩, HT9.out.ge⟩⟩
                    case measure => simp [intOf]; omega
                  · have h64' := u8_ne (k := 64) rfl h64
                    have HLk := hide (locK_miss hql (hx ▸ h64))
                    go_wp2
                    go_roundw
                    case rel => exact ⟨q + 1, by go_num, by omega, by rw [HLk.out]; exact HTq⟩
                    case measure => simp [intOf]; omega
                · have hql' : ¬ ((q : Int) < ad.length) := by omega
                  obtain rfl : q = ad.length := by omega
                  have HO := hide (adO_eq HNB.out (lo := (locK ad ad.length).1) (dm := (locK ad ad.length).2) rfl)
                  generalize (locK ad ad.length).1 = y1 at *
                  generalize (locK ad ad.length).2 = y2 at *
                  have hd1 := HTq.out.loc.cell
                  have hd4 := HTq.out.res.cell
                  have hd5 := HTq.out.res.frozen
                  have hd6 := HTq.out.res.lt
                  go_wp2
                  have h9 := (three_sets HTq.out.res (x := .string ⟨nm.toArray⟩) (y := .string ⟨y1.toArray⟩) (z := .string ⟨y2.toArray⟩)).cell
                  exact bodyPost_ret (v := .agg #[.string ⟨nm.toArray⟩, .string ⟨y1.toArray⟩, .string ⟨y2.toArray⟩]) (by simp [results, Tryz.results48, go_sem, h9]) rfl ⟨by rw [HO.out]; rfl, three_below HTq.out.bel HTq.out.ge⟩
            · have h62' := u8_ne (k := 62) rfl h62
              have HJ2 : Hid (tow (p.drop (i + 1)) = (p.drop (i + 1)).take (j + 1 - (i + 1)) ++ tow (p.drop (j + 1))) := by
                show _ = _
                rw [HJ.out, tow_next hj (hd ▸ h62), mid_next hij hj]
                simp
              clear hout HJ HNA e3 hadl
              go_wp2
              go_roundw
              case rel => exact ⟨j + 1, by go_num, by omega, by omega, HT5, HJ2⟩
              case measure => simp [intOf]; omega
          · have hj' : ¬ ((j : Int) < p.length) := by omega
            have HNB := hout (tow_end (by omega))
            generalize (p.drop (i + 1)).take (j - (i + 1)) = ad at *
            clear hout HJ HNA
            have HT6 := hide (HT5.out.set1 ad)
            have hq1 := HT5.out.loc.cell 1
            have hf1 := HT5.out.loc.frozen 1
            have hl1 := HT5.out.loc.lt
            have hsa := size_lit ad
            have HZ := hide (locK_zero ad)
            go_wp2
            go_loopw [7] (fun v7 wy => ∃ q : Nat, v7 = .int .i64 q ∧ q ≤ ad.length ∧ Hid (Two w b nm (locK ad q).1 (locK ad q).2 wy)) (fun v7 _ => ad.length - (intOf v7).toNat)
            case atStart => exact ⟨0, rfl, Nat.zero_le _, by rw [HZ.out]; exact HT6⟩
            case round =>
              obtain ⟨q, rfl, hq, HTq⟩ := hrel
              clear HT6 HT5 hq1 hf1 hl1 HZ
              by_cases hql : q < ad.length
              · have hql' : (q : Int) < ad.length := by omega
                obtain ⟨x, hx, hat9⟩ := at_str ad q hql
                by_cases h64 : x = 64
                · subst h64
                  have HLk := hide (locK_hit hql hx)
                  have f1 : (⟨ad.toArray⟩ : ByteArray).extract 0 q = ⟨(ad.take q).toArray⟩ := ext_take ad q
                  have f2 : (⟨ad.toArray⟩ : ByteArray).extract (q + 1) ad.length = ⟨(ad.drop (q + 1)).toArray⟩ := ext_drop ad (q + 1)
                  generalize (locK ad q).1 = y1 at *
                  generalize (locK ad q).2 = y2 at *
                  have HT9 := hide ((HTq.out.set1 (ad.take q)).set2 (ad.drop (q + 1)))
                  skip
                  have hwr : IntKind.i64.wrap ((q : Int) + 1) = (q : Int) + 1 := wrap_nat (by omega) (by omega)
                  have hb1 : ¬ ((ad.length : Int) < (q : Int) + 1) := by omega
                  have hb0 : (0 : Int) ≤ (q : Int) + 1 := by omega
                  go_wp2_with fail
                  refine regionL 11 (fun _ => True) (by kernel_rfl) ?_
                  refine takeW (i := 0) (v := (.string ⟨ad.toArray⟩)) rfl (by kernel_rfl) (by kernel_rfl) (by kernel_rfl) rfl (fun _ _ _ h => h) (fun _ => trivial) (Or.inl ⟨by rfl, fun W _ => by go_simp⟩) ?_
                  simp only [Act.put, List.getElem_toArray, List.getElem_cons_succ, List.getElem_cons_zero, List.setIfInBounds_toArray, List.set_cons_zero, List.set_cons_succ]
                  refine takeW (i := 1) (v := (.int .i64 q)) rfl (by kernel_rfl) (by kernel_rfl) (by kernel_rfl) rfl (fun _ _ _ h => h) (fun _ => trivial) (Or.inl ⟨by rfl, fun W _ => by go_simp⟩) ?_
                  simp only [Act.put, List.getElem_toArray, List.getElem_cons_succ, List.getElem_cons_zero, List.setIfInBounds_toArray, List.set_cons_zero, List.set_cons_succ]
                  refine takeW (i := 2) (v := (.string ⟨(ad.take q).toArray⟩)) rfl (by kernel_rfl) (by kernel_rfl) (by kernel_rfl) rfl (fun _ _ _ h => h) (fun _ => trivial) (Or.inl ⟨by rfl, fun W _ => by go_simp⟩) ?_
                  simp only [Act.put, List.getElem_toArray, List.getElem_cons_succ, List.getElem_cons_zero, List.setIfInBounds_toArray, List.set_cons_zero, List.set_cons_succ]
                  refine takeW (i := 3) (v := (.string ⟨ad.toArray⟩)) rfl (by kernel_rfl) (by kernel_rfl) (by kernel_rfl) rfl (fun _ _ _ h => h) (fun _ => trivial) (Or.inl ⟨by rfl, fun W _ => by go_simp⟩) ?_
                  simp only [Act.put, List.getElem_toArray, List.getElem_cons_succ, List.getElem_cons_zero, List.setIfInBounds_toArray, List.set_cons_zero, List.set_cons_succ]
                  refine takeW (i := 4) (v := (.int .i64 q)) rfl (by kernel_rfl) (by kernel_rfl) (by kernel_rfl) rfl (fun _ _ _ h => h) (fun _ => trivial) (Or.inl ⟨by rfl, fun W _ => by go_simp⟩) ?_
                  simp only [Act.put, List.getElem_toArray, List.getElem_cons_succ, List.getElem_cons_zero, List.setIfInBounds_toArray, List.set_cons_zero, List.set_cons_succ]
                  refine takeW (i := 5) (v := (.int .i64 ((q : Int) + 1))) rfl (by kernel_rfl) (by kernel_rfl) (by kernel_rfl) rfl (fun _ _ _ h => h) (fun _ => trivial) (Or.inl ⟨by rfl, fun W _ => by go_simp⟩) ?_
                  simp only [Act.put, List.getElem_toArray, List.getElem_cons_succ, List.getElem_cons_zero, List.setIfInBounds_toArray, List.set_cons_zero, List.set_cons_succ]
                  refine takeW (i := 6) (v := (.string ⟨(ad.drop (q + 1)).toArray⟩)) rfl (by kernel_rfl) (by kernel_rfl) (by kernel_rfl) rfl (fun _ _ _ h => h) (fun _ => trivial) (Or.inl ⟨by rfl, fun W _ => by go_simp⟩) ?_
                  simp only [Act.put, List.getElem_toArray, List.getElem_cons_succ, List.getElem_cons_zero, List.setIfInBounds_toArray, List.set_cons_zero, List.set_cons_succ]
                  refine takeW (i := 7) (v := (.pointer (some ⟨b + 1, 1, none⟩))) rfl (by kernel_rfl) (by kernel_rfl) (by kernel_rfl) rfl (fun _ _ _ h => h) (fun _ => trivial) (Or.inl ⟨by rfl, fun W _ => by go_simp⟩) ?_
                  simp only [Act.put, List.getElem_toArray, List.getElem_cons_succ, List.getElem_cons_zero, List.setIfInBounds_toArray, List.set_cons_zero, List.set_cons_succ]
                  have hd1 := HTq.out.loc.cell
                  have hd2 := HTq.out.loc.frozen
                  have hd3 := HTq.out.loc.lt
                  refine readyL (rs := [8]) (by kernel_rfl) (by simp) ?_
                  refine AllL.cons rfl (fun K hK => ?_) AllL.nil
                  try simp only [List.getElem_toArray, List.getElem_cons_succ, List.getElem_cons_zero]
                  go_simp
                  refine hK.out _ _ (fun _ => trivial) (fun _ => ?_)
                  clear hK K
                  try simp only [Act.put, List.getElem_toArray, List.getElem_cons_succ, List.getElem_cons_zero, List.setIfInBounds_toArray, List.set_cons_zero, List.set_cons_succ]
                  refine readyL (rs := [9]) (by kernel_rfl) (by simp) ?_
                  refine AllL.cons rfl (fun K hK => ?_) AllL.nil
                  try simp only [List.getElem_toArray, List.getElem_cons_succ, List.getElem_cons_zero]
                  go_simp
                  refine hK.out _ _ (fun _ => trivial) (fun _ => ?_)
                  clear hK K
                  try simp only [Act.put, List.getElem_toArray, List.getElem_cons_succ, List.getElem_cons_zero, List.setIfInBounds_toArray, List.set_cons_zero, List.set_cons_succ]
                  refine readyL (rs := [10]) (by kernel_rfl) (by simp) ?_
                  refine AllL.cons rfl (fun K hK => ?_) AllL.nil
                  try simp only [List.getElem_toArray, List.getElem_cons_succ, List.getElem_cons_zero]
                  go_simp
                  refine hK.out _ _ (fun _ => trivial) (fun _ => ?_)
                  clear hK K
                  try simp only [Act.put, List.getElem_toArray, List.getElem_cons_succ, List.getElem_cons_zero, List.setIfInBounds_toArray, List.set_cons_zero, List.set_cons_succ]
                  refine doneL (by kernel_rfl) ?_ _
                  clear hd1 hd2 hd3
                  go_wp2
                  go_roundw
                  case rel => exact ⟨q + 1, by go_num, by omega, by rw [HLk.out]; exact ⟨HT9.out.res, HT9.out.loc, ⟨HT9.out.bel.os, HT9.out.bel.tape, HT9.out.bel.output, HT9.out.bel.size, HT9.out.bel.block⟩, HT9.out.ge⟩⟩
                  case measure => simp [intOf]; omega
                · have h64' := u8_ne (k := 64) rfl h64
                  have HLk := hide (locK_miss hql (hx ▸ h64))
                  go_wp2
                  go_roundw
                  case rel => exact ⟨q + 1, by go_num, by omega, by rw [HLk.out]; exact HTq⟩
                  case measure => simp [intOf]; omega
              · have hql' : ¬ ((q : Int) < ad.length) := by omega
                obtain rfl : q = ad.length := by omega
                have HO := hide (adO_eq HNB.out (lo := (locK ad ad.length).1) (dm := (locK ad ad.length).2) rfl)
                generalize (locK ad ad.length).1 = y1 at *
                generalize (locK ad ad.length).2 = y2 at *
                have hd1 := HTq.out.loc.cell
                have hd4 := HTq.out.res.cell
                have hd5 := HTq.out.res.frozen
                have hd6 := HTq.out.res.lt
                go_wp2
                have h9 := (three_sets HTq.out.res (x := .string ⟨nm.toArray⟩) (y := .string ⟨y1.toArray⟩) (z := .string ⟨y2.toArray⟩)).cell
                exact bodyPost_ret (v := .agg #[.string ⟨nm.toArray⟩, .string ⟨y1.toArray⟩, .string ⟨y2.toArray⟩]) (by simp [results, Tryz.results48, go_sem, h9]) rfl ⟨by rw [HO.out]; rfl, three_below HTq.out.bel HTq.out.ge⟩
      · have hik2 : i + 1 ≤ k := by omega
        have hno := plE_mks (m := 60) (by decide) .o p i hlt (by rw [HK.out]; omega)
        obtain ⟨m, hm⟩ : ∃ m, mkN (rn .o (p.take i)) p[i] = m := ⟨_, rfl⟩
        rw [hm] at hcell hno
        rw [hc] at hno
        by_cases hm0 : m = 0
        · subst hm0
          have h60' := u8_bne (c := c) (d := 60) (k := 60) rfl (fun e => hno ⟨e, rfl⟩)
          have h60'' := u8_ne (c := c) (d := 60) (k := 60) rfl (fun e => hno ⟨e, rfl⟩)
          have hcell' : wr.cell? ⟨b + 1 + 1, i, none⟩ = some (.int .i64 0) := hcell
          clear hcell hno HC2
          go_wp2
          go_roundw
          case rel => exact ⟨trivial, rfl, i + 1, by go_num, hik2⟩
          case measure => simp [intOf]; omega
        · have hm0' : ((m : Int) == 0) = false := by rw [beq_eq_false_iff_ne]; omega
          have hm0'' : ¬ ((m : Int) = 0) := by omega
          clear hno HC2
          go_wp2
          go_roundw
          case rel => exact ⟨trivial, rfl, i + 1, by go_num, hik2⟩
          case measure => simp [intOf]; omega
    · have hlt' : ¬ ((i : Int) < p.length) := by omega
      have HNB : Hid (nmA p = ([], p)) := by
        show _ = _
        unfold nmA
        rw [HK.out, if_neg (by omega)]
      obtain ⟨ad, had⟩ : ∃ ad, ad = p := ⟨_, rfl⟩
      subst had
      have hadl := hl
      obtain ⟨nm, hnm⟩ : ∃ nm : List UInt8, nm = [] := ⟨_, rfl⟩
      have HT5 : Hid (Two w b nm [] [] wr) := by rw [hnm]; exact HT2.out
      rw [← hnm] at HNB
      clear hnm
      have HT6 := hide (HT5.out.set1 ad)
      have hq1 := HT5.out.loc.cell 1
      have hf1 := HT5.out.loc.frozen 1
      have hl1 := HT5.out.loc.lt
      clear HC2 HT2
      have hsa := size_lit ad
      have HZ := hide (locK_zero ad)
      go_wp2
      go_loopw [7] (fun v7 wy => ∃ q : Nat, v7 = .int .i64 q ∧ q ≤ ad.length ∧ Hid (Two w b nm (locK ad q).1 (locK ad q).2 wy)) (fun v7 _ => ad.length - (intOf v7).toNat)
      case atStart => exact ⟨0, rfl, Nat.zero_le _, by rw [HZ.out]; exact HT6⟩
      case round =>
        obtain ⟨q, rfl, hq, HTq⟩ := hrel
        clear HT6 HT5 hq1 hf1 hl1 HZ
        by_cases hql : q < ad.length
        · have hql' : (q : Int) < ad.length := by omega
          obtain ⟨x, hx, hat9⟩ := at_str ad q hql
          by_cases h64 : x = 64
          · subst h64
            have HLk := hide (locK_hit hql hx)
            have f1 : (⟨ad.toArray⟩ : ByteArray).extract 0 q = ⟨(ad.take q).toArray⟩ := ext_take ad q
            have f2 : (⟨ad.toArray⟩ : ByteArray).extract (q + 1) ad.length = ⟨(ad.drop (q + 1)).toArray⟩ := ext_drop ad (q + 1)
            generalize (locK ad q).1 = y1 at *
            generalize (locK ad q).2 = y2 at *
            have HT9 := hide ((HTq.out.set1 (ad.take q)).set2 (ad.drop (q + 1)))
            skip
            have hwr : IntKind.i64.wrap ((q : Int) + 1) = (q : Int) + 1 := wrap_nat (by omega) (by omega)
            have hb1 : ¬ ((ad.length : Int) < (q : Int) + 1) := by omega
            have hb0 : (0 : Int) ≤ (q : Int) + 1 := by omega
            go_wp2_with fail
            refine regionL 11 (fun _ => True) (by kernel_rfl) ?_
            refine takeW (i := 0) (v := (.string ⟨ad.toArray⟩)) rfl (by kernel_rfl) (by kernel_rfl) (by kernel_rfl) rfl (fun _ _ _ h => h) (fun _ => trivial) (Or.inl ⟨by rfl, fun W _ => by go_simp⟩) ?_
            simp only [Act.put, List.getElem_toArray, List.getElem_cons_succ, List.getElem_cons_zero, List.setIfInBounds_toArray, List.set_cons_zero, List.set_cons_succ]
            refine takeW (i := 1) (v := (.int .i64 q)) rfl (by kernel_rfl) (by kernel_rfl) (by kernel_rfl) rfl (fun _ _ _ h => h) (fun _ => trivial) (Or.inl ⟨by rfl, fun W _ => by go_simp⟩) ?_
            simp only [Act.put, List.getElem_toArray, List.getElem_cons_succ, List.getElem_cons_zero, List.setIfInBounds_toArray, List.set_cons_zero, List.set_cons_succ]
            refine takeW (i := 2) (v := (.string ⟨(ad.take q).toArray⟩)) rfl (by kernel_rfl) (by kernel_rfl) (by kernel_rfl) rfl (fun _ _ _ h => h) (fun _ => trivial) (Or.inl ⟨by rfl, fun W _ => by go_simp⟩) ?_
            simp only [Act.put, List.getElem_toArray, List.getElem_cons_succ, List.getElem_cons_zero, List.setIfInBounds_toArray, List.set_cons_zero, List.set_cons_succ]
            refine takeW (i := 3) (v := (.string ⟨ad.toArray⟩)) rfl (by kernel_rfl) (by kernel_rfl) (by kernel_rfl) rfl (fun _ _ _ h => h) (fun _ => trivial) (Or.inl ⟨by rfl, fun W _ => by go_simp⟩) ?_
            simp only [Act.put, List.getElem_toArray, List.getElem_cons_succ, List.getElem_cons_zero, List.setIfInBounds_toArray, List.set_cons_zero, List.set_cons_succ]
            refine takeW (i := 4) (v := (.int .i64 q)) rfl (by kernel_rfl) (by kernel_rfl) (by kernel_rfl) rfl (fun _ _ _ h => h) (fun _ => trivial) (Or.inl ⟨by rfl, fun W _ => by go_simp⟩) ?_
            simp only [Act.put, List.getElem_toArray, List.getElem_cons_succ, List.getElem_cons_zero, List.setIfInBounds_toArray, List.set_cons_zero, List.set_cons_succ]
            refine takeW (i := 5) (v := (.int .i64 ((q : Int) + 1))) rfl (by kernel_rfl) (by kernel_rfl) (by kernel_rfl) rfl (fun _ _ _ h => h) (fun _ => trivial) (Or.inl ⟨by rfl, fun W _ => by go_simp⟩) ?_
            simp only [Act.put, List.getElem_toArray, List.getElem_cons_succ, List.getElem_cons_zero, List.setIfInBounds_toArray, List.set_cons_zero, List.set_cons_succ]
            refine takeW (i := 6) (v := (.string ⟨(ad.drop (q + 1)).toArray⟩)) rfl (by kernel_rfl) (by kernel_rfl) (by kernel_rfl) rfl (fun _ _ _ h => h) (fun _ => trivial) (Or.inl ⟨by rfl, fun W _ => by go_simp⟩) ?_
            simp only [Act.put, List.getElem_toArray, List.getElem_cons_succ, List.getElem_cons_zero, List.setIfInBounds_toArray, List.set_cons_zero, List.set_cons_succ]
            refine takeW (i := 7) (v := (.pointer (some ⟨b + 1, 1, none⟩))) rfl (by kernel_rfl) (by kernel_rfl) (by kernel_rfl) rfl (fun _ _ _ h => h) (fun _ => trivial) (Or.inl ⟨by rfl, fun W _ => by go_simp⟩) ?_
            simp only [Act.put, List.getElem_toArray, List.getElem_cons_succ, List.getElem_cons_zero, List.setIfInBounds_toArray, List.set_cons_zero, List.set_cons_succ]
            have hd1 := HTq.out.loc.cell
            have hd2 := HTq.out.loc.frozen
            have hd3 := HTq.out.loc.lt
            refine readyL (rs := [8]) (by kernel_rfl) (by simp) ?_
            refine AllL.cons rfl (fun K hK => ?_) AllL.nil
            try simp only [List.getElem_toArray, List.getElem_cons_succ, List.getElem_cons_zero]
            go_simp
            refine hK.out _ _ (fun _ => trivial) (fun _ => ?_)
            clear hK K
            try simp only [Act.put, List.getElem_toArray, List.getElem_cons_succ, List.getElem_cons_zero, List.setIfInBounds_toArray, List.set_cons_zero, List.set_cons_succ]
            refine readyL (rs := [9]) (by kernel_rfl) (by simp) ?_
            refine AllL.cons rfl (fun K hK => ?_) AllL.nil
            try simp only [List.getElem_toArray, List.getElem_cons_succ, List.getElem_cons_zero]
            go_simp
            refine hK.out _ _ (fun _ => trivial) (fun _ => ?_)
            clear hK K
            try simp only [Act.put, List.getElem_toArray, List.getElem_cons_succ, List.getElem_cons_zero, List.setIfInBounds_toArray, List.set_cons_zero, List.set_cons_succ]
            refine readyL (rs := [10]) (by kernel_rfl) (by simp) ?_
            refine AllL.cons rfl (fun K hK => ?_) AllL.nil
            try simp only [List.getElem_toArray, List.getElem_cons_succ, List.getElem_cons_zero]
            go_simp
            refine hK.out _ _ (fun _ => trivial) (fun _ => ?_)
            clear hK K
            try simp only [Act.put, List.getElem_toArray, List.getElem_cons_succ, List.getElem_cons_zero, List.setIfInBounds_toArray, List.set_cons_zero, List.set_cons_succ]
            refine doneL (by kernel_rfl) ?_ _
            clear hd1 hd2 hd3
            go_wp2
            go_roundw
            case rel => exact ⟨q + 1, by go_num, by omega, by rw [HLk.out]; exact ⟨HT9.out.res, HT9.out.loc, ⟨HT9.out.bel.os, HT9.out.bel.tape, HT9.out.bel.output, HT9.out.bel.size, HT9.out.bel.block⟩, HT9.out.ge⟩⟩
            case measure => simp [intOf]; omega
          · have h64' := u8_ne (k := 64) rfl h64
            have HLk := hide (locK_miss hql (hx ▸ h64))
            go_wp2
            go_roundw
            case rel => exact ⟨q + 1, by go_num, by omega, by rw [HLk.out]; exact HTq⟩
            case measure => simp [intOf]; omega
        · have hql' : ¬ ((q : Int) < ad.length) := by omega
          obtain rfl : q = ad.length := by omega
          have HO := hide (adO_eq HNB.out (lo := (locK ad ad.length).1) (dm := (locK ad ad.length).2) rfl)
          generalize (locK ad ad.length).1 = y1 at *
          generalize (locK ad ad.length).2 = y2 at *
          have hd1 := HTq.out.loc.cell
          have hd4 := HTq.out.res.cell
          have hd5 := HTq.out.res.frozen
          have hd6 := HTq.out.res.lt
          go_wp2
          have h9 := (three_sets HTq.out.res (x := .string ⟨nm.toArray⟩) (y := .string ⟨y1.toArray⟩) (z := .string ⟨y2.toArray⟩)).cell
          exact bodyPost_ret (v := .agg #[.string ⟨nm.toArray⟩, .string ⟨y1.toArray⟩, .string ⟨y2.toArray⟩]) (by simp [results, Tryz.results48, go_sem, h9]) rfl ⟨by rw [HO.out]; rfl, three_below HTq.out.bel HTq.out.ge⟩
end Go.Proofs.YtkppeejbmalefaaGreatDoor
