/- trim, Nil, List of the document's layer 11. -/
import Derived.Test.YtkppeejbmalefaaGreatDoorU18
import Derived.Test.YtkppeejbmalefaaGreatDoorU19
import Derived.Test.YtkppeejbmalefaaGreatDoorU21
set_option linter.unusedSimpArgs false
namespace Go.Proofs.YtkppeejbmalefaaGreatDoor
open Go.RowKit Go.Shelf
theorem u8_bne {c d : UInt8} {k : Int} (hk : (d.toNat : Int) = k) (h : c ≠ d) : ((c.toNat : Int) == k) = false := beq_eq_false_iff_ne.2 (u8_ne hk h)
theorem bkB_cases {c : UInt8} : (bkB c = true ∧ c = 32) ∨ (bkB c = true ∧ c = 9 ∧ c ≠ 32) ∨ (bkB c = false ∧ c ≠ 32 ∧ c ≠ 9) := by
  by_cases h : c = 32
  · exact .inl ⟨by rw [h]; rfl, h⟩
  · by_cases h2 : c = 9
    · exact .inr (.inl ⟨by rw [h2]; rfl, h2, h⟩)
    · exact .inr (.inr ⟨by simp [bkB, h, h2], h, h2⟩)
set_option maxHeartbeats 1000000 in
theorem rtr11_any (s : List UInt8) (w : World) (hl0 : s.length ≤ 1000000) : Calls Tryz.prog 47 #[.string ⟨s.toArray⟩] w fun e w' => e = .returned (.string ⟨(Lib.trimS s [32, 9]).toArray⟩) ∧ w' = w := by
  have HS := hide (trim_swap s)
  generalize Lib.trimS s [32, 9] = R at *
  go_enter Tryz.func47, Tryz.ntmps47
  go_wp2
  go_loop [0] (fun v => ∃ t : List UInt8, v = .string ⟨t.toArray⟩ ∧ t.length ≤ 1000000 ∧ Hid (Lib.trimLeftS t [32, 9] = Lib.trimLeftS s [32, 9])) (fun v => Lib.strSize v)
  case atStart => exact ⟨s, rfl, hl0, rfl⟩
  case round =>
    obtain ⟨t, rfl, htl, HT⟩ := hrel
    have hsz := size_lit t
    have key : (t = [] ∨ ∃ c r, t = c :: r ∧ bkB c = false) → Hid (Lib.trimRightS t [32, 9] = R) := fun h => by
      show _ = _
      rw [← HS.out, ← HT.out]
      rcases h with rfl | ⟨c, r, rfl, hc⟩
      · rfl
      · rw [left_cons, hc]
        rfl
    cases t with
    | nil =>
      have HR := key (.inl rfl)
      have HR2 : Hid (R = []) := HR.out.symm
      clear HT key HR
      go_wp2
      go_loop [0] (fun v => v = .string ⟨#[]⟩) (fun v => Lib.strSize v)
      case atStart => rfl
      case round =>
        subst hrel
        go_wp2
        go_ret
        exact ⟨by rw [HR2.out]; rfl, rfl⟩
    | cons c r =>
      have hz : ∀ h : 0 < (⟨(c :: r).toArray⟩ : ByteArray).size, (⟨(c :: r).toArray⟩ : ByteArray)[0]'h = c := fun _ => rfl
      have hln : (c :: r).length = r.length + 1 := rfl
      have e1 : (⟨(c :: r).toArray⟩ : ByteArray).extract 1 (c :: r).length = ⟨r.toArray⟩ := by rw [ext_drop]; rfl
      have hm : Lib.strSize (.string ⟨r.toArray⟩) < Lib.strSize (.string ⟨(c :: r).toArray⟩) := by
        show (⟨r.toArray⟩ : ByteArray).size < (⟨(c :: r).toArray⟩ : ByteArray).size
        rw [size_lit, size_lit, hln]
        omega
      have go : bkB c = true → Hid (Lib.trimLeftS r [32, 9] = Lib.trimLeftS s [32, 9]) := fun h => by
        have := HT.out
        rw [left_cons, h] at this
        exact this
      rcases bkB_cases (c := c) with ⟨hb, h32⟩ | ⟨hb, h9, h32⟩ | ⟨hb, h32, h9⟩
      · have HN := go hb
        have hr : r.length ≤ 1000000 := by omega
        generalize c :: r = t at *
        subst h32
        have h0 : (t.length : Int) > 0 := by omega
        clear HT key go hln
        go_wp2
        go_round
        case rel => exact ⟨r, rfl, hr, HN⟩
        case measure => exact hm
      · have HN := go hb
        have hr : r.length ≤ 1000000 := by omega
        have h32' := u8_bne (k := 32) rfl h32
        generalize c :: r = t at *
        subst h9
        have h0 : (t.length : Int) > 0 := by omega
        clear HT key go hln
        go_wp2
        go_round
        case rel => exact ⟨r, rfl, hr, HN⟩
        case measure => exact hm
      · have HR := key (.inr ⟨c, r, rfl, hb⟩)
        have h32' := u8_bne (k := 32) rfl h32
        have h9' := u8_bne (k := 9) rfl h9
        generalize c :: r = t at *
        have h0 : (t.length : Int) > 0 := by omega
        clear HT key go hln
        go_wp2
        go_loop [0] (fun v => ∃ t : List UInt8, v = .string ⟨t.toArray⟩ ∧ t.length ≤ 1000000 ∧ Hid (Lib.trimRightS t [32, 9] = R)) (fun v => Lib.strSize v)
        case atStart => exact ⟨t, rfl, htl, HR⟩
        case round =>
          obtain ⟨u, rfl, hul, HU⟩ := hrel
          have hsu := size_lit u
          clear HR e1 hm hz h0 hsz
          rcases List.eq_nil_or_concat u with rfl | ⟨q, z, hq⟩
          · have HR2 : Hid (R = []) := HU.out.symm
            clear HU
            go_wp2
            go_ret
            exact ⟨by rw [HR2.out]; rfl, rfl⟩
          · have hqe : u = q ++ [z] := by rw [hq]; simp
            have hql : u.length = q.length + 1 := by rw [hqe]; simp
            have hz : ∀ h : q.length < (⟨u.toArray⟩ : ByteArray).size, (⟨u.toArray⟩ : ByteArray)[q.length]'h = z := by
              intro h
              subst hqe
              show (q ++ [z])[q.length] = z
              simp
            have hsub : (u.length : Int) - 1 = (q.length : Int) := by omega
            have e1 : (⟨u.toArray⟩ : ByteArray).extract 0 q.length = ⟨q.toArray⟩ := by rw [ext_take, hqe]; simp
            have hm : Lib.strSize (.string ⟨q.toArray⟩) < Lib.strSize (.string ⟨u.toArray⟩) := by
              show (⟨q.toArray⟩ : ByteArray).size < (⟨u.toArray⟩ : ByteArray).size
              rw [size_lit, size_lit, hql]
              omega
            have HU2 : Hid (R = if bkB z then Lib.trimRightS q [32, 9] else q ++ [z]) := by
              show _ = _
              rw [← HU.out, hqe, right_snoc]
            have h0 : (u.length : Int) > 0 := by omega
            have hqm : q.length ≤ 1000000 := by omega
            rw [← hqe] at HU2
            rcases bkB_cases (c := z) with ⟨hb, g32⟩ | ⟨hb, g9, g32⟩ | ⟨hb, g32, g9⟩
            · rw [hb] at HU2
              have HN : Hid (Lib.trimRightS q [32, 9] = R) := HU2.out.symm
              subst g32
              clear HU HU2 hq hqe
              go_wp2
              go_round
              case rel => exact ⟨q, rfl, hqm, HN⟩
              case measure => exact hm
            · rw [hb] at HU2
              have HN : Hid (Lib.trimRightS q [32, 9] = R) := HU2.out.symm
              have g32' := u8_bne (k := 32) rfl g32
              subst g9
              clear HU HU2 hq hqe
              go_wp2
              go_round
              case rel => exact ⟨q, rfl, hqm, HN⟩
              case measure => exact hm
            · rw [hb] at HU2
              have HN : Hid (R = u) := HU2.out
              have g32' := u8_bne (k := 32) rfl g32
              have g9' := u8_bne (k := 9) rfl g9
              clear HU HU2 hq hqe
              go_wp2
              go_ret
              exact ⟨by rw [HN.out]; rfl, rfl⟩
theorem rn11_any (l : List UInt8) (w : World) (hl : l.length ≤ 1000000) :
    Calls Tryz.prog 45 #[.string ⟨l.toArray⟩] w fun e w' => e = .returned (.string ⟨(nilI l).toArray⟩) ∧ Below w.heap.size w w' := by
  have HQ := hide (rquote_any l w hl)
  have HN : Hid (nilI l = if l = [] then tNil else quoI l) := rfl
  generalize nilI l = N at *
  generalize quoI l = q at *
  by_cases h : l = []
  · subst h
    rw [if_pos rfl] at HN
    go_enter Tryz.func45, Tryz.ntmps45
    go_wp2
    go_ret
    exact ⟨by rw [HN.out]; rfl, Below.refl _ _⟩
  · rw [if_neg h] at HN
    have h1 : l.isEmpty = false := by simpa using h
    clear h
    go_enter Tryz.func45, Tryz.ntmps45
    go_wp2_with (first
      | (go_at_call 20; refine HQ.out.mono ?_; rintro e w2 ⟨rfl, hb2⟩))
    go_ret
    exact ⟨by rw [HN.out]; rfl, hb2⟩
theorem adT_cat (a : Ad) : adT a = ((((((40 :: nilI a.name) ++ [32, 78, 73, 76, 32]) ++ quoI a.loc) ++ [32]) ++ quoI a.dom) ++ [41]) := by
  unfold adT
  simp [Lib.join_cons, Lib.joinTail, tNil]
set_option maxRecDepth 20000 in
set_option maxHeartbeats 2000000 in
theorem rlst_any (xs : List Ad) (v : Value) (w : World) (hr : ReadOf Ad.cs 3 w v xs) (hl : xs.length ≤ 10000) {M : Nat} (hM : M ≤ 10000) (hx : ∀ x ∈ xs, adLe M x) :
    Calls Tryz.prog 21 #[v] w fun e w' => e = .returned (.string ⟨(lstT xs).toArray⟩) ∧ Below w.heap.size w w' := by
  obtain ⟨A, c, rfl, hc⟩ := hr
  have HC := hide hc
  have HX := hide hx
  clear hc hx
  have HN : Hid (lstT xs = if xs = [] then tNil else 40 :: (xs.flatMap adT ++ [41])) := rfl
  generalize lstT xs = N at *
  by_cases h : xs = []
  · rw [if_pos h] at HN
    have h0 : xs.length = 0 := by rw [h]; rfl
    rw [h0]
    clear HC HX
    go_enter Tryz.func21, Tryz.ntmps21
    go_wp2
    go_ret
    exact ⟨by rw [HN.out]; rfl, Below.refl _ _⟩
  · rw [if_neg h] at HN
    have h0 : 0 < xs.length := List.length_pos_iff.2 h
    have h0' : ¬ ((xs.length : Int) = 0) := by omega
    obtain ⟨n, hn⟩ : ∃ n, xs.length = n := ⟨_, rfl⟩
    have HLn := hide hn
    rw [hn] at hl h0 h0' ⊢
    clear h hn
    go_enter Tryz.func21, Tryz.ntmps21
    go_wp2
    go_loopw [3, 11] (fun v3 v11 wr => ∃ (i : Nat) (ys : List UInt8), v11 = .int .i64 i ∧ i ≤ n ∧ v3 = .string ⟨ys.toArray⟩ ∧ Hid (Below w.heap.size w wr) ∧ Hid (ys = 40 :: (xs.take i).flatMap adT)) (fun _ v11 _ => n - (intOf v11).toNat)
    case atStart => exact ⟨0, [40], rfl, Nat.zero_le _, rfl, Below.refl _ _, rfl⟩
    case round =>
      obtain ⟨i, ys, rfl, hin, rfl, HB, HY⟩ := hrel
      have hyl : ys.length ≤ 10000 * (8 * 10000 + 446) + 1 := by
        rw [HY.out, List.length_cons]
        have h1 := flat_adT_len (M := M) (by omega) (xs := xs.take i) (fun x hx => HX.out x (List.mem_of_mem_take hx))
        have h2 : (xs.take i).length ≤ 10000 := by rw [List.length_take]; omega
        have h3 : (xs.take i).length * (8 * M + 446) ≤ 10000 * (8 * 10000 + 446) := Nat.mul_le_mul h2 (by omega)
        omega
      have hbs := HB.out.size
      by_cases hlt : i < n
      · have hlt' : (i : Int) < n := by omega
        have hip : i < xs.length := by rw [HLn.out]; exact hlt
        obtain ⟨g, o, rfl, hg, hcs⟩ := HC.out i hip
        have hxi := HX.out _ (List.getElem_mem hip)
        have HYn := hide (flat_adT hip)
        have hal := adT_len (by omega) hxi
        obtain ⟨q, hq⟩ : ∃ q, xs[i] = q := ⟨_, rfl⟩
        rw [hq] at hcs hxi HYn hal
        have k0 : wr.cell? ⟨g, o + i * 3, none⟩ = some (.string ⟨q.name.toArray⟩) := (HB.out.cell (p := ⟨g, _, none⟩) hg).trans (hcs 0 (by omega))
        have k1 : wr.cell? ⟨g, o + i * 3 + 1, none⟩ = some (.string ⟨q.loc.toArray⟩) := (HB.out.cell (p := ⟨g, _, none⟩) hg).trans (hcs 1 (by omega))
        have k2 : wr.cell? ⟨g, o + i * 3 + 2, none⟩ = some (.string ⟨q.dom.toArray⟩) := (HB.out.cell (p := ⟨g, _, none⟩) hg).trans (hcs 2 (by omega))
        obtain ⟨nm, lo, dm⟩ := q
        obtain ⟨x1, x2, x3⟩ := hxi
        dsimp only at k0 k1 k2 x1 x2 x3
        clear hcs HC hq
        go_wp2_with fail
        have HK1 := hide (Blk.new wr #[.string ⟨nm.toArray⟩, .string ⟨lo.toArray⟩, .string ⟨dm.toArray⟩] 39)
        have HB1 := hide (HB.out.alloc hbs (.cells #[.string ⟨nm.toArray⟩, .string ⟨lo.toArray⟩, .string ⟨dm.toArray⟩] 39))
        obtain ⟨D, hD⟩ : ∃ D, wr.heap.size = D := ⟨_, rfl⟩
        obtain ⟨W1, hW1⟩ : ∃ W1, wr.alloc (.cells #[.string ⟨nm.toArray⟩, .string ⟨lo.toArray⟩, .string ⟨dm.toArray⟩] 39) = W1 := ⟨_, rfl⟩
        rw [hD, hW1] at HK1
        rw [hW1] at HB1
        rw [hD, hW1]
        clear hW1 hD HB k0 k1 k2 hbs
        have hn0 := ext_some W1
        have t0 : ∀ u : Ext W1, u.w.cell? ⟨D, 0, none⟩ = some (.string ⟨nm.toArray⟩) := fun u => ((ext_cell W1 u _ _ HK1.out.lt).trans (HK1.out.cell 0))
        have t1 : ∀ u : Ext W1, u.w.cell? ⟨D, 1, none⟩ = some (.string ⟨lo.toArray⟩) := fun u => ((ext_cell W1 u _ _ HK1.out.lt).trans (HK1.out.cell 1))
        have t2 : ∀ u : Ext W1, u.w.cell? ⟨D, 2, none⟩ = some (.string ⟨dm.toArray⟩) := fun u => ((ext_cell W1 u _ _ HK1.out.lt).trans (HK1.out.cell 2))
        have HC0 : Hid (∀ u : Ext W1, Calls Tryz.prog 45 #[.string ⟨nm.toArray⟩] u.w fun e w' => e = .returned (.string ⟨(nilI nm).toArray⟩) ∧ Below u.w.heap.size u.w w') := fun u => rn11_any nm u.w (by omega)
        have HC1 : Hid (∀ (u : Ext W1) (x : List UInt8), x.length ≤ 20000 → Calls Tryz.prog 20 #[.string ⟨x.toArray⟩] u.w fun e w' => e = .returned (.string ⟨(quoI x).toArray⟩) ∧ Below u.w.heap.size u.w w') := fun u x hx => rquote_any x u.w (by omega)
        have l0 := nilE_len nm (by omega)
        have l1 := quoE_len lo (by omega)
        have l2 := quoE_len dm (by omega)
        have c1 : (⟨#[40]⟩ : ByteArray) ++ ⟨(nilI nm).toArray⟩ = ⟨(40 :: nilI nm).toArray⟩ := cat_lit [40] _
        obtain ⟨p1, e1⟩ : ∃ p, 40 :: nilI nm = p := ⟨_, rfl⟩
        have c2 : (⟨(40 :: nilI nm).toArray⟩ : ByteArray) ++ ⟨#[32, 78, 73, 76, 32]⟩ = ⟨((40 :: nilI nm) ++ [32, 78, 73, 76, 32]).toArray⟩ := cat_lit _ [32, 78, 73, 76, 32]
        rw [e1] at c1 c2
        obtain ⟨p2, e2⟩ : ∃ p, p1 ++ [32, 78, 73, 76, 32] = p := ⟨_, rfl⟩
        have c3 : (⟨p2.toArray⟩ : ByteArray) ++ ⟨(quoI lo).toArray⟩ = ⟨(p2 ++ quoI lo).toArray⟩ := cat_lit _ _
        rw [e2] at c2
        obtain ⟨p3, e3⟩ : ∃ p, p2 ++ quoI lo = p := ⟨_, rfl⟩
        rw [e3] at c3
        have c4 : (⟨p3.toArray⟩ : ByteArray) ++ ⟨#[32]⟩ = ⟨(p3 ++ [32]).toArray⟩ := cat_lit _ [32]
        obtain ⟨p4, e4⟩ : ∃ p, p3 ++ [32] = p := ⟨_, rfl⟩
        rw [e4] at c4
        have c5 : (⟨p4.toArray⟩ : ByteArray) ++ ⟨(quoI dm).toArray⟩ = ⟨(p4 ++ quoI dm).toArray⟩ := cat_lit _ _
        obtain ⟨p5, e5⟩ : ∃ p, p4 ++ quoI dm = p := ⟨_, rfl⟩
        rw [e5] at c5
        have c6 : (⟨p5.toArray⟩ : ByteArray) ++ ⟨#[41]⟩ = ⟨(p5 ++ [41]).toArray⟩ := cat_lit _ [41]
        obtain ⟨p6, e6⟩ : ∃ p, p5 ++ [41] = p := ⟨_, rfl⟩
        rw [e6] at c6
        have HP6 : Hid (p6 = adT ⟨nm, lo, dm⟩) := by
          show _ = _
          rw [← e6, ← e5, ← e4, ← e3, ← e2, ← e1, adT_cat]
        have c7 : (⟨ys.toArray⟩ : ByteArray) ++ ⟨p6.toArray⟩ = ⟨(ys ++ p6).toArray⟩ := cat_lit _ _
        have z1 : p1.length ≤ 100000 := by rw [← e1]; simp; omega
        have z2 : p2.length ≤ 100000 := by rw [← e2, ← e1]; simp; omega
        have z3 : p3.length ≤ 200000 := by rw [← e3, List.length_append]; omega
        have z4 : p4.length ≤ 200001 := by rw [← e4, List.length_append]; simp; omega
        have z5 : p5.length ≤ 300001 := by rw [← e5, List.length_append]; omega
        have z6 : p6.length ≤ 300002 := by rw [← e6, List.length_append]; simp; omega
        have s0 := size_lit (nilI nm)
        have sl := size_lit (quoI lo)
        have sd := size_lit (quoI dm)
        have s1 := size_lit p1
        have s2 := size_lit p2
        have s3 := size_lit p3
        have s4 := size_lit p4
        have s5 := size_lit p5
        have s6 := size_lit p6
        have sy := size_lit ys
        generalize nilI nm = a0 at *
        clear e1 e2 e3 e4 e5 e6
        refine wp_region_ext (by kernel_rfl) (by kernel_rfl) ?_
        repeat (go_big_quiet_step ((first | (go_at_call 45; exact ext_call (HC0.out _)) | (go_at_call 20; exact ext_call (HC1.out _ _ (by omega))))))
        refine wpQuiet_nil ?_
        rintro w6 ⟨⟨w6', hb6⟩, rfl⟩
        have HB6 := hide (HB1.out.trans (hb6.mono HB1.out.size))
        have HY8 : Hid (ys ++ p6 = 40 :: (xs.take (i + 1)).flatMap adT) := by
          show _ = _
          rw [HYn.out, HY.out, HP6.out]
          rfl
        clear hb6 t0 t1 t2 hn0
        go_wp2
        go_roundw
        case rel => exact ⟨i + 1, ys ++ p6, by go_num, by omega, rfl, HB6, HY8⟩
        case measure => simp [intOf]; omega
      · obtain rfl : i = n := by omega
        rw [List.take_of_length_le (by rw [HLn.out]; exact Nat.le_refl _)] at HY
        have c1 : (⟨ys.toArray⟩ : ByteArray) ++ ⟨#[41]⟩ = ⟨N.toArray⟩ := by
          rw [HN.out, HY.out]
          exact cat_lit _ [41]
        have sy := size_lit ys
        clear HC HY
        go_wp2
        go_ret
        exact ⟨rfl, HB.out⟩
end Go.Proofs.YtkppeejbmalefaaGreatDoor
