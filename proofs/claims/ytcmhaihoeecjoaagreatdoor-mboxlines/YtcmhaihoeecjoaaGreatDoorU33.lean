/- Moments as separator lines have them: read back. -/
/- parts and momentOf of package mbox. -/
import Derived.Test.YtcmhaihoeecjoaaGreatDoorU19
import Derived.Test.YtcmhaihoeecjoaaGreatDoorU28
import Derived.Test.YtcmhaihoeecjoaaGreatDoorU30
import Derived.Test.YtcmhaihoeecjoaaGreatDoorU32
import Derived.BigQuiet
import Derived.Deep.QuietTactic
section
namespace Go.Proofs.YtcmhaihoeecjoaaGreatDoor
open Go.RowKit Go.Shelf
theorem two48_d : ∀ n, n < 100 → (Da.two n 48).length = 2 ∧ (Da.two n 48).all Da.isDig = true ∧ Da.valL (Da.two n 48) 0 = n := by decide +kernel
theorem two32_lo : ∀ n, n < 10 → Da.two n 32 = [32, UInt8.ofNat (48 + n)] ∧ Da.isDig (UInt8.ofNat (48 + n)) = true ∧ Da.valL [UInt8.ofNat (48 + n)] 0 = n := by decide +kernel
theorem two32_hi : ∀ n, n < 100 → 10 ≤ n → Da.two n 32 = [UInt8.ofNat (48 + n / 10), UInt8.ofNat (48 + n % 10)] ∧ Da.isDig (UInt8.ofNat (48 + n / 10)) = true ∧ Da.isDig (UInt8.ofNat (48 + n % 10)) = true ∧ UInt8.ofNat (48 + n / 10) ≠ 48 ∧ UInt8.ofNat (48 + n / 10) ≠ 32 ∧ Da.valL (Da.two n 32) 0 = n := by decide +kernel
theorem year_d : ∀ i, i < 130 → (Da.year (1970 + i)).length = 4 ∧ (Da.year (1970 + i)).all Da.isDig = true ∧ Da.valL (Da.year (1970 + i)) 0 = 1970 + i := by decide +kernel
theorem mon_d : ∀ j, j < 12 → Da.mon ((j + 1 : Nat) : Int) = Da.nameT Da.monB j ∧ (Da.nameT Da.monB j).length = 3 := by decide +kernel
theorem wkd_d : ∀ j, j < 7 → (Da.wkd ((j : Nat) : Int)).length = 3 := by decide +kernel
theorem digs_of {l : List UInt8} (h : l.all Da.isDig = true) : Da.Digs l := fun c hc => List.all_eq_true.1 h c hc
/-- The parts of a moment's text. -/
structure BoxP (q A B C D E : List UInt8) : Prop where
  form : q = A ++ (32 :: (B ++ (32 :: (C ++ (32 :: (D ++ (32 :: E)))))))
  la : A.length = 3
  lb : B.length = 3
  lc : C.length = 2
  ld : D.length = 8
  le : E.length = 4
theorem BoxP.len {q A B C D E : List UInt8} (h : BoxP q A B C D E) : q.length = 24 := by
  rw [h.form]
  simp [h.la, h.lb, h.lc, h.ld, h.le]
theorem BoxP.cuts {q A B C D E : List UInt8} (h : BoxP q A B C D E) : (q.drop 4).take 3 = B ∧ (q.drop 8).take 2 = C ∧ (q.drop 11).take 8 = D ∧ q.drop 20 = E := by
  obtain ⟨rfl, la, lb, lc, ld, le⟩ := h
  obtain ⟨a1, a2, a3, rfl⟩ : ∃ a b c, A = [a, b, c] := by
    match A, la with
    | [a, b, c], _ => exact ⟨a, b, c, rfl⟩
  obtain ⟨b1, b2, b3, rfl⟩ : ∃ a b c, B = [a, b, c] := by
    match B, lb with
    | [a, b, c], _ => exact ⟨a, b, c, rfl⟩
  obtain ⟨c1, c2, rfl⟩ : ∃ a b, C = [a, b] := by
    match C, lc with
    | [a, b], _ => exact ⟨a, b, rfl⟩
  refine ⟨by simp, by simp, ?_, ?_⟩
  · simp only [List.cons_append, List.nil_append, List.drop_succ_cons, List.drop_zero]
    rw [List.take_left' ld]
  · simp only [List.cons_append, List.nil_append, List.drop_succ_cons]
    rw [show (9 : Nat) = D.length + 1 by omega, ← List.drop_drop, List.drop_left' rfl]
    rfl
/-- The parts, laid for layer 1's reading. -/
def laidI (q : List UInt8) : List UInt8 := (q.drop 8).take 2 ++ [45] ++ (q.drop 4).take 3 ++ [45] ++ q.drop 20 ++ [32] ++ (q.drop 11).take 8 ++ [32, 43, 48, 48, 48, 48]
theorem box_parts (t : Int) (h0 : 0 ≤ t) (h1 : t ≤ 4102444799) : ∃ y m d h mi s wk : Nat, Da.Dt y m d h mi s wk ∧ Da.rightB y m d h mi s = true ∧ Da.mom y m d h mi s = t ∧ boxT t = Da.boxL y m d h mi s wk := by
  obtain ⟨y1, y2, m1, m2, d1, d2, e⟩ := Da.Cal.date_spec (t / 86400) (by omega) (by omega)
  have hr1 : Da.rightB (Da.Cal.cy (t / 86400)) (Da.Cal.cm (t / 86400)) (Da.Cal.cd (t / 86400)) (t % 86400 / 3600) (t % 3600 / 60) (t % 60) = true := Da.right_yes y1 y2 m1 m2 d1 d2 (by omega) (by omega) (by omega) (by omega) (by omega) (by omega)
  have hm1 : Da.mom (Da.Cal.cy (t / 86400)) (Da.Cal.cm (t / 86400)) (Da.Cal.cd (t / 86400)) (t % 86400 / 3600) (t % 3600 / 60) (t % 60) = t := by unfold Da.mom; omega
  refine ⟨_, _, _, _, _, _, _, dt_of t h0 h1, ?_, ?_, rfl⟩
  · rw [Int.toNat_of_nonneg (show 0 ≤ Da.Cal.cy (t / 86400) by omega), Int.toNat_of_nonneg (show 0 ≤ Da.Cal.cm (t / 86400) by omega), Int.toNat_of_nonneg (show 0 ≤ Da.Cal.cd (t / 86400) by omega), Int.toNat_of_nonneg (show 0 ≤ t % 86400 / 3600 by omega), Int.toNat_of_nonneg (show 0 ≤ t % 3600 / 60 by omega), Int.toNat_of_nonneg (show 0 ≤ t % 60 by omega)]
    exact hr1
  · rw [Int.toNat_of_nonneg (show 0 ≤ Da.Cal.cy (t / 86400) by omega), Int.toNat_of_nonneg (show 0 ≤ Da.Cal.cm (t / 86400) by omega), Int.toNat_of_nonneg (show 0 ≤ Da.Cal.cd (t / 86400) by omega), Int.toNat_of_nonneg (show 0 ≤ t % 86400 / 3600 by omega), Int.toNat_of_nonneg (show 0 ≤ t % 3600 / 60 by omega), Int.toNat_of_nonneg (show 0 ≤ t % 60 by omega)]
    exact hm1
theorem clk_len8 {h mi s : Nat} (a : h < 100) (b : mi < 100) (c : s < 100) : (Da.clk h mi s).length = 8 := by
  unfold Da.clk
  simp [(two48_d h a).1, (two48_d mi b).1, (two48_d s c).1]
theorem boxP_of {y m d h mi s wk : Nat} (hd : Da.Dt y m d h mi s wk) : BoxP (Da.boxL y m d h mi s wk) (Da.wkd wk) (Da.mon m) (Da.two d 32) (Da.clk h mi s) (Da.year y) := by
  obtain ⟨y1, y2, m1, m2, d1, d2, a2, b2, c2, k2⟩ := hd
  refine ⟨by unfold Da.boxL; simp, wkd_d wk (by omega), ?_, ?_, clk_len8 (by omega) (by omega) (by omega), ?_⟩
  · have := mon_d (m - 1) (by omega)
    rw [show m - 1 + 1 = m by omega] at this
    rw [this.1]
    exact this.2
  · by_cases h10 : d < 10
    · rw [(two32_lo d h10).1]; rfl
    · rw [(two32_hi d (by omega) (by omega)).1]; rfl
  · have := (year_d (y - 1970) (by omega)).1
    rwa [show 1970 + (y - 1970) = y by omega] at this
theorem laidI_box {y m d h mi s wk : Nat} (hd : Da.Dt y m d h mi s wk) : laidI (Da.boxL y m d h mi s wk) = Da.internalL y m d h mi s wk := by
  obtain ⟨c1, c2, c3, c4⟩ := (boxP_of hd).cuts
  unfold laidI
  rw [c1, c2, c3, c4]
  rfl
theorem digs00 : Da.Digs [48, 48] := by
  intro c hc
  simp at hc
  subst hc
  decide
/-- Layer 1 reads it back. -/
theorem read_back (t : Int) (h0 : 0 ≤ t) (h1 : t ≤ 4102444799) (ea : Nat → Addr) : Da.parV ea ((Da.pintF (Da.σ0 (laidI (boxT t)))).bind Da.endF) = .tuple #[.int .i64 t, .nilIface] := by
  obtain ⟨y, m, d, h, mi, s, wk, hd, hr, hm, hb⟩ := box_parts t h0 h1
  have hd' := hd
  obtain ⟨y1, y2, m1, m2, d1, d2, a2, b2, c2, k2⟩ := hd'
  have hy := year_d (y - 1970) (by omega)
  rw [show 1970 + (y - 1970) = y by omega] at hy
  have hmn := mon_d (m - 1) (by omega)
  rw [show m - 1 + 1 = m by omega] at hmn
  obtain ⟨p1, p2, p3⟩ := two48_d h (by omega)
  obtain ⟨q1, q2, q3⟩ := two48_d mi (by omega)
  obtain ⟨r1, r2, r3⟩ := two48_d s (by omega)
  have hday : Da.Day2 (Da.two d 32) d := by
    by_cases h10 : d < 10
    · obtain ⟨e1, e2, e3⟩ := two32_lo d h10
      exact .inl ⟨_, e1, e2, e3.symm⟩
    · obtain ⟨e1, e2, e3, e4, _, e5⟩ := two32_hi d (by omega) (by omega)
      exact .inr ⟨_, _, e1, e2, e3, e4, e5.symm⟩
  have hsh : Da.ShI (laidI (boxT t)) (Da.two d 32) d (m - 1) (Da.year y) (Da.two h 48) (Da.two mi 48) (Da.two s 48) 43 [48, 48] [48, 48] := by
    refine ⟨?_, hday, by omega, hy.1, digs_of hy.2.1, p1, digs_of p2, q1, digs_of q2, r1, digs_of r2, .inl rfl, rfl, digs00, rfl, digs00, by decide, by decide⟩
    rw [hb, laidI_box hd, ← hmn.1]
    unfold Da.internalL Da.clk
    simp
  have hp := Da.pint_fwd hsh
  rw [hy.2.2, p3, q3, r3] at hp
  have e0 : Da.σ0 (laidI (boxT t)) = Da.σz (laidI (boxT t)) := rfl
  rw [e0, hp]
  have ez : Da.sgn 43 * ((Da.valL [48, 48] 0 : Int) * 3600 + (Da.valL [48, 48] 0 : Int) * 60) = 0 := by decide
  rw [ez]
  unfold Da.parV Da.momV
  dsimp only
  have em : ((m - 1 : Nat) : Int) + 1 = m := by omega
  rw [em, hm, if_pos ⟨hr, by omega, by omega⟩]
  simp
theorem parV_cases (ea : Nat → Addr) (r : Option Da.RS) : (∃ T : Int, 0 ≤ T ∧ T ≤ 4102444799 ∧ Da.parV ea r = .tuple #[.int .i64 T, .nilIface]) ∨ ∃ q, Da.parV ea r = .tuple #[.int .i64 0, .iface 167 (.pointer (some q))] := by
  unfold Da.parV
  cases r with
  | none => exact .inr ⟨_, rfl⟩
  | some σ =>
    unfold Da.momV
    dsimp only
    split
    · rename_i hc
      exact .inl ⟨_, hc.2.1, hc.2.2, rfl⟩
    · exact .inr ⟨_, rfl⟩
end Go.Proofs.YtcmhaihoeecjoaaGreatDoor

end
section
namespace Go.Proofs.YtcmhaihoeecjoaaGreatDoor
open Go.RowKit Go.Shelf
theorem tuple2 {a b c d : Value} (h1 : a = c) (h2 : b = d) : Ending.returned (.tuple #[a, b]) = .returned (.tuple #[c, d]) := by rw [h1, h2]
set_option maxHeartbeats 1000000 in
theorem moment_any (q : List UInt8) (w : World) (a : Nat → Addr) (hE : Errs w a) (ht : Da.Tab w) :
    Calls Tryz.prog 26 #[.string ⟨q.toArray⟩] w fun e w' => Below w.heap.size w w' ∧ ((∃ T : Int, 0 ≤ T ∧ T ≤ 4102444799 ∧ boxT T = q ∧ e = .returned (.tuple #[.int .i64 T, .bool true])) ∨ ((∀ T : Int, 0 ≤ T → T ≤ 4102444799 → boxT T ≠ q) ∧ ∃ T : Int, e = .returned (.tuple #[.int .i64 T, .bool false]))) := by
  have hbl : ∀ T : Int, 0 ≤ T → T ≤ 4102444799 → (boxT T).length = 24 := fun T h0 h1 => by
    obtain ⟨y, m, d, h, mi, s, wk, hd, _, _, hb⟩ := box_parts T h0 h1
    rw [hb]
    exact (boxP_of hd).len
  by_cases h24 : q.length = 24
  · have s1 : ∀ w, (Instr.slice 9 (.string ⟨q.toArray⟩) (some (.int .i64 4)) (some (.int .i64 7)) none).run Tryz.prog w = .ok (.string ⟨((q.drop 4).take 3).toArray⟩) w := fun w => slice_str q 4 7 (by omega) (by omega) w
    have s2 : ∀ w, (Instr.slice 9 (.string ⟨q.toArray⟩) (some (.int .i64 8)) (some (.int .i64 10)) none).run Tryz.prog w = .ok (.string ⟨((q.drop 8).take 2).toArray⟩) w := fun w => slice_str q 8 10 (by omega) (by omega) w
    have s3 : ∀ w, (Instr.slice 9 (.string ⟨q.toArray⟩) (some (.int .i64 11)) (some (.int .i64 19)) none).run Tryz.prog w = .ok (.string ⟨((q.drop 11).take 8).toArray⟩) w := fun w => slice_str q 11 19 (by omega) (by omega) w
    have s4 : (⟨q.toArray⟩ : ByteArray).extract 20 24 = ⟨(q.drop 20).toArray⟩ := by have := ext_drop q 20; rwa [h24] at this
    have hcat := cat_lit
    have HLI : Hid (laidI q = (q.drop 8).take 2 ++ 45 :: ((q.drop 4).take 3 ++ 45 :: (q.drop 20 ++ 32 :: ((q.drop 11).take 8 ++ [32, 43, 48, 48, 48, 48])))) := by show _ = _; unfold laidI; simp
    have l1 : ((q.drop 8).take 2).length = 2 := by rw [List.length_take, List.length_drop]; omega
    have l2 : ((q.drop 4).take 3).length = 3 := by rw [List.length_take, List.length_drop]; omega
    have l3 : (q.drop 20).length = 4 := by rw [List.length_drop]; omega
    have l4 : ((q.drop 11).take 8).length = 8 := by rw [List.length_take, List.length_drop]; omega
    have hll : (laidI q).length ≤ 900 := by rw [HLI.out]; simp [l1, l2, l4]; omega
    have HP := hide (fun w hE => Da.ParseInternal_any (laidI q) w a hE hll)
    have HRB : Hid (∀ T : Int, 0 ≤ T → T ≤ 4102444799 → boxT T = q → Da.parV a ((Da.pintF (Da.σ0 (laidI q))).bind Da.endF) = .tuple #[.int .i64 T, .nilIface]) := by
      intro T h0 h1 e
      rw [← e]
      exact read_back T h0 h1 a
    have HC := hide (parV_cases a ((Da.pintF (Da.σ0 (laidI q))).bind Da.endF))
    generalize Da.parV a ((Da.pintF (Da.σ0 (laidI q))).bind Da.endF) = R at *
    rw [HLI.out] at HP
    have H24 := hide h24
    have HE := hide hE
    have HT := hide ht
    clear HLI hll hE ht hbl
    generalize (q.drop 8).take 2 = x1 at *
    generalize (q.drop 4).take 3 = x2 at *
    generalize q.drop 20 = x3 at *
    generalize (q.drop 11).take 8 = x4 at *
    rcases HC.out with ⟨T, t0, t1, rfl⟩ | ⟨p, rfl⟩
    · have HB := hide (fun w ht => box_in T w t0 t1 ht)
      have hbx := boxT_len T
      go_enter Tryz.func26, Tryz.ntmps26
      go_wp2
      go_quiet (fail)
      obtain ⟨W, hW⟩ : ∃ W, w.drewN nq = W := ⟨_, rfl⟩
      have hbW : Below w.heap.size w W := by rw [← hW]; exact ⟨rfl, rfl, rfl, Nat.le_refl _, fun _ _ => rfl⟩
      have HE2 := hide (HE.out.below hbW)
      have HT2 := hide (HT.out.below hbW)
      have HbW := hide hbW
      rw [hW]
      clear hW hbW
      go_wp2_with (first
        | (go_at_call 51; refine (HP.out _ HE2.out).mono ?_; rintro e w3 ⟨rfl, hb3⟩; have HT3 := hide (HT2.out.below hb3); replace hb3 := hide hb3)
        | (go_at_call 33; refine (HB.out _ HT3.out).mono ?_; rintro e w4 ⟨rfl, hb4⟩; replace hb4 := hide hb4))
      go_ret2
      refine ⟨HbW.out.trans ((hb3.out.trans (hb4.out.mono hb3.out.size)).mono HbW.out.size), ?_⟩
      by_cases hq : boxT T = q
      · exact .inl ⟨T, t0, t1, hq, by simp [hq]⟩
      · refine .inr ⟨fun T' h0 h1 e => ?_, T, by simp [hq]⟩
        have := HRB.out T' h0 h1 e
        simp at this
        rw [← this] at e
        exact hq e
    · go_enter Tryz.func26, Tryz.ntmps26
      go_wp2
      go_quiet (fail)
      obtain ⟨W, hW⟩ : ∃ W, w.drewN nq = W := ⟨_, rfl⟩
      have hbW : Below w.heap.size w W := by rw [← hW]; exact ⟨rfl, rfl, rfl, Nat.le_refl _, fun _ _ => rfl⟩
      have HE2 := hide (HE.out.below hbW)
      have HbW := hide hbW
      rw [hW]
      clear hW hbW
      go_wp2_with (first
        | (go_at_call 51; refine (HP.out _ HE2.out).mono ?_; rintro e w3 ⟨rfl, hb3⟩; replace hb3 := hide hb3))
      go_ret2
      refine ⟨HbW.out.trans (hb3.out.mono HbW.out.size), .inr ⟨fun T' h0 h1 e => ?_, 0, rfl⟩⟩
      have := HRB.out T' h0 h1 e
      simp at this
  · have h24' : ¬ (q.length : Int) = 24 := by omega
    have HN : Hid (∀ T : Int, 0 ≤ T → T ≤ 4102444799 → boxT T ≠ q) := fun T h0 h1 e => h24 (by rw [← e]; exact hbl T h0 h1)
    clear hE ht hbl
    go_enter Tryz.func26, Tryz.ntmps26
    go_wp2
    go_ret2
    exact ⟨Below.refl _ _, .inr ⟨HN.out, 0, rfl⟩⟩
theorem index_in : ∀ {p : List UInt8} (r : List UInt8), (32 : UInt8) ∉ p → Lib.indexByte (p ++ 32 :: r) 32 = p.length
  | [], r, _ => by simp [Lib.indexByte]
  | c :: p, r, h => by
    have h1 := index_in r (fun hp => h (List.mem_cons_of_mem _ hp))
    have hc : (c == 32) = false := by
      rw [beq_eq_false_iff_ne]
      rintro rfl
      exact h (by simp)
    rw [List.cons_append, Lib.indexByte, hc, h1]
    simp
theorem index_out : ∀ {l : List UInt8}, (32 : UInt8) ∉ l → Lib.indexByte l 32 = -1
  | [], _ => rfl
  | c :: p, h => by
    have h1 := index_out (l := p) (fun hp => h (List.mem_cons_of_mem _ hp))
    have hc : (c == 32) = false := by
      rw [beq_eq_false_iff_ne]
      rintro rfl
      exact h (by simp)
    rw [Lib.indexByte, hc, h1]
    simp
theorem split32 : ∀ (l : List UInt8), (32 : UInt8) ∈ l → ∃ p q, l = p ++ 32 :: q ∧ (32 : UInt8) ∉ p
  | [], h => by cases h
  | c :: l, h => by
    by_cases hc : c = 32
    · exact ⟨[], l, by rw [hc]; rfl, by simp⟩
    · obtain ⟨p, q, e, hp⟩ := split32 l (by rcases List.mem_cons.1 h with h | h; exact absurd h.symm hc; exact h)
      refine ⟨c :: p, q, by rw [e]; rfl, ?_⟩
      simp only [List.mem_cons, not_or]
      exact ⟨fun e => hc e.symm, hp⟩
theorem bel_drewN (w : World) (n : Nat) : Below w.heap.size w (w.drewN n) := ⟨rfl, rfl, rfl, Nat.le_refl _, fun _ _ => rfl⟩
/-- strings.Cut at a blank. -/
theorem cut_in (p q : List UInt8) (w : World) (hp : (32 : UInt8) ∉ p) (hl : (p ++ 32 :: q).length ≤ 1000000) :
    Calls Tryz.prog 79 #[.string ⟨(p ++ 32 :: q).toArray⟩, .string ⟨#[32]⟩] w fun e w' => e = .returned (.tuple #[.string ⟨p.toArray⟩, .string ⟨q.toArray⟩, .bool true]) ∧ Below w.heap.size w w' := by
  have HI : Hid (∀ w, Calls Tryz.prog 103 #[.string ⟨(p ++ 32 :: q).toArray⟩, .string ⟨#[32]⟩] w fun e w' => e = .returned (.int .i64 (p.length : Nat)) ∧ w' = w) := fun w => by
    have := Tryz.stringslite_Index_one ⟨(p ++ 32 :: q).toArray⟩ 32 w
    rw [show (⟨(p ++ 32 :: q).toArray⟩ : ByteArray).data.toList = p ++ 32 :: q from rfl, index_in q hp] at this
    exact this
  have e1 : (⟨(p ++ 32 :: q).toArray⟩ : ByteArray).extract 0 p.length = ⟨p.toArray⟩ := by rw [ext_take, List.take_left' rfl]
  have e2 : (⟨(p ++ 32 :: q).toArray⟩ : ByteArray).extract (p.length + 1) (p ++ 32 :: q).length = ⟨q.toArray⟩ := by
    rw [ext_drop, ← List.drop_drop, List.drop_left' rfl]
    rfl
  have hsz := size_lit (p ++ 32 :: q)
  have hll : p.length + 1 ≤ (p ++ 32 :: q).length := by simp
  obtain ⟨S, hS⟩ : ∃ S, p ++ 32 :: q = S := ⟨_, rfl⟩
  rw [hS] at HI e1 e2 hsz hll hl ⊢
  clear hS
  go_enter Tryz.func79, Tryz.ntmps79
  go_wp2_with (first
    | (go_at_call 103; refine (HI.out _).mono ?_; rintro e w2 ⟨rfl, rfl⟩))
  go_quiet (fail)
  go_wp2
  exact bodyPost_ret (v := .tuple #[.string ⟨p.toArray⟩, .string ⟨q.toArray⟩, .bool true]) (by simp [results, Tryz.results79, go_sem]) rfl ⟨rfl, bel_drewN _ _⟩
theorem cut_out (l : List UInt8) (w : World) (hp : (32 : UInt8) ∉ l) :
    Calls Tryz.prog 79 #[.string ⟨l.toArray⟩, .string ⟨#[32]⟩] w fun e w' => e = .returned (.tuple #[.string ⟨l.toArray⟩, .string ⟨#[]⟩, .bool false]) ∧ Below w.heap.size w w' := by
  have HI : Hid (∀ w, Calls Tryz.prog 103 #[.string ⟨l.toArray⟩, .string ⟨#[32]⟩] w fun e w' => e = .returned (.int .i64 (-1)) ∧ w' = w) := fun w => by
    have := Tryz.stringslite_Index_one ⟨l.toArray⟩ 32 w
    rw [show (⟨l.toArray⟩ : ByteArray).data.toList = l from rfl, index_out hp] at this
    exact this
  go_enter Tryz.func79, Tryz.ntmps79
  go_wp2_with (first
    | (go_at_call 103; refine (HI.out _).mono ?_; rintro e w2 ⟨rfl, rfl⟩))
  exact bodyPost_ret (v := .tuple #[.string ⟨l.toArray⟩, .string ⟨#[]⟩, .bool false]) (by simp [results, Tryz.results79, go_sem]) rfl ⟨rfl, Below.refl _ _⟩
theorem cut_calls {l p q : List UInt8} {b : Bool} (w : World) (H : Hid (∀ w, Calls Tryz.prog 79 #[.string ⟨l.toArray⟩, .string ⟨#[32]⟩] w fun e w' => e = .returned (.tuple #[.string ⟨p.toArray⟩, .string ⟨q.toArray⟩, .bool b]) ∧ Below w.heap.size w w')) :
    Calls Tryz.prog 50 #[.string ⟨l.toArray⟩, .string ⟨#[32]⟩] w fun e w' => e = .returned (.tuple #[.string ⟨p.toArray⟩, .string ⟨q.toArray⟩, .bool b]) ∧ Below w.heap.size w w' := by
  go_enter Tryz.func50, Tryz.ntmps50
  go_wp2_with (first
    | (go_at_call 79; refine (H.out _).mono ?_; rintro e w2 ⟨rfl, hb2⟩; replace hb2 := hide hb2))
  exact bodyPost_ret (v := .tuple #[.string ⟨p.toArray⟩, .string ⟨q.toArray⟩, .bool b]) (by simp [results, Tryz.results50, go_sem]) rfl ⟨rfl, hb2.out⟩
end Go.Proofs.YtcmhaihoeecjoaaGreatDoor

end
