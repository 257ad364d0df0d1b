/- EnvelopeSubjects. -/
import Derived.Test.YtkppeejbmalefaaDoorEn12
import Derived.Test.YtkppeejbmalefaaDoorHMath2
set_option linter.unusedSimpArgs false
set_option linter.unusedVariables false
namespace Go.Proofs.YtkppeejbmalefaaDoor
open Go.RowKit Go.Shelf
/-- The message with a subject. -/
def subL (s : List UInt8) : List UInt8 := nSubj ++ 58 :: 32 :: s ++ [13] ++ [10]
def bodyW : List UInt8 := [98, 111, 100, 121]
def subM (s : List UInt8) : List UInt8 := [83, 117, 98, 106, 101, 99, 116, 58, 32] ++ s ++ [13, 10, 13, 10, 98, 111, 100, 121]
theorem subM_eq (s : List UInt8) : subM s = ([subL s] : List (List UInt8)).flatten ++ (crL ++ bodyW) := by
  simp [subM, subL, crL, bodyW, nSubj]
theorem cr13E (p : List UInt8) : cr (p ++ [13]) = p := by
  unfold cr
  simp
theorem subL_txt (s : List UInt8) : txt (subL s) = nSubj ++ 58 :: 32 :: s := by
  unfold subL
  rw [txt_term, cr13E]
theorem subL_ok {s : List UInt8} (h10 : (10 : UInt8) ∉ s) : Term (subL s) ∧ txt (subL s) ≠ [] ∧ blB (subL s) = false := by
  refine ⟨⟨nSubj ++ 58 :: 32 :: s ++ [13], rfl, ?_⟩, ?_, rfl⟩
  · simp [nSubj, h10]
  · rw [subL_txt]
    simp
theorem subL_fd {s : List UInt8} (ht : tig s) : fdOf (subL s) [] 0 = some ⟨nSubj, s, 0, 0 + (subL s).length⟩ := by
  unfold fdOf
  rw [subL_txt, nameO_of (p := nSubj) (q := 32 :: s) (by decide) (by decide) (by decide)]
  have e : (nSubj ++ 58 :: (32 :: s)).drop (nSubj.length + 1) = 32 :: s := rfl
  simp only [Option.map_some, e, List.map_nil, List.flatten_nil, List.append_nil, trim_l ht, List.length_nil, Nat.add_zero]
theorem sub_fds {s : List UInt8} (h10 : (10 : UInt8) ∉ s) (ht : tig s) : (hd (splitS (subM s)) 0).1 = [⟨nSubj, s, 0, 0 + (subL s).length⟩] := by
  rw [subM_eq, hd_put [subL s] crL bodyW (fun x hx => by rw [List.mem_singleton.1 hx]; exact subL_ok h10) cr_term (by decide)]
  show flds [subL s] 0 = _
  unfold flds
  rw [subL_fd ht]
  rfl
/-- What is asked. -/
def subE (s : List UInt8) : List UInt8 := [40, 78, 73, 76, 32] ++ quoI s ++ [32, 78, 73, 76, 32, 78, 73, 76, 32, 78, 73, 76, 32, 78, 73, 76, 32, 78, 73, 76, 32, 78, 73, 76, 32, 78, 73, 76, 32, 78, 73, 76, 41]
theorem sub_env {s : List UInt8} (h10 : (10 : UInt8) ∉ s) (ht : tig s) : envT (subM s) = subE s := by
  have h1 : (fdsOf (subM s)).map Fd.fi = [⟨nSubj, s, ((0 : Nat) : Int), ((0 + (subL s).length : Nat) : Int)⟩] := by
    unfold fdsOf
    rw [sub_fds h10 ht]
    rfl
  unfold envT
  rw [h1]
  generalize (((0 + (subL s).length : Nat) : Int)) = z
  generalize ((0 : Nat) : Int) = y
  have e : envW [⟨nSubj, s, y, z⟩] = [tNil, quoI s, tNil, tNil, tNil, tNil, tNil, tNil, tNil, tNil] := by
    have v1 : valE nSubj [⟨nSubj, s, y, z⟩] = quoI s := rfl
    have v0 : ∀ n, sameT nSubj n = false → valE n [⟨nSubj, s, y, z⟩] = tNil ∧ fstE n [⟨nSubj, s, y, z⟩] = [] := fun n hn => by
      have : valsOf n [⟨nSubj, s, y, z⟩] = [] := by
        unfold valsOf
        rw [List.filter_cons, if_neg (by simp [hn])]
        rfl
      unfold valE fstE
      rw [this]
      exact ⟨rfl, rfl⟩
    have a0 : ∀ ns : List (List UInt8), (∀ n ∈ ns, sameT nSubj n = false) → adrN ns [⟨nSubj, s, y, z⟩] = tNil := fun ns => by
      induction ns with
      | nil => intro _; rfl
      | cons n r ih =>
        intro h
        have h2 := (v0 n (h n (by simp))).2
        unfold adrN
        rw [h2, adsV_nil, if_pos rfl]
        exact ih (fun x hx => h x (by simp [hx]))
    unfold envW
    rw [v1, (v0 nDate (by decide)).1, (v0 nIn (by decide)).1, (v0 nMid (by decide)).1, a0 [nFrom] (by decide), a0 [nSend, nFrom] (by decide), a0 [nRepl, nFrom] (by decide), a0 [nTo] (by decide), a0 [nCc] (by decide), a0 [nBcc] (by decide)]
  rw [e]
  unfold brk subE
  simp [Lib.join_cons, Lib.joinTail, tNil]
theorem sub_few {s : List UInt8} (h10 : (10 : UInt8) ∉ s) (ht : tig s) : ¬ 200 < (hd (splitS (subM s)) 0).1.length := by
  rw [sub_fds h10 ht]
  simp
theorem tig_of {s q r : List UInt8} {a z : UInt8} (h1 : s = a :: r) (h2 : s = q ++ [z]) (ha : a ≠ 32) (ha' : a ≠ 9) (hz : z ≠ 32) (hz' : z ≠ 9) : tig s :=
  ⟨⟨a, r, h1, by simp [bk, ha, ha']⟩, q, z, h2, by simp [bk, hz, hz']⟩
set_option maxRecDepth 20000 in
set_option maxHeartbeats 4000000 in
theorem envelopeSubjects_walk (s : List UInt8) (w : World) (ht : TabM w) (ea : Addr) (hE : EF w ea) : Calls Tryd.prog 6 #[.string ⟨s.toArray⟩] w fun e w' => e = .returned (.bool true) ∧ Below w.heap.size w w' := by
  have HA := hide (alive11 w ht)
  have HTb := hide ht
  have hsz := size_lit s
  clear ht hE
  by_cases hl : s.length ≤ 2000
  · have g1 : ¬ ((s.length : Int) > 2000) := by omega
    rcases List.eq_nil_or_concat s with hnil | ⟨q, z, hq⟩
    · subst hnil
      go_enter Tryd.func6, Tryd.ntmps6
      go_wp2_with fail
      refine HA.out.mono ?_
      rintro e w1 ⟨rfl, hb1⟩
      replace hb1 := hide hb1
      go_wp2
      go_ret
      exact ⟨rfl, hb1.out⟩
    · have hqe : s = q ++ [z] := by rw [hq]; simp
      have hql : s.length = q.length + 1 := by rw [hqe]; simp
      have hsub : (s.length : Int) - 1 = (q.length : Int) := by omega
      have hzz : ∀ h : q.length < (⟨s.toArray⟩ : ByteArray).size, (⟨s.toArray⟩ : ByteArray)[q.length]'h = z := by
        intro h
        subst hqe
        show (q ++ [z])[q.length] = z
        simp
      have g2 : ¬ ((s.length : Int) < 1) := by omega
      have h0l : 0 < s.length := by omega
      obtain ⟨a, hac, haa⟩ := at_str s 0 h0l
      obtain ⟨r, har⟩ : ∃ r, s = a :: r := ⟨s.drop 1, by rw [← hac, ← drop_at h0l, List.drop_zero]⟩
      have key : a ≠ 32 → a ≠ 9 → z ≠ 32 → z ≠ 9 → Hid (tig s) := fun k1 k2 k3 k4 => tig_of har hqe k1 k2 k3 k4
      have HQ := hide hqe
      have hqs : q.length < s.length := by omega
      clear hq hqe har hql hac
      by_cases a32 : a = 32
      · subst a32
        clear key
        go_enter Tryd.func6, Tryd.ntmps6
        go_wp2_with fail
        refine HA.out.mono ?_
        rintro e w1 ⟨rfl, hb1⟩
        replace hb1 := hide hb1
        go_wp2
        go_ret
        exact ⟨rfl, hb1.out⟩
      · have a32' := u8_bne (k := 32) rfl a32
        by_cases a9 : a = 9
        · subst a9
          clear key
          go_enter Tryd.func6, Tryd.ntmps6
          go_wp2_with fail
          refine HA.out.mono ?_
          rintro e w1 ⟨rfl, hb1⟩
          replace hb1 := hide hb1
          go_wp2
          go_ret
          exact ⟨rfl, hb1.out⟩
        · have a9' := u8_bne (k := 9) rfl a9
          by_cases z32 : z = 32
          · subst z32
            clear key
            go_enter Tryd.func6, Tryd.ntmps6
            go_wp2_with fail
            refine HA.out.mono ?_
            rintro e w1 ⟨rfl, hb1⟩
            replace hb1 := hide hb1
            go_wp2
            go_ret
            exact ⟨rfl, hb1.out⟩
          · have z32' := u8_bne (k := 32) rfl z32
            by_cases z9 : z = 9
            · subst z9
              clear key
              go_enter Tryd.func6, Tryd.ntmps6
              go_wp2_with fail
              refine HA.out.mono ?_
              rintro e w1 ⟨rfl, hb1⟩
              replace hb1 := hide hb1
              go_wp2
              go_ret
              exact ⟨rfl, hb1.out⟩
            · have z9' := u8_bne (k := 9) rfl z9
              have HTg := key a32 a9 z32 z9
              clear key
              go_enter Tryd.func6, Tryd.ntmps6
              go_wp2_with fail
              refine HA.out.mono ?_
              rintro e w1 ⟨rfl, hb1⟩
              have HB1 := hide hb1
              clear hb1
              go_wp2
              go_loop [42] (fun v42 => ∃ p : Nat, v42 = .int .i64 p ∧ p ≤ s.length ∧ Hid ((10 : UInt8) ∉ s.take p)) (fun v42 => s.length - (intOf v42).toNat)
              case atStart => exact ⟨0, rfl, Nat.zero_le _, by show _ ∉ _; simp⟩
              case round =>
                obtain ⟨p, rfl, hp, HP⟩ := hrel
                clear haa hzz
                by_cases hpl : p < s.length
                · have hpl' : (p : Int) < s.length := by omega
                  obtain ⟨d, hd, hat⟩ := at_str s p hpl
                  by_cases d10 : d = 10
                  · subst d10
                    clear HP
                    go_wp2
                    go_ret
                    exact ⟨rfl, HB1.out⟩
                  · have d10' := u8_bne (k := 10) rfl d10
                    by_cases d13 : d = 13
                    · subst d13
                      clear HP
                      go_wp2
                      go_ret
                      exact ⟨rfl, HB1.out⟩
                    · have d13' := u8_bne (k := 13) rfl d13
                      have HPn : Hid ((10 : UInt8) ∉ s.take (p + 1)) := by
                        show _ ∉ _
                        rw [List.take_succ_eq_append_getElem hpl, hd]
                        intro hm
                        rcases List.mem_append.1 hm with hm | hm
                        · exact HP.out hm
                        · exact d10 (List.mem_singleton.1 hm).symm
                      clear HP
                      go_wp2
                      go_round
                      case rel => exact ⟨p + 1, by go_num, hpl, HPn⟩
                      case measure => simp [intOf]; omega
                · have hpl' : ¬ ((p : Int) < s.length) := by omega
                  have h10 : (10 : UInt8) ∉ s := by
                    have := HP.out
                    rwa [List.take_of_length_le (by omega)] at this
                  have HTx : Hid (Calls Tryd.prog 13 #[.string ⟨(subM s).toArray⟩] w1 fun e w' => e = .returned (.string ⟨(subE s).toArray⟩) ∧ Below w1.heap.size w1 w') := by
                    have := etext_any (subM s) w1 ⟨0, 0, none⟩ (fun h => absurd h (sub_few h10 HTg.out)) (HTb.out.below HB1.out) (by simp [subM]; omega)
                    rw [sub_env h10 HTg.out] at this
                    exact this
                  have HQt := hide (fun w => rquote_any s w (by omega))
                  have hql := quoE_len s (by omega)
                  have c1 : (⟨#[83, 117, 98, 106, 101, 99, 116, 58, 32]⟩ : ByteArray) ++ ⟨s.toArray⟩ = ⟨([83, 117, 98, 106, 101, 99, 116, 58, 32] ++ s).toArray⟩ := cat_lit [83, 117, 98, 106, 101, 99, 116, 58, 32] s
                  have c2 : (⟨([83, 117, 98, 106, 101, 99, 116, 58, 32] ++ s).toArray⟩ : ByteArray) ++ ⟨#[13, 10, 13, 10, 98, 111, 100, 121]⟩ = ⟨(subM s).toArray⟩ := cat_lit _ [13, 10, 13, 10, 98, 111, 100, 121]
                  have c3 : (⟨#[40, 78, 73, 76, 32]⟩ : ByteArray) ++ ⟨(quoI s).toArray⟩ = ⟨([40, 78, 73, 76, 32] ++ quoI s).toArray⟩ := cat_lit [40, 78, 73, 76, 32] _
                  have c4 : (⟨([40, 78, 73, 76, 32] ++ quoI s).toArray⟩ : ByteArray) ++ ⟨#[32, 78, 73, 76, 32, 78, 73, 76, 32, 78, 73, 76, 32, 78, 73, 76, 32, 78, 73, 76, 32, 78, 73, 76, 32, 78, 73, 76, 32, 78, 73, 76, 41]⟩ = ⟨(subE s).toArray⟩ := cat_lit _ [32, 78, 73, 76, 32, 78, 73, 76, 32, 78, 73, 76, 32, 78, 73, 76, 32, 78, 73, 76, 32, 78, 73, 76, 32, 78, 73, 76, 32, 78, 73, 76, 41]
                  obtain ⟨m1, e1⟩ : ∃ m, [83, 117, 98, 106, 101, 99, 116, 58, 32] ++ s = m := ⟨_, rfl⟩
                  obtain ⟨m2, e2⟩ : ∃ m, [40, 78, 73, 76, 32] ++ quoI s = m := ⟨_, rfl⟩
                  have l1 : m1.length ≤ 3000 := by rw [← e1]; simp; omega
                  have l2 : m2.length ≤ 10000 := by rw [← e2]; simp; omega
                  rw [e1] at c1 c2
                  rw [e2] at c3 c4
                  have sz1 := size_lit m1
                  have sz2 := size_lit m2
                  have sz3 := size_lit (quoI s)
                  generalize subE s = SE at *
                  generalize subM s = SM at *
                  generalize quoI s = QS at *
                  clear e1 e2 HP h10
                  go_wp2_with fail
                  refine HTx.out.mono ?_
                  rintro e w2 ⟨rfl, hb2⟩
                  have HB2 := hide (HB1.out.trans (hb2.mono HB1.out.size))
                  clear hb2
                  go_wp2_with fail
                  refine (HQt.out _).mono ?_
                  rintro e w3 ⟨rfl, hb3⟩
                  have HB3 := hide (HB2.out.trans (hb3.mono HB2.out.size))
                  clear hb3
                  go_wp2
                  go_ret
                  exact ⟨rfl, HB3.out⟩
  · have g1 : ((s.length : Int) > 2000) := by omega
    go_enter Tryd.func6, Tryd.ntmps6
    go_wp2_with fail
    refine HA.out.mono ?_
    rintro e w1 ⟨rfl, hb1⟩
    replace hb1 := hide hb1
    go_wp2
    go_ret
    exact ⟨rfl, hb1.out⟩
end Go.Proofs.YtkppeejbmalefaaDoor
