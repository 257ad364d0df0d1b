/- The law CheckSpoilt. -/
import Derived.Test.YtblopcpiapenpaaDoorCSm
import Derived.Test.YtblopcpiapenpaaDoorCR
namespace Go.Proofs.YtblopcpiapenpaaDoor
open Go.RowKit
theorem at_of (n : Int) (L : Nat) (hL : L ≤ 10000) : ∃ k : Nat, wrap64 ((IntKind.u64.wrap n).tmod ((L : Int) + 8)) = k ∧ k < L + 8 := by
  have h0 : IntKind.u64.wrap n = n % 18446744073709551616 := by simp [IntKind.wrap, IntKind.signed, IntKind.bits]
  rw [h0]
  have h1 : 0 ≤ n % 18446744073709551616 := Int.emod_nonneg _ (by decide)
  rw [Int.tmod_eq_emod_of_nonneg h1]
  have h2 : 0 ≤ n % 18446744073709551616 % ((L : Int) + 8) := Int.emod_nonneg _ (by omega)
  have h3 : n % 18446744073709551616 % ((L : Int) + 8) < (L : Int) + 8 := Int.emod_lt_of_pos _ (by omega)
  generalize n % 18446744073709551616 % ((L : Int) + 8) = q at h2 h3
  refine ⟨q.toNat, ?_, by omega⟩
  unfold wrap64
  omega
set_option maxRecDepth 20000 in
set_option maxHeartbeats 4000000 in
theorem spoilt_long (bs : List UInt8) (v : Value) (n : Int) (x : UInt8) (w : World) (h : BR w v bs) (hb : ¬ bs.length ≤ 10000) :
    Calls Tryd.prog 4 #[v, .int .i64 n, .int .u8 x.toNat] w fun e w' => e = .returned (.bool true) ∧ Below w.heap.size w w' := by
  obtain ⟨A, c, rfl, hl, hm, _⟩ := BR.form h
  clear h
  have hb' : (10000 : Int) < bs.length := by omega
  go_enter Tryd.func4, Tryd.ntmps4
  go_wp2_with (go_at_call 5; refine (alive_yes _).mono ?_; rintro e w1 ⟨rfl, hw1⟩; replace hw1 := hide hw1)
  go_ret
  exact ⟨rfl, hw1.out⟩
set_option maxRecDepth 20000 in
set_option maxHeartbeats 4000000 in
theorem spoilt_short (bs : List UInt8) (v : Value) (n : Int) (x : UInt8) (w : World) (h : BR w v bs) (hb : bs.length ≤ 10000) :
    Calls Tryd.prog 4 #[v, .int .i64 n, .int .u8 x.toNat] w fun e w' => e = .returned (.bool true) ∧ Below w.heap.size w w' := by
  obtain ⟨A, c, rfl, hl, hm, _⟩ := BR.form h
  have HB : Hid (∀ (w' : World), Below w.heap.size w w' → BR w' (.slice A bs.length c) bs) := fun w' hb => h.below hb
  clear h
  have hb' : ¬ (10000 : Int) < bs.length := by omega
  go_enter Tryd.func4, Tryd.ntmps4
  go_wp2_with (go_at_call 5; refine (alive_yes _).mono ?_; rintro e w1 ⟨rfl, hw1⟩; replace hw1 := hide hw1)
  refine (record_any bs _ _ (HB.out _ hw1.out) (by omega)).mono ?_
  rintro e w2 ⟨v2, rfl, T2⟩
  have hw2 := hide (hw1.out.trans (T2.1.mono hw1.out.size))
  obtain ⟨A2, c2, rfl, hl2, hm2, hn2⟩ := T2.br.form
  have hR := hide T2.br
  rw [recB_length] at hR hl2
  obtain ⟨g, o, rfl, _, _, _⟩ := BR.at (by rw [recB_length]; exact hR.out) (List.ne_nil_of_length_pos (by rw [recB_length]; omega))
  rw [recB_length]
  clear T2 hn2
  go_wp2_with fail
  refine (take_yes (recB bs) _ _ hR.out (by rw [recB_length]; omega) bs.length (whole_rec bs (by omega))).mono ?_
  rintro e w3 ⟨v3, v4, rfl, h3, h4, hb3⟩
  rw [rec_drop8, List.take_length] at h3
  rw [List.drop_eq_nil_of_le (by rw [recB_length]; omega)] at h4
  have hw3 := hide (hw2.out.trans (hb3.mono hw2.out.size))
  replace hR := hide (hR.out.below hb3)
  have cv3 := BR.convert h3
  have cvb := BR.convert (HB.out _ hw3.out)
  obtain ⟨A3, c3, rfl, _⟩ := BR.form h3
  obtain ⟨A4, c4, rfl, _⟩ := BR.form h4
  clear h3 h4 hb3
  obtain ⟨k, hk, hk8⟩ := at_of n bs.length hb
  have hkc : (k : Int) ≤ c2 := by omega
  have hRk := hide (BR.to (bs := recB bs) (by rw [recB_length]; exact hR.out) k (by rw [recB_length]; omega))
  go_wp2_with fail
  refine (take_no ((recB bs).take k) _ _ hRk.out (whole_cut_rec bs (by omega) k hk8)).mono ?_
  rintro e w4 ⟨rfl, hb4⟩
  have hw4 := hide (hw3.out.trans (hb4.mono hw3.out.size))
  replace hR := hide (hR.out.below hb4)
  clear hb4 hRk cv3 cvb
  by_cases h8 : k < 8
  · have h8' : (k : Int) < 8 := by omega
    go_wp2
    go_ret
    exact ⟨rfl, hw4.out⟩
  · have h8' : ¬ (k : Int) < 8 := by omega
    by_cases hx : x = 0
    · subst hx
      go_wp2
      go_ret
      exact ⟨rfl, hw4.out⟩
    · have hx' : ¬ (x.toNat : Int) = 0 := fun e => hx (UInt8.toNat_inj.1 (by simpa using e))
      have hx2 : ((x.toNat : Int) == 0) = false := by simpa using hx'
      obtain ⟨i0, hi, hz0, hz1, hz2⟩ := info_parts byteInfo
      have hsrc := hide (BR.src (hR.out.below ((Below.refl _ w4).alloc (Nat.le_refl _) (.cells #[] 5))))
      rw [recB_length] at hsrc
      go_wp2_with (at_builtin; refine wpList_append_rw rfl _ _ 22 22 rfl 5 i0 (.int .u8 0) 1 1 Tryd.underlying22 hi hz0 hz1 hz2 rfl rfl (Rw.new (e := 5) [] [] (Blk.new _ _ _) rfl rfl (Nat.le_refl _) (Nat.zero_le _)) _ (bs.length + 8) ((recB bs).map bv) rfl hsrc.out (by simp only [maxLen]; omega) (by omega) ?_)
      intro v5 w5 G5 hr5 hm5 hg5
      have T5 : Bts w w5 v5 (recB bs) := Bts.first hw4.out (by rw [recB_length]; simpa using hr5) (by simpa using hm5) (by simpa using hg5)
      clear hr5 hm5 hg5 hi hz0 hz1 hz2 hsrc hR
      obtain ⟨hw5, G6, hr6, hg6⟩ := T5
      rw [recB_length] at hr6
      obtain ⟨g6, o6, c6, rfl, rfl, hc6, hgl6, hcell, hfr⟩ := hr6.blk (by omega)
      have hge := hide (hg6 g6 rfl)
      have hkl : k < (recB bs).length := by rw [recB_length]; exact hk8
      have hck : w5.cell? ⟨g6, o6 + k, none⟩ = some (.int .u8 ((recB bs)[k].toNat : Int)) := hcell k _ (by simp [List.getElem?_eq_getElem hkl, bv])
      have hfk : w5.frozen? ⟨g6, o6 + k, none⟩ = false := hfr k hk8
      have hS := hide (whole_spoilt bs (by omega) k (by omega) hk8 ((recB bs)[k] ^^^ x) (by rw [← rec_at bs k (by omega) hkl]; exact xor_ne _ _ hx))
      have hxor := xor_u8 (recB bs)[k] x
      have hP := hide (Rw.put hr6 k hk8 (bv ((recB bs)[k] ^^^ x)))
      rw [← List.map_set] at hP
      have hkI : (k : Int) < (bs.length : Int) + 8 := by omega
      have hP2 := hide (show BR (w5.setCell ⟨g6, o6 + k, none⟩ (.int .u8 (((recB bs)[k] ^^^ x).toNat : Int))) (.slice (some ⟨g6, o6, none⟩) (bs.length + 8) c6) ((recB bs).set k ((recB bs)[k] ^^^ x)) from Rw.br (G := some g6) (by rw [List.length_set, recB_length]; exact hP.out))
      have hw6 := hide (hw5.setCell (p := ⟨g6, o6 + k, none⟩) hge.out (.int .u8 (((recB bs)[k] ^^^ x).toNat : Int)))
      generalize (recB bs)[k] = y at *
      clear hcell hfr hr6 hg6 hP hw5
      go_wp2_with fail
      refine (take_no _ _ _ hP2.out hS.out).mono ?_
      rintro e w7 ⟨rfl, hb7⟩
      have hw7 := hide (hw6.out.trans (hb7.mono hw6.out.size))
      go_wp2
      go_ret
      exact ⟨rfl, hw7.out⟩
theorem spoilt_walk (bs : List UInt8) (v : Value) (n z : Int) (hz : (Lit.int .u8 z).wf = true) (w : World) (h : BR w v bs) :
    Calls Tryd.prog 4 #[v, .int .i64 n, .int .u8 z] w fun e w' => e = .returned (.bool true) ∧ Below w.heap.size w w' := by
  obtain ⟨x, hx⟩ := u8_of hz
  rw [hx]
  by_cases hb : bs.length ≤ 10000
  · exact spoilt_short bs v n x w h hb
  · exact spoilt_long bs v n x w h hb
end Go.Proofs.YtblopcpiapenpaaDoor
