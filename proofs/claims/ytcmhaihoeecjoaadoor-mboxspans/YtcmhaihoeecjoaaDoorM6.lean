/- MboxSpans: the walk. -/
import Derived.Test.YtcmhaihoeecjoaaDoorM5
import Derived.Test.YtcmhaihoeecjoaaDoorQ9
namespace Go.Proofs.YtcmhaihoeecjoaaDoor
open Go.RowKit Go.Shelf
set_option maxRecDepth 8000 in
set_option maxHeartbeats 1000000 in
theorem spans_walk (s : List UInt8) (h b e : Int) (w : World) (a : Nat → Addr) (hE : Errs w a) (ht : Da.Tab w) (hs : s.length ≤ maxLen) :
    Calls Tryd.prog 3 #[.string ⟨s.toArray⟩, .agg #[.int .i64 h, .int .i64 b, .int .i64 e]] w fun x w' => x = .returned (.bool true) ∧ Below w.heap.size w w' := by
  have hsz := size_lit s
  unfold maxLen at hs
  have hA : Below w.heap.size w (w.alloc (.cells #[.int .i64 h, .int .i64 b, .int .i64 e] 23)) := (Below.refl _ _).alloc (Nat.le_refl _) _
  have HT := hide (ht.below hA)
  have HE := hide (hE.below hA)
  have HA := hide hA
  have hblk := Blk.new w #[.int .i64 h, .int .i64 b, .int .i64 e] 23
  have HBK := hide hblk
  clear ht hE hA hblk
  by_cases hl : 20000 < s.length
  · have hl' : (20000 : Int) < s.length := by omega
    clear HE
    go_enter Tryd.func3, Tryd.ntmps3
    go_wp2_with (first
      | (go_at_call 6; refine (alive7 _ HT.out).mono ?_; rintro e w1 ⟨rfl, hb1⟩; replace hb1 := hide hb1))
    go_ret
    exact ⟨rfl, HA.out.trans (hb1.out.mono HA.out.size)⟩
  · have hl' : ¬ (20000 : Int) < s.length := by omega
    cases hin : inB s b e with
    | false =>
      have HN := hide hin
      have hn' := of_decide_eq_false hin
      clear hin
      have key : (b < 0) ∨ (¬ b < 0 ∧ e < b) ∨ (¬ b < 0 ∧ ¬ e < b ∧ (s.length : Int) < e) := by omega
      clear hn'
      rcases key with h1 | ⟨h1, h2⟩ | ⟨h1, h2, h3⟩
      all_goals
        go_enter Tryd.func3, Tryd.ntmps3
        go_wp2_with (first
          | (go_at_call 6; refine (alive7 _ HT.out).mono ?_; rintro x w1 ⟨rfl, hb1⟩
             have HE1 := hide (HE.out.below hb1)
             have K1 := hide (HBK.out.below hb1 (by simp))
             have k0 := K1.out.cell
             have k1 := K1.out.lt
             replace hb1 := hide hb1)
          | (go_at_call 7; refine (message_no s h b e _ a HE1.out HN.out).mono ?_; rintro x w2 ⟨rfl, hb2⟩
             have HE2 := hide (HE1.out.below hb2)
             have K2 := hide (K1.out.below hb2 k1)
             have k2 := K2.out.cell
             unfold errV
             replace hb2 := hide hb2)
          | (go_at_call 8; refine (num_err 0 (by decide) _ a HE2.out).mono ?_; rintro x w4 ⟨rfl, hb4⟩; replace hb4 := hide hb4))
        go_ret
        have b2 := (HA.out.trans (hb1.out.mono HA.out.size))
        have b3 := b2.trans (hb2.out.mono b2.size)
        exact ⟨by simp, b3.trans (hb4.out.mono b3.size)⟩
    | true =>
      obtain ⟨p1, p2, p3⟩ := of_decide_eq_true hin
      clear hin
      obtain ⟨b, rfl⟩ := Int.eq_ofNat_of_zero_le p1
      obtain ⟨e, rfl⟩ := Int.eq_ofNat_of_zero_le (show 0 ≤ e by omega)
      have h1 : b ≤ e := by omega
      have h2 : e ≤ s.length := by omega
      obtain ⟨t, hx⟩ : ∃ t, (s.drop b).take (e - b) = t := ⟨_, rfl⟩
      have htl : t.length ≤ 20000 := by rw [← hx, List.length_take, List.length_drop]; omega
      have hsl := fun w => slice_str s b e h1 h2 w
      rw [hx] at hsl
      have g0 : ¬ (b : Int) < 0 := by omega
      have g1 : ¬ (e : Int) < (b : Int) := by omega
      have g2 : ¬ (s.length : Int) < (e : Int) := by omega
      have HM := hide (fun v1 v2 w => message_in s h b e t v1 v2 w h1 h2 hx)
      have HR := hide (fun w => rdecode_any t w (by omega))
      have HD := hide (fun w hg => decode_any t w (a 1) (by omega) hg)
      unfold decDT at HR
      rw [show decD t = decV t from rfl] at HR
      unfold decT at HD
      clear p1 p2 p3 h1 h2 hx
      cases hd : decV t with
      | some m =>
        rw [hd] at HD HR
        clear hd HE
        go_enter Tryd.func3, Tryd.ntmps3
        go_wp2_with (first
          | (go_at_call 6; refine (alive7 _ HT.out).mono ?_; rintro x w1 ⟨rfl, hb1⟩
             have K1 := hide (HBK.out.below hb1 (by simp))
             have k0 := K1.out.cell
             have k1 := K1.out.lt
             replace hb1 := hide hb1)
          | (go_at_call 7; refine (HM.out _ _ _ (fun w' _ => HD.out w' (fun h => by cases h))).mono ?_; rintro x w2 ⟨rfl, hb2⟩
             have K2 := hide (K1.out.below hb2 k1)
             have k2 := K2.out.cell
             replace hb2 := hide hb2)
          | (go_at_call 9; refine (HR.out _).mono ?_; rintro x w3 ⟨rfl, hb3⟩; replace hb3 := hide hb3))
        go_ret
        have b2 := (HA.out.trans (hb1.out.mono HA.out.size))
        have b3 := b2.trans (hb2.out.mono b2.size)
        exact ⟨by simp, b3.trans (hb3.out.mono b3.size)⟩
      | none =>
        rw [hd] at HD HR
        clear hd
        go_enter Tryd.func3, Tryd.ntmps3
        go_wp2_with (first
          | (go_at_call 6; refine (alive7 _ HT.out).mono ?_; rintro x w1 ⟨rfl, hb1⟩
             have HE1 := hide (HE.out.below hb1)
             have K1 := hide (HBK.out.below hb1 (by simp))
             have k0 := K1.out.cell
             have k1 := K1.out.lt
             replace hb1 := hide hb1)
          | (go_at_call 7; refine (HM.out _ _ _ (fun w' hw' => HD.out w' (fun _ => ⟨(HE1.out.below hw').low 1 (by decide), (HE1.out.below hw').cell 1 (by decide)⟩))).mono ?_; rintro x w2 ⟨rfl, hb2⟩
             have HE2 := hide (HE1.out.below hb2)
             have K2 := hide (K1.out.below hb2 k1)
             have k2 := K2.out.cell
             replace hb2 := hide hb2)
          | (go_at_call 9; refine (HR.out _).mono ?_; rintro x w3 ⟨rfl, hb3⟩; have HE3 := hide (HE2.out.below hb3); replace hb3 := hide hb3)
          | (go_at_call 8; refine (num_err 1 (by decide) _ a HE3.out).mono ?_; rintro x w4 ⟨rfl, hb4⟩; replace hb4 := hide hb4))
        go_ret
        have b2 := (HA.out.trans (hb1.out.mono HA.out.size))
        have b3 := b2.trans (hb2.out.mono b2.size)
        have b4 := b3.trans (hb3.out.mono b3.size)
        exact ⟨by simp, b4.trans (hb4.out.mono b4.size)⟩
end Go.Proofs.YtcmhaihoeecjoaaDoor
