/- PathTexts. -/
import Derived.Test.YtppipfjnichikaaDoorPa11
namespace Go.Proofs.YtppipfjnichikaaDoor
open Go.RowKit Go.Shelf
theorem parse_text {l d t : List UInt8} (h : bareO l d = some t) : parseO (60 :: (t ++ [62])) = some (l, d) := by
  have hp : preV (60 :: (t ++ [62])) = (t ++ [62], true) := rfl
  have hk : (62 : UInt8) ∉ t ∧ pathO t = (l, d, true) := by
    unfold bareO at h
    split at h
    · rename_i h1
      cases h
      unfold nobB at h1
      simp at h1
      obtain ⟨rfl, rfl⟩ := h1
      exact ⟨by simp, rfl⟩
    · split at h
      · rename_i h2
        cases h
        have h3 := h2
        unfold somB at h3
        simp only [Bool.and_eq_true] at h3
        have m1 := local_mem h3.1
        have m2 := dom_mem h3.2
        refine ⟨?_, ?_⟩
        · simp only [List.mem_append, List.mem_cons, not_or]
          exact ⟨m1.1, by decide, m2.1⟩
        · unfold pathO
          rw [if_neg (by simp), cutV_in d m1.2, h2]
      · cases h
  unfold parseO takeO
  rw [hp, cutV_in [] hk.1, hk.2]
  rfl
set_option maxHeartbeats 4000000 in
theorem texts_walk (l d : List UInt8) (w : World) (a : Nat → Addr) (hE : Errs w a) : Calls Tryd.prog 4 #[.agg #[.string ⟨l.toArray⟩, .string ⟨d.toArray⟩]] w fun e w' => e = .returned (.bool true) ∧ Below w.heap.size w w' := by
  have HA := hide alive_any
  have HB := hide ((Below.refl w.heap.size w).alloc (Nat.le_refl _) (.cells #[.string ⟨l.toArray⟩, .string ⟨d.toArray⟩] 24))
  have HK := hide (Blk.new w #[.string ⟨l.toArray⟩, .string ⟨d.toArray⟩] 24)
  by_cases h : 2000 < l.length
  · have g : 2000 < (l.length : Int) := by omega
    go_enter Tryd.func4, Tryd.ntmps4
    go_wp2_with (first
      | (go_at_call 8; refine (HA.out _).mono ?_; rintro e w1 ⟨rfl, hb1⟩; have hc1 := (HK.out.below hb1 HK.out.lt).cell; replace hb1 := hide hb1))
    go_ret
    exact ⟨rfl, HB.out.trans (hb1.out.mono HB.out.size)⟩
  have g : ¬ 2000 < (l.length : Int) := by omega
  have g' : decide (2000 < (l.length : Int)) = false := decide_eq_false g
  by_cases h2 : 2000 < d.length
  · have g2 : 2000 < (d.length : Int) := by omega
    go_enter Tryd.func4, Tryd.ntmps4
    go_wp2_with (first
      | (go_at_call 8; refine (HA.out _).mono ?_; rintro e w1 ⟨rfl, hb1⟩; have hc1 := (HK.out.below hb1 HK.out.lt).cell; replace hb1 := hide hb1))
    go_ret
    exact ⟨rfl, HB.out.trans (hb1.out.mono HB.out.size)⟩
  have g2 : ¬ 2000 < (d.length : Int) := by omega
  have g2' : decide (2000 < (d.length : Int)) = false := decide_eq_false g2
  -- a world that has come behind: what stands in it
  have HW : Hid (∀ w1 w2 : World, (Below w.heap.size w w1 ∧ Blk w1 w.heap.size #[.string ⟨l.toArray⟩, .string ⟨d.toArray⟩] 24) → Below w1.heap.size w1 w2 → (Below w.heap.size w w2 ∧ Blk w2 w.heap.size #[.string ⟨l.toArray⟩, .string ⟨d.toArray⟩] 24)) := fun w1 w2 h hb => ⟨h.1.trans (hb.mono h.1.size), h.2.below hb h.2.lt⟩
  have H0 := hide (And.intro HB.out HK.out)
  have HT := hide (fun w' (hb : Below w.heap.size w w') => text_any l d w' a (by omega) (by omega) (fun _ => hE.below hb))
  have HR := hide (fun w' (hb : Below w.heap.size w w') => bare_any l d w' a (by omega) (by omega) (fun _ => hE.below hb))
  have HD := hide (rbare_any l d)
  have HN := hide (fun w' (hb : Below w.heap.size w w') => num_err 1 (by decide) w' a (hE.below hb))
  clear HB HK hE
  cases hv : bareO l d with
  | none =>
    rw [hv] at HT HR HD
    unfold textV errV at HT
    unfold bareV errV at HR
    unfold rbareV at HD
    clear hv
    go_enter Tryd.func4, Tryd.ntmps4
    go_wp2_with (first
      | (go_at_call 8; refine (HA.out _).mono ?_; rintro e w1 ⟨rfl, hb1⟩; replace H0 := hide (HW.out _ _ H0.out hb1); have hc1 := H0.out.2.cell; clear hb1)
      | (go_at_call 13; refine (HT.out _ H0.out.1).mono ?_; rintro e w2 ⟨rfl, hb2⟩; replace H0 := hide (HW.out _ _ H0.out hb2); have hc2 := H0.out.2.cell; clear hb2)
      | (go_at_call 14; refine (HR.out _ H0.out.1).mono ?_; rintro e w3 ⟨rfl, hb3⟩; replace H0 := hide (HW.out _ _ H0.out hb3); have hc3 := H0.out.2.cell; clear hb3)
      | (go_at_call 15; refine (HD.out _).mono ?_; rintro e w4 ⟨rfl, hb4⟩; replace H0 := hide (HW.out _ _ H0.out hb4); have hc4 := H0.out.2.cell; clear hb4)
      | (go_at_call 12; refine (HN.out _ H0.out.1).mono ?_; rintro e w5 ⟨rfl, hb5⟩; replace H0 := hide (HW.out _ _ H0.out hb5); clear hb5))
    go_ret
    exact ⟨by simp, H0.out.1⟩
  | some t =>
    have hpt := parse_text hv
    have htl := bare_len hv
    have HP : Hid (∀ w', Calls Tryd.prog 9 #[.string ⟨(60 :: (t ++ [62])).toArray⟩] w' fun e w'' => e = .returned (.tuple #[.agg #[.string ⟨l.toArray⟩, .string ⟨d.toArray⟩], .nilIface]) ∧ Below w'.heap.size w' w'') := fun w' => by
      have := parse_any (60 :: (t ++ [62])) w' a (by simp; omega) (fun h => by rw [hpt] at h; cases h)
      rw [hpt] at this
      exact this
    rw [hv] at HT HR HD
    unfold textV at HT
    unfold bareV at HR
    unfold rbareV at HD
    clear hv hpt HN
    have hcat := cat_lit
    go_enter Tryd.func4, Tryd.ntmps4
    go_wp2_with (first
      | (go_at_call 8; refine (HA.out _).mono ?_; rintro e w1 ⟨rfl, hb1⟩; replace H0 := hide (HW.out _ _ H0.out hb1); have hc1 := H0.out.2.cell; clear hb1)
      | (go_at_call 13; refine (HT.out _ H0.out.1).mono ?_; rintro e w2 ⟨rfl, hb2⟩; replace H0 := hide (HW.out _ _ H0.out hb2); have hc2 := H0.out.2.cell; clear hb2)
      | (go_at_call 14; refine (HR.out _ H0.out.1).mono ?_; rintro e w3 ⟨rfl, hb3⟩; replace H0 := hide (HW.out _ _ H0.out hb3); have hc3 := H0.out.2.cell; clear hb3)
      | (go_at_call 15; refine (HD.out _).mono ?_; rintro e w4 ⟨rfl, hb4⟩; replace H0 := hide (HW.out _ _ H0.out hb4); have hc4 := H0.out.2.cell; clear hb4)
      | (go_at_call 9; refine (HP.out _).mono ?_; rintro e w5 ⟨rfl, hb5⟩; replace H0 := hide (HW.out _ _ H0.out hb5); have hc5 := H0.out.2.cell; have hlt5 := H0.out.2.lt; clear hb5))
    go_ret
    exact ⟨by simp, H0.out.1.alloc H0.out.1.size _⟩
end Go.Proofs.YtppipfjnichikaaDoor
