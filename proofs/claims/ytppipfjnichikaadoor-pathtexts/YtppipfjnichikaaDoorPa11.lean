/- Bare and Text of package path; the document's Bare. -/
import Derived.Test.YtppipfjnichikaaDoorPa9
namespace Go.Proofs.YtppipfjnichikaaDoor
open Go.RowKit Go.Shelf
/-- A path's text without brackets. -/
def bareO (l d : List UInt8) : Option (List UInt8) := if nobB l d then some [] else if somB l d then some (l ++ 64 :: d) else none
def bareV (a : Nat → Addr) : Option (List UInt8) → Value
  | some t => .tuple #[.string ⟨t.toArray⟩, .nilIface]
  | none => .tuple #[.string ⟨#[]⟩, errV a 1]
def textV (a : Nat → Addr) : Option (List UInt8) → Value
  | some t => .tuple #[.string ⟨(60 :: (t ++ [62])).toArray⟩, .nilIface]
  | none => .tuple #[.string ⟨#[]⟩, errV a 1]
theorem bare_len {l d t : List UInt8} (h : bareO l d = some t) : t.length ≤ 165 := by
  unfold bareO at h
  split at h
  · cases h
    simp
  · split at h
    · rename_i h2
      cases h
      unfold somB at h2
      simp only [Bool.and_eq_true] at h2
      have := local_le h2.1
      have := dom_le h2.2
      simp
      omega
    · cases h
theorem nobody_from (w : World) (l d : List UInt8) (w' : World) (hb : Below w.heap.size w w') : Calls Tryd.prog 26 #[.agg #[.string ⟨l.toArray⟩, .string ⟨d.toArray⟩]] w' fun e w'' => e = .returned (.bool (nobB l d)) ∧ Below w.heap.size w w'' :=
  (nobody_any l d w').mono (by rintro e w'' ⟨rfl, h⟩; exact ⟨rfl, hb.trans (h.mono hb.size)⟩)
set_option maxHeartbeats 1000000 in
theorem bare_any (l d : List UInt8) (w : World) (a : Nat → Addr) (hl : l.length ≤ 1000000) (hd : d.length ≤ 1000000) (hE : bareO l d = none → Errs w a) :
    Calls Tryd.prog 14 #[.agg #[.string ⟨l.toArray⟩, .string ⟨d.toArray⟩]] w fun e w' => e = .returned (bareV a (bareO l d)) ∧ Below w.heap.size w w' := by
  have HN := hide (nobody_any l d)
  have HS := hide (fun w => somebody_any l d w hl hd)
  have hB := Blk.new w #[.string ⟨l.toArray⟩, .string ⟨d.toArray⟩] 24
  have hb0 := (Below.refl w.heap.size w).alloc (Nat.le_refl _) (.cells #[.string ⟨l.toArray⟩, .string ⟨d.toArray⟩] 24)
  have HB := hide (And.intro hB hb0)
  clear hB hb0
  unfold bareO at hE ⊢
  cases h1 : nobB l d with
  | true =>
    rw [h1] at HN
    clear hE h1 HS
    rw [if_pos rfl]
    go_enter Tryd.func14, Tryd.ntmps14
    go_wp2_with (first
      | (go_at_call 26; refine (HN.out _).mono ?_; rintro e w2 ⟨rfl, hb2⟩; replace hb2 := hide hb2))
    go_ret2
    exact ⟨rfl, HB.out.2.trans (hb2.out.mono HB.out.2.size)⟩
  | false =>
    rw [h1] at HN hE
    clear h1
    rw [if_neg (by simp)] at hE ⊢
    cases h2 : somB l d with
    | true =>
      rw [h2] at HS
      clear hE h2
      rw [if_pos rfl]
      have hcat := cat_lit
      go_enter Tryd.func14, Tryd.ntmps14
      go_wp2_with (first
        | (go_at_call 26; refine (HN.out _).mono ?_; rintro e w2 ⟨rfl, hb2⟩; have hB2 := HB.out.1.below hb2 HB.out.1.lt; have hc2 := hB2.cell; replace hB2 := hide hB2; replace hb2 := hide hb2)
        | (go_at_call 27; refine (HS.out _).mono ?_; rintro e w3 ⟨rfl, hb3⟩; have hc3 := (hB2.out.below hb3 hB2.out.lt).cell; replace hb3 := hide hb3))
      go_ret2
      exact ⟨by simp [bareV], (HB.out.2.trans (hb2.out.mono HB.out.2.size)).trans (hb3.out.mono (Nat.le_trans HB.out.2.size hb2.out.size))⟩
    | false =>
      rw [h2] at HS hE
      have HE := hide (hE (by simp))
      clear hE h2
      rw [if_neg (by simp)]
      have KEY : Hid (∀ w1 : World, Below w.heap.size w w1 → w1.cell? ⟨0, 0, none⟩ = some (.iface 85 (.pointer (some (a 1))))) := fun w1 hb => (HE.out.below hb).cell 1 (by decide)
      go_enter Tryd.func14, Tryd.ntmps14
      go_wp2_with (first
        | (go_at_call 26; refine (HN.out _).mono ?_; rintro e w2 ⟨rfl, hb2⟩; have hB2 := HB.out.1.below hb2 HB.out.1.lt; have hc2 := hB2.cell; replace hB2 := hide hB2; replace hb2 := hide hb2)
        | (go_at_call 27; refine (HS.out _).mono ?_; rintro e w3 ⟨rfl, hb3⟩; replace hb3 := hide hb3))
      have hbx := (HB.out.2.trans (hb2.out.mono HB.out.2.size)).trans (hb3.out.mono (Nat.le_trans HB.out.2.size hb2.out.size))
      have hge := KEY.out _ hbx
      replace hbx := hide hbx
      go_region
      go_wp2
      go_ret2
      exact ⟨rfl, hbx.out.drew⟩
set_option maxHeartbeats 1000000 in
theorem text_any (l d : List UInt8) (w : World) (a : Nat → Addr) (hl : l.length ≤ 1000000) (hd : d.length ≤ 1000000) (hE : bareO l d = none → Errs w a) :
    Calls Tryd.prog 13 #[.agg #[.string ⟨l.toArray⟩, .string ⟨d.toArray⟩]] w fun e w' => e = .returned (textV a (bareO l d)) ∧ Below w.heap.size w w' := by
  have hb0 := (Below.refl w.heap.size w).alloc (Nat.le_refl _) (.cells #[.string ⟨l.toArray⟩, .string ⟨d.toArray⟩] 24)
  have HT := hide (bare_any l d (w.alloc (.cells #[.string ⟨l.toArray⟩, .string ⟨d.toArray⟩] 24)) a hl hd (fun h => (hE h).below hb0))
  have HB := hide hb0
  clear hb0 hE
  cases h : bareO l d with
  | none =>
    rw [h] at HT
    have HT2 : Hid (Calls Tryd.prog 14 #[.agg #[.string ⟨l.toArray⟩, .string ⟨d.toArray⟩]] (w.alloc (.cells #[.string ⟨l.toArray⟩, .string ⟨d.toArray⟩] 24)) fun e w' => e = .returned (.tuple #[.string ⟨#[]⟩, .iface 85 (.pointer (some (a 1)))]) ∧ Hid (Below w.heap.size w w')) := HT.out.mono (by rintro e w' ⟨rfl, h⟩; exact ⟨rfl, HB.out.trans (h.mono HB.out.size)⟩)
    clear h HT
    go_enter Tryd.func13, Tryd.ntmps13
    go_wp2_with (first
      | (go_at_call 14; refine (HT2.out).mono ?_; rintro e w2 ⟨rfl, hb2⟩))
    go_ret2
    exact ⟨rfl, hb2.out⟩
  | some t =>
    rw [h] at HT
    have HT2 : Hid (Calls Tryd.prog 14 #[.agg #[.string ⟨l.toArray⟩, .string ⟨d.toArray⟩]] (w.alloc (.cells #[.string ⟨l.toArray⟩, .string ⟨d.toArray⟩] 24)) fun e w' => e = .returned (.tuple #[.string ⟨t.toArray⟩, .nilIface]) ∧ Hid (Below w.heap.size w w')) := HT.out.mono (by rintro e w' ⟨rfl, h⟩; exact ⟨rfl, HB.out.trans (h.mono HB.out.size)⟩)
    have htl := bare_len h
    clear h HT
    have hcat := cat_lit
    go_enter Tryd.func13, Tryd.ntmps13
    go_wp2_with (first
      | (go_at_call 14; refine (HT2.out).mono ?_; rintro e w2 ⟨rfl, hb2⟩))
    go_ret2
    exact ⟨by simp [textV], hb2.out⟩
def rbareV : Option (List UInt8) → Value
  | some t => .tuple #[.string ⟨t.toArray⟩, .bool true]
  | none => .tuple #[.string ⟨#[]⟩, .bool false]
theorem nobB_eq (l d : List UInt8) : nobB l d = (l.isEmpty && d.isEmpty) := rfl
set_option maxHeartbeats 1000000 in
theorem rbare_any (l d : List UInt8) (w : World) :
    Calls Tryd.prog 15 #[.agg #[.string ⟨l.toArray⟩, .string ⟨d.toArray⟩]] w fun e w' => e = .returned (rbareV (bareO l d)) ∧ Below w.heap.size w w' := by
  have HL := hide (rlocal_any l)
  have HD := hide (rdom_any d)
  have HB := hide ((Below.refl w.heap.size w).alloc (Nat.le_refl _) (.cells #[.string ⟨l.toArray⟩, .string ⟨d.toArray⟩] 24))
  have HV : Hid (bareO l d = if (l.isEmpty && d.isEmpty) = true then some [] else if (localB l && domB d) = true then some (l ++ 64 :: d) else none) := rfl
  have hcat := cat_lit
  cases x1 : l.isEmpty with
  | true =>
    cases x2 : d.isEmpty with
    | true =>
      rw [HV.out, x1, x2]
      clear HL HD HV
      go_enter Tryd.func15, Tryd.ntmps15
      go_wp2
      go_ret2
      exact ⟨rfl, HB.out⟩
    | false =>
      have hl : l = [] := by simpa using x1
      have hn : Hid (bareO l d = none) := by
        show _ = _
        rw [HV.out, x1, x2, hl, localB_nil]
        rfl
      have HLf : Hid (∀ w, Calls Tryd.prog 17 #[.string ⟨l.toArray⟩] w fun e w' => e = .returned (.bool false) ∧ w' = w) := by
        intro w
        have := HL.out w
        rw [hl, localB_nil] at this
        rw [hl]
        exact this
      rw [hn.out]
      clear HL HD HV hl hn
      go_enter Tryd.func15, Tryd.ntmps15
      go_wp2_with (first
        | (go_at_call 17; refine (HLf.out _).mono ?_; rintro e w2 ⟨rfl, rfl⟩))
      go_ret2
      exact ⟨rfl, HB.out⟩
  | false =>
    rw [x1] at HV
    cases x3 : localB l with
    | false =>
      rw [x3] at HL
      have hn : bareO l d = none := by rw [HV.out, x3]; rfl
      rw [hn]
      clear HD HV hn x3
      go_enter Tryd.func15, Tryd.ntmps15
      go_wp2_with (first
        | (go_at_call 17; refine (HL.out _).mono ?_; rintro e w2 ⟨rfl, rfl⟩))
      go_ret2
      exact ⟨rfl, HB.out⟩
    | true =>
      rw [x3] at HL
      cases x4 : domB d with
      | false =>
        rw [x4] at HD
        have hn : bareO l d = none := by rw [HV.out, x3, x4]; rfl
        rw [hn]
        clear HV hn x3 x4
        go_enter Tryd.func15, Tryd.ntmps15
        go_wp2_with (first
          | (go_at_call 17; refine (HL.out _).mono ?_; rintro e w2 ⟨rfl, rfl⟩)
          | (go_at_call 19; refine (HD.out _).mono ?_; rintro e w2 ⟨rfl, rfl⟩))
        go_ret2
        exact ⟨rfl, HB.out⟩
      | true =>
        rw [x4] at HD
        have hn : bareO l d = some (l ++ 64 :: d) := by rw [HV.out, x3, x4]; rfl
        rw [hn]
        have hll := local_le x3
        have hdl := dom_le x4
        clear HV hn x3 x4
        go_enter Tryd.func15, Tryd.ntmps15
        go_wp2_with (first
          | (go_at_call 17; refine (HL.out _).mono ?_; rintro e w2 ⟨rfl, rfl⟩)
          | (go_at_call 19; refine (HD.out _).mono ?_; rintro e w2 ⟨rfl, rfl⟩))
        go_ret2
        exact ⟨by simp [rbareV], HB.out⟩
end Go.Proofs.YtppipfjnichikaaDoor
