/- strings.Split at a byte; cutFirst of package boxes. -/
import Derived.Test.YtelpjiiladbigaaDoorBo3
import Derived.Lib.CountLaws
import Derived.Lib.Split
set_option linter.unusedSimpArgs false
set_option linter.unusedVariables false
namespace Go.Proofs.YtelpjiiladbigaaDoor
open Go.RowKit Go.Shelf
theorem idx_bo (s : List UInt8) (c : UInt8) : Lib.indexB ⟨s.toArray⟩ ⟨#[c]⟩ = Lib.indexByte s c := Lib.index_one s c
theorem splitB_bo (c : UInt8) : ∀ (n : Nat) (s : List UInt8), s.length ≤ n → Lib.splitB ⟨#[c]⟩ 0 (Lib.countB ⟨s.toArray⟩ ⟨#[c]⟩) ⟨s.toArray⟩ = (spc c s).map (fun x => (⟨x.toArray⟩ : ByteArray)) ∧ Lib.countB ⟨s.toArray⟩ ⟨#[c]⟩ + 1 = (spc c s).length
  | n, s, hn => by
    by_cases hc : c ∈ s
    · obtain ⟨p, r, rfl, hp⟩ := split_at_byte s hc
      have hi : Lib.indexB ⟨(p ++ c :: r).toArray⟩ ⟨#[c]⟩ = (p.length : Nat) := (idx_bo _ c).trans (index_in r hp)
      have e2 : (⟨(p ++ c :: r).toArray⟩ : ByteArray).extract (p.length + (⟨#[c]⟩ : ByteArray).size) (⟨(p ++ c :: r).toArray⟩ : ByteArray).size = ⟨r.toArray⟩ := by
        rw [show (⟨#[c]⟩ : ByteArray).size = 1 from rfl, size_lit, ext_drop]
        have : (p ++ c :: r).drop (p.length + 1) = r := by
          rw [List.drop_append, List.drop_of_length_le (by omega), show p.length + 1 - p.length = 1 from by omega]; rfl
        rw [this]
      have hcnt := Lib.countB_hit ⟨(p ++ c :: r).toArray⟩ ⟨#[c]⟩ p.length (Nat.le_refl 1) hi
      rw [e2] at hcnt
      cases n with
      | zero => simp at hn
      | succ n =>
        obtain ⟨h1, h2⟩ := splitB_bo c n r (by simp at hn; omega)
        rw [hcnt, Nat.add_comm 1, Lib.splitB_hit _ _ _ _ p.length hi, e2, h1, spc_mid r hp, Nat.add_zero, ext_take, List.take_left' rfl]
        exact ⟨rfl, by rw [h2]; rfl⟩
    · have hi : Lib.indexB ⟨s.toArray⟩ ⟨#[c]⟩ = -1 := (idx_bo _ c).trans (index_out hc)
      rw [Lib.countB_miss _ _ hi, Lib.splitB_miss _ _ _ _ hi, spc_end hc]
      exact ⟨rfl, rfl⟩
def svB (x : List UInt8) : Value := .string ⟨x.toArray⟩
theorem split_bo {B : Nat} {w : World} (hM : MX B w) (c : UInt8) (s : List UInt8) (hs : s.length ≤ 1000000) : Calls Tryd.prog 46 #[.string ⟨s.toArray⟩, .string ⟨#[c]⟩] w fun e w' =>
    e = .returned (.slice (some ⟨w.heap.size, 0, none⟩) (spc c s).length (spc c s).length) ∧ w' = w.alloc (.cells ((spc c s).map svB).toArray 9) := by
  obtain ⟨_, m, hm⟩ := hM
  have := Tryd.strings_Split ⟨s.toArray⟩ ⟨#[c]⟩ m w (by rw [size_lit]; omega) hm (Nat.le_refl 1)
  obtain ⟨h1, h2⟩ := splitB_bo c _ s (Nat.le_refl _)
  rw [h1, h2, List.map_map] at this
  exact this
theorem pt_new (w : World) (ps : List (List UInt8)) : Pt w.heap.size (w.alloc (.cells (ps.map svB).toArray 9)) (.slice (some ⟨w.heap.size, 0, none⟩) ps.length ps.length) ps := by
  have hB := Blk.new w (ps.map svB).toArray 9
  refine ⟨⟨_, _, hB⟩, 0, ps.length, rfl, Nat.le_refl _, fun i hi => ⟨?_, hB.frozen _⟩⟩
  rw [hB.cell]
  simp [List.getElem?_eq_getElem hi, svB]
theorem cutL_len : ∀ {gs : List (List UInt8)} {r b : List UInt8}, cutL gs r = some b → b.length ≤ r.length := fun h => by
  obtain ⟨a, rfl, _⟩ := cutL_yes h
  simp
theorem cutP_len {g : Glob} {p b : List UInt8} (h : cutP g p = some b) : b.length ≤ p.length := by
  cases g with
  | nil => simp [cutP] at h
  | cons x xs =>
    unfold cutP at h
    simp only at h
    split at h
    · have := cutL_len h
      rw [List.length_drop] at this
      omega
    · exact absurd h (by simp)
theorem cutF_sml {r : List Glob} {ps l : List (List UInt8)} (hs : Sml ps) (h : cutF ps r = some l) : Sml l := by
  by_cases hne : r = []
  · subst hne
    cases ps <;> simp [cutF] at h
  · obtain ⟨r, g, rfl⟩ : ∃ r' g, r = r' ++ [g] := ⟨r.dropLast, r.getLast hne, (List.dropLast_concat_getLast hne).symm⟩
    rw [cutF_form] at h
    split at h
    · rename_i hlt
      split at h
      · obtain ⟨b, hb, rfl⟩ := Option.map_eq_some_iff.1 h
        have h1 := cutP_len hb
        have h2 := hs.2 _ (List.getElem_mem hlt)
        have h3 := hs.drop (r.length + 1)
        refine ⟨?_, fun p hp => ?_⟩
        · have := hs.1
          simp only [List.length_cons, List.length_drop]
          omega
        · rcases List.mem_cons.1 hp with rfl | hp
          · omega
          · exact h3.2 p hp
      · exact absurd h (by simp)
    · exact absurd h (by simp)
theorem cutS_sml {r : List Glob} : ∀ {ps l : List (List UInt8)}, Sml ps → cutS r ps = some l → Sml l
  | [], _, _, h => by simp [cutS] at h
  | p :: ps, l, hs, h => by
    rw [cutS] at h
    split at h
    · exact absurd h (by simp)
    · split at h
      · rename_i l' hl
        injection h with h
        subst h
        exact cutF_sml hs hl
      · exact cutS_sml (hs.drop 1) h
def lenV : Value → Nat
  | .slice _ n _ => n
  | _ => 0
theorem CfOut.none' {q : Nat} {w w' : World} {e : Ending} (h : CfOut q w none e w') : e = .returned (.tuple #[.slice none 0 0, .bool false]) ∧ Below w.heap.size w w' := by
  cases h with
  | no _ he hb => exact ⟨he, hb⟩
  | yes l lv h => exact absurd h (by simp)
theorem CfOut.some' {q : Nat} {w w' : World} {e : Ending} {l : List (List UInt8)} (h : CfOut q w (some l) e w') : ∃ lv, e = .returned (.tuple #[lv, .bool true]) ∧ Pt q w' lv l ∧ Mvs (fun k => k = q) w w' := by
  cases h with
  | no h => exact absurd h (by simp)
  | yes l' lv h he hp hm =>
    injection h with h
    subst h
    exact ⟨lv, he, hp, hm⟩
set_option maxRecDepth 20000 in
set_option maxHeartbeats 1000000 in
theorem cutFirst_any {B q : Nat} {w : World} {pv rv : Value} {ps : List (List UInt8)} {r : List Glob} (hP : Pt q w pv ps) (hq : q < w.heap.size) (h : Rd B (E1 B) w rv r) (hM : MX B w) (hB : B ≤ w.heap.size) (hs : Sml ps) (hr : SmR r) (hne : r ≠ []) :
    Calls Tryd.prog 49 #[pv, rv] w fun e w' => CfOut q w (cutS r ps) e w' := by
  have HR := hide h
  obtain ⟨b, o, cap, rfl, h1, h2, h3⟩ := h
  have HM := hide hM
  have HP := hide hP
  have HS := hide hs
  have HSR := hide hr
  have hr1 := hr.1
  have hm1 : 1 ≤ r.length := by
    cases r with
    | nil => exact absurd rfl hne
    | cons => simp
  have HN := hide hne
  clear h3 hM hP hs hr hne
  obtain ⟨m, hm⟩ : ∃ m, Hid (m = r.length) := ⟨_, hide rfl⟩
  rw [← hm.out] at h1 hr1 hm1 HR
  rw [← hm.out]
  go_enter Tryd.func49, Tryd.ntmps49
  go_wp2
  go_loopw [0, 6, 7] (fun v0 _ _ wr => ∃ ps', Hid (Pt q wr v0 ps') ∧ Hid (cutS r ps' = cutS r ps) ∧ Hid (Sml ps') ∧ Hid (Below w.heap.size w wr)) (fun v0 _ _ _ => lenV v0)
  case atStart => exact ⟨ps, HP.out, rfl, HS.out, Below.refl _ _⟩
  case round =>
    clear HP HS
    obtain ⟨ps', HP, HL, HS, HB⟩ := hrel
    have hqr : q < wr.heap.size := Nat.lt_of_lt_of_le hq HB.out.size
    obtain ⟨_, o2, cap2, rfl, k1, k2⟩ := id HP.out
    have hs1 := HS.out.1
    by_cases hlt : ps'.length < m
    · have HE : Hid (cutS r ps = none) := by
        show _ = _
        rw [← HL.out]
        cases ps' with
        | nil => rfl
        | cons p ps' => rw [cutS, if_pos (by rw [← hm.out]; exact hlt)]
      clear k2 HP HS HL
      generalize ps'.length = n at *
      have hlt' : ¬ ((m : Int) ≤ n) := by omega
      go_wp2
      go_ret2
      exact .no HE.out rfl HB.out
    · obtain ⟨p, t, rfl⟩ : ∃ p t, ps' = p :: t := by
        cases ps' with
        | nil => simp at hlt; omega
        | cons p t => exact ⟨p, t, rfl⟩
      have HC := cutFront_any HP.out hqr (HR.out.keep1 (HB.out.mono hB)) (HM.out.keep (HB.out.mono hB)) (Nat.le_trans hB HB.out.size) HS.out HSR.out HN.out
      have HL2 : Hid (cutS r ps = match cutF (p :: t) r with | some l => some l | none => cutS r t) := by
        show _ = _
        rw [← HL.out, cutS, if_neg (by rw [← hm.out]; omega)]
        cases cutF (p :: t) r <;> rfl
      clear HL
      cases hc : cutF (p :: t) r with
      | some l =>
        rw [hc] at HC HL2
        replace HC := hide (HC.mono fun _ _ h => h.some')
        have HE : Hid (cutS r ps = some l) := HL2.out
        clear hc k2 HL2
        generalize (p :: t).length = n at *
        have hlt' : (m : Int) ≤ n := by omega
        go_wp2_with (go_at_call 48; refine HC.out.mono ?_; rintro e w' ⟨lv, rfl, hp', hm'⟩)
        go_ret2
        exact .yes l lv HE.out rfl hp' ((Mvs.of_below HB.out).trans hm')
      | none =>
        rw [hc] at HC HL2
        replace HC := hide (HC.mono fun _ _ h => h.none')
        have HE : Hid (cutS r t = cutS r ps) := HL2.out.symm
        have HD := hide (HP.out.drop (k := 1) (by simp))
        clear hc k2 HL2
        have hn1 : 1 ≤ (p :: t).length := by simp
        have ht : Hid ((p :: t).length = t.length + 1) := rfl
        have hsT : Hid (Sml t) := HS.out.drop 1
        by_cases hc1 : cap2 = 1
        · subst hc1
          have hn : (p :: t).length = 1 := by omega
          have HT : Hid (t = []) := by
            show _ = _
            have := ht.out
            exact List.length_eq_zero_iff.1 (by omega)
          have hm0 : m = 1 := by omega
          rw [hn] at HC HP
          rw [hn]
          clear hn
          have HP2 : ∀ W, Below wr.heap.size wr W → Pt q W (.slice (some ⟨q, o2, none⟩) 0 0) [] := fun W hW => by
            obtain ⟨⟨vs, t', hv⟩, _⟩ := HP.out
            exact ⟨⟨vs, t', hv.below hW hqr⟩, o2, 0, rfl, Nat.le_refl _, fun i hi => by simp at hi⟩
          replace HP2 := hide HP2
          subst hm0
          go_wp2_with (go_at_call 48; refine HC.out.mono ?_; rintro e w' ⟨rfl, hb'⟩)
          go_roundw
          case rel => exact ⟨[], HP2.out _ hb', by rw [← HT.out]; exact HE.out, by rw [← HT.out]; exact hsT.out, HB.out.trans (hb'.mono HB.out.size)⟩
          case measure => simp [lenV]
        · generalize (p :: t).length = n at *
          have hlt' : (m : Int) ≤ n := by omega
          go_wp2_with (go_at_call 48; refine HC.out.mono ?_; rintro e w' ⟨rfl, hb'⟩)
          go_roundw
          case rel => exact ⟨t, HD.out.keep hqr hb', HE.out, hsT.out, HB.out.trans (hb'.mono HB.out.size)⟩
          case measure => simp [lenV]; omega
end Go.Proofs.YtelpjiiladbigaaDoor
