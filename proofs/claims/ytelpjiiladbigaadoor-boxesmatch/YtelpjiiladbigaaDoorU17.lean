/- strings.Split at a byte; cutFirst of package boxes. -/
/- fits of package boxes: all runs against a name. -/
import Derived.Test.YtelpjiiladbigaaDoorU16
import Derived.Lib.CountLaws
import Derived.Lib.Split
section
set_option linter.unusedSimpArgs false
set_option linter.unusedVariables false
namespace Go.Proofs.YtelpjiiladbigaaDoor
open Go.RowKit Go.Shelf
theorem idx_bo (s : List UInt8) (c : UInt8) : Lib.indexB ⟨s.toArray⟩ ⟨#[c]⟩ = Lib.indexByte s c := Lib.index_one s c
theorem splitB_bo (c : UInt8) : ∀ (n : Nat) (s : List UInt8), s.length ≤ n → Lib.splitB ⟨#[c]⟩ 0 (Lib.countB ⟨s.toArray⟩ ⟨#[c]⟩) ⟨s.toArray⟩ = (spc c s).map (fun x => (⟨x.toArray⟩ : ByteArray)) ∧ Lib.countB ⟨s.toArray⟩ ⟨#[c]⟩ + 1 = (spc c s).length
  | n, s, hn => by
    by_cases hc : c ∈ s
    · obtain ⟨p, r, rfl, hp⟩ := split_at_byte s hc
      have hi : Lib.indexB ⟨(p ++ c :: r).toArray⟩ ⟨#[c]⟩ = (p.length : Nat) := (idx_bo _ c).trans (index_in r hp)
      have e2 : (⟨(p ++ c :: r).toArray⟩ : ByteArray).extract (p.length + (⟨#[c]⟩ : ByteArray).size) (⟨(p ++ c :: r).toArray⟩ : ByteArray).size = ⟨r.toArray⟩ := by
        rw [show (⟨#[c]⟩ : ByteArray).size = 1 from rfl, size_lit, ext_drop]
        have : (p ++ c :: r).drop (p.length + 1) = r := by
          rw [List.drop_append, List.drop_of_length_le (by omega), show p.length + 1 - p.length = 1 from by omega]; rfl
        rw [this]
      have hcnt := Lib.countB_hit ⟨(p ++ c :: r).toArray⟩ ⟨#[c]⟩ p.length (Nat.le_refl 1) hi
      rw [e2] at hcnt
      cases n with
      | zero => simp at hn
      | succ n =>
        obtain ⟨h1, h2⟩ := splitB_bo c n r (by simp at hn; omega)
        rw [hcnt, Nat.add_comm 1, Lib.splitB_hit _ _ _ _ p.length hi, e2, h1, spc_mid r hp, Nat.add_zero, ext_take, List.take_left' rfl]
        exact ⟨rfl, by rw [h2]; rfl⟩
    · have hi : Lib.indexB ⟨s.toArray⟩ ⟨#[c]⟩ = -1 := (idx_bo _ c).trans (index_out hc)
      rw [Lib.countB_miss _ _ hi, Lib.splitB_miss _ _ _ _ hi, spc_end hc]
      exact ⟨rfl, rfl⟩
def svB (x : List UInt8) : Value := .string ⟨x.toArray⟩
theorem split_bo {B : Nat} {w : World} (hM : MX B w) (c : UInt8) (s : List UInt8) (hs : s.length ≤ 1000000) : Calls Tryd.prog 46 #[.string ⟨s.toArray⟩, .string ⟨#[c]⟩] w fun e w' =>
    e = .returned (.slice (some ⟨w.heap.size, 0, none⟩) (spc c s).length (spc c s).length) ∧ w' = w.alloc (.cells ((spc c s).map svB).toArray 9) := by
  obtain ⟨_, m, hm⟩ := hM
  have := Tryd.strings_Split ⟨s.toArray⟩ ⟨#[c]⟩ m w (by rw [size_lit]; omega) hm (Nat.le_refl 1)
  obtain ⟨h1, h2⟩ := splitB_bo c _ s (Nat.le_refl _)
  rw [h1, h2, List.map_map] at this
  exact this
theorem pt_new (w : World) (ps : List (List UInt8)) : Pt w.heap.size (w.alloc (.cells (ps.map svB).toArray 9)) (.slice (some ⟨w.heap.size, 0, none⟩) ps.length ps.length) ps := by
  have hB := Blk.new w (ps.map svB).toArray 9
  refine ⟨⟨_, _, hB⟩, 0, ps.length, rfl, Nat.le_refl _, fun i hi => ⟨?_, hB.frozen _⟩⟩
  rw [hB.cell]
  simp [List.getElem?_eq_getElem hi, svB]
theorem cutL_len : ∀ {gs : List (List UInt8)} {r b : List UInt8}, cutL gs r = some b → b.length ≤ r.length := fun h => by
  obtain ⟨a, rfl, _⟩ := cutL_yes h
  simp
theorem cutP_len {g : Glob} {p b : List UInt8} (h : cutP g p = some b) : b.length ≤ p.length := by
  cases g with
  | nil => simp [cutP] at h
  | cons x xs =>
    unfold cutP at h
    simp only at h
    split at h
    · have := cutL_len h
      rw [List.length_drop] at this
      omega
    · exact absurd h (by simp)
theorem cutF_sml {r : List Glob} {ps l : List (List UInt8)} (hs : Sml ps) (h : cutF ps r = some l) : Sml l := by
  by_cases hne : r = []
  · subst hne
    cases ps <;> simp [cutF] at h
  · obtain ⟨r, g, rfl⟩ : ∃ r' g, r = r' ++ [g] := ⟨r.dropLast, r.getLast hne, (List.dropLast_concat_getLast hne).symm⟩
    rw [cutF_form] at h
    split at h
    · rename_i hlt
      split at h
      · obtain ⟨b, hb, rfl⟩ := Option.map_eq_some_iff.1 h
        have h1 := cutP_len hb
        have h2 := hs.2 _ (List.getElem_mem hlt)
        have h3 := hs.drop (r.length + 1)
        refine ⟨?_, fun p hp => ?_⟩
        · have := hs.1
          simp only [List.length_cons, List.length_drop]
          omega
        · rcases List.mem_cons.1 hp with rfl | hp
          · omega
          · exact h3.2 p hp
      · exact absurd h (by simp)
    · exact absurd h (by simp)
theorem cutS_sml {r : List Glob} : ∀ {ps l : List (List UInt8)}, Sml ps → cutS r ps = some l → Sml l
  | [], _, _, h => by simp [cutS] at h
  | p :: ps, l, hs, h => by
    rw [cutS] at h
    split at h
    · exact absurd h (by simp)
    · split at h
      · rename_i l' hl
        injection h with h
        subst h
        exact cutF_sml hs hl
      · exact cutS_sml (hs.drop 1) h
def lenV : Value → Nat
  | .slice _ n _ => n
  | _ => 0
theorem CfOut.none' {q : Nat} {w w' : World} {e : Ending} (h : CfOut q w none e w') : e = .returned (.tuple #[.slice none 0 0, .bool false]) ∧ Below w.heap.size w w' := by
  cases h with
  | no _ he hb => exact ⟨he, hb⟩
  | yes l lv h => exact absurd h (by simp)
theorem CfOut.some' {q : Nat} {w w' : World} {e : Ending} {l : List (List UInt8)} (h : CfOut q w (some l) e w') : ∃ lv, e = .returned (.tuple #[lv, .bool true]) ∧ Pt q w' lv l ∧ Mvs (fun k => k = q) w w' := by
  cases h with
  | no h => exact absurd h (by simp)
  | yes l' lv h he hp hm =>
    injection h with h
    subst h
    exact ⟨lv, he, hp, hm⟩
set_option maxRecDepth 20000 in
set_option maxHeartbeats 1000000 in
theorem cutFirst_any {B q : Nat} {w : World} {pv rv : Value} {ps : List (List UInt8)} {r : List Glob} (hP : Pt q w pv ps) (hq : q < w.heap.size) (h : Rd B (E1 B) w rv r) (hM : MX B w) (hB : B ≤ w.heap.size) (hs : Sml ps) (hr : SmR r) (hne : r ≠ []) :
    Calls Tryd.prog 49 #[pv, rv] w fun e w' => CfOut q w (cutS r ps) e w' := by
  have HR := hide h
  obtain ⟨b, o, cap, rfl, h1, h2, h3⟩ := h
  have HM := hide hM
  have HP := hide hP
  have HS := hide hs
  have HSR := hide hr
  have hr1 := hr.1
  have hm1 : 1 ≤ r.length := by
    cases r with
    | nil => exact absurd rfl hne
    | cons => simp
  have HN := hide hne
  clear h3 hM hP hs hr hne
  obtain ⟨m, hm⟩ : ∃ m, Hid (m = r.length) := ⟨_, hide rfl⟩
  rw [← hm.out] at h1 hr1 hm1 HR
  rw [← hm.out]
  go_enter Tryd.func49, Tryd.ntmps49
  go_wp2
  go_loopw [0, 6, 7] (fun v0 _ _ wr => ∃ ps', Hid (Pt q wr v0 ps') ∧ Hid (cutS r ps' = cutS r ps) ∧ Hid (Sml ps') ∧ Hid (Below w.heap.size w wr)) (fun v0 _ _ _ => lenV v0)
  case atStart => exact ⟨ps, HP.out, rfl, HS.out, Below.refl _ _⟩
  case round =>
    clear HP HS
    obtain ⟨ps', HP, HL, HS, HB⟩ := hrel
    have hqr : q < wr.heap.size := Nat.lt_of_lt_of_le hq HB.out.size
    obtain ⟨_, o2, cap2, rfl, k1, k2⟩ := id HP.out
    have hs1 := HS.out.1
    by_cases hlt : ps'.length < m
    · have HE : Hid (cutS r ps = none) := by
        show _ = _
        rw [← HL.out]
        cases ps' with
        | nil => rfl
        | cons p ps' => rw [cutS, if_pos (by rw [← hm.out]; exact hlt)]
      clear k2 HP HS HL
      generalize ps'.length = n at *
      have hlt' : ¬ ((m : Int) ≤ n) := by omega
      go_wp2
      go_ret2
      exact .no HE.out rfl HB.out
    · obtain ⟨p, t, rfl⟩ : ∃ p t, ps' = p :: t := by
        cases ps' with
        | nil => simp at hlt; omega
        | cons p t => exact ⟨p, t, rfl⟩
      have HC := cutFront_any HP.out hqr (HR.out.keep1 (HB.out.mono hB)) (HM.out.keep (HB.out.mono hB)) (Nat.le_trans hB HB.out.size) HS.out HSR.out HN.out
      have HL2 : Hid (cutS r ps = match cutF (p :: t) r with | some l => some l | none => cutS r t) := by
        show _ = _
        rw [← HL.out, cutS, if_neg (by rw [← hm.out]; omega)]
        cases cutF (p :: t) r <;> rfl
      clear HL
      cases hc : cutF (p :: t) r with
      | some l =>
        rw [hc] at HC HL2
        replace HC := hide (HC.mono fun _ _ h => h.some')
        have HE : Hid (cutS r ps = some l) := HL2.out
        clear hc k2 HL2
        generalize (p :: t).length = n at *
        have hlt' : (m : Int) ≤ n := by omega
        go_wp2_with (go_at_call 48; refine HC.out.mono ?_; rintro e w' ⟨lv, rfl, hp', hm'⟩)
        go_ret2
        exact .yes l lv HE.out rfl hp' ((Mvs.of_below HB.out).trans hm')
      | none =>
        rw [hc] at HC HL2
        replace HC := hide (HC.mono fun _ _ h => h.none')
        have HE : Hid (cutS r t = cutS r ps) := HL2.out.symm
        have HD := hide (HP.out.drop (k := 1) (by simp))
        clear hc k2 HL2
        have hn1 : 1 ≤ (p :: t).length := by simp
        have ht : Hid ((p :: t).length = t.length + 1) := rfl
        have hsT : Hid (Sml t) := HS.out.drop 1
        by_cases hc1 : cap2 = 1
        · subst hc1
          have hn : (p :: t).length = 1 := by omega
          have HT : Hid (t = []) := by
            show _ = _
            have := ht.out
            exact List.length_eq_zero_iff.1 (by omega)
          have hm0 : m = 1 := by omega
          rw [hn] at HC HP
          rw [hn]
          clear hn
          have HP2 : ∀ W, Below wr.heap.size wr W → Pt q W (.slice (some ⟨q, o2, none⟩) 0 0) [] := fun W hW => by
            obtain ⟨⟨vs, t', hv⟩, _⟩ := HP.out
            exact ⟨⟨vs, t', hv.below hW hqr⟩, o2, 0, rfl, Nat.le_refl _, fun i hi => by simp at hi⟩
          replace HP2 := hide HP2
          subst hm0
          go_wp2_with (go_at_call 48; refine HC.out.mono ?_; rintro e w' ⟨rfl, hb'⟩)
          go_roundw
          case rel => exact ⟨[], HP2.out _ hb', by rw [← HT.out]; exact HE.out, by rw [← HT.out]; exact hsT.out, HB.out.trans (hb'.mono HB.out.size)⟩
          case measure => simp [lenV]
        · generalize (p :: t).length = n at *
          have hlt' : (m : Int) ≤ n := by omega
          go_wp2_with (go_at_call 48; refine HC.out.mono ?_; rintro e w' ⟨rfl, hb'⟩)
          go_roundw
          case rel => exact ⟨t, HD.out.keep hqr hb', HE.out, hsT.out, HB.out.trans (hb'.mono HB.out.size)⟩
          case measure => simp [lenV]; omega
end Go.Proofs.YtelpjiiladbigaaDoor

end
section
set_option linter.unusedSimpArgs false
set_option linter.unusedVariables false
namespace Go.Proofs.YtelpjiiladbigaaDoor
open Go.RowKit Go.Shelf
theorem spc_sml (c : UInt8) {s : List UInt8} (hs : s.length ≤ 100000) : Sml (spc c s) := ⟨by have := spc_len c s; omega, fun p hp => by have := spc_size s p hp; omega⟩
theorem Pt.form {q : Nat} {w : World} {v : Value} {ps : List (List UInt8)} (h : Pt q w v ps) : ∃ o cap, v = .slice (some ⟨q, o, none⟩) ps.length cap := by
  obtain ⟨_, o, cap, h, _⟩ := h
  exact ⟨o, cap, h⟩
theorem Rd.form {α : Type} {E : World → Value → α → Prop} {B : Nat} {w : World} {v : Value} {xs : List α} (h : Rd B E w v xs) : ∃ A cap, v = .slice A xs.length cap := by
  obtain ⟨g, o, cap, h, _⟩ := h
  exact ⟨_, cap, h⟩
theorem fitA_cons (r : List Glob) {rs : List (List Glob)} (hne : rs ≠ []) {ps : List (List UInt8)} : fitA (r :: rs) ps = match cutF ps r with | some l => fitM l rs | none => false := by
  cases rs with
  | nil => exact absurd rfl hne
  | cons x y =>
    unfold fitA
    simp only
    cases h : cutF ps r <;> rfl
def SmA (rs : List (List Glob)) : Prop := rs.length ≤ 1000000 ∧ ∀ r ∈ rs, SmR r ∧ r ≠ []
theorem mvs_below {q : Nat} {w x y : World} (h : Below w.heap.size w x) (hm : Mvs (fun k => k = q) x y) (hq : w.heap.size ≤ q) : Below w.heap.size w y := h.trans (hm.below (fun k hk e => by omega) h.size)
set_option maxRecDepth 20000 in
set_option maxHeartbeats 1000000 in
theorem fits_one {B : Nat} {w : World} {rv : Value} {r : List Glob} (h : Rd B (E2 B) w rv [r]) (hM : MX B w) (hB : B ≤ w.heap.size) (hS : SmA [r]) (N : List UInt8) (hN : N.length ≤ 100000) :
    Calls Tryd.prog 32 #[rv, .string ⟨N.toArray⟩] w fun e w' => e = .returned (.bool (fitA [r] (spc 47 N))) ∧ Below w.heap.size w w' := by
  obtain ⟨b, o, cap, rfl, h1, h2, h3⟩ := h
  obtain ⟨u, hu, he⟩ := h3 0 (by simp)
  rw [show [r][0]'(by simp) = r from rfl] at he
  obtain ⟨A0, cap0, rfl⟩ := Rd.form he
  have hr := hS.2 r (by simp)
  have hSp := split_bo hM 47 N (by omega)
  have hps := spc_sml 47 hN
  have hpt := pt_new w (spc 47 N)
  obtain ⟨w1, hw1⟩ : ∃ w1, Hid (w1 = w.alloc (.cells ((spc 47 N).map svB).toArray 9)) := ⟨_, hide rfl⟩
  rw [← hw1.out] at hpt
  have hb1 : Below w.heap.size w w1 := by rw [hw1.out]; exact (Below.refl _ _).alloc (Nat.le_refl _) _
  have hq1 : w.heap.size < w1.heap.size := by rw [hw1.out]; simp
  have HSp : Hid (Calls Tryd.prog 46 #[.string ⟨N.toArray⟩, .string ⟨#[47]⟩] w fun e w' => e = .returned (.slice (some ⟨w.heap.size, 0, none⟩) (spc 47 N).length (spc 47 N).length) ∧ w1 = w') := hSp.mono fun _ _ h => ⟨h.1, by rw [hw1.out, h.2]⟩
  have hr1 : 1 ≤ r.length := by
    cases r with
    | nil => exact absurd rfl hr.2
    | cons => simp
  have HC := hide (fitsEnd_any hpt hq1 (Rd.keep1 he (hb1.mono hB)) (hM.keep (hb1.mono hB)) (Nat.le_trans hB hb1.size) hps hr.1 hr1)
  have hu1 : w1.cell? ⟨b, o, none⟩ = some (.slice A0 r.length cap0) := (hb1.cell (p := ⟨b, o, none⟩) (by show b < _; omega)).trans hu
  have HE : Hid (fitA [r] (spc 47 N) = (decide ((spc 47 N).length = r.length) && endB (spc 47 N) r)) := rfl
  have HB1 := hide hb1
  clear h3 he hS hps hpt hw1 hSp hr hM hb1
  simp only [List.length_cons, List.length_nil, Nat.zero_add] at *
  generalize spc 47 N = ps at *
  generalize ps.length = m at *
  generalize r.length = n at *
  by_cases hmn : m = n
  · subst hmn
    go_enter Tryd.func32, Tryd.ntmps32
    go_wp2_with (first
      | (go_at_call 46; refine HSp.out.mono ?_; rintro e w' ⟨rfl, rfl⟩)
      | (go_at_call 47; refine HC.out.mono ?_; rintro e w' ⟨rfl, hb'⟩))
    go_ret
    exact ⟨by rw [HE.out]; simp, HB1.out.trans (hb'.mono HB1.out.size)⟩
  · have hmn' : ¬ (m : Int) = n := by omega
    go_enter Tryd.func32, Tryd.ntmps32
    go_wp2_with (first
      | (go_at_call 46; refine HSp.out.mono ?_; rintro e w' ⟨rfl, rfl⟩)
      | (go_at_call 47; refine HC.out.mono ?_; rintro e w' ⟨rfl, hb'⟩))
    go_ret
    exact ⟨by rw [HE.out]; simp [hmn], HB1.out⟩
set_option maxRecDepth 20000 in
set_option maxHeartbeats 1000000 in
theorem fits_more {B : Nat} {w : World} {rv : Value} {r0 : List Glob} {rs : List (List Glob)} (h : Rd B (E2 B) w rv (r0 :: rs)) (hM : MX B w) (hB : B ≤ w.heap.size) (hS : SmA (r0 :: rs)) (hne : rs ≠ []) (N : List UInt8) (hN : N.length ≤ 100000) :
    Calls Tryd.prog 32 #[rv, .string ⟨N.toArray⟩] w fun e w' => e = .returned (.bool (fitA (r0 :: rs) (spc 47 N))) ∧ Below w.heap.size w w' := by
  obtain ⟨b, o, cap, rfl, h1, h2, h3⟩ := h
  have H3 := hide h3
  obtain ⟨u, hu, he⟩ := h3 0 (by simp)
  rw [show (r0 :: rs)[0]'(by simp) = r0 from rfl] at he
  have hr := hS.2 r0 (by simp)
  have hS1 := hS.1
  have hSp := split_bo hM 47 N (by omega)
  have hps := spc_sml 47 hN
  have hpt := pt_new w (spc 47 N)
  obtain ⟨w1, hw1⟩ : ∃ w1, Hid (w1 = w.alloc (.cells ((spc 47 N).map svB).toArray 9)) := ⟨_, hide rfl⟩
  rw [← hw1.out] at hpt
  have hb1 : Below w.heap.size w w1 := by rw [hw1.out]; exact (Below.refl _ _).alloc (Nat.le_refl _) _
  have hq1 : w.heap.size < w1.heap.size := by rw [hw1.out]; simp
  have HSp : Hid (Calls Tryd.prog 46 #[.string ⟨N.toArray⟩, .string ⟨#[47]⟩] w fun e w' => e = .returned (.slice (some ⟨w.heap.size, 0, none⟩) (spc 47 N).length (spc 47 N).length) ∧ w1 = w') := hSp.mono fun _ _ h => ⟨h.1, by rw [hw1.out, h.2]⟩
  have HC := cutFront_any hpt hq1 (Rd.keep1 he (hb1.mono hB)) (hM.keep (hb1.mono hB)) (Nat.le_trans hB hb1.size) hps hr.1 hr.2
  have hu1 : w1.cell? ⟨b, o, none⟩ = some u := (hb1.cell (p := ⟨b, o, none⟩) (by show b < _; omega)).trans hu
  have HM := hide hM
  have HS := hide hS
  have HB1 := hide hb1
  have hk1 : 1 ≤ rs.length := by
    cases rs with
    | nil => exact absurd rfl hne
    | cons => simp
  obtain ⟨T, hT⟩ : ∃ T, Hid (T = fitA (r0 :: rs) (spc 47 N)) := ⟨_, hide rfl⟩
  have HF : Hid (T = match cutF (spc 47 N) r0 with | some l => fitM l rs | none => false) := by
    show _ = _
    rw [hT.out, fitA_cons r0 hne]
  rw [← hT.out]
  have HSm : Hid (∀ l, cutF (spc 47 N) r0 = some l → Sml l) := fun l h => cutF_sml hps h
  clear hT h3 he hS hpt hw1 hSp hr hM hb1
  simp only [List.length_cons] at *
  generalize spc 47 N = ps at *
  obtain ⟨k, hk⟩ : ∃ k, Hid (k = rs.length) := ⟨_, hide rfl⟩
  rw [← hk.out] at h1 hS1 hk1
  rw [← hk.out]
  have hk0 : ¬ ((k : Int) = 0) := by omega
  obtain ⟨q, hqe⟩ : ∃ q, Hid (q = w.heap.size) := ⟨_, hide rfl⟩
  have hread : Hid (∀ W, Below w.heap.size w W → ∀ j (hj : j < rs.length), ∃ u, W.cell? ⟨b, o + (j + 1), none⟩ = some u ∧ Rd B (E1 B) W u rs[j]) := fun W hW j hj => by
    obtain ⟨u, hu, he⟩ := H3.out (j + 1) (by simp; omega)
    exact ⟨u, (hW.cell (p := ⟨b, o + (j + 1), none⟩) (by show b < _; omega)).trans hu, Rd.keep1 he (hW.mono hB)⟩
  clear H3
  cases hc : cutF ps r0 with
  | none =>
    rw [hc] at HC HF
    replace HC := hide (HC.mono fun _ _ h => h.none')
    have HE : Hid (T = false) := HF.out
    clear hc HF
    generalize ps.length = m at *
    go_enter Tryd.func32, Tryd.ntmps32
    go_wp2_with (first
      | (go_at_call 46; refine HSp.out.mono ?_; rintro e w' ⟨rfl, rfl⟩)
      | (go_at_call 48; refine HC.out.mono ?_; rintro e w' ⟨rfl, hb'⟩))
    go_loopw [5, 7, 8] (fun _ v7 v8 wr => v7 = .bool false ∧ v8 = .int .i64 1 ∧ Hid (Below w.heap.size w wr)) (fun _ _ _ _ => 0)
    case atStart => exact ⟨rfl, rfl, HB1.out.trans (hb'.mono HB1.out.size)⟩
    case round =>
      obtain ⟨rfl, rfl, HB⟩ := hrel
      go_wp2
      go_ret
      exact ⟨by rw [HE.out]; rfl, HB.out⟩
  | some l0 =>
    rw [hc] at HC HF
    replace HC := hide (HC.mono fun _ _ h => h.some')
    have HE : Hid (fitM l0 rs = T) := HF.out.symm
    have HSm0 : Hid (Sml l0) := HSm.out _ hc
    clear hc HF HSm
    generalize ps.length = m at *
    go_enter Tryd.func32, Tryd.ntmps32
    go_wp2_with (first
      | (go_at_call 46; refine HSp.out.mono ?_; rintro e w' ⟨rfl, rfl⟩)
      | (go_at_call 48; refine HC.out.mono ?_; rintro e w' ⟨lv, rfl, hp', hm'⟩))
    go_loopw [5, 7, 8] (fun v5 v7 v8 wr => ∃ (i : Nat) (f : Bool), v8 = .int .i64 i ∧ v7 = .bool f ∧ 1 ≤ i ∧ i ≤ k ∧ Hid (Below w.heap.size w wr) ∧ Hid (w.heap.size < wr.heap.size) ∧ Hid (f = false → T = false) ∧ Hid (f = true → ∃ ps', Pt w.heap.size wr v5 ps' ∧ Sml ps' ∧ fitM ps' (rs.drop (i - 1)) = T)) (fun _ _ v8 _ => k - (intOf v8).toNat)
    case atStart => exact ⟨1, true, rfl, rfl, Nat.le_refl _, hk1, mvs_below HB1.out hm' (Nat.le_refl _), Nat.lt_of_lt_of_le hq1 hm'.size, fun h => absurd h (by simp), fun _ => ⟨l0, hp', HSm0.out, HE.out⟩⟩
    case round =>
      obtain ⟨i, f, rfl, rfl, hi1, hi2, HB, hq, HF0, HF1⟩ := hrel
      cases f with
      | false =>
        have HE : Hid (T = false) := HF0.out rfl
        clear HF0 HF1
        go_wp2
        go_ret
        exact ⟨by rw [HE.out]; rfl, HB.out⟩
      | true =>
        obtain ⟨ps', hP, hs, hf⟩ := HF1.out rfl
        clear HF0 HF1
        obtain ⟨j, rfl⟩ : ∃ j, i = j + 1 := ⟨i - 1, by omega⟩
        rw [Nat.add_sub_cancel] at hf
        have hj : j < rs.length := by rw [← hk.out]; omega
        obtain ⟨u2, hu2, he2⟩ := hread.out wr HB.out j hj
        have hrj := HS.out.2 rs[j] (by simp [List.getElem_mem hj])
        obtain ⟨o2, cap2, rfl⟩ := hP.form
        by_cases hlt : j + 1 < k
        · have hlt' : ((j + 1 : Nat) : Int) < k := by omega
          have HC2 := cutFirst_any hP hq.out he2 (HM.out.keep (HB.out.mono hB)) (Nat.le_trans hB HB.out.size) hs hrj.1 hrj.2
          have hj2 : j + 1 < rs.length := by rw [← hk.out]; omega
          have HT : Hid (T = match cutS rs[j] ps' with | some l => fitM l (rs.drop (j + 1)) | none => false) := by
            show _ = _
            rw [← hf, List.drop_eq_getElem_cons hj, List.drop_eq_getElem_cons hj2, fitM]
            cases cutS rs[j] ps' <;> rfl
          have HSm2 : Hid (∀ l, cutS rs[j] ps' = some l → Sml l) := fun l h => cutS_sml hs h
          clear hf he2 hs hP hrj
          generalize ps'.length = m2 at *
          cases hc2 : cutS rs[j] ps' with
          | none =>
            rw [hc2] at HC2 HT
            replace HC2 := hide (HC2.mono fun _ _ h => h.none')
            have HE2 : Hid (T = false) := HT.out
            clear hc2 HT HSm2 hj2 hj
            go_wp2_with (go_at_call 49; refine HC2.out.mono ?_; rintro e w' ⟨rfl, hb'⟩)
            go_roundw
            case rel => exact ⟨j + 2, false, by go_num, rfl, by omega, by omega, HB.out.trans (hb'.mono HB.out.size), Nat.lt_of_lt_of_le hq.out hb'.size, fun _ => HE2.out, fun h => absurd h (by simp)⟩
            case measure => simp [intOf]; omega
          | some l =>
            rw [hc2] at HC2 HT
            replace HC2 := hide (HC2.mono fun _ _ h => h.some')
            have HE2 : Hid (fitM l (rs.drop (j + 1)) = T) := HT.out.symm
            have HSl : Hid (Sml l) := HSm2.out _ hc2
            clear hc2 HT HSm2 hj2 hj
            go_wp2_with (go_at_call 49; refine HC2.out.mono ?_; rintro e w' ⟨lv2, rfl, hp2, hm2⟩)
            go_roundw
            case rel => exact ⟨j + 2, true, by go_num, rfl, by omega, by omega, mvs_below HB.out hm2 (Nat.le_refl _), Nat.lt_of_lt_of_le hq.out hm2.size, fun h => absurd h (by simp), fun _ => ⟨l, hp2, HSl.out, HE2.out⟩⟩
            case measure => simp [intOf]; omega
        · obtain rfl : k = j + 1 := by omega
          have HT : Hid (T = endB ps' rs[j]) := by
            show _ = _
            rw [← hf, List.drop_eq_getElem_cons hj, List.drop_of_length_le (by rw [← hk.out]; exact Nat.le_refl _)]
            rfl
          have hr1 : 1 ≤ rs[j].length := by
            cases h : rs[j] with
            | nil => exact absurd h hrj.2
            | cons => simp
          have HC2 := hide (fitsEnd_any hP hq.out he2 (HM.out.keep (HB.out.mono hB)) (Nat.le_trans hB HB.out.size) hs hrj.1 hr1)
          clear hf he2 hs hP hrj hr1
          rw [← HT.out] at HC2
          clear HT hj
          generalize ps'.length = m2 at *
          go_wp2_with (go_at_call 47; refine HC2.out.mono ?_; rintro e w' ⟨rfl, hb'⟩)
          go_ret
          exact ⟨rfl, HB.out.trans (hb'.mono HB.out.size)⟩
theorem fits_any {B : Nat} {w : World} {rv : Value} {rs : List (List Glob)} (h : Rd B (E2 B) w rv rs) (hne : rs ≠ []) (hM : MX B w) (hB : B ≤ w.heap.size) (hS : SmA rs) (N : List UInt8) (hN : N.length ≤ 100000) :
    Calls Tryd.prog 32 #[rv, .string ⟨N.toArray⟩] w fun e w' => e = .returned (.bool (fitA rs (spc 47 N))) ∧ Below w.heap.size w w' := by
  cases rs with
  | nil => exact absurd rfl hne
  | cons r rs =>
    cases rs with
    | nil => exact fits_one h hM hB hS N hN
    | cons r' rs => exact fits_more h hM hB hS (by simp) N hN
end Go.Proofs.YtelpjiiladbigaaDoor

end
