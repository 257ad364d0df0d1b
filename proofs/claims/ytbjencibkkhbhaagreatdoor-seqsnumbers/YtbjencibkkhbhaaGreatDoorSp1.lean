/- Number of package seqs; the ends of a range. -/
import Derived.Test.YtbjencibkkhbhaaGreatDoorMgSpMath
import Derived.Test.YtbjencibkkhbhaaGreatDoorHd2
set_option linter.unusedVariables false
set_option linter.unusedSimpArgs false
namespace Go.Proofs.YtbjencibkkhbhaaGreatDoor
open Go.RowKit Go.Shelf
/-- The library's two errors of numbers lie in this world. -/
def SyE (w : World) : Prop := (∃ ev, w.cell? ⟨14, 0, none⟩ = some ev ∧ (ev = .nilIface ∨ ∃ te pe, ev = .iface te pe)) ∧ ∃ ev, w.cell? ⟨15, 0, none⟩ = some ev ∧ (ev = .nilIface ∨ ∃ te pe, ev = .iface te pe)
theorem SyE.below {w w' : World} (h : SyE w) (hb : Below w.heap.size w w') : SyE w' := by
  obtain ⟨⟨e1, h1, k1⟩, e2, h2, k2⟩ := h
  exact ⟨⟨e1, (hb.cell (p := ⟨14, 0, none⟩) (Lib.lt_of_cell h1)).trans h1, k1⟩, e2, (hb.cell (p := ⟨15, 0, none⟩) (Lib.lt_of_cell h2)).trans h2, k2⟩
theorem atoi_yes (d : List UInt8) (v : Int) (h : Lib.atoiAll d = .ok v) (w : World) (hd : d.length ≤ 1000000) :
    Calls Tryz.prog 45 #[.string ⟨d.toArray⟩] w fun e w' => e = .returned (.tuple #[.int .i64 v, .nilIface]) ∧ Below w.heap.size w w' := by
  refine (Tryz.strconv_Atoi_ok ⟨d.toArray⟩ (by have := size_lit d; omega) v h w).mono ?_
  rintro e w' ⟨rfl, hw⟩
  refine ⟨rfl, ?_⟩
  rcases hw with rfl | ⟨t, rfl⟩
  · exact Below.refl _ _
  · exact Lib.bytesWorld_below _ _ _
theorem atoi_no (d : List UInt8) (h : ∀ v, Lib.atoiAll d ≠ .ok v) (w : World) (hd : d.length ≤ 1000000) (hE : SyE w) :
    Calls Tryz.prog 45 #[.string ⟨d.toArray⟩] w fun e w' => ∃ n N, e = .returned (.tuple #[.int .i64 n, .iface 116 (.pointer (some ⟨N, 0, none⟩))]) ∧ Below w.heap.size w w' := by
  have hsz := size_lit d
  obtain ⟨⟨e1, h1, k1⟩, e2, h2, k2⟩ := hE
  cases ha : Lib.atoiAll d with
  | ok v => exact absurd ha (h v)
  | «syntax» =>
    refine (Tryz.strconv_Atoi_syntax ⟨d.toArray⟩ (by omega) ha e1 w h1 k1).mono ?_
    rintro e w' ⟨N, rfl, _, _, hb⟩
    exact ⟨_, N, rfl, hb⟩
  | range =>
    refine (Tryz.strconv_Atoi_range ⟨d.toArray⟩ (by omega) ha e2 w h2 k2).mono ?_
    rintro e w' ⟨N, rfl, _, _, hb⟩
    exact ⟨_, N, rfl, hb⟩
theorem se_at (l : List UInt8) (i : Nat) (hi : i < l.length) : ∃ c, l[i] = c ∧ ∀ h : i < (⟨l.toArray⟩ : ByteArray).size, (⟨l.toArray⟩ : ByteArray)[i]'h = c := ⟨_, rfl, fun _ => rfl⟩
/-- The package-level variable ErrForm holds an error. -/
structure EFq (w : World) (a : Addr) : Prop where
  cell : w.cell? ⟨0, 0, none⟩ = some (.iface 151 (.pointer (some a)))
  low : 0 < w.heap.size
theorem EFq.below {w w' : World} {a : Addr} (h : EFq w a) (hb : Below w.heap.size w w') : EFq w' a := ⟨(hb.cell (p := ⟨0, 0, none⟩) h.low).trans h.cell, Nat.lt_of_lt_of_le h.low hb.size⟩
/-- A number, or ErrForm. -/
def nmV (o : Option Nat) (a : Addr) : Ending := match o with
  | some n => .returned (.tuple #[.int .i64 ((n : Nat) : Int), .nilIface])
  | none => .returned (.tuple #[.int .i64 0, .iface 151 (.pointer (some a))])
set_option maxRecDepth 20000 in
set_option maxHeartbeats 2000000 in
theorem pnumber_any (s : List UInt8) (w : World) (a : Addr) (hE : EFq w a) (hS : SyE w) (hs : s.length ≤ 1000000) :
    Calls Tryz.prog 23 #[.string ⟨s.toArray⟩] w fun e w' => e = nmV (if sqN s = 0 then none else some (sqN s)) a ∧ Below w.heap.size w w' := by
  have KEY : Hid (∀ w1 : World, Below w.heap.size w w1 → w1.cell? ⟨0, 0, none⟩ = some (.iface 151 (.pointer (some a)))) := fun w1 hb => (hE.below hb).cell
  clear hE
  by_cases h0 : sqN s = 0
  · rw [if_pos h0]
    show Calls _ _ _ _ fun e w' => e = .returned (.tuple #[.int .i64 0, .iface 151 (.pointer (some a))]) ∧ _
    by_cases hok : ∃ v, Lib.atoiAll s = .ok v
    · obtain ⟨v, hv⟩ := hok
      have HA := hide (fun W => atoi_yes s v hv W hs)
      cases s with
      | nil => exact absurd hv sqnum_nil
      | cons c r =>
        have hno := sqnum_no h0 hv
        obtain ⟨c2, hc2, hat⟩ := se_at (c :: r) 0 (by simp)
        obtain rfl : c = c2 := hc2
        have hsz := size_lit (c :: r)
        have hln : 1 ≤ (c :: r).length := by simp
        clear h0 hv hS hs
        generalize c :: r = s at *
        by_cases hc : c.toNat < 49
        · have hc' : (c.toNat : Int) < 49 := by omega
          clear hno
          go_enter Tryz.func23, Tryz.ntmps23
          go_wp2_with (first
            | (go_at_call 45; refine (HA.out _).mono ?_; rintro e w1 ⟨rfl, hb1⟩; replace hb1 := hide hb1))
          have hge := KEY.out _ hb1.out
          go_region
          all_goals
            go_wp2
            exact bodyPost_ret (v := .tuple #[.int .i64 0, .iface 151 (.pointer (some a))]) (by simp [results, Tryz.results23, go_sem]) rfl ⟨rfl, hb1.out.drew⟩
        · have hc' : ¬ (c.toNat : Int) < 49 := by omega
          have hv' : 2147483648 < v := hno.resolve_left hc
          clear hno hc
          go_enter Tryz.func23, Tryz.ntmps23
          go_wp2_with (first
            | (go_at_call 45; refine (HA.out _).mono ?_; rintro e w1 ⟨rfl, hb1⟩; replace hb1 := hide hb1))
          have hge := KEY.out _ hb1.out
          go_region
          all_goals
            go_wp2
            exact bodyPost_ret (v := .tuple #[.int .i64 0, .iface 151 (.pointer (some a))]) (by simp [results, Tryz.results23, go_sem]) rfl ⟨rfl, hb1.out.drew⟩
    · have HA := hide (atoi_no s (fun v hv => hok ⟨v, hv⟩) w hs hS)
      clear h0 hok hs hS
      go_enter Tryz.func23, Tryz.ntmps23
      go_wp2_with (first
        | (go_at_call 45; refine (HA.out).mono ?_; rintro e w1 ⟨n, N, rfl, hb1⟩; replace hb1 := hide hb1))
      have hge := KEY.out _ hb1.out
      go_region
      all_goals
        go_wp2
        exact bodyPost_ret (v := .tuple #[.int .i64 0, .iface 151 (.pointer (some a))]) (by simp [results, Tryz.results23, go_sem]) rfl ⟨rfl, hb1.out.drew⟩
  · rw [if_neg h0]
    show Calls _ _ _ _ fun e w' => e = .returned (.tuple #[.int .i64 ((sqN s : Nat) : Int), .nilIface]) ∧ _
    obtain ⟨hv, c, r, hs', hc⟩ := sqnum_yes h0
    have hle := sqN_le s
    have HA := hide (fun W => atoi_yes s _ hv W hs)
    generalize sqN s = n at *
    obtain ⟨c2, hc2, hat⟩ := se_at s 0 (by rw [hs']; simp)
    have hcc : c = c2 := by
      subst hs'
      exact hc2
    subst hcc
    have hsz := size_lit s
    have hln : 1 ≤ s.length := by rw [hs']; simp
    have hc' : ¬ (c.toNat : Int) < 49 := by omega
    have hn' : ¬ (2147483648 : Int) < n := by omega
    clear h0 hv hS hs' hc2 hc hs hle
    go_enter Tryz.func23, Tryz.ntmps23
    go_wp2_with (first
      | (go_at_call 45; refine (HA.out _).mono ?_; rintro e w1 ⟨rfl, hb1⟩; replace hb1 := hide hb1))
    exact bodyPost_ret (v := .tuple #[.int .i64 n, .nilIface]) (by simp [results, Tryz.results23, go_sem]) rfl ⟨rfl, hb1.out⟩
set_option maxRecDepth 20000 in
set_option maxHeartbeats 1000000 in
theorem pend_any (s : List UInt8) (w : World) (a : Addr) (hE : EFq w a) (hS : SyE w) (hs : s.length ≤ 1000000) :
    Calls Tryz.prog 48 #[.string ⟨s.toArray⟩] w fun e w' => e = nmV (sqE s) a ∧ Below w.heap.size w w' := by
  have HN := hide (pnumber_any s w a hE hS hs)
  clear hE hS hs
  unfold sqE
  by_cases h : s = [42]
  · rw [if_pos h]
    clear HN
    subst h
    show Calls _ _ _ _ fun e w' => e = .returned (.tuple #[.int .i64 0, .nilIface]) ∧ _
    go_enter Tryz.func48, Tryz.ntmps48
    go_wp2
    exact bodyPost_ret (v := .tuple #[.int .i64 0, .nilIface]) (by simp [results, Tryz.results48, go_sem]) rfl ⟨rfl, Below.refl _ _⟩
  · rw [if_neg h]
    have hb : (s == [42]) = false := beq_eq_false_iff_ne.2 h
    generalize (if sqN s = 0 then none else some (sqN s)) = o at *
    clear h
    cases o with
    | none =>
      change Hid (Calls _ _ _ _ fun e w' => e = .returned (.tuple #[.int .i64 0, .iface 151 (.pointer (some a))]) ∧ _) at HN
      show Calls _ _ _ _ fun e w' => e = .returned (.tuple #[.int .i64 0, .iface 151 (.pointer (some a))]) ∧ _
      go_enter Tryz.func48, Tryz.ntmps48
      go_wp2_with (first
        | (go_at_call 23; refine (HN.out).mono ?_; rintro e w1 ⟨rfl, hb1⟩; replace hb1 := hide hb1))
      exact bodyPost_ret (v := .tuple #[.int .i64 0, .iface 151 (.pointer (some a))]) (by simp [results, Tryz.results48, go_sem]) rfl ⟨rfl, hb1.out⟩
    | some n =>
      change Hid (Calls _ _ _ _ fun e w' => e = .returned (.tuple #[.int .i64 ((n : Nat) : Int), .nilIface]) ∧ _) at HN
      show Calls _ _ _ _ fun e w' => e = .returned (.tuple #[.int .i64 ((n : Nat) : Int), .nilIface]) ∧ _
      go_enter Tryz.func48, Tryz.ntmps48
      go_wp2_with (first
        | (go_at_call 23; refine (HN.out).mono ?_; rintro e w1 ⟨rfl, hb1⟩; replace hb1 := hide hb1))
      exact bodyPost_ret (v := .tuple #[.int .i64 n, .nilIface]) (by simp [results, Tryz.results48, go_sem]) rfl ⟨rfl, hb1.out⟩
/-- A range, or ErrForm. -/
def rgV (o : Option (Nat × Nat)) (a : Addr) : Ending := match o with
  | some r => .returned (.tuple #[.agg #[.int .i64 ((r.1 : Nat) : Int), .int .i64 ((r.2 : Nat) : Int)], .nilIface])
  | none => .returned (.tuple #[.agg #[.int .i64 0, .int .i64 0], .iface 151 (.pointer (some a))])
theorem nmV_none (a : Addr) : nmV none a = .returned (.tuple #[.int .i64 0, .iface 151 (.pointer (some a))]) := rfl
theorem nmV_some (n : Nat) (a : Addr) : nmV (some n) a = .returned (.tuple #[.int .i64 ((n : Nat) : Int), .nilIface]) := rfl
theorem cut_lensQ (b : UInt8) : ∀ l : List UInt8, (cutV b l).1.length ≤ l.length ∧ (cutV b l).2.1.length ≤ l.length
  | [] => by simp [cutV]
  | c :: l => by
    obtain ⟨h1, h2⟩ := cut_lensQ b l
    rw [cutV]
    by_cases hc : c = b
    · rw [if_pos hc]; simp
    · rw [if_neg hc]
      generalize cutV b l = t at *
      obtain ⟨p, q, f⟩ := t
      simp at *
      omega
set_option maxRecDepth 20000 in
set_option maxHeartbeats 2000000 in
theorem prange_core (s p q t2 : List UInt8) (two : Bool) (o1 o2 : Option Nat) (w : World) (a : Addr) (ht : t2 = if two then q else p)
    (hC : ∀ W, Calls Tryz.prog 47 #[.string ⟨s.toArray⟩, .string ⟨#[58]⟩] W fun e w' => e = .returned (.tuple #[.string ⟨p.toArray⟩, .string ⟨q.toArray⟩, .bool two]) ∧ Below W.heap.size W w')
    (h1 : ∀ W, Below w.heap.size w W → Calls Tryz.prog 48 #[.string ⟨p.toArray⟩] W fun e w' => e = nmV o1 a ∧ Below W.heap.size W w')
    (h2 : ∀ W, Below w.heap.size w W → Calls Tryz.prog 48 #[.string ⟨t2.toArray⟩] W fun e w' => e = nmV o2 a ∧ Below W.heap.size W w') :
    Calls Tryz.prog 27 #[.string ⟨s.toArray⟩] w fun e w' => e = rgV (o1.bind fun x => o2.bind fun y => some (x, y)) a ∧ Below w.heap.size w w' := by
  have HB := hide ((Below.refl w.heap.size w).alloc (Nat.le_refl _) (.cells #[.int .i64 0, .int .i64 0] 53))
  have HK := hide (Blk.new w #[.int .i64 0, .int .i64 0] 53)
  have HC := hide hC
  have HE1 := hide h1
  have HE2 := hide h2
  clear hC h1 h2
  cases two
  all_goals
    simp only [if_true, if_false, Bool.false_eq_true] at ht
    subst ht
    cases o1 with
    | none =>
      simp only [nmV_none] at HE1
      clear HE2
      show Calls _ _ _ _ fun e w' => e = .returned (.tuple #[.agg #[.int .i64 0, .int .i64 0], .iface 151 (.pointer (some a))]) ∧ _
      go_enter Tryz.func27, Tryz.ntmps27
      go_wp2_with (first
        | (go_at_call 47; refine (HC.out _).mono ?_; rintro e w1 ⟨rfl, hb1⟩; replace HK := hide (HK.out.below hb1 HK.out.lt); replace HB := hide (HB.out.trans (hb1.mono HB.out.size)); clear hb1)
        | (go_at_call 48; refine (HE1.out _ HB.out).mono ?_; rintro e w2 ⟨rfl, hb2⟩; replace HK := hide (HK.out.below hb2 HK.out.lt); replace HB := hide (HB.out.trans (hb2.mono HB.out.size)); clear hb2 HE1; have hc := HK.out.cell; have hf := HK.out.frozen))
      have h4 := ((HK.out.set 0 (.int .i64 0)).set 1 (.int .i64 0)).cell
      exact bodyPost_ret (v := .tuple #[.agg #[.int .i64 0, .int .i64 0], .iface 151 (.pointer (some a))]) (by simp [results, Tryz.results27, go_sem, h4]) rfl ⟨rfl, ((HB.out.setCell (p := ⟨w.heap.size, 0, none⟩) (Nat.le_refl _) _).setCell (p := ⟨w.heap.size, 1, none⟩) (Nat.le_refl _) _)⟩
    | some n1 =>
      simp only [nmV_some] at HE1
      cases o2 with
      | none =>
        simp only [nmV_none] at HE2
        show Calls _ _ _ _ fun e w' => e = .returned (.tuple #[.agg #[.int .i64 0, .int .i64 0], .iface 151 (.pointer (some a))]) ∧ _
        go_enter Tryz.func27, Tryz.ntmps27
        go_wp2_with (first
          | (go_at_call 47; refine (HC.out _).mono ?_; rintro e w1 ⟨rfl, hb1⟩; replace HK := hide (HK.out.below hb1 HK.out.lt); replace HB := hide (HB.out.trans (hb1.mono HB.out.size)); clear hb1)
          | (go_at_call 48; refine (HE1.out _ HB.out).mono ?_; rintro e w2 ⟨rfl, hb2⟩; replace HK := hide (HK.out.below hb2 HK.out.lt); replace HB := hide (HB.out.trans (hb2.mono HB.out.size)); clear hb2 HE1)
          | (go_at_call 48; refine (HE2.out _ HB.out).mono ?_; rintro e w3 ⟨rfl, hb2⟩; replace HK := hide (HK.out.below hb2 HK.out.lt); replace HB := hide (HB.out.trans (hb2.mono HB.out.size)); clear hb2 HE2; have hc := HK.out.cell; have hf := HK.out.frozen))
        have h4 := ((HK.out.set 0 (.int .i64 0)).set 1 (.int .i64 0)).cell
        exact bodyPost_ret (v := .tuple #[.agg #[.int .i64 0, .int .i64 0], .iface 151 (.pointer (some a))]) (by simp [results, Tryz.results27, go_sem, h4]) rfl ⟨rfl, ((HB.out.setCell (p := ⟨w.heap.size, 0, none⟩) (Nat.le_refl _) _).setCell (p := ⟨w.heap.size, 1, none⟩) (Nat.le_refl _) _)⟩
      | some n2 =>
        simp only [nmV_some] at HE2
        show Calls _ _ _ _ fun e w' => e = .returned (.tuple #[.agg #[.int .i64 ((n1 : Nat) : Int), .int .i64 ((n2 : Nat) : Int)], .nilIface]) ∧ _
        go_enter Tryz.func27, Tryz.ntmps27
        go_wp2_with (first
          | (go_at_call 47; refine (HC.out _).mono ?_; rintro e w1 ⟨rfl, hb1⟩; replace HK := hide (HK.out.below hb1 HK.out.lt); replace HB := hide (HB.out.trans (hb1.mono HB.out.size)); clear hb1)
          | (go_at_call 48; refine (HE1.out _ HB.out).mono ?_; rintro e w2 ⟨rfl, hb2⟩; replace HK := hide (HK.out.below hb2 HK.out.lt); replace HB := hide (HB.out.trans (hb2.mono HB.out.size)); clear hb2 HE1)
          | (go_at_call 48; refine (HE2.out _ HB.out).mono ?_; rintro e w3 ⟨rfl, hb2⟩; replace HK := hide (HK.out.below hb2 HK.out.lt); replace HB := hide (HB.out.trans (hb2.mono HB.out.size)); clear hb2 HE2; have hc := HK.out.cell; have hf := HK.out.frozen))
        have h4 := ((HK.out.set 0 (.int .i64 n1)).set 1 (.int .i64 n2)).cell
        exact bodyPost_ret (v := .tuple #[.agg #[.int .i64 n1, .int .i64 n2], .nilIface]) (by simp [results, Tryz.results27, go_sem, h4]) rfl ⟨rfl, ((HB.out.setCell (p := ⟨w.heap.size, 0, none⟩) (Nat.le_refl _) _).setCell (p := ⟨w.heap.size, 1, none⟩) (Nat.le_refl _) _)⟩
theorem prange_any (s : List UInt8) (w : World) (a : Addr) (hE : EFq w a) (hS : SyE w) (hs : s.length ≤ 1000000) :
    Calls Tryz.prog 27 #[.string ⟨s.toArray⟩] w fun e w' => e = rgV (sqI s) a ∧ Below w.heap.size w w' := by
  have HC := fun W => cut_any 58 s W hs
  obtain ⟨hl1, hl2⟩ := cut_lensQ 58 s
  cases hc : cutV 58 s with
  | mk p y =>
    obtain ⟨q, two⟩ := y
    rw [hc] at HC hl1 hl2
    dsimp only at HC hl1 hl2
    have hI : sqI s = (sqE p).bind fun x => (sqE (if two then q else p)).bind fun y => some (x, y) := by
      cases two with
      | true => exact sqI_cut2 hc
      | false => exact sqI_cut1 hc
    rw [hI]
    exact prange_core s p q _ two _ _ w a rfl HC (fun W hW => pend_any p W a (hE.below hW) (hS.below hW) (by omega)) (fun W hW => pend_any _ W a (hE.below hW) (hS.below hW) (by split <;> omega))
end Go.Proofs.YtbjencibkkhbhaaGreatDoor
