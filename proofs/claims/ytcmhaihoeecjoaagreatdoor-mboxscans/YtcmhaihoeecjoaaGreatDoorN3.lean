/- MboxScans: the walk. -/
import Derived.Test.YtcmhaihoeecjoaaGreatDoorN2
namespace Go.Proofs.YtcmhaihoeecjoaaGreatDoor
open Go.RowKit Go.Shelf
theorem scan_dec {s : List UInt8} {xs : List Sp} (h : scanV s = some xs) : ∀ p ∈ xs, p.b ≤ p.e ∧ p.e ≤ s.length ∧ ∃ m, decV (cutB s p) = some m := by
  have hl := lok s
  unfold scanV restV at h
  split at h
  · rename_i hc
    obtain ⟨h1, h2⟩ := hc
    obtain rfl := Option.some.inj h
    intro p hp
    obtain ⟨a1, a2, a3⟩ := scan_in h1 p hp
    refine ⟨a2, a3, ?_⟩
    have hm : cutB s p ∈ (spans 0 (grp (splitS s)).2).map (cutB s) := List.mem_map.2 ⟨p, hp, rfl⟩
    rw [scan_cut h1] at hm
    obtain ⟨g, hg, he⟩ := List.mem_map.1 hm
    obtain ⟨b1, b2, _⟩ := (grp_bodies hl).2 g hg
    rw [← he]
    refine decV_body b1 b2 ?_
    unfold okG at h2
    rw [List.all_eq_true] at h2
    simpa using h2 g hg
  · cases h
theorem scan_count {s : List UInt8} {xs : List Sp} (h : scanV s = some xs) : xs.length ≤ s.length := by
  unfold scanV restV at h
  split at h
  · obtain rfl := Option.some.inj h
    rw [spans_len]
    have h1 := grp_count (splitS s)
    have h2 := splitS_len s
    omega
  · cases h
set_option maxRecDepth 8000 in
set_option maxHeartbeats 1000000 in
theorem scans_walk (s : List UInt8) (w : World) (a : Nat → Addr) (hE : Errs w a) (ht : Da.Tab w) (hs : s.length ≤ maxLen) :
    Calls Tryz.prog 4 #[.string ⟨s.toArray⟩] w fun x w' => x = .returned (.bool true) ∧ Below w.heap.size w w' := by
  have hsz := size_lit s
  unfold maxLen at hs
  have HT := hide ht
  have HE := hide hE
  clear ht hE
  by_cases hl : 20000 < s.length
  · have hl' : (20000 : Int) < s.length := by omega
    go_enter Tryz.func4, Tryz.ntmps4
    go_wp2_with (first
      | (go_at_call 6; refine (alive7 _ HT.out).mono ?_; rintro e w1 ⟨rfl, hb1⟩; replace hb1 := hide hb1))
    go_ret
    exact ⟨rfl, hb1.out⟩
  · have hl' : ¬ (20000 : Int) < s.length := by omega
    have HSC := hide (fun w hE => scan_any s w a (by omega) (fun _ => hE))
    have HRS := hide (fun w => rscan_any s w (by omega))
    have HCO := hide (fun w hE => count_any s w a (by omega) (fun _ => hE))
    cases hv : scanV s with
    | none =>
      have HV := hide hv
      clear hv
      go_enter Tryz.func4, Tryz.ntmps4
      go_wp2_with (first
        | (go_at_call 6; refine (alive7 _ HT.out).mono ?_; rintro e w1 ⟨rfl, hb1⟩; have HE1 := hide (HE.out.below hb1); replace hb1 := hide hb1)
        | (go_at_call 13; refine (HSC.out _ HE1.out).mono ?_; rintro e w2 ⟨hb2, hm⟩; rw [HV.out] at hm; obtain rfl := hm; unfold errV; have HE2 := hide (HE1.out.below hb2); replace hb2 := hide hb2)
        | (go_at_call 14; refine (HRS.out _).mono ?_; rintro e w3 ⟨hb3, hm⟩; rw [HV.out] at hm; obtain rfl := hm; have HE3 := hide (HE2.out.below hb3); replace hb3 := hide hb3)
        | (go_at_call 15; refine (HCO.out _ HE3.out).mono ?_; rintro e w4 ⟨hb4, hm⟩; rw [HV.out] at hm; obtain rfl := hm; have HE4 := hide (HE3.out.below hb4); replace hb4 := hide hb4)
        | (go_at_call 9; refine (num_err 1 (by decide) _ a HE4.out).mono ?_; rintro e w5 ⟨rfl, hb5⟩; replace hb5 := hide hb5))
      go_ret
      have b2 := hb1.out.trans (hb2.out.mono hb1.out.size)
      have b3 := b2.trans (hb3.out.mono b2.size)
      have b4 := b3.trans (hb4.out.mono b3.size)
      exact ⟨by simp, b4.trans (hb5.out.mono b4.size)⟩
    | some xs =>
      have HV := hide hv
      have HDE := hide (scan_dec hv)
      have hxl := scan_count hv
      clear hv
      go_enter Tryz.func4, Tryz.ntmps4
      go_wp2_with (first
        | (go_at_call 6; refine (alive7 _ HT.out).mono ?_; rintro e w1 ⟨rfl, hb1⟩; have HE1 := hide (HE.out.below hb1); replace hb1 := hide hb1)
        | (go_at_call 13; refine (HSC.out _ HE1.out).mono ?_; rintro e w2 ⟨hb2, hm⟩; rw [HV.out] at hm; obtain ⟨v2, rfl, hsp2⟩ := hm; obtain ⟨A2, c2, rfl⟩ := hsp2.len; have HE2 := hide (HE1.out.below hb2); replace hb2 := hide hb2; replace hsp2 := hide hsp2)
        | (go_at_call 14; refine (HRS.out _).mono ?_; rintro e w3 ⟨hb3, hm⟩; rw [HV.out] at hm; obtain ⟨v3, rfl, hsp3⟩ := hm; obtain ⟨A3, c3, rfl⟩ := hsp3.len; have HE3 := hide (HE2.out.below hb3); have hsp23 := hide (hsp2.out.below hb3); replace hb3 := hide hb3; replace hsp3 := hide hsp3)
        | (go_at_call 15; refine (HCO.out _ HE3.out).mono ?_; rintro e w4 ⟨hb4, hm⟩; rw [HV.out] at hm; obtain rfl := hm; have HSA := hide (same_yes _ _ _ _ xs _ (hsp23.out.below hb4) (hsp3.out.below hb4) (by omega)); have hsp24 := hide (hsp23.out.below hb4); replace hb4 := hide hb4)
        | (go_at_call 16; refine HSA.out.mono ?_; rintro e w5 ⟨rfl, hn5⟩; replace hn5 := hide hn5))
      have HSP : Hid (Sps w1.heap.size w5 (.slice A2 xs.length c2) xs) := by
        obtain ⟨n, rfl⟩ := hn5.out
        exact hsp24.out
      have HB5 : Hid (Below w.heap.size w w5) := by
        have b2 := hb1.out.trans (hb2.out.mono hb1.out.size)
        have b3 := b2.trans (hb3.out.mono b2.size)
        have b4 := b3.trans (hb4.out.mono b3.size)
        obtain ⟨n, rfl⟩ := hn5.out
        exact ⟨b4.os, b4.tape, b4.output, b4.size, b4.block⟩
      clear hn5
      go_loopw [61] (fun i wr => ∃ k : Nat, k ≤ xs.length ∧ i = .int .i64 k ∧ Hid (Below w5.heap.size w5 wr)) (fun i _ => xs.length - (intOf i).toNat)
      case atStart => exact ⟨0, Nat.zero_le _, rfl, Below.refl _ _⟩
      case round =>
        obtain ⟨k, hk, rfl, HB⟩ := hrel
        by_cases hlt : k < xs.length
        · obtain ⟨g, o, cap, ev, q1, q2, q3, q4, q5, q6, q7, _⟩ := (HSP.out.below HB.out).read k hlt
          obtain ⟨rfl, rfl⟩ : A2 = some ⟨g, o, none⟩ ∧ c2 = cap := by cases ev; exact ⟨rfl, rfl⟩
          obtain ⟨t2, t3, m, hm⟩ := HDE.out _ (List.getElem_mem hlt)
          obtain ⟨p, hp⟩ : ∃ p, xs[k] = p := ⟨_, rfl⟩
          rw [hp] at q5 q6 q7 t2 t3 hm
          have hcl : (cutB s p).length ≤ 1000000 := by unfold cutB; rw [List.length_take, List.length_drop]; omega
          have hdc : ∀ w, Calls Tryz.prog 31 #[.string ⟨(cutB s p).toArray⟩] w fun e w' => e = .returned (.tuple #[.string ⟨m.toArray⟩, .nilIface]) ∧ Below w.heap.size w w' := fun w => by
            have := decode_any (cutB s p) w ⟨0, 0, none⟩ hcl (fun h => by rw [hm] at h; cases h)
            unfold decT at this
            rw [hm] at this
            exact this
          have HMs := hide (fun w => message_in s p.h p.b p.e (cutB s p) (.string ⟨m.toArray⟩) .nilIface w t2 t3 rfl (fun w' _ => hdc w'))
          have HR := hide (fun w => rdecode_any (cutB s p) w hcl)
          unfold decDT at HR
          rw [show decD (cutB s p) = decV (cutB s p) from rfl, hm] at HR
          have hsl := fun w => slice_str s p.b p.e t2 t3 w
          rw [show (s.drop p.b).take (p.e - p.b) = cutB s p from rfl] at hsl
          generalize cutB s p = t at *
          have hlt' : (k : Int) < xs.length := by omega
          clear ev hp hm hcl hdc t2 t3
          go_wp2_with (first
            | (go_at_call 17; refine (HMs.out _).mono ?_; rintro e w6 ⟨rfl, hb6⟩
               have hk6 := (Blk.new wr #[.int .i64 (p.h : Int), .int .i64 (p.b : Int), .int .i64 (p.e : Int)] 42).below hb6 (by simp)
               have hk6c := hk6.cell
               have hk6l := hk6.lt
               replace hb6 := hide hb6
               clear hk6)
            | (go_at_call 18; refine (HR.out _).mono ?_; rintro e w7 ⟨rfl, hb7⟩; replace hb7 := hide hb7))
          have hb8 : Below wr.heap.size wr w7 := (((Below.refl _ _).alloc (Nat.le_refl _) _).trans (hb6.out.mono (by simp))).trans (hb7.out.mono (by have := hb6.out.size; simp at this; omega))
          go_roundw
          case rel => exact ⟨k + 1, by omega, by go_num, HB.out.trans (hb8.mono HB.out.size)⟩
          case measure => simp [intOf]; omega
        · obtain rfl : k = xs.length := by omega
          go_wp2
          go_ret
          exact ⟨rfl, HB5.out.trans (HB.out.mono HB5.out.size)⟩
end Go.Proofs.YtcmhaihoeecjoaaGreatDoor
