/- DiskRooms. -/
import Derived.Test.YtpghfaplgkjdkaaDoorD21
import Derived.Test.YtpghfaplgkjdkaaDoorCO
namespace Go.Proofs.YtpghfaplgkjdkaaDoor
open Go.RowKit Go.Maps
theorem rightA' : rightB [98] = true := by decide
theorem DK.file_lt {w0 w : World} {d : Nat} {ρ : Nat → Option Role} {s : St} {b : Nat} {fa : FA} (h : DK w0 w d ρ s) (hφ : s.φ b = some fa) : b < w.heap.size := by
  obtain ⟨bn, bs, bc, vs, vl, Gs, Gl, cs, h⟩ := h
  obtain ⟨_, _, _, _, _, hF⟩ := h.files b fa hφ
  exact h.lt hF.role
theorem br_made {w : World} {base n : Nat} {v : Value} (h : w.ownsRow base 5 1 v n (madeCells (Value.int IntKind.u8 0).cells (n * 1)).toList) : BR w v (List.replicate n 0) := by
  have h1 := Rw.of_owns h
  rw [show (Value.int IntKind.u8 0).cells = #[.int .u8 0] from rfl, made_zero] at h1
  have e : (List.replicate n (0 : UInt8)).length = n := by simp
  have h2 : Rw w 1 v (List.replicate n (0 : UInt8)).length ((List.replicate n (0 : UInt8)).map bv) v.ownBlock := by rw [e]; exact h1
  exact h2.br
/-- The law's own array is written. -/
theorem RS.array {w0 w : World} {d : Nat} {ρ : Nat → Option Role} {s : St} {q f0 f1 : Nat} {A B : FA} {u0 u1 c U : Nat} (h : RS w0 w d ρ s q f0 f1 A B u0 u1 c) (hU : ρ U = none) (hle : w0.heap.size ≤ U) (o : Nat) (v : Value) : RS w0 (w.setCell ⟨U, o, none⟩ v) d ρ s q f0 f1 A B u0 u1 c :=
  { h with dk := h.dk.keep (S := fun k => k = U) ((Mvs.refl (fun k => k = U) w).setCell ⟨U, o, none⟩ v (fun _ => rfl)) (fun k r hr e => by rw [e, hU] at hr; cases hr) (fun k e => by omega) }
set_option maxRecDepth 20000 in
set_option maxHeartbeats 4000000 in
theorem rooms_walk (t : Int) (zs : List Int) (v : Value) (w : World) (a : Nat → Addr) (hE : Errs w a) (hv : AR w v (zs.map (Value.int .i64))) : Calls Tryd.prog 3 #[.int .i64 t, v] w fun e w' => e = .returned (.bool true) ∧ Below w.heap.size w w' := by
  replace hE := hide hE
  obtain ⟨V, cap, rfl, hlc, hcm, _, hat⟩ := hv
  rw [List.length_map] at hlc
  rw [List.length_map]
  replace hat := hide hat
  simp only [maxLen] at hcm
  have hlen : zs.length ≤ 9223372036854775807 := by omega
  obtain ⟨q, hq, hqe0⟩ := rem_small t 3000 (by decide) (by decide)
  have hqe : Hid (wrap64 ((IntKind.u64.wrap t).tmod 3000) = (q : Int)) := hqe0
  clear hqe0
  go_enter Tryd.func3, Tryd.ntmps3
  go_wp2_with fail
  refine (alive_yes w a hE.out).mono ?_
  rintro e w1 ⟨rfl, hb1⟩
  replace hb1 := hide hb1
  go_wp2_with fail
  rw [hqe.out]
  generalize (IntKind.u64.wrap t).tmod 3000 = z0
  generalize IntKind.u64.wrap t = z1
  clear hqe
  refine (new_any w w1 q (by omega) (by omega) hb1.out).mono ?_
  rintro e w2 ⟨rfl, _, hD2⟩
  replace hD2 := hide hD2
  generalize hd : w1.heap.size + 3 = d at hD2
  clear hb1 hd
  unfold pv
  go_wp2_with fail
  refine (create_ok w w2 _ _ _ a hE.out hD2.out rfl (by show (-1 : Int) < 0; decide) (by show (0 : Int) ≤ 0; decide) (by show (0 : Int) ≤ 1000000; decide) (by show (0 : Int) ≤ 0; decide) (by show (0 : Int) ≤ 1000000; decide) (by show (0 : Int) ≤ 0; decide) (by show (0 : Int) ≤ 1000000; decide) (by show 0 ≤ 60; decide) (by show 0 ≤ 1000000; decide) [97] rightA rfl).mono ?_
  rintro e w3 ⟨rfl, ρ3, f0, hD3, _, _⟩
  replace hD3 := hide hD3
  clear hD2
  go_wp2_with fail
  refine (create_ok w w3 _ _ _ a hE.out hD3.out rfl (by show (-1 : Int) < 0; decide) (by show (0 : Int) ≤ 1; decide) (by show (1 : Int) ≤ 1000000; decide) (by show (0 : Int) ≤ 1; decide) (by show (1 : Int) ≤ 1000000; decide) (by show (0 : Int) ≤ 1; decide) (by show (1 : Int) ≤ 1000000; decide) (by show 1 ≤ 60; decide) (by show 1 ≤ 1000000; decide) [98] rightA' rfl).mono ?_
  rintro e w4 ⟨rfl, ρ4, f1, hD4, _, hf1⟩
  have hne : f0 ≠ f1 := by
    have := hD3.out.file_lt (b := f0) (fa := ⟨0, [], []⟩) (if_pos rfl)
    omega
  have hR4 := hide (RS.start hD4 hne)
  clear hD3 hD4 hf1 hne
  by_cases hz : zs = []
  · subst hz
    have HB := hide (hR4.out.dk.below.trans (((Below.refl _ w4).alloc (Nat.le_refl _) (.cells #[.int .i64 0, .int .i64 0] 31)).mono hR4.out.dk.below.size))
    go_wp2
    refine wp_loop_rounds 1 ?_
    rw [rounds_succ]
    go_wp2
    go_ret
    exact ⟨rfl, HB.out⟩
  obtain ⟨g, o, rfl, hg, hcell⟩ := hat.out (by simpa using hz)
  replace hcell := hide hcell
  clear hat
  have hbU : Below w4.heap.size w4 (w4.alloc (.cells #[.int .i64 0, .int .i64 0] 31)) := (Below.refl _ _).alloc (Nat.le_refl _) _
  have hU := hide (Blk.new w4 #[.int .i64 0, .int .i64 0] 31)
  have hR5 := hide (hR4.out.then hbU)
  have hrU : Hid (ρ4 w4.heap.size = none) := hR4.out.dk.free (Nat.le_refl _)
  have hUw1 : Hid (w.heap.size ≤ w4.heap.size) := hR4.out.dk.below.size
  clear hbU hR4
  go_wp2
  generalize hUe : w4.heap.size = U at *
  clear hUe
  go_loopw [42] (fun k wr => ∃ (i : Nat) (ρ : Nat → Option Role) (s : St) (A B : FA) (u0 u1 : Nat), k = .int .i64 i ∧ i ≤ zs.length ∧ i ≤ 61 ∧ Hid (RS w wr d ρ s q f0 f1 A B u0 u1 (2 * i)) ∧ Hid (Blk wr U #[.int .i64 u0, .int .i64 u1] 31) ∧ Hid (ρ U = none)) (fun k _ => zs.length - (intOf k).toNat)
  case atStart => exact ⟨0, _, _, _, _, 0, 0, rfl, Nat.zero_le _, by decide, hR5, hU, hrU⟩
  case round =>
    obtain ⟨i, ρ, s, A, B, u0, u1, rfl, hi, hi61, HR, HU, HrU⟩ := hrel
    by_cases hlt : i < zs.length
    · have hlt' : (i : Int) < zs.length := by omega
      have hci : wr.cell? ⟨g, o + i, none⟩ = some (.int .i64 zs[i]) := by
        rw [HR.out.dk.below.cell (p := ⟨g, o + i, none⟩) hg]
        exact hcell.out i _ (by simp [List.getElem?_eq_getElem hlt])
      generalize zs[i] = z at hci
      by_cases h60 : 60 < i
      · have g1 : decide (60 < (i : Int)) = true := decide_eq_true (by omega)
        have g2 : 60 < (i : Int) := by omega
        have HB := hide HR.out.dk.below
        go_wp2
        go_ret
        exact ⟨rfl, HB.out⟩
      · have g1 : decide (60 < (i : Int)) = false := decide_eq_false (by omega)
        have g2 : ¬ 60 < (i : Int) := by omega
        obtain ⟨n, hn, hne0⟩ := rem_small z 1000 (by decide) (by decide)
        have hne : wrap64 ((IntKind.u64.wrap z).tmod 1000) = (n : Int) := hne0
        clear hne0
        obtain ⟨i0, hi0, hz0, hz1, hz2⟩ := info_parts byteInfo
        have hUw : Hid (w.heap.size ≤ U) := hUw1.out
        rcases Nat.mod_two_eq_zero_or_one i with hp | hp
        · have hp1 : (i : Int) % 2 = 0 := by omega
          have hp2 : (i : Int).tmod 2 = 0 := by rw [Int.tmod_eq_emod_of_nonneg (by omega)]; exact hp1
          obtain ⟨w5, hrun5, hr5, hg5⟩ := run_make_full (P := Tryd.prog) (wr.alloc (.cells #[.string ⟨#[97]⟩, .string ⟨#[98]⟩] 9)) wr.heap.size 34 5 i0 (.int .u8 0) 1 Tryd.underlying34 hi0 hz0 hz1 .i64 .i64 n (by rw [hz2]; omega) (by simp only [maxLen]; omega) (by simp)
          have hb5 : Below wr.heap.size wr w5 := ((Below.refl _ wr).alloc (Nat.le_refl _) _).trans (Below.of_grown hg5 (fun j e => by cases e) (by simp))
          have hbr0 := br_made hr5
          simp only [World.size_alloc] at hrun5 hbr0
          have hbr5 := hide hbr0
          have hnr := hide (show ρ (wr.heap.size + 1) = none from HR.out.dk.free (Nat.le_succ _))
          have HR5 := hide (HR.out.then hb5)
          have HU5 := hide (HU.out.below hb5 HU.out.lt)
          have hll : Hid ((List.replicate n (0 : UInt8)).length = n) := by
            show _ = _
            simp
          clear hr5 hg5 hb5 hbr0 HR HU hi0 hz0 hz1 hz2
          go_wp2_with fail
          clear hrun5
          by_cases hroom : u0 + u1 + n ≤ q
          · refine (append_ok w w5 d ρ s HR5.out.dk (HR5.out.small (by omega) (by omega)) [97] rightA f0 A HR5.out.at0 HR5.out.fA HR5.out.nA.1 (by have := HR5.out.nA.2; omega) (by have := HR5.out.oA; omega) _ (List.replicate n 0) hbr5.out (fun A' n' c' e => by cases e; exact hnr.out) (by rw [HR5.out.lA, hll.out]; have := HR5.out.sum; omega) (by rw [HR5.out.quota, HR5.out.used, hll.out]; omega)).mono ?_
            rintro e w7 ⟨rfl, ρ7, hD7, hT7, _⟩
            have HR7' := HR5.out.put0 (List.replicate n 0) hD7 (by rw [hll.out]; omega)
            rw [hll.out] at HR7'
            have HR7 := hide HR7'
            have hr7 := hide (hT7.off HU5.out.lt HrU.out)
            have HU7 := hide (hT7.1.blk HU5.out (fun ⟨r, hr⟩ => by rw [HrU.out] at hr; cases hr))
            have hcu7 := HU7.out.cell
            have hfu7 := HU7.out.frozen
            have m1 : decide ((n : Int) ≤ q - u0 - u1) = true := decide_eq_true (by omega)
            have m2 : (n : Int) ≤ q - u0 - u1 := by omega
            have hsum := HR5.out.sum
            have HR8 := hide (HR7.out.array hr7.out hUw.out 0 (.int .i64 (u0 + n)))
            have HU8 := hide (show Blk (w7.setCell ⟨U, 0, none⟩ (.int .i64 (u0 + n))) U #[.int .i64 (((u0 + n) : Nat)), .int .i64 ((u1 : Nat))] 31 from by
              have h := HU7.out.set 0 (.int .i64 (u0 + n))
              simpa using h)
            clear hD7 hT7 HR7' HR5 HU5 hbr5
            go_wp2_with fail
            clear hcu7 hfu7 m1 m2
            generalize w7.setCell ⟨U, 0, none⟩ _ = w8 at *
            have hcu := HU8.out.cell
            have hlu := HU8.out.lt
            have hns := ext_some w8
            have hec := ext_cell w8
            have HUs : Hid (∀ u : Ext w8, Calls Tryd.prog 10 #[pv d] u.w fun e w' => e = .returned (.int .i64 (((u0 + n) + u1 : Nat))) ∧ Below u.w.heap.size u.w w') := fun u => by
              have h := used_any w u.w d _ _ (HR8.out.dk.then u.ok) (by rw [HR8.out.used]; have := HR8.out.sum; omega)
              rw [HR8.out.used] at h
              exact h
            unfold pv at HUs
            have hsm := HR8.out.sum
            go_wp2_with fail
            refine wp_region_ext (by kernel_rfl) (by kernel_rfl) ?_
            repeat (go_big_quiet_step (first | (go_at_call 10; exact ext_call (HUs.out _))))
            refine wpQuiet_nil ?_
            rintro w9 ⟨⟨_, hb9⟩, rfl⟩
            have HR9 := hide (HR8.out.then hb9)
            have HU9 := hide (HU8.out.below hb9 HU8.out.lt)
            clear hb9 hcu hlu hns hec HUs
            by_cases h7 : i % 7 = 6
            · have k1 : (i : Int) % 7 = 6 := by omega
              have k2 : (i : Int).tmod 7 = 6 := by rw [Int.tmod_eq_emod_of_nonneg (by omega)]; exact k1
              go_wp2_with fail
              refine (truncate0_ok w _ d _ _ HR9.out.dk (HR9.out.small (by omega) (by omega)) [97] rightA f0 _ HR9.out.at0 HR9.out.fA HR9.out.nA.1 (by have := HR9.out.nA.2; omega) (by have := HR9.out.oA; omega) (by rw [HR9.out.lA]; omega)).mono ?_
              rintro e w10 ⟨rfl, ρ10, hD10, hT10, _⟩
              have HR10 := hide (HR9.out.cut0 hD10)
              have hr10 := hide (hT10.off HU9.out.lt hr7.out)
              have HU10 := hide (hT10.1.blk HU9.out (fun ⟨r, hr⟩ => by rw [hr7.out] at hr; cases hr))
              have hcu := HU10.out.cell
              have hfu := HU10.out.frozen
              have hlu := HU10.out.lt
              clear hD10 hT10 HR9 HU9
              go_wp2
              go_roundw
              case rel => exact ⟨i + 1, ρ10, _, _, _, 0, u1, by go_num, by omega, by omega, (HR10.out.mono (by omega)).array hr10.out hUw.out 0 _, HU10.out.set 0 _, hr10⟩
              case measure => simp [intOf]; omega
            · have k1 : ¬ (i : Int) % 7 = 6 := by omega
              have k2 : ((i : Int) % 7 == 6) = false := by simp; omega
              have k3 : ((i : Int).tmod 7 == 6) = false := by rw [Int.tmod_eq_emod_of_nonneg (by omega)]; exact k2
              go_wp2
              go_roundw
              case rel => exact ⟨i + 1, _, _, _, _, (u0 + n), u1, by go_num, by omega, by omega, HR9.out.mono (by omega), HU9, hr7⟩
              case measure => simp [intOf]; omega
          · refine (append_full w w5 d ρ s a hE.out HR5.out.dk (HR5.out.small (by omega) (by omega)) [97] rightA f0 HR5.out.at0 _ (List.replicate n 0) hbr5.out (by rw [HR5.out.quota, HR5.out.used, hll.out]; omega)).mono ?_
            rintro e w7 ⟨rfl, hb7⟩
            have HR7 := hide (HR5.out.then hb7)
            have HU7 := hide (HU5.out.below hb7 HU5.out.lt)
            have hcu7 := HU7.out.cell
            have m1 : decide ((n : Int) ≤ q - u0 - u1) = false := decide_eq_false (by omega)
            have m2 : ¬ (n : Int) ≤ q - u0 - u1 := by omega
            have hsum := HR5.out.sum
            have m3 : ((n : Int) == 0) = false := by simp; omega
            have m4 : ¬ (n : Int) = 0 := by omega
            clear hb7 HR5 HU5 hbr5
            unfold errV
            go_wp2_with fail
            refine (num_err 6 (by decide) w7 a (hE.out.below HR7.out.dk.below)).mono ?_
            rintro e w8 ⟨rfl, hb8⟩
            have HR8 := hide (HR7.out.then hb8)
            have HU8 := hide (HU7.out.below hb8 HU7.out.lt)
            clear hb8 HR7 HU7 hcu7
            go_wp2_with fail
            clear m1 m2 m3 m4
            have hcu := HU8.out.cell
            have hlu := HU8.out.lt
            have hns := ext_some w8
            have hec := ext_cell w8
            have HUs : Hid (∀ u : Ext w8, Calls Tryd.prog 10 #[pv d] u.w fun e w' => e = .returned (.int .i64 ((u0 + u1 : Nat))) ∧ Below u.w.heap.size u.w w') := fun u => by
              have h := used_any w u.w d _ _ (HR8.out.dk.then u.ok) (by rw [HR8.out.used]; have := HR8.out.sum; omega)
              rw [HR8.out.used] at h
              exact h
            unfold pv at HUs
            have hsm := HR8.out.sum
            go_wp2_with fail
            refine wp_region_ext (by kernel_rfl) (by kernel_rfl) ?_
            repeat (go_big_quiet_step (first | (go_at_call 10; exact ext_call (HUs.out _))))
            refine wpQuiet_nil ?_
            rintro w9 ⟨⟨_, hb9⟩, rfl⟩
            have HR9 := hide (HR8.out.then hb9)
            have HU9 := hide (HU8.out.below hb9 HU8.out.lt)
            clear hb9 hcu hlu hns hec HUs
            by_cases h7 : i % 7 = 6
            · have k1 : (i : Int) % 7 = 6 := by omega
              have k2 : (i : Int).tmod 7 = 6 := by rw [Int.tmod_eq_emod_of_nonneg (by omega)]; exact k1
              go_wp2_with fail
              refine (truncate0_ok w _ d _ _ HR9.out.dk (HR9.out.small (by omega) (by omega)) [97] rightA f0 _ HR9.out.at0 HR9.out.fA HR9.out.nA.1 (by have := HR9.out.nA.2; omega) (by have := HR9.out.oA; omega) (by rw [HR9.out.lA]; omega)).mono ?_
              rintro e w10 ⟨rfl, ρ10, hD10, hT10, _⟩
              have HR10 := hide (HR9.out.cut0 hD10)
              have hr10 := hide (hT10.off HU9.out.lt HrU.out)
              have HU10 := hide (hT10.1.blk HU9.out (fun ⟨r, hr⟩ => by rw [HrU.out] at hr; cases hr))
              have hcu := HU10.out.cell
              have hfu := HU10.out.frozen
              have hlu := HU10.out.lt
              clear hD10 hT10 HR9 HU9
              go_wp2
              go_roundw
              case rel => exact ⟨i + 1, ρ10, _, _, _, 0, u1, by go_num, by omega, by omega, (HR10.out.mono (by omega)).array hr10.out hUw.out 0 _, HU10.out.set 0 _, hr10⟩
              case measure => simp [intOf]; omega
            · have k1 : ¬ (i : Int) % 7 = 6 := by omega
              have k2 : ((i : Int) % 7 == 6) = false := by simp; omega
              have k3 : ((i : Int).tmod 7 == 6) = false := by rw [Int.tmod_eq_emod_of_nonneg (by omega)]; exact k2
              go_wp2
              go_roundw
              case rel => exact ⟨i + 1, _, _, _, _, u0, u1, by go_num, by omega, by omega, HR9.out.mono (by omega), HU9, HrU⟩
              case measure => simp [intOf]; omega
        · have hp1 : (i : Int) % 2 = 1 := by omega
          have hp2 : (i : Int).tmod 2 = 1 := by rw [Int.tmod_eq_emod_of_nonneg (by omega)]; exact hp1
          obtain ⟨w5, hrun5, hr5, hg5⟩ := run_make_full (P := Tryd.prog) (wr.alloc (.cells #[.string ⟨#[97]⟩, .string ⟨#[98]⟩] 9)) wr.heap.size 34 5 i0 (.int .u8 0) 1 Tryd.underlying34 hi0 hz0 hz1 .i64 .i64 n (by rw [hz2]; omega) (by simp only [maxLen]; omega) (by simp)
          have hb5 : Below wr.heap.size wr w5 := ((Below.refl _ wr).alloc (Nat.le_refl _) _).trans (Below.of_grown hg5 (fun j e => by cases e) (by simp))
          have hbr0 := br_made hr5
          simp only [World.size_alloc] at hrun5 hbr0
          have hbr5 := hide hbr0
          have hnr := hide (show ρ (wr.heap.size + 1) = none from HR.out.dk.free (Nat.le_succ _))
          have HR5 := hide (HR.out.then hb5)
          have HU5 := hide (HU.out.below hb5 HU.out.lt)
          have hll : Hid ((List.replicate n (0 : UInt8)).length = n) := by
            show _ = _
            simp
          clear hr5 hg5 hb5 hbr0 HR HU hi0 hz0 hz1 hz2
          go_wp2_with fail
          clear hrun5
          by_cases hroom : u0 + u1 + n ≤ q
          · refine (append_ok w w5 d ρ s HR5.out.dk (HR5.out.small (by omega) (by omega)) [98] rightA' f1 B HR5.out.at1 HR5.out.fB HR5.out.nB.1 (by have := HR5.out.nB.2; omega) (by have := HR5.out.oB; omega) _ (List.replicate n 0) hbr5.out (fun A' n' c' e => by cases e; exact hnr.out) (by rw [HR5.out.lB, hll.out]; have := HR5.out.sum; omega) (by rw [HR5.out.quota, HR5.out.used, hll.out]; omega)).mono ?_
            rintro e w7 ⟨rfl, ρ7, hD7, hT7, _⟩
            have HR7' := HR5.out.put1 (List.replicate n 0) hD7 (by rw [hll.out]; omega)
            rw [hll.out] at HR7'
            have HR7 := hide HR7'
            have hr7 := hide (hT7.off HU5.out.lt HrU.out)
            have HU7 := hide (hT7.1.blk HU5.out (fun ⟨r, hr⟩ => by rw [HrU.out] at hr; cases hr))
            have hcu7 := HU7.out.cell
            have hfu7 := HU7.out.frozen
            have m1 : decide ((n : Int) ≤ q - u0 - u1) = true := decide_eq_true (by omega)
            have m2 : (n : Int) ≤ q - u0 - u1 := by omega
            have hsum := HR5.out.sum
            have HR8 := hide (HR7.out.array hr7.out hUw.out 1 (.int .i64 (u1 + n)))
            have HU8 := hide (show Blk (w7.setCell ⟨U, 1, none⟩ (.int .i64 (u1 + n))) U #[.int .i64 ((u0 : Nat)), .int .i64 (((u1 + n) : Nat))] 31 from by
              have h := HU7.out.set 1 (.int .i64 (u1 + n))
              simpa using h)
            clear hD7 hT7 HR7' HR5 HU5 hbr5
            go_wp2_with fail
            clear hcu7 hfu7 m1 m2
            generalize w7.setCell ⟨U, 1, none⟩ _ = w8 at *
            have hcu := HU8.out.cell
            have hlu := HU8.out.lt
            have hns := ext_some w8
            have hec := ext_cell w8
            have HUs : Hid (∀ u : Ext w8, Calls Tryd.prog 10 #[pv d] u.w fun e w' => e = .returned (.int .i64 ((u0 + (u1 + n) : Nat))) ∧ Below u.w.heap.size u.w w') := fun u => by
              have h := used_any w u.w d _ _ (HR8.out.dk.then u.ok) (by rw [HR8.out.used]; have := HR8.out.sum; omega)
              rw [HR8.out.used] at h
              exact h
            unfold pv at HUs
            have hsm := HR8.out.sum
            go_wp2_with fail
            refine wp_region_ext (by kernel_rfl) (by kernel_rfl) ?_
            repeat (go_big_quiet_step (first | (go_at_call 10; exact ext_call (HUs.out _))))
            refine wpQuiet_nil ?_
            rintro w9 ⟨⟨_, hb9⟩, rfl⟩
            have HR9 := hide (HR8.out.then hb9)
            have HU9 := hide (HU8.out.below hb9 HU8.out.lt)
            clear hb9 hcu hlu hns hec HUs
            by_cases h7 : i % 7 = 6
            · have k1 : (i : Int) % 7 = 6 := by omega
              have k2 : (i : Int).tmod 7 = 6 := by rw [Int.tmod_eq_emod_of_nonneg (by omega)]; exact k1
              go_wp2_with fail
              refine (truncate0_ok w _ d _ _ HR9.out.dk (HR9.out.small (by omega) (by omega)) [98] rightA' f1 _ HR9.out.at1 HR9.out.fB HR9.out.nB.1 (by have := HR9.out.nB.2; omega) (by have := HR9.out.oB; omega) (by rw [HR9.out.lB]; omega)).mono ?_
              rintro e w10 ⟨rfl, ρ10, hD10, hT10, _⟩
              have HR10 := hide (HR9.out.cut1 hD10)
              have hr10 := hide (hT10.off HU9.out.lt hr7.out)
              have HU10 := hide (hT10.1.blk HU9.out (fun ⟨r, hr⟩ => by rw [hr7.out] at hr; cases hr))
              have hcu := HU10.out.cell
              have hfu := HU10.out.frozen
              have hlu := HU10.out.lt
              clear hD10 hT10 HR9 HU9
              go_wp2
              go_roundw
              case rel => exact ⟨i + 1, ρ10, _, _, _, u0, 0, by go_num, by omega, by omega, (HR10.out.mono (by omega)).array hr10.out hUw.out 1 _, HU10.out.set 1 _, hr10⟩
              case measure => simp [intOf]; omega
            · have k1 : ¬ (i : Int) % 7 = 6 := by omega
              have k2 : ((i : Int) % 7 == 6) = false := by simp; omega
              have k3 : ((i : Int).tmod 7 == 6) = false := by rw [Int.tmod_eq_emod_of_nonneg (by omega)]; exact k2
              go_wp2
              go_roundw
              case rel => exact ⟨i + 1, _, _, _, _, u0, (u1 + n), by go_num, by omega, by omega, HR9.out.mono (by omega), HU9, hr7⟩
              case measure => simp [intOf]; omega
          · refine (append_full w w5 d ρ s a hE.out HR5.out.dk (HR5.out.small (by omega) (by omega)) [98] rightA' f1 HR5.out.at1 _ (List.replicate n 0) hbr5.out (by rw [HR5.out.quota, HR5.out.used, hll.out]; omega)).mono ?_
            rintro e w7 ⟨rfl, hb7⟩
            have HR7 := hide (HR5.out.then hb7)
            have HU7 := hide (HU5.out.below hb7 HU5.out.lt)
            have hcu7 := HU7.out.cell
            have m1 : decide ((n : Int) ≤ q - u0 - u1) = false := decide_eq_false (by omega)
            have m2 : ¬ (n : Int) ≤ q - u0 - u1 := by omega
            have hsum := HR5.out.sum
            have m3 : ((n : Int) == 0) = false := by simp; omega
            have m4 : ¬ (n : Int) = 0 := by omega
            clear hb7 HR5 HU5 hbr5
            unfold errV
            go_wp2_with fail
            refine (num_err 6 (by decide) w7 a (hE.out.below HR7.out.dk.below)).mono ?_
            rintro e w8 ⟨rfl, hb8⟩
            have HR8 := hide (HR7.out.then hb8)
            have HU8 := hide (HU7.out.below hb8 HU7.out.lt)
            clear hb8 HR7 HU7 hcu7
            go_wp2_with fail
            clear m1 m2 m3 m4
            have hcu := HU8.out.cell
            have hlu := HU8.out.lt
            have hns := ext_some w8
            have hec := ext_cell w8
            have HUs : Hid (∀ u : Ext w8, Calls Tryd.prog 10 #[pv d] u.w fun e w' => e = .returned (.int .i64 ((u0 + u1 : Nat))) ∧ Below u.w.heap.size u.w w') := fun u => by
              have h := used_any w u.w d _ _ (HR8.out.dk.then u.ok) (by rw [HR8.out.used]; have := HR8.out.sum; omega)
              rw [HR8.out.used] at h
              exact h
            unfold pv at HUs
            have hsm := HR8.out.sum
            go_wp2_with fail
            refine wp_region_ext (by kernel_rfl) (by kernel_rfl) ?_
            repeat (go_big_quiet_step (first | (go_at_call 10; exact ext_call (HUs.out _))))
            refine wpQuiet_nil ?_
            rintro w9 ⟨⟨_, hb9⟩, rfl⟩
            have HR9 := hide (HR8.out.then hb9)
            have HU9 := hide (HU8.out.below hb9 HU8.out.lt)
            clear hb9 hcu hlu hns hec HUs
            by_cases h7 : i % 7 = 6
            · have k1 : (i : Int) % 7 = 6 := by omega
              have k2 : (i : Int).tmod 7 = 6 := by rw [Int.tmod_eq_emod_of_nonneg (by omega)]; exact k1
              go_wp2_with fail
              refine (truncate0_ok w _ d _ _ HR9.out.dk (HR9.out.small (by omega) (by omega)) [98] rightA' f1 _ HR9.out.at1 HR9.out.fB HR9.out.nB.1 (by have := HR9.out.nB.2; omega) (by have := HR9.out.oB; omega) (by rw [HR9.out.lB]; omega)).mono ?_
              rintro e w10 ⟨rfl, ρ10, hD10, hT10, _⟩
              have HR10 := hide (HR9.out.cut1 hD10)
              have hr10 := hide (hT10.off HU9.out.lt HrU.out)
              have HU10 := hide (hT10.1.blk HU9.out (fun ⟨r, hr⟩ => by rw [HrU.out] at hr; cases hr))
              have hcu := HU10.out.cell
              have hfu := HU10.out.frozen
              have hlu := HU10.out.lt
              clear hD10 hT10 HR9 HU9
              go_wp2
              go_roundw
              case rel => exact ⟨i + 1, ρ10, _, _, _, u0, 0, by go_num, by omega, by omega, (HR10.out.mono (by omega)).array hr10.out hUw.out 1 _, HU10.out.set 1 _, hr10⟩
              case measure => simp [intOf]; omega
            · have k1 : ¬ (i : Int) % 7 = 6 := by omega
              have k2 : ((i : Int) % 7 == 6) = false := by simp; omega
              have k3 : ((i : Int).tmod 7 == 6) = false := by rw [Int.tmod_eq_emod_of_nonneg (by omega)]; exact k2
              go_wp2
              go_roundw
              case rel => exact ⟨i + 1, _, _, _, _, u0, u1, by go_num, by omega, by omega, HR9.out.mono (by omega), HU9, HrU⟩
              case measure => simp [intOf]; omega
    · obtain rfl : i = zs.length := by omega
      have HB := hide HR.out.dk.below
      go_wp2
      go_ret
      exact ⟨rfl, HB.out⟩
end Go.Proofs.YtpghfaplgkjdkaaDoor
