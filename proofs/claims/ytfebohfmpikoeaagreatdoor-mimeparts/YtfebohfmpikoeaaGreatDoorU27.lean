/- The document's Parse. -/
import Derived.Test.YtfebohfmpikoeaaGreatDoorU21
import Derived.Test.YtfebohfmpikoeaaGreatDoorU22
import Derived.Test.YtfebohfmpikoeaaGreatDoorU26
import Derived.Deep.Cut
set_option linter.unusedSimpArgs false
set_option linter.unusedVariables false
namespace Go.Proofs.YtfebohfmpikoeaaGreatDoor
open Go.RowKit Go.Shelf
theorem psYes1 {d : Nat} {m : List UInt8} {a b : Nat} {w wc w' : World} {v : Value} (hb : Below w.heap.size w wc) (hm : Mvs (fun k => k = w.heap.size) wc w') (hp : PA (d + 1) (fun g => w.heap.size + 1 ≤ g) wc v (parseP d m a b)) : PsOut d m a b w (.returned v) w' := by
  refine ⟨below_mvs hb hm (fun k hk => by omega) (Nat.le_refl _), v, rfl, ?_⟩
  exact (hp.keep hm (fun g hg => by omega)).mono (fun g _ hg => by omega)
theorem map_low_nil (l : List UInt8) : l.map lowB = [] ↔ l = [] := by
  cases l <;> simp
theorem enc_low (v : List UInt8) : (if v.map lowB = [] then t7bit else v.map lowB) = encV v := by
  unfold encV
  cases v <;> simp
theorem Mvs3 (w : World) (R : Nat) (v0 v1 v2 : Value) : Mvs (fun k => k = R) w (((w.setCell ⟨R, 0, none⟩ v0).setCell ⟨R, 1, none⟩ v1).setCell ⟨R, 2, none⟩ v2) := by
  iterate 3 (refine Mvs.setCell ?_ _ _ (fun _ => rfl))
  exact Mvs.refl _ _
theorem base_eq {m : List UInt8} {a b y lns : Nat} {FS : List Fd} {VI VD VX VT TT UU : List UInt8} {PS : List Pm} (h1 : fdsOf (seg m a b) = FS) (h2 : firstV nCI FS = VI) (h3 : firstV nCD FS = VD) (h4 : firstV nCE FS = VX) (h5 : firstV nCT FS = VT) (h6 : (typV VT).1 = TT) (h7 : (typV VT).2.1 = UU) (h8 : (typV VT).2.2 = PS) (h9 : bodyN m a b = y) (h10 : (baseP m a b).lines = (lns : Int)) :
    baseP m a b = { type := TT, sub := UU, params := PS, id := VI, desc := VD, enc := encV VX, at' := (a : Int), body := (y : Int), end' := (b : Int), lines := (lns : Int) } := by
  rw [← h10]
  subst h1 h2 h3 h4 h5 h6 h7 h8 h9
  rfl
theorem bd_or {ps : List Pm} {k : Nat} (hk : k < ps.length) : bdOf (ps.take (k + 1)) = (bdOf (ps.take k)).or (if ps[k].name = tBound then some ps[k].value else none) := by
  unfold bdOf
  rw [List.take_succ_eq_append_getElem hk, List.find?_append]
  cases h : List.find? (fun p => p.name == tBound) (List.take k ps) with
  | none =>
    rw [List.find?_cons]
    by_cases hn : ps[k].name = tBound
    · rw [if_pos hn, beq_iff_eq.2 hn]
      rfl
    · rw [if_neg hn, beq_eq_false_iff_ne.2 hn]
      rfl
  | some x => rfl
theorem bdV_of (ps : List Pm) : bdV ps = ((bdOf ps).getD [], bdOk ((bdOf ps).getD [])) := by
  unfold bdV
  cases bdOf ps <;> rfl
theorem take_100 (KP : List (Nat × Nat)) {j k : Nat} (h : j = min k 100) (hk : k = KP.length) : KP.take j = KP.take 100 := by
  subst hk
  rw [h]
  by_cases hl : KP.length ≤ 100
  · rw [Nat.min_eq_left hl, List.take_length, List.take_of_length_le hl]
  · rw [Nat.min_eq_right (by omega)]
theorem at_100 {KP : List (Nat × Nat)} {k : Nat} (hk : k < KP.length) (h1 : k < 100) : KP[k] ∈ KP.take 100 := by
  have h2 : k < (KP.take 100).length := by rw [List.length_take]; omega
  have h3 : (KP.take 100)[k] = KP[k] := List.getElem_take
  rw [← h3]
  exact List.getElem_mem h2
theorem rt_uni {s : List UInt8} {w w' : World} {e : Ending} (h : RTOut s w e w') : ∃ (T U : List UInt8) (ps : List Pm) (ok : Bool) (A : Option Addr) (c : Nat), e = .returned (.tuple #[.string ⟨T.toArray⟩, .string ⟨U.toArray⟩, .slice A ps.length c, .bool ok]) ∧ RowOf Pm.cs 2 w.heap.size w' (.slice A ps.length c) ps ∧ typV s = if ok = true then (T, U, ps) else (tText, tPlain, []) := by
  unfold RTOut at h
  cases ht : typeO s with
  | none =>
    rw [ht] at h
    exact ⟨[], [], [], false, none, 0, h.2, RowOf.nil _ _ _ _, by rw [typV_none ht]; rfl⟩
  | some x =>
    obtain ⟨t, u, ps⟩ := x
    rw [ht] at h
    obtain ⟨_, v, rfl, hr⟩ := h
    obtain ⟨A, c, rfl⟩ := hr.form
    exact ⟨t, u, ps, true, A, c, rfl, hr, by rw [typV_some ht]; rfl⟩
set_option maxRecDepth 20000 in
set_option maxHeartbeats 4000000 in
theorem rparse_step (m : List UInt8) (hm : m.length ≤ 20000) (d t a b : Nat) (w : World) (hdt : d + t = 32) (hab : a ≤ b) (hbm : b ≤ m.length)
    (IH : ∀ d', d = d' + 1 → ∀ (a b : Nat) (w : World), a ≤ b → b ≤ m.length → Calls Tryz.prog 14 #[.string ⟨m.toArray⟩, .int .i64 (a : Nat), .int .i64 (b : Nat), .int .i64 ((t : Int) + 1)] w (PsOut d' m a b w)) :
    Calls Tryz.prog 14 #[.string ⟨m.toArray⟩, .int .i64 (a : Nat), .int .i64 (b : Nat), .int .i64 (t : Nat)] w (PsOut d m a b w) := by
  have HIH := hide IH
  clear IH
  obtain ⟨i0, hi, hz0, hz1, hz2⟩ := info_three ptInfo
  have hsm := size_lit m
  have eS : (⟨m.toArray⟩ : ByteArray).extract a b = ⟨(seg m a b).toArray⟩ := ext_mid m a b
  have hN := bodyN_le m a b hab hbm
  have hSl : (seg m a b).length ≤ 20000 := by rw [seg_len m a b hbm]; omega
  have HFl := hide (fdsOf_len (seg m a b))
  have HFb := hide (fdsOf_bd (seg m a b))
  have HFs : Hid (fdsOf (seg m a b) = if (hd (splitS (seg m a b)) 0).1.length ≤ 200 then (hd (splitS (seg m a b)) 0).1 else []) := rfl
  have hFc : (hd (splitS (seg m a b)) 0).1.length ≤ 20000 := Nat.le_trans (hd_count _ _ _ (Nat.le_refl _)) (Nat.le_trans (splitS_len _) hSl)
  have HH := hide (fun W => rheader_any (seg m a b) W hSl)
  have HBP : Hid (baseP m a b = baseP m a b) := rfl
  obtain ⟨B0, hB0⟩ : ∃ B0, (hd (splitS (seg m a b)) 0).2 = B0 := ⟨_, rfl⟩
  rw [hB0] at HH
  obtain ⟨y, hy⟩ : ∃ y, bodyN m a b = y := ⟨_, rfl⟩
  have hyB : (a : Int) + (B0 : Int) = (y : Int) := by
    rw [← hy, ← hB0, hd_body]
    unfold bodyN
    omega
  have HY := hide hy
  rw [hy] at hN
  obtain ⟨FS, hFS⟩ : ∃ FS, fdsOf (seg m a b) = FS := ⟨_, rfl⟩
  have HFS := hide hFS
  rw [hFS] at HFl HFb HFs
  obtain ⟨FA0, hFA0⟩ : ∃ FA0, (hd (splitS (seg m a b)) 0).1 = FA0 := ⟨_, rfl⟩
  rw [hFA0] at HFs HH hFc
  have HSl := hide hSl
  obtain ⟨S, hS⟩ : ∃ S, seg m a b = S := ⟨_, rfl⟩
  rw [hS] at eS HH HFb HSl
  clear hB0 hy hFS hFA0 hS hSl
  have HZ0 := hide (Blk.new w #[.string ⟨#[]⟩, .string ⟨#[]⟩, .slice none 0 0, .string ⟨#[]⟩, .string ⟨#[]⟩, .string ⟨#[]⟩, .int .i64 0, .int .i64 0, .int .i64 0, .int .i64 0, .slice none 0 0] 36)
  have HA0 := hide ((Below.refl w.heap.size w).alloc (Nat.le_refl _) (.cells #[.string ⟨#[]⟩, .string ⟨#[]⟩, .slice none 0 0, .string ⟨#[]⟩, .string ⟨#[]⟩, .string ⟨#[]⟩, .int .i64 0, .int .i64 0, .int .i64 0, .int .i64 0, .slice none 0 0] 36))
  have hael : (a : Int) ≤ b := by omega
  have hbml : (b : Int) ≤ m.length := by omega
  have hybl : (y : Int) ≤ b := by omega
  go_enter Tryz.func14, Tryz.ntmps14
  go_wp2_with fail
  refine (HH.out _).mono ?_
  rintro e w1 ⟨hb1, v1, rfl, hf1⟩
  have hz : (w.alloc (.cells #[.string ⟨#[]⟩, .string ⟨#[]⟩, .slice none 0 0, .string ⟨#[]⟩, .string ⟨#[]⟩, .string ⟨#[]⟩, .int .i64 0, .int .i64 0, .int .i64 0, .int .i64 0, .slice none 0 0] 36)).heap.size = w.heap.size + 1 := World.size_alloc _ _
  have HZ1 := hide (HZ0.out.below hb1 HZ0.out.lt)
  have HB1 := hide (HA0.out.trans (hb1.mono HA0.out.size))
  have hs1 : w.heap.size + 1 ≤ w1.heap.size := by have := hb1.size; omega
  obtain ⟨A1, c1, rfl⟩ := hf1.form
  have HFf := hide hf1.fa
  obtain ⟨n1, hn1⟩ : ∃ n1, FA0.length = n1 := ⟨_, rfl⟩
  rw [hn1] at HFs HFf hFc ⊢
  clear hb1 hf1 hz HZ0 HA0 HH
  go_upto_if 32 with fail
  go_cut [9] from 30 (fun v9 wq => w1 = wq ∧ Hid (FA w1 v9 (FS.map Fd.fi)))
  case first =>
    by_cases h200 : n1 ≤ 200
    · have h2' : ¬ ((n1 : Int) > 200) := by omega
      have HFF : Hid (FA w1 (.slice A1 n1 c1) (FS.map Fd.fi)) := by
        rw [HFs.out, if_pos h200]
        exact HFf.out
      clear hn1
      go_wp2
      go_meet
      case rel => exact ⟨rfl, HFF⟩
    · have h2' : ((n1 : Int) > 200) := by omega
      have HFF : Hid (FA w1 (.slice none 0 0) (FS.map Fd.fi)) := by
        rw [HFs.out, if_neg h200]
        exact FA.nil0 _
      clear hn1
      go_wp2
      go_meet
      case rel => exact ⟨rfl, HFF⟩
  case rest =>
    obtain ⟨rfl, HFA⟩ := hcut
    clear HFs HFf hFc hn1
    obtain ⟨A9, c9, rfl, hJ⟩ := HFA.out
    clear hJ
    have hFl2 : (FS.map Fd.fi).length ≤ 200 := by rw [List.length_map]; exact HFl.out
    have HGet : Hid (∀ (n : List UInt8) W, n.length ≤ 100 → Below w1.heap.size w1 W → Calls Tryz.prog 37 #[.slice A9 (FS.map Fd.fi).length c9, .string ⟨n.toArray⟩] W fun e w' => e = .returned (.string ⟨((valsOf n (FS.map Fd.fi)).head?.getD []).toArray⟩) ∧ Below W.heap.size W w') := fun n W hn hW =>
      rfirst_any n _ _ W (HFA.out.below hW) (by omega) (by omega) (fun x hx => by
        obtain ⟨f, hf, rfl⟩ := List.mem_map.1 hx
        have := (HFb.out f hf).1
        have := HSl.out
        show f.name.length ≤ _
        omega)
    have HV : Hid (∀ n : List UInt8, ((valsOf n (FS.map Fd.fi)).head?.getD []).length ≤ 20000) := fun n => by
      have h1 := firstV_len (n := n) (fs := FS) (K := S.length) (fun x hx => (HFb.out x hx).2)
      have h2 := HSl.out
      have h3 : firstV n FS = (valsOf n (FS.map Fd.fi)).head?.getD [] := rfl
      rw [← h3]
      omega
    have HeI : Hid (firstV nCI FS = (valsOf [99, 111, 110, 116, 101, 110, 116, 45, 105, 100] (FS.map Fd.fi)).head?.getD []) := by
      show _ = _
      unfold firstV
      rw [vals_same (show nCI.map lowB = [99, 111, 110, 116, 101, 110, 116, 45, 105, 100].map lowB by decide)]
    have HeD : Hid (firstV nCD FS = (valsOf [99, 111, 110, 116, 101, 110, 116, 45, 100, 101, 115, 99, 114, 105, 112, 116, 105, 111, 110] (FS.map Fd.fi)).head?.getD []) := by
      show _ = _
      unfold firstV
      rw [vals_same (show nCD.map lowB = [99, 111, 110, 116, 101, 110, 116, 45, 100, 101, 115, 99, 114, 105, 112, 116, 105, 111, 110].map lowB by decide)]
    have HeE : Hid (firstV nCE FS = (valsOf [99, 111, 110, 116, 101, 110, 116, 45, 116, 114, 97, 110, 115, 102, 101, 114, 45, 101, 110, 99, 111, 100, 105, 110, 103] (FS.map Fd.fi)).head?.getD []) := by
      show _ = _
      unfold firstV
      rw [vals_same (show nCE.map lowB = [99, 111, 110, 116, 101, 110, 116, 45, 116, 114, 97, 110, 115, 102, 101, 114, 45, 101, 110, 99, 111, 100, 105, 110, 103].map lowB by decide)]
    have HeT : Hid (firstV nCT FS = (valsOf [99, 111, 110, 116, 101, 110, 116, 45, 116, 121, 112, 101] (FS.map Fd.fi)).head?.getD []) := by
      show _ = _
      unfold firstV
      rw [vals_same (show nCT.map lowB = [99, 111, 110, 116, 101, 110, 116, 45, 116, 121, 112, 101].map lowB by decide)]
    have HG1 := hide (fun W => HGet.out [99, 111, 110, 116, 101, 110, 116, 45, 105, 100] W (by decide))
    have HG2 := hide (fun W => HGet.out [99, 111, 110, 116, 101, 110, 116, 45, 100, 101, 115, 99, 114, 105, 112, 116, 105, 111, 110] W (by decide))
    have HG3 := hide (fun W => HGet.out [99, 111, 110, 116, 101, 110, 116, 45, 116, 114, 97, 110, 115, 102, 101, 114, 45, 101, 110, 99, 111, 100, 105, 110, 103] W (by decide))
    have HG4 := hide (fun W => HGet.out [99, 111, 110, 116, 101, 110, 116, 45, 116, 121, 112, 101] W (by decide))
    have hlE := HV.out [99, 111, 110, 116, 101, 110, 116, 45, 116, 114, 97, 110, 115, 102, 101, 114, 45, 101, 110, 99, 111, 100, 105, 110, 103]
    have hlT := HV.out [99, 111, 110, 116, 101, 110, 116, 45, 116, 121, 112, 101]
    clear HGet HV
    generalize (valsOf [99, 111, 110, 116, 101, 110, 116, 45, 105, 100] (FS.map Fd.fi)).head?.getD [] = VI at *
    generalize (valsOf [99, 111, 110, 116, 101, 110, 116, 45, 100, 101, 115, 99, 114, 105, 112, 116, 105, 111, 110] (FS.map Fd.fi)).head?.getD [] = VD at *
    generalize (valsOf [99, 111, 110, 116, 101, 110, 116, 45, 116, 114, 97, 110, 115, 102, 101, 114, 45, 101, 110, 99, 111, 100, 105, 110, 103] (FS.map Fd.fi)).head?.getD [] = VX at *
    generalize (valsOf [99, 111, 110, 116, 101, 110, 116, 45, 116, 121, 112, 101] (FS.map Fd.fi)).head?.getD [] = VT at *
    generalize (FS.map Fd.fi).length = n9 at *
    have HSm := hide (fun W => rsmall_any VX W (by omega))
    have HEn := hide (enc_low VX)
    generalize VX.map lowB = VL at *
    go_wp2_with fail
    refine (HG1.out _ (Below.refl _ _)).mono ?_
    rintro e w2 ⟨rfl, hb2⟩
    have HC2 := hide hb2
    clear hb2 HG1
    go_wp2_with fail
    refine (HG2.out _ HC2.out).mono ?_
    rintro e w3 ⟨rfl, hb3⟩
    have HC3 := hide (HC2.out.trans (hb3.mono HC2.out.size))
    clear hb3 HG2 HC2
    go_wp2_with fail
    refine (HG3.out _ HC3.out).mono ?_
    rintro e w4 ⟨rfl, hb4⟩
    have HC4 := hide (HC3.out.trans (hb4.mono HC3.out.size))
    clear hb4 HG3 HC3
    go_wp2_with fail
    refine (HSm.out _).mono ?_
    rintro e w5 ⟨rfl, hb5⟩
    have HC5 := hide (HC4.out.trans (hb5.mono HC4.out.size))
    clear hb5 HSm HC4
    have HB5 := hide (HB1.out.trans (HC5.out.mono HB1.out.size))
    have HZ5 := hide (HZ1.out.below HC5.out HZ1.out.lt)
    have hs5 : w1.heap.size ≤ w5.heap.size := HC5.out.size
    have HP6 := hide (Blk.new w5 #[.string ⟨#[116, 101, 120, 116]⟩, .string ⟨#[112, 108, 97, 105, 110]⟩, .slice none 0 0, .string ⟨VI.toArray⟩, .string ⟨VD.toArray⟩, .string ⟨VL.toArray⟩, .int .i64 (a : Nat), .int .i64 (y : Nat), .int .i64 (b : Nat), .int .i64 0, .slice none 0 0] 36)
    have hl6 := HP6.out.lt
    go_upto_if 48 with fail
    obtain ⟨W6, hW6⟩ : ∃ W6, w5.alloc (.cells #[.string ⟨#[116, 101, 120, 116]⟩, .string ⟨#[112, 108, 97, 105, 110]⟩, .slice none 0 0, .string ⟨VI.toArray⟩, .string ⟨VD.toArray⟩, .string ⟨VL.toArray⟩, .int .i64 (a : Nat), .int .i64 (y : Nat), .int .i64 (b : Nat), .int .i64 0, .slice none 0 0] 36) = W6 := ⟨_, rfl⟩
    have HA6 : Hid (Below w5.heap.size w5 W6) := by
      rw [← hW6]
      exact (Below.refl _ _).alloc (Nat.le_refl _) _
    rw [hW6] at HP6 hl6 ⊢
    have hc6 := HP6.out.cell
    have hf6 := HP6.out.frozen
    clear hW6
    go_cut [9] from 46 (fun v9 wq => v9 = .slice A9 n9 c9 ∧ Hid (Blk wq w5.heap.size #[.string ⟨#[116, 101, 120, 116]⟩, .string ⟨#[112, 108, 97, 105, 110]⟩, .slice none 0 0, .string ⟨VI.toArray⟩, .string ⟨VD.toArray⟩, .string ⟨(encV VX).toArray⟩, .int .i64 (a : Nat), .int .i64 (y : Nat), .int .i64 (b : Nat), .int .i64 0, .slice none 0 0] 36) ∧ Hid (Mvs (fun k => k = w5.heap.size) W6 wq))
    case first =>
      by_cases hv : VL = []
      · subst hv
        have HE2 : Hid (encV VX = [55, 98, 105, 116]) := HEn.out.symm
        go_wp2
        go_meet
        case rel =>
          rw [HE2.out]
          exact ⟨rfl, HP6.out.set 5 _, (Mvs.refl _ _).setCell _ _ (fun _ => rfl)⟩
      · have hv' : VL.isEmpty = false := by
          cases VL with
          | nil => exact absurd rfl hv
          | cons _ _ => rfl
        have HE2 : Hid (encV VX = VL) := by
          show _ = _
          rw [← HEn.out, if_neg hv]
        clear hv
        rw [hv']
        go_wp2
        go_meet
        case rel =>
          rw [HE2.out]
          exact ⟨rfl, HP6.out, Mvs.refl _ _⟩
    case rest =>
      obtain ⟨rfl, HP7, HM7⟩ := hcut
      clear HEn HP6 hc6 hf6 hl6
      have hW7 : ∃ W7, W7 = wc := ⟨_, rfl⟩
      obtain ⟨W7, rfl⟩ := hW7
      have hs6 := HA6.out.size
      have hs7 := HM7.out.size
      have hlP7 := HP7.out.lt
      have HC7 : Hid (Below w1.heap.size w1 W7) := HC5.out.trans ((HA6.out.mono hs5).trans (HM7.out.below (B := w1.heap.size) (fun k hk => by omega) (by omega)))
      have HB7 : Hid (Below w.heap.size w W7) := HB1.out.trans (HC7.out.mono HB1.out.size)
      have HZ7 := hide (HZ1.out.below HC7.out HZ1.out.lt)
      have eY : (⟨m.toArray⟩ : ByteArray).extract y b = ⟨(seg m y b).toArray⟩ := ext_mid m y b
      have hYl : (seg m y b).length ≤ 20000 := by rw [seg_len m y b hbm]; omega
      have HSp := hide (fun W => rsplit_any (seg m y b) W hYl)
      have hLl : (splitS (seg m y b)).length ≤ 20000 := Nat.le_trans (splitS_len _) hYl
      have HLn : Hid ((baseP m a b).lines = ((splitS (seg m y b)).length : Int)) := by
        show _ = _
        rw [← HY.out]
        rfl
      obtain ⟨LL, hLL⟩ : ∃ LL, splitS (seg m y b) = LL := ⟨_, rfl⟩
      have HLL := hide hLL
      rw [hLL] at HSp hLl HLn
      obtain ⟨YS, hYS⟩ : ∃ YS, seg m y b = YS := ⟨_, rfl⟩
      have HYS := hide hYS
      rw [hYS] at eY HSp
      obtain ⟨lns, hlns⟩ : ∃ lns, LL.length = lns := ⟨_, rfl⟩
      have HLs := hide hlns
      rw [hlns] at hLl HLn
      have hc7 := HP7.out.cell
      clear hYS hLL hYl HA6 HM7 HC5 HB5 HZ5
      go_wp2_with fail
      refine (HSp.out _).mono ?_
      rintro e w8 ⟨v8, rfl, hT8⟩
      have hb8 := hT8.1
      obtain ⟨A8, c8, rfl⟩ : ∃ A c, v8 = .slice A lns c := by
        obtain ⟨_, G, hr, _⟩ := hT8
        obtain ⟨A, c, h⟩ := hr.form
        exact ⟨A, c, by rw [← hlns]; exact h⟩
      have HP8 := hide (HP7.out.below hb8 HP7.out.lt)
      have HC8 := hide (HC7.out.trans (hb8.mono HC7.out.size))
      have hc8 := HP8.out.cell
      have hf8 := HP8.out.frozen
      have hl8 := HP8.out.lt
      have hs8 := hb8.size
      clear hT8 hb8 HSp hc7 HP7 HC7 hlns
      have HP9 := hide (HP8.out.set 9 (.int .i64 (lns : Nat)))
      have HC9 := hide (HC8.out.setCell (p := ⟨w5.heap.size, 9, none⟩) (by dsimp only; omega) (.int .i64 (lns : Nat)))
      have hs9 : (w8.setCell ⟨w5.heap.size, 9, none⟩ (.int .i64 (lns : Nat))).heap.size = w8.heap.size := by simp [World.setCell]
      go_wp2_with fail
      refine (HG4.out _ HC9.out).mono ?_
      rintro e w9 ⟨rfl, hb9⟩
      have HP10 := hide (HP9.out.below hb9 HP9.out.lt)
      have HC10 := hide (HC9.out.trans (hb9.mono HC9.out.size))
      have hs10 := hb9.size
      rw [hs9] at hs10
      have HTy := hide (rtype_any VT w9 (by omega))
      clear hb9 HG4 HP8 HC8 hc8 hf8 hl8 HP9 HC9 hs9
      go_wp2_with fail
      refine HTy.out.mono ?_
      intro e w10 hro
      obtain ⟨T1, U1, ps1, ok, A10, c10, rfl, hrow, htv⟩ := rt_uni hro
      have hb10 := hro.1
      have HP11 := hide (HP10.out.below hb10 HP10.out.lt)
      have HC11 := hide (HC10.out.trans (hb10.mono HC10.out.size))
      have HRd := hide ((hrow.readS pm_len).mono (S' := fun g => w.heap.size + 1 ≤ g ∧ g ≠ w5.heap.size) (fun g _ hg => ⟨by omega, by omega⟩))
      have HTV := hide htv
      have hs11 := hb10.size
      have hc11 := HP11.out.cell
      have hf11 := HP11.out.frozen
      have hl11 := HP11.out.lt
      obtain ⟨np1, hnp1⟩ : ∃ np1, ps1.length = np1 := ⟨_, rfl⟩
      rw [hnp1] at HRd ⊢
      have HNp := hide hnp1
      obtain ⟨TT, hTT⟩ : ∃ TT, (typV VT).1 = TT := ⟨_, rfl⟩
      obtain ⟨UU, hUU⟩ : ∃ UU, (typV VT).2.1 = UU := ⟨_, rfl⟩
      obtain ⟨PS, hPS⟩ : ∃ PS, (typV VT).2.2 = PS := ⟨_, rfl⟩
      have HTT := hide hTT
      have HUU := hide hUU
      have HPS := hide hPS
      clear hTT hUU hPS hro hrow htv hb10 hnp1 HTy HP10 HC10
      go_upto_if 66 with fail
      go_cut [9] from 66 (fun v9 wq => v9 = .slice A9 n9 c9 ∧ ∃ (Ap : Option Addr) (cp : Nat), Hid (Blk wq w5.heap.size #[.string ⟨TT.toArray⟩, .string ⟨UU.toArray⟩, .slice Ap PS.length cp, .string ⟨VI.toArray⟩, .string ⟨VD.toArray⟩, .string ⟨(encV VX).toArray⟩, .int .i64 (a : Nat), .int .i64 (y : Nat), .int .i64 (b : Nat), .int .i64 (lns : Nat), .slice none 0 0] 36) ∧ Hid (ReadS (fun g => w.heap.size + 1 ≤ g ∧ g ≠ w5.heap.size) Pm.cs 2 wq (.slice Ap PS.length cp) PS) ∧ Hid (Mvs (fun k => k = w5.heap.size) w10 wq))
      case first =>
        cases ok with
        | true =>
          have h1 := HTV.out
          rw [if_pos rfl] at h1
          have HE : Hid (TT = T1 ∧ UU = U1 ∧ PS = ps1) := by
            rw [← HTT.out, ← HUU.out, ← HPS.out, h1]
            exact ⟨rfl, rfl, rfl⟩
          clear h1
          go_wp2
          go_meet
          case rel =>
            obtain ⟨rfl, rfl, rfl⟩ := HE.out
            refine ⟨rfl, A10, c10, ?_, ?_, ?_⟩
            · rw [HNp.out]
              exact ((HP11.out.set 0 _).set 1 _).set 2 _
            · rw [HNp.out]
              exact HRd.out.keep (Mvs3 _ _ _ _ _) (fun g hg => hg.2)
            · exact Mvs3 _ _ _ _ _
        | false =>
          have h1 := HTV.out
          rw [if_neg (by simp)] at h1
          have HE : Hid (TT = tText ∧ UU = tPlain ∧ PS = []) := by
            rw [← HTT.out, ← HUU.out, ← HPS.out, h1]
            exact ⟨rfl, rfl, rfl⟩
          clear h1
          go_wp2
          go_meet
          case rel =>
            obtain ⟨rfl, rfl, rfl⟩ := HE.out
            exact ⟨rfl, none, 0, HP11.out, ReadS.nil _ _ _ _, Mvs.refl _ _⟩
      case rest =>
        obtain ⟨rfl, Ap, cq, HP12, HPr, HM12⟩ := hcut
        have hW12 : ∃ W12, W12 = wc := ⟨_, rfl⟩
        obtain ⟨W12, rfl⟩ := hW12
        have hs12 := HM12.out.size
        have hlP := HP12.out.lt
        have HC12 : Hid (Below w1.heap.size w1 W12) := HC11.out.trans (HM12.out.below (B := w1.heap.size) (fun k hk => by omega) (by have := HC11.out.size; omega))
        have HB12 : Hid (Below w.heap.size w W12) := HB1.out.trans (HC12.out.mono HB1.out.size)
        have HZ12 := hide (HZ1.out.below HC12.out HZ1.out.lt)
        have hbase := base_eq HFS.out HeI.out HeD.out HeE.out HeT.out HTT.out HUU.out HPS.out HY.out HLn.out
        have hPb := params_bd (a := a) (show m.length ≤ 1000000 by omega) hbm
        clear HFS HeI HeD HeE HeT HUU HPS HLn HTV HNp HRd hc11 hf11 hl11 HP11 HC11 HZ1 HZ7 HB7 HM12 HFA HFl HFb HSl
        generalize encV VX = VE at *
        obtain ⟨H0, hH0⟩ : ∃ H0, baseP m a b = H0 := ⟨_, rfl⟩
        have HH0 := hide hH0
        rw [hH0] at hbase hPb
        have HPar : Hid (H0.params = PS) := by rw [hbase]; exact rfl
        have HTyp : Hid (H0.type = TT) := by rw [hbase]; exact rfl
        rw [HPar.out] at hPb
        obtain ⟨np, hnp⟩ : ∃ np, PS.length = np := ⟨_, rfl⟩
        have HNP := hide hnp
        have HPA : Hid (∀ vk, phA H0 (.slice Ap np cq) vk = #[.string ⟨TT.toArray⟩, .string ⟨UU.toArray⟩, .slice Ap np cq, .string ⟨VI.toArray⟩, .string ⟨VD.toArray⟩, .string ⟨VE.toArray⟩, .int .i64 (a : Nat), .int .i64 (y : Nat), .int .i64 (b : Nat), .int .i64 (lns : Nat), vk]) := fun vk => by rw [hbase]; rfl
        have HPO : Hid (∀ vk, phA (octP H0) (.slice none 0 0) vk = #[.string ⟨[97, 112, 112, 108, 105, 99, 97, 116, 105, 111, 110].toArray⟩, .string ⟨[111, 99, 116, 101, 116, 45, 115, 116, 114, 101, 97, 109].toArray⟩, .slice none 0 0, .string ⟨VI.toArray⟩, .string ⟨VD.toArray⟩, .string ⟨VE.toArray⟩, .int .i64 (a : Nat), .int .i64 (y : Nat), .int .i64 (b : Nat), .int .i64 (lns : Nat), vk]) := fun vk => by rw [hbase]; rfl
        have HPrH : Hid (ReadS (fun g => w.heap.size + 1 ≤ g ∧ g ≠ w5.heap.size) Pm.cs 2 W12 (.slice Ap PS.length cq) H0.params) := by
          show ReadS _ _ _ _ _ _
          rw [HPar.out]
          exact HPr.out
        rw [hnp] at HP12 HPr HPrH hPb
        clear hH0 hbase hnp
        by_cases hmu : ¬ TT = tMulti
        · have hmu' : (TT == tMulti) = false := beq_eq_false_iff_ne.2 hmu
          unfold tMulti at hmu'
          have HV : Hid (parseP d m a b = .mk H0 []) := by
            show _ = _
            rw [parse_leaf (by rw [HH0.out, HTyp.out]; exact hmu), HH0.out]
          have HRes := HZ12
          have hcP := HP12.out.cell
          have hcR := HRes.out.cell
          have hfR := HRes.out.frozen
          have hlR := HRes.out.lt
          clear hmu
          go_wp2
          have h9 := (((((((((((HRes.out.set 0 (.string ⟨TT.toArray⟩)).set 1 (.string ⟨UU.toArray⟩)).set 2 (.slice Ap np cq)).set 3 (.string ⟨VI.toArray⟩)).set 4 (.string ⟨VD.toArray⟩)).set 5 (.string ⟨VE.toArray⟩)).set 6 (.int .i64 (a : Nat))).set 7 (.int .i64 (y : Nat))).set 8 (.int .i64 (b : Nat))).set 9 (.int .i64 (lns : Nat))).set 10 (.slice none 0 0)).cell
          refine bodyPost_ret (v := .agg #[.string ⟨TT.toArray⟩, .string ⟨UU.toArray⟩, .slice Ap np cq, .string ⟨VI.toArray⟩, .string ⟨VD.toArray⟩, .string ⟨VE.toArray⟩, .int .i64 (a : Nat), .int .i64 (y : Nat), .int .i64 (b : Nat), .int .i64 (lns : Nat), .slice none 0 0]) (by simp [results, Tryz.results14, go_sem, h9]) rfl ?_
          refine psYes1 (w := w) (wc := W12) HB12.out (Mvs11 _ _ _ _ _ _ _ _ _ _ _ _ _) ?_
          rw [HV.out, ← HPA.out]
          exact PA.leaf (HPrH.out.mono (fun g _ hg => hg.1)) _
        have hmu2 : TT = [109, 117, 108, 116, 105, 112, 97, 114, 116] := Classical.not_not.1 hmu
        clear hmu
        subst hmu2
        have HVn : Hid ((bdV PS).2 = false → placesOf m a b = []) := fun h => places_no (by rw [HH0.out, HPar.out]; exact h)
        have HVy : Hid (∀ bd, bdV PS = (bd, true) → placesOf m a b = (kidsP m bd b (splitS (seg m y b)) y none).take 100) := fun bd h => by
          rw [← HY.out]
          exact places_bd (by rw [HH0.out, HPar.out]; exact h)
        have HPP := hide (parse_multi d (show baseP m a b = H0 from HH0.out) (show H0.type = tMulti from HTyp.out))
        have HBO := hide (bdV_of PS)
        have hcB := HP12.out.cell
        have HPr2 := hide HPr.out.reads
        have hnpl := hPb.1
        have HPbv := hide hPb.2
        clear hPb
        go_wp2
        clear hcB
        go_loopw [80, 16, 17] (fun v80 v16 v17 wx => ∃ (k : Nat), v80 = .int .i64 k ∧ k ≤ np ∧ v16 = .string ⟨((bdOf (PS.take k)).getD []).toArray⟩ ∧ v17 = .bool (bdOf (PS.take k)).isSome ∧ Hid (Below W12.heap.size W12 wx)) (fun v80 _ _ _ => np - (intOf v80).toNat)
        case atStart => exact ⟨0, rfl, Nat.zero_le _, rfl, rfl, Below.refl _ _⟩
        case round =>
          obtain ⟨k, rfl, hk, rfl, rfl, HBx⟩ := hrel
          by_cases hlt : k < np
          · have hlt' : (k : Int) < np := by omega
            have hlp : k < PS.length := by rw [HNP.out]; exact hlt
            have HO := hide (bd_or hlp)
            obtain ⟨A7, c7, hv7, hr7⟩ := HPr2.out
            obtain ⟨g, o, hA, hgl, hq⟩ := hr7 k hlp
            obtain ⟨rfl, rfl⟩ : Ap = A7 ∧ cq = c7 := by
              injection hv7 with h1 h2 h3
              exact ⟨h1, h3⟩
            subst hA
            have q0 := (HBx.out.cell (p := ⟨g, o + k * 2, none⟩) hgl).trans (hq 0 (by omega))
            have q1 := (HBx.out.cell (p := ⟨g, o + k * 2 + 1, none⟩) hgl).trans (hq 1 (by omega))
            generalize PS[k] = p at *
            obtain ⟨pn, pv⟩ := p
            simp only [Pm.cs, List.getElem?_cons_zero, List.getElem?_cons_succ] at q0 q1
            dsimp only at HO
            have HB2 := hide (HBx.out.alloc HBx.out.size (.cells #[.string ⟨pn.toArray⟩, .string ⟨pv.toArray⟩] 32))
            clear hq hv7 hr7
            obtain ⟨bo, hbo⟩ : ∃ bo, bdOf (PS.take k) = bo := ⟨_, rfl⟩
            rw [hbo] at HO ⊢
            clear hbo
            by_cases hn : pn = tBound
            · rw [if_pos hn] at HO
              subst hn
              unfold tBound at *
              cases bo with
              | none =>
                go_wp2
                go_roundw
                case rel => exact ⟨k + 1, by go_num, by omega, by rw [HO.out]; rfl, by rw [HO.out]; rfl, HB2⟩
                case measure => simp [intOf]; omega
              | some x =>
                go_wp2
                go_roundw
                case rel => exact ⟨k + 1, by go_num, by omega, by rw [HO.out]; rfl, by rw [HO.out]; rfl, HB2⟩
                case measure => simp [intOf]; omega
            · rw [if_neg hn, Option.or_none] at HO
              have hn' : (pn == tBound) = false := beq_eq_false_iff_ne.2 hn
              unfold tBound at hn'
              clear hn
              go_wp2
              go_roundw
              case rel => exact ⟨k + 1, by go_num, by omega, by rw [HO.out], by rw [HO.out], HB2⟩
              case measure => simp [intOf]; omega
          · obtain rfl : np = k := by omega
            rw [List.take_of_length_le (by rw [HNP.out]; exact Nat.le_refl _)]
            have HP3 := hide (HP12.out.below HBx.out HP12.out.lt)
            have HR3 := hide (HZ12.out.below HBx.out HZ12.out.lt)
            have HB3 := hide (HB12.out.trans (HBx.out.mono HB12.out.size))
            have HPr3 := hide (HPrH.out.keep (T := fun _ => False) (Mvs.of_below HBx.out) (fun _ _ c => c))
            have hs3 : W12.heap.size ≤ wr.heap.size := HBx.out.size
            obtain ⟨bd, hbd⟩ : ∃ bd, (bdOf PS).getD [] = bd := ⟨_, rfl⟩
            have HSi : Hid (bd.length ≤ 1000000) := by
              show _ ≤ _
              rw [← hbd]
              cases hbb : bdOf PS with
              | none => simp
              | some x =>
                unfold bdOf at hbb
                cases hf : List.find? (fun p => p.name == tBound) PS with
                | none =>
                  rw [hf] at hbb
                  cases hbb
                | some z =>
                  rw [hf] at hbb
                  cases hbb
                  exact HPbv.out z (List.mem_of_find?_eq_some hf)
            rw [hbd] at HBO ⊢
            have hsb := size_lit bd
            have hbl6 := HSi.out
            rw [HBO.out] at HVn HVy
            dsimp only at HVn
            clear hbd HBO HP12 HZ12 HB12 HPr HPrH HPr2 HBx HPbv
            generalize (bdOf PS).isSome = ff at *
            have hlP3 := HP3.out.lt
            by_cases h1 : 1 ≤ bd.length
            · have a1 : (bd.length : Int) ≥ 1 := by omega
              by_cases h70 : bd.length ≤ 70
              · have a2 : (bd.length : Int) ≤ 70 := by omega
                have hok : bdOk bd = true := by
                  unfold bdOk
                  rw [decide_eq_true h1, decide_eq_true h70]
                  rfl
                rw [hok] at HVy
                have hpl := HVy.out bd rfl
                cases d with
                | zero =>
                  have ht32 : ¬ ((t : Int) < 32) := by omega
                  have HV : Hid (parseP 0 m a b = .mk (octP H0) []) := HPP.out.trans rfl
                  clear hpl
                  have hcP := HP3.out.cell
                  have hfP := HP3.out.frozen
                  have hlP := HP3.out.lt
                  have HRes := hide (((HR3.out.set_other ⟨w5.heap.size, 0, none⟩ (.string ⟨[97, 112, 112, 108, 105, 99, 97, 116, 105, 111, 110].toArray⟩) (by dsimp only; omega)).set_other ⟨w5.heap.size, 1, none⟩ (.string ⟨[111, 99, 116, 101, 116, 45, 115, 116, 114, 101, 97, 109].toArray⟩) (by dsimp only; omega)).set_other ⟨w5.heap.size, 2, none⟩ (.slice none 0 0) (by dsimp only; omega))
                  have HPd := hide (((HP3.out.set 0 (.string ⟨[97, 112, 112, 108, 105, 99, 97, 116, 105, 111, 110].toArray⟩)).set 1 (.string ⟨[111, 99, 116, 101, 116, 45, 115, 116, 114, 101, 97, 109].toArray⟩)).set 2 (.slice none 0 0))
                  have hcR := HRes.out.cell
                  have hfR := HRes.out.frozen
                  have hlR := HRes.out.lt
                  have hcQ := HPd.out.cell
                  have HBd := hide ((((HB3.out.setCell (p := ⟨w5.heap.size, 0, none⟩) (by dsimp only; omega) (.string ⟨[97, 112, 112, 108, 105, 99, 97, 116, 105, 111, 110].toArray⟩)).setCell (p := ⟨w5.heap.size, 1, none⟩) (by dsimp only; omega) (.string ⟨[111, 99, 116, 101, 116, 45, 115, 116, 114, 101, 97, 109].toArray⟩)).setCell (p := ⟨w5.heap.size, 2, none⟩) (by dsimp only; omega) (.slice none 0 0)))
                  go_wp2
                  have h9 := (((((((((((HRes.out.set 0 (.string ⟨[97, 112, 112, 108, 105, 99, 97, 116, 105, 111, 110].toArray⟩)).set 1 (.string ⟨[111, 99, 116, 101, 116, 45, 115, 116, 114, 101, 97, 109].toArray⟩)).set 2 (.slice none 0 0)).set 3 (.string ⟨VI.toArray⟩)).set 4 (.string ⟨VD.toArray⟩)).set 5 (.string ⟨VE.toArray⟩)).set 6 (.int .i64 (a : Nat))).set 7 (.int .i64 (y : Nat))).set 8 (.int .i64 (b : Nat))).set 9 (.int .i64 (lns : Nat))).set 10 (.slice none 0 0)).cell
                  refine bodyPost_ret (v := .agg #[.string ⟨[97, 112, 112, 108, 105, 99, 97, 116, 105, 111, 110].toArray⟩, .string ⟨[111, 99, 116, 101, 116, 45, 115, 116, 114, 101, 97, 109].toArray⟩, .slice none 0 0, .string ⟨VI.toArray⟩, .string ⟨VD.toArray⟩, .string ⟨VE.toArray⟩, .int .i64 (a : Nat), .int .i64 (y : Nat), .int .i64 (b : Nat), .int .i64 (lns : Nat), .slice none 0 0]) (by simp [results, Tryz.results14, go_sem, h9]) rfl ?_
                  refine psYes1 (w := w) (wc := (((wr.setCell ⟨w5.heap.size, 0, none⟩ (.string ⟨[97, 112, 112, 108, 105, 99, 97, 116, 105, 111, 110].toArray⟩)).setCell ⟨w5.heap.size, 1, none⟩ (.string ⟨[111, 99, 116, 101, 116, 45, 115, 116, 114, 101, 97, 109].toArray⟩)).setCell ⟨w5.heap.size, 2, none⟩ (.slice none 0 0))) HBd.out (Mvs11 _ _ _ _ _ _ _ _ _ _ _ _ _) ?_
                  rw [HV.out]
                  have h8 := PA.leaf0 (S := fun g => w.heap.size + 1 ≤ g) (w := (((wr.setCell ⟨w5.heap.size, 0, none⟩ (.string ⟨[97, 112, 112, 108, 105, 99, 97, 116, 105, 111, 110].toArray⟩)).setCell ⟨w5.heap.size, 1, none⟩ (.string ⟨[111, 99, 116, 101, 116, 45, 115, 116, 114, 101, 97, 109].toArray⟩)).setCell ⟨w5.heap.size, 2, none⟩ (.slice none 0 0))) (h := octP H0) (ReadS.nil _ _ _ _) 0 (none) (0)
                  rw [HPO.out] at h8
                  exact h8
                | succ d' =>
                  have ht32 : (t : Int) < 32 := by omega
                  have hKr := places_row m a b hab hbm
                  rw [HY.out] at hKr
                  have HKA := hide (hKr.1.all)
                  have HKd := hide (cuts_any m bd y b wr hN.2 hbm hm (by omega))
                  have HPk : Hid (parseP (d' + 1) m a b = withK H0 ((placesOf m a b).map fun k => parseP d' m k.1 k.2)) := HPP.out.trans rfl
                  obtain ⟨KP, hKP⟩ : ∃ KP, kidsP m bd b (splitS (seg m y b)) y none = KP := ⟨_, rfl⟩
                  rw [hKP] at HKd hpl
                  rw [hpl] at HKA HPk
                  have hc3 := HP3.out.cell
                  clear hpl hKr hKP HPP HVn HVy
                  go_wp2_with fail
                  refine HKd.out.mono ?_
                  rintro e w4 ⟨v4, rfl, hrow4, hb4⟩
                  obtain ⟨A4, c4, rfl⟩ := hrow4.form
                  have hmx : KP.length ≤ maxLen := by
                    obtain ⟨G, h, _⟩ := hrow4
                    exact h.max
                  unfold maxLen at hmx
                  have HP4 := hide (HP3.out.below hb4 HP3.out.lt)
                  have HR4 := hide (HR3.out.below hb4 HR3.out.lt)
                  have HB4 := hide (HB3.out.trans (hb4.mono HB3.out.size))
                  have HPr4 := hide (HPr3.out.keep (T := fun _ => False) (Mvs.of_below hb4) (fun _ _ c => c))
                  have HRow4 := hide hrow4
                  have hs4 := hb4.size
                  obtain ⟨NK, hNK⟩ : ∃ NK, KP.length = NK := ⟨_, rfl⟩
                  have HNK := hide hNK
                  rw [hNK] at hmx ⊢
                  have hlP4 := HP4.out.lt
                  clear hb4 hrow4 hc3 HP3 HR3 HB3 HPr3 HKd hNK
                  go_wp2
                  go_loopw [113] (fun v113 wx => ∃ (k j : Nat) (A' : Option Addr) (c' : Nat), k ≤ NK ∧ v113 = .int .i64 k ∧ j ≤ 100 ∧ Hid (j = min k 100) ∧ Hid (Blk wx w5.heap.size #[.string ⟨[109, 117, 108, 116, 105, 112, 97, 114, 116].toArray⟩, .string ⟨UU.toArray⟩, .slice Ap np cq, .string ⟨VI.toArray⟩, .string ⟨VD.toArray⟩, .string ⟨VE.toArray⟩, .int .i64 (a : Nat), .int .i64 (y : Nat), .int .i64 (b : Nat), .int .i64 (lns : Nat), .slice A' j c'] 36) ∧ Hid (KRow (d' + 1) w4.heap.size wx (.slice A' j c') ((KP.take j).map fun x => parseP d' m x.1 x.2)) ∧ Hid (Mvs (fun x => x = w5.heap.size) w4 wx)) (fun v113 _ => NK - (intOf v113).toNat)
                  case atStart => exact ⟨0, 0, none, 0, Nat.zero_le _, rfl, Nat.zero_le _, rfl, HP4, KRow.nil _ _ _, Mvs.refl _ _⟩
                  case round =>
                    obtain ⟨k, j, A', c', hk, rfl, hj, HJ, HPw, HKw, HMw⟩ := hrel
                    have hsw := HMw.out.size
                    have HBw := hide (HB4.out.trans (HMw.out.below (B := w.heap.size) (fun q hq => by omega) (by omega)))
                    have HPrw := hide (HPr4.out.keep HMw.out (fun g hg => hg.2))
                    by_cases hlt : k < NK
                    · have hlt' : (k : Int) < NK := by omega
                      obtain ⟨g, o, cap, hv4, _, _, hBg, hgl, hq⟩ := HRow4.out.read sp_len k (by rw [HNK.out]; exact hlt)
                      have hkK : k < KP.length := by rw [HNK.out]; exact hlt
                      obtain ⟨rfl, rfl⟩ : A4 = some ⟨g, o, none⟩ ∧ c4 = cap := by
                        simp at hv4
                        exact ⟨hv4.1, hv4.2⟩
                      have q0 := (HMw.out.cell (a := ⟨g, o + k * 3, none⟩) hgl (by dsimp only; omega)).trans (hq 0 (by omega))
                      have q1 := (HMw.out.cell (a := ⟨g, o + k * 3 + 1, none⟩) hgl (by dsimp only; omega)).trans (hq 1 (by omega))
                      have q2 := (HMw.out.cell (a := ⟨g, o + k * 3 + 2, none⟩) hgl (by dsimp only; omega)).trans (hq 2 (by omega))
                      have HTk : Hid ((KP.take (k + 1)).map (fun x => parseP d' m x.1 x.2) = (KP.take k).map (fun x => parseP d' m x.1 x.2) ++ [parseP d' m KP[k].1 KP[k].2]) := by
                        show _ = _
                        rw [List.take_succ_eq_append_getElem hkK, List.map_append]
                        rfl
                      have HIn : Hid (k < 100 → KP[k].1 ≤ KP[k].2 ∧ KP[k].2 ≤ b) := fun h => by
                        have := HKA.out _ (at_100 hkK h)
                        exact ⟨this.2.1, this.2.2⟩
                      obtain ⟨pr, hpr⟩ : ∃ pr, KP[k] = pr := ⟨_, rfl⟩
                      rw [hpr] at HIn HTk q0 q1 q2
                      obtain ⟨ka, kb⟩ := pr
                      simp only [spC, List.getElem?_cons_zero, List.getElem?_cons_succ] at q0 q1 q2
                      dsimp only at HIn HTk
                      clear hpr hq hv4
                      have hlP := HPw.out.lt
                      by_cases h100 : k < 100
                      · have h100' : (k : Int) < 100 := by omega
                        obtain rfl : j = k := by have := HJ.out; omega
                        have hx := HIn.out h100
                        have HIHk := hide (HIH.out d' rfl ka kb)
                        have hlk : ((KP.take j).map (fun x => parseP d' m x.1 x.2)).length = j := by
                          rw [List.length_map, List.length_take, HNK.out]
                          omega
                        obtain ⟨ks, hks⟩ : ∃ ks, (KP.take j).map (fun x => parseP d' m x.1 x.2) = ks := ⟨_, rfl⟩
                        rw [hks] at hlk HTk HKw
                        have HLK := hide hlk
                        obtain ⟨q, hqq⟩ : ∃ q, parseP d' m ka kb = q := ⟨_, rfl⟩
                        have HQQ := hide hqq
                        rw [hqq] at HTk
                        obtain ⟨vss, r1, r2, G, hrw, hg, h5⟩ := HKw.out
                        rw [hlk] at hrw
                        have HRw := hide hrw
                        have HG : Hid (∀ x, G = some x → w4.heap.size ≤ x ∧ x < wr.heap.size) := fun x e => ⟨hg x e, hrw.lt x e⟩
                        have HR1 := hide r1
                        have HR2 := hide r2
                        have H5 := hide h5
                        have hGP : ∀ x, x < w4.heap.size → ¬ some x = G := fun x hx e => by have := (HG.out x e.symm).1; omega
                        have hPa := (HPw.out.alloc (.cells #[.int .i64 0, .int .i64 (ka : Nat), .int .i64 (kb : Nat)] 74))
                        have hSa := Blk.new wr #[.int .i64 0, .int .i64 (ka : Nat), .int .i64 (kb : Nat)] 74
                        have HPa := hide hPa
                        have HSa := hide hSa
                        have hBa : Below wr.heap.size wr (wr.alloc (.cells #[.int .i64 0, .int .i64 (ka : Nat), .int .i64 (kb : Nat)] 74)) := (Below.refl _ _).alloc (Nat.le_refl _) _
                        have HBa := hide hBa
                        have htw : IntKind.i64.wrap ((t : Int) + 1) = (t : Int) + 1 := wrap_nat (by omega) (by omega)
                        have hza : (wr.alloc (.cells #[.int .i64 0, .int .i64 (ka : Nat), .int .i64 (kb : Nat)] 74)).heap.size = wr.heap.size + 1 := by simp
                        clear hks hqq hlk r1 r2 hrw hg h5 hPa hSa hBa
                        go_wp2_with fail
                        clear q0 q1 q2
                        obtain ⟨Wa, hWa⟩ : ∃ Wa, wr.alloc (.cells #[.int .i64 0, .int .i64 (ka : Nat), .int .i64 (kb : Nat)] 74) = Wa := ⟨_, rfl⟩
                        rw [hWa] at HPa HSa HBa hza ⊢
                        clear hWa
                        have HZA := hide hza
                        clear hza
                        refine regionL 13 (fun W => W.cell? ⟨w5.heap.size, 10, none⟩ = some (.slice A' j c') ∧ W.cell? ⟨wr.heap.size, 1, none⟩ = some (.int .i64 (ka : Nat)) ∧ W.cell? ⟨wr.heap.size, 2, none⟩ = some (.int .i64 (kb : Nat))) (by kernel_rfl) ?_
                        have HTH : Hid (∀ W (S : Nat → Prop), Mvs S Wa W → ¬ S w5.heap.size → ¬ S wr.heap.size → W.cell? ⟨w5.heap.size, 10, none⟩ = some (.slice A' j c') ∧ W.cell? ⟨wr.heap.size, 1, none⟩ = some (.int .i64 (ka : Nat)) ∧ W.cell? ⟨wr.heap.size, 2, none⟩ = some (.int .i64 (kb : Nat))) := fun W S hm h1 h2 => ⟨(hm.blk HPa.out h1).cell 10, (hm.blk HSa.out h2).cell 1, (hm.blk HSa.out h2).cell 2⟩
                        have HT0 := HTH.out Wa.drew (fun _ => False) (Mvs.refl _ _).drew (fun c => c) (fun c => c)
                        refine takeW (i := 0) (v := (.pointer (some ⟨w5.heap.size, 10, none⟩))) rfl (by kernel_rfl) (by kernel_rfl) (by kernel_rfl) rfl (fun _ _ _ h => h) (fun _ => HT0) (Or.inl ⟨by rfl, fun W _ => by go_simp⟩) ?_
                        simp only [Act.put, List.getElem_toArray, List.getElem_cons_succ, List.getElem_cons_zero, List.setIfInBounds_toArray, List.set_cons_zero, List.set_cons_succ]
                        refine takeL (i := 1) (v := (.slice A' j c')) rfl (by kernel_rfl) (by kernel_rfl) (by kernel_rfl) (by kernel_rfl) (by kernel_rfl) (fun _ _ _ h => h) HT0 (Or.inl ⟨by rfl, fun W hW => by obtain ⟨t0, t1, t2⟩ := hW; go_simp⟩) ?_
                        simp only [Act.put, List.getElem_toArray, List.getElem_cons_succ, List.getElem_cons_zero, List.setIfInBounds_toArray, List.set_cons_zero, List.set_cons_succ]
                        refine takeW (i := 2) (v := (.string ⟨m.toArray⟩)) rfl (by kernel_rfl) (by kernel_rfl) (by kernel_rfl) rfl (fun _ _ _ h => h) (fun _ => HT0) (Or.inl ⟨by rfl, fun W _ => by go_simp⟩) ?_
                        simp only [Act.put, List.getElem_toArray, List.getElem_cons_succ, List.getElem_cons_zero, List.setIfInBounds_toArray, List.set_cons_zero, List.set_cons_succ]
                        refine takeW (i := 3) (v := (.pointer (some ⟨wr.heap.size, 1, none⟩))) rfl (by kernel_rfl) (by kernel_rfl) (by kernel_rfl) rfl (fun _ _ _ h => h) (fun _ => HT0) (Or.inl ⟨by rfl, fun W _ => by go_simp⟩) ?_
                        simp only [Act.put, List.getElem_toArray, List.getElem_cons_succ, List.getElem_cons_zero, List.setIfInBounds_toArray, List.set_cons_zero, List.set_cons_succ]
                        refine takeL (i := 4) (v := (.int .i64 (ka : Nat))) rfl (by kernel_rfl) (by kernel_rfl) (by kernel_rfl) (by kernel_rfl) (by kernel_rfl) (fun _ _ _ h => h) HT0 (Or.inl ⟨by rfl, fun W hW => by obtain ⟨t0, t1, t2⟩ := hW; go_simp⟩) ?_
                        simp only [Act.put, List.getElem_toArray, List.getElem_cons_succ, List.getElem_cons_zero, List.setIfInBounds_toArray, List.set_cons_zero, List.set_cons_succ]
                        refine takeW (i := 5) (v := (.pointer (some ⟨wr.heap.size, 2, none⟩))) rfl (by kernel_rfl) (by kernel_rfl) (by kernel_rfl) rfl (fun _ _ _ h => h) (fun _ => HT0) (Or.inl ⟨by rfl, fun W _ => by go_simp⟩) ?_
                        simp only [Act.put, List.getElem_toArray, List.getElem_cons_succ, List.getElem_cons_zero, List.setIfInBounds_toArray, List.set_cons_zero, List.set_cons_succ]
                        refine takeL (i := 6) (v := (.int .i64 (kb : Nat))) rfl (by kernel_rfl) (by kernel_rfl) (by kernel_rfl) (by kernel_rfl) (by kernel_rfl) (fun _ _ _ h => h) HT0 (Or.inl ⟨by rfl, fun W hW => by obtain ⟨t0, t1, t2⟩ := hW; go_simp⟩) ?_
                        simp only [Act.put, List.getElem_toArray, List.getElem_cons_succ, List.getElem_cons_zero, List.setIfInBounds_toArray, List.set_cons_zero, List.set_cons_succ]
                        refine takeW (i := 7) (v := (.int .i64 (t : Nat))) rfl (by kernel_rfl) (by kernel_rfl) (by kernel_rfl) rfl (fun _ _ _ h => h) (fun _ => HT0) (Or.inl ⟨by rfl, fun W _ => by go_simp⟩) ?_
                        simp only [Act.put, List.getElem_toArray, List.getElem_cons_succ, List.getElem_cons_zero, List.setIfInBounds_toArray, List.set_cons_zero, List.set_cons_succ]
                        refine takeW (i := 8) (v := (.int .i64 ((t : Int) + 1))) rfl (by kernel_rfl) (by kernel_rfl) (by kernel_rfl) rfl (fun _ _ _ h => h) (fun _ => HT0) (Or.inl ⟨by rfl, fun W _ => by go_simp⟩) ?_
                        simp only [Act.put, List.getElem_toArray, List.getElem_cons_succ, List.getElem_cons_zero, List.setIfInBounds_toArray, List.set_cons_zero, List.set_cons_succ]
                        refine readyL (rs := [9]) (by kernel_rfl) (by simp) ?_
                        refine AllL.cons rfl (fun K hK => ?_) AllL.nil
                        try simp only [List.getElem_toArray, List.getElem_cons_succ, List.getElem_cons_zero]
                        go_simp
                        refine (HIHk.out Wa.drew (by omega) (by omega)).mono ?_
                        rintro e w6 ⟨hb6, v6, rfl, hpa6⟩
                        rw [HQQ.out] at hpa6
                        have hb6' : Below Wa.heap.size Wa w6 := ⟨hb6.os, hb6.tape, hb6.output, hb6.size, hb6.block⟩
                        have hpa6' : PA (d' + 1) (fun x => Wa.heap.size ≤ x) w6 v6 q := hpa6
                        obtain ⟨A1', c1', A2, c2, rfl⟩ := hpa6'.form
                        have HPA6 := hide hpa6'
                        have HM6 := hide (Mvs.of_below (S := fun _ => False) hb6')
                        have hs6' := hb6'.size
                        clear hb6 hb6' hpa6 hpa6' HIHk
                        refine hK.out _ _ (fun _ => HTH.out _ _ HM6.out (fun c => c) (fun c => c)) (fun HTn => ?_)
                        clear hK K HT0
                        have HT0 := HTn (by kernel_rfl)
                        clear HTn
                        obtain ⟨m1, hm1⟩ : ∃ n1, q.h.params.length = n1 := ⟨_, rfl⟩
                        obtain ⟨m2, hm2⟩ : ∃ n2, q.kids.length = n2 := ⟨_, rfl⟩
                        rw [hm1, hm2] at HPA6 ⊢
                        obtain ⟨QH, hQH⟩ : ∃ QH, q.h = QH := ⟨_, rfl⟩
                        rw [hQH] at HPA6 ⊢
                        clear hm1 hm2 hQH
                        unfold phA
                        try simp only [Act.put, List.getElem_toArray, List.getElem_cons_succ, List.getElem_cons_zero, List.setIfInBounds_toArray, List.set_cons_zero, List.set_cons_succ]
                        refine readyL (rs := [10]) (by kernel_rfl) (by simp) ?_
                        refine AllL.cons rfl (fun K hK => ?_) AllL.nil
                        try simp only [List.getElem_toArray, List.getElem_cons_succ, List.getElem_cons_zero]
                        go_simp
                        refine hK.out _ _ (fun _ => HTH.out _ _ (HM6.out.alloc _) (fun c => c) (fun c => c)) (fun HTn => ?_)
                        clear hK K HT0
                        have HT0 := HTn (by kernel_rfl)
                        clear HTn
                        try simp only [Act.put, List.getElem_toArray, List.getElem_cons_succ, List.getElem_cons_zero, List.setIfInBounds_toArray, List.set_cons_zero, List.set_cons_succ]
                        refine readyL (rs := [11]) (by kernel_rfl) (by simp) ?_
                        refine AllL.cons rfl (fun K hK => ?_) AllL.nil
                        refine step_append_rw (by rfl) (.tmp 121) (.tmp 130) 34 34 (by rfl) 36 i0 (.agg #[.string ⟨#[]⟩, .string ⟨#[]⟩, .slice none 0 0, .string ⟨#[]⟩, .string ⟨#[]⟩, .string ⟨#[]⟩, .int .i64 0, .int .i64 0, .int .i64 0, .int .i64 0, .slice none 0 0]) 11 160 Tryz.underlying34 hi hz0 hz1 hz2 (by rfl) (by simp [Act.eval, Act.put]) (HRw.out.keep (S := fun _ => False) (((Mvs.of_below HBa.out).trans HM6.out).alloc _) (fun _ _ c => c)) (.slice (some ⟨w6.heap.size, 0, none⟩) 1 1) 1 (phA QH (.slice A1' m1 c1') (.slice A2 m2 c2)).toList (by simp [Act.eval, Act.put]) (src_pt QH A1' A2 m1 c1' m2 c2) (by simp only [maxLen]; omega) (by omega) ?_
                        intro v8 w8' G8 hr8 hm8 hg8
                        obtain ⟨A8', c8', rfl⟩ := hr8.form
                        have hN6 : (w6.alloc (.cells (phA QH (.slice A1' m1 c1') (.slice A2 m2 c2)) 36)).heap.size = w6.heap.size + 1 := by simp
                        have hzz := HZA.out
                        have hkr : KRow (d' + 1) w4.heap.size w8' (.slice A8' (j + 1) c8') (ks ++ [q]) := by
                          refine KRow.grow (w := Wa) (w1 := w6.alloc (.cells (phA QH (.slice A1' m1 c1') (.slice A2 m2 c2)) 36)) (vs := phA QH (.slice A1' m1 c1') (.slice A2 m2 c2)) (vss := vss) (G := G) HR1.out HR2.out rfl (fun x e => ⟨(HG.out x e).1, by have := (HG.out x e).2; omega⟩) (fun i hi hj => ?_) ?_ (by omega) hm8 ?_ hg8 (Nat.le_refl _) (by omega)
                          · exact ((H5.out i hi hj).keep (T := fun _ => False) (((Mvs.of_below HBa.out).trans HM6.out).alloc _) (fun _ _ c => c))
                          · exact HPA6.out.keep (T := fun _ => False) ((Mvs.refl _ _).alloc _) (fun _ _ c => c)
                          · rw [HLK.out]
                            exact hr8
                        have hmA : Mvs (fun x => some x = G) Wa w8' := ((HM6.out.alloc _).mono (fun _ _ h => h.elim)).trans' hm8 (fun _ _ h => h)
                        have hP8 := hmA.blk HPa.out (hGP _ (by omega))
                        have hGS : ¬ some wr.heap.size = G := fun e => by have := (HG.out _ e.symm).2; omega
                        have hT8 := HTH.out w8' _ hmA (hGP _ (by omega)) hGS
                        have HP8' := hide (hP8.set 10 (.slice A8' (j + 1) c8'))
                        have d8 := hP8.cell 10
                        have e8 := hP8.frozen 10
                        have hl8' := hP8.lt
                        have HM8 : Hid (Mvs (fun x => x = w5.heap.size) w4 (w8'.setCell ⟨w5.heap.size, 10, none⟩ (.slice A8' (j + 1) c8'))) := (((HMw.out.trans (Mvs.of_below HBa.out)).trans' hmA (fun x hx e => by have := (HG.out x e.symm).1; omega))).setCell _ _ (fun _ => rfl)
                        have HK8 := hide (hkr.keep (T := fun x => x = w5.heap.size) ((Mvs.refl _ _).setCell ⟨w5.heap.size, 10, none⟩ (.slice A8' (j + 1) c8') (fun _ => rfl)) (fun x hx => by omega))
                        clear hr8 hm8 hg8 hkr hmA hP8 hzz hN6
                        refine hK.out _ _ (fun _ => hT8) (fun _ => ?_)
                        clear hK K HT0
                        have HT8 := hide hT8
                        clear hT8
                        try simp only [Act.put, List.getElem_toArray, List.getElem_cons_succ, List.getElem_cons_zero, List.setIfInBounds_toArray, List.set_cons_zero, List.set_cons_succ]
                        refine readyL (rs := [12]) (by kernel_rfl) (by simp) ?_
                        refine AllL.cons rfl (fun K hK => ?_) AllL.nil
                        try simp only [List.getElem_toArray, List.getElem_cons_succ, List.getElem_cons_zero]
                        go_simp
                        refine hK.out _ _ (fun _ => HT8.out) (fun _ => ?_)
                        clear hK K
                        try simp only [Act.put, List.getElem_toArray, List.getElem_cons_succ, List.getElem_cons_zero, List.setIfInBounds_toArray, List.set_cons_zero, List.set_cons_succ]
                        refine readyL (rs := [13]) (by kernel_rfl) (by simp) ?_
                        refine AllL.cons rfl (fun K hK => ?_) AllL.nil
                        try simp only [List.getElem_toArray, List.getElem_cons_succ, List.getElem_cons_zero]
                        go_simp
                        refine hK.out _ _ (vac (by kernel_rfl)) (fun _ => ?_)
                        clear hK K
                        try simp only [Act.put, List.getElem_toArray, List.getElem_cons_succ, List.getElem_cons_zero, List.setIfInBounds_toArray, List.set_cons_zero, List.set_cons_succ]
                        refine doneL (by kernel_rfl) ?_ _
                        go_wp2
                        go_roundw
                        case rel => exact ⟨j + 1, j + 1, A8', c8', by omega, by go_num, by omega, by show _ = _; omega, HP8', by rw [HTk.out]; exact HK8, HM8⟩
                        case measure => simp [intOf]; omega
                      · have h100' : ¬ (k : Int) < 100 := by omega
                        have hPa := hide (HPw.out.alloc (.cells #[.int .i64 0, .int .i64 (ka : Nat), .int .i64 (kb : Nat)] 74))
                        have hKa := hide (HKw.out.keep (T := fun _ => False) ((Mvs.refl _ _).alloc (.cells #[.int .i64 0, .int .i64 (ka : Nat), .int .i64 (kb : Nat)] 74)) (fun _ _ c => c))
                        have hMa := hide (HMw.out.alloc (.cells #[.int .i64 0, .int .i64 (ka : Nat), .int .i64 (kb : Nat)] 74))
                        go_wp2
                        go_roundw
                        case rel => exact ⟨k + 1, j, A', c', by omega, by go_num, hj, by show _ = _; have := HJ.out; omega, hPa, hKa, hMa⟩
                        case measure => simp [intOf]; omega
                    · obtain rfl : NK = k := by omega
                      have HKf := HKw
                      rw [take_100 KP HJ.out HNK.out.symm] at HKf
                      have HRw' := hide (HMw.out.blk HR4.out (by omega))
                      have hjl : j = (KP.take 100).length := by
                        rw [List.length_take, HNK.out, HJ.out]
                        omega
                      have HJl := hide hjl
                      clear hjl
                      by_cases h0 : j = 0
                      · subst h0
                        have hKnil : KP.take 100 = [] := List.length_eq_zero_iff.1 HJl.out.symm
                        have HV : Hid (parseP (d' + 1) m a b = .mk (octP H0) []) := by
                          show _ = _
                          rw [HPk.out, hKnil]
                          rfl
                        clear hKnil HKf HKw
                        have hcP := HPw.out.cell
                        have hfP := HPw.out.frozen
                        have hlP := HPw.out.lt
                        have HRes := hide (((HRw'.out.set_other ⟨w5.heap.size, 0, none⟩ (.string ⟨[97, 112, 112, 108, 105, 99, 97, 116, 105, 111, 110].toArray⟩) (by dsimp only; omega)).set_other ⟨w5.heap.size, 1, none⟩ (.string ⟨[111, 99, 116, 101, 116, 45, 115, 116, 114, 101, 97, 109].toArray⟩) (by dsimp only; omega)).set_other ⟨w5.heap.size, 2, none⟩ (.slice none 0 0) (by dsimp only; omega))
                        have HPd := hide (((HPw.out.set 0 (.string ⟨[97, 112, 112, 108, 105, 99, 97, 116, 105, 111, 110].toArray⟩)).set 1 (.string ⟨[111, 99, 116, 101, 116, 45, 115, 116, 114, 101, 97, 109].toArray⟩)).set 2 (.slice none 0 0))
                        have hcR := HRes.out.cell
                        have hfR := HRes.out.frozen
                        have hlR := HRes.out.lt
                        have hcQ := HPd.out.cell
                        have HBd := hide ((((HBw.out.setCell (p := ⟨w5.heap.size, 0, none⟩) (by dsimp only; omega) (.string ⟨[97, 112, 112, 108, 105, 99, 97, 116, 105, 111, 110].toArray⟩)).setCell (p := ⟨w5.heap.size, 1, none⟩) (by dsimp only; omega) (.string ⟨[111, 99, 116, 101, 116, 45, 115, 116, 114, 101, 97, 109].toArray⟩)).setCell (p := ⟨w5.heap.size, 2, none⟩) (by dsimp only; omega) (.slice none 0 0)))
                        go_wp2
                        have h9 := (((((((((((HRes.out.set 0 (.string ⟨[97, 112, 112, 108, 105, 99, 97, 116, 105, 111, 110].toArray⟩)).set 1 (.string ⟨[111, 99, 116, 101, 116, 45, 115, 116, 114, 101, 97, 109].toArray⟩)).set 2 (.slice none 0 0)).set 3 (.string ⟨VI.toArray⟩)).set 4 (.string ⟨VD.toArray⟩)).set 5 (.string ⟨VE.toArray⟩)).set 6 (.int .i64 (a : Nat))).set 7 (.int .i64 (y : Nat))).set 8 (.int .i64 (b : Nat))).set 9 (.int .i64 (lns : Nat))).set 10 (.slice A' 0 c')).cell
                        refine bodyPost_ret (v := .agg #[.string ⟨[97, 112, 112, 108, 105, 99, 97, 116, 105, 111, 110].toArray⟩, .string ⟨[111, 99, 116, 101, 116, 45, 115, 116, 114, 101, 97, 109].toArray⟩, .slice none 0 0, .string ⟨VI.toArray⟩, .string ⟨VD.toArray⟩, .string ⟨VE.toArray⟩, .int .i64 (a : Nat), .int .i64 (y : Nat), .int .i64 (b : Nat), .int .i64 (lns : Nat), .slice A' 0 c']) (by simp [results, Tryz.results14, go_sem, h9]) rfl ?_
                        refine psYes1 (w := w) (wc := (((wr.setCell ⟨w5.heap.size, 0, none⟩ (.string ⟨[97, 112, 112, 108, 105, 99, 97, 116, 105, 111, 110].toArray⟩)).setCell ⟨w5.heap.size, 1, none⟩ (.string ⟨[111, 99, 116, 101, 116, 45, 115, 116, 114, 101, 97, 109].toArray⟩)).setCell ⟨w5.heap.size, 2, none⟩ (.slice none 0 0))) HBd.out (Mvs11 _ _ _ _ _ _ _ _ _ _ _ _ _) ?_
                        rw [HV.out]
                        have h8 := PA.leaf0 (S := fun g => w.heap.size + 1 ≤ g) (w := (((wr.setCell ⟨w5.heap.size, 0, none⟩ (.string ⟨[97, 112, 112, 108, 105, 99, 97, 116, 105, 111, 110].toArray⟩)).setCell ⟨w5.heap.size, 1, none⟩ (.string ⟨[111, 99, 116, 101, 116, 45, 115, 116, 114, 101, 97, 109].toArray⟩)).setCell ⟨w5.heap.size, 2, none⟩ (.slice none 0 0))) (h := octP H0) (ReadS.nil _ _ _ _) (d' + 1) (A') (c')
                        rw [HPO.out] at h8
                        exact h8
                      · have h0' : ¬ ((j : Int) = 0) := by omega
                        have HV : Hid (parseP (d' + 1) m a b = .mk H0 ((KP.take 100).map fun x => parseP d' m x.1 x.2)) := by
                          show _ = _
                          rw [HPk.out]
                          unfold withK
                          rw [if_neg]
                          intro e
                          rw [List.isEmpty_iff, List.map_eq_nil_iff] at e
                          have := HJl.out
                          rw [e] at this
                          exact h0 this
                        have HRes := HRw'
                        have hcR := HRes.out.cell
                        have hfR := HRes.out.frozen
                        have hlR := HRes.out.lt
                        have hcP := HPw.out.cell
                        have hlP := HPw.out.lt
                        go_wp2
                        have h9 := (((((((((((HRes.out.set 0 (.string ⟨[109, 117, 108, 116, 105, 112, 97, 114, 116].toArray⟩)).set 1 (.string ⟨UU.toArray⟩)).set 2 (.slice Ap np cq)).set 3 (.string ⟨VI.toArray⟩)).set 4 (.string ⟨VD.toArray⟩)).set 5 (.string ⟨VE.toArray⟩)).set 6 (.int .i64 (a : Nat))).set 7 (.int .i64 (y : Nat))).set 8 (.int .i64 (b : Nat))).set 9 (.int .i64 (lns : Nat))).set 10 (.slice A' j c')).cell
                        refine bodyPost_ret (v := .agg #[.string ⟨[109, 117, 108, 116, 105, 112, 97, 114, 116].toArray⟩, .string ⟨UU.toArray⟩, .slice Ap np cq, .string ⟨VI.toArray⟩, .string ⟨VD.toArray⟩, .string ⟨VE.toArray⟩, .int .i64 (a : Nat), .int .i64 (y : Nat), .int .i64 (b : Nat), .int .i64 (lns : Nat), .slice A' j c']) (by simp [results, Tryz.results14, go_sem, h9]) rfl ?_
                        refine psYes1 (w := w) (wc := wr) HBw.out (Mvs11 _ _ _ _ _ _ _ _ _ _ _ _ _) ?_
                        rw [HV.out, ← HPA.out]
                        exact (HKf.out.lower (by omega)).part ((HPrw.out.mono (fun g _ hg => hg.1)))
              · have a2 : ¬ (bd.length : Int) ≤ 70 := by omega
                have HV : Hid (parseP d m a b = .mk (octP H0) []) := by
                  have h1 := HPP.out
                  rw [HVn.out (by unfold bdOk; rw [decide_eq_false h70, Bool.and_false]), multi_none] at h1
                  exact h1
                have hcP := HP3.out.cell
                have hfP := HP3.out.frozen
                have hlP := HP3.out.lt
                have HRes := hide (((HR3.out.set_other ⟨w5.heap.size, 0, none⟩ (.string ⟨[97, 112, 112, 108, 105, 99, 97, 116, 105, 111, 110].toArray⟩) (by dsimp only; omega)).set_other ⟨w5.heap.size, 1, none⟩ (.string ⟨[111, 99, 116, 101, 116, 45, 115, 116, 114, 101, 97, 109].toArray⟩) (by dsimp only; omega)).set_other ⟨w5.heap.size, 2, none⟩ (.slice none 0 0) (by dsimp only; omega))
                have HPd := hide (((HP3.out.set 0 (.string ⟨[97, 112, 112, 108, 105, 99, 97, 116, 105, 111, 110].toArray⟩)).set 1 (.string ⟨[111, 99, 116, 101, 116, 45, 115, 116, 114, 101, 97, 109].toArray⟩)).set 2 (.slice none 0 0))
                have hcR := HRes.out.cell
                have hfR := HRes.out.frozen
                have hlR := HRes.out.lt
                have hcQ := HPd.out.cell
                have HBd := hide ((((HB3.out.setCell (p := ⟨w5.heap.size, 0, none⟩) (by dsimp only; omega) (.string ⟨[97, 112, 112, 108, 105, 99, 97, 116, 105, 111, 110].toArray⟩)).setCell (p := ⟨w5.heap.size, 1, none⟩) (by dsimp only; omega) (.string ⟨[111, 99, 116, 101, 116, 45, 115, 116, 114, 101, 97, 109].toArray⟩)).setCell (p := ⟨w5.heap.size, 2, none⟩) (by dsimp only; omega) (.slice none 0 0)))
                go_wp2
                have h9 := (((((((((((HRes.out.set 0 (.string ⟨[97, 112, 112, 108, 105, 99, 97, 116, 105, 111, 110].toArray⟩)).set 1 (.string ⟨[111, 99, 116, 101, 116, 45, 115, 116, 114, 101, 97, 109].toArray⟩)).set 2 (.slice none 0 0)).set 3 (.string ⟨VI.toArray⟩)).set 4 (.string ⟨VD.toArray⟩)).set 5 (.string ⟨VE.toArray⟩)).set 6 (.int .i64 (a : Nat))).set 7 (.int .i64 (y : Nat))).set 8 (.int .i64 (b : Nat))).set 9 (.int .i64 (lns : Nat))).set 10 (.slice none 0 0)).cell
                refine bodyPost_ret (v := .agg #[.string ⟨[97, 112, 112, 108, 105, 99, 97, 116, 105, 111, 110].toArray⟩, .string ⟨[111, 99, 116, 101, 116, 45, 115, 116, 114, 101, 97, 109].toArray⟩, .slice none 0 0, .string ⟨VI.toArray⟩, .string ⟨VD.toArray⟩, .string ⟨VE.toArray⟩, .int .i64 (a : Nat), .int .i64 (y : Nat), .int .i64 (b : Nat), .int .i64 (lns : Nat), .slice none 0 0]) (by simp [results, Tryz.results14, go_sem, h9]) rfl ?_
                refine psYes1 (w := w) (wc := (((wr.setCell ⟨w5.heap.size, 0, none⟩ (.string ⟨[97, 112, 112, 108, 105, 99, 97, 116, 105, 111, 110].toArray⟩)).setCell ⟨w5.heap.size, 1, none⟩ (.string ⟨[111, 99, 116, 101, 116, 45, 115, 116, 114, 101, 97, 109].toArray⟩)).setCell ⟨w5.heap.size, 2, none⟩ (.slice none 0 0))) HBd.out (Mvs11 _ _ _ _ _ _ _ _ _ _ _ _ _) ?_
                rw [HV.out]
                have h8 := PA.leaf0 (S := fun g => w.heap.size + 1 ≤ g) (w := (((wr.setCell ⟨w5.heap.size, 0, none⟩ (.string ⟨[97, 112, 112, 108, 105, 99, 97, 116, 105, 111, 110].toArray⟩)).setCell ⟨w5.heap.size, 1, none⟩ (.string ⟨[111, 99, 116, 101, 116, 45, 115, 116, 114, 101, 97, 109].toArray⟩)).setCell ⟨w5.heap.size, 2, none⟩ (.slice none 0 0))) (h := octP H0) (ReadS.nil _ _ _ _) d (none) (0)
                rw [HPO.out] at h8
                exact h8
            · have a1 : ¬ (bd.length : Int) ≥ 1 := by omega
              have HV : Hid (parseP d m a b = .mk (octP H0) []) := by
                have h2 := HPP.out
                rw [HVn.out (by unfold bdOk; rw [decide_eq_false h1, Bool.false_and]), multi_none] at h2
                exact h2
              have hcP := HP3.out.cell
              have hfP := HP3.out.frozen
              have hlP := HP3.out.lt
              have HRes := hide (((HR3.out.set_other ⟨w5.heap.size, 0, none⟩ (.string ⟨[97, 112, 112, 108, 105, 99, 97, 116, 105, 111, 110].toArray⟩) (by dsimp only; omega)).set_other ⟨w5.heap.size, 1, none⟩ (.string ⟨[111, 99, 116, 101, 116, 45, 115, 116, 114, 101, 97, 109].toArray⟩) (by dsimp only; omega)).set_other ⟨w5.heap.size, 2, none⟩ (.slice none 0 0) (by dsimp only; omega))
              have HPd := hide (((HP3.out.set 0 (.string ⟨[97, 112, 112, 108, 105, 99, 97, 116, 105, 111, 110].toArray⟩)).set 1 (.string ⟨[111, 99, 116, 101, 116, 45, 115, 116, 114, 101, 97, 109].toArray⟩)).set 2 (.slice none 0 0))
              have hcR := HRes.out.cell
              have hfR := HRes.out.frozen
              have hlR := HRes.out.lt
              have hcQ := HPd.out.cell
              have HBd := hide ((((HB3.out.setCell (p := ⟨w5.heap.size, 0, none⟩) (by dsimp only; omega) (.string ⟨[97, 112, 112, 108, 105, 99, 97, 116, 105, 111, 110].toArray⟩)).setCell (p := ⟨w5.heap.size, 1, none⟩) (by dsimp only; omega) (.string ⟨[111, 99, 116, 101, 116, 45, 115, 116, 114, 101, 97, 109].toArray⟩)).setCell (p := ⟨w5.heap.size, 2, none⟩) (by dsimp only; omega) (.slice none 0 0)))
              go_wp2
              have h9 := (((((((((((HRes.out.set 0 (.string ⟨[97, 112, 112, 108, 105, 99, 97, 116, 105, 111, 110].toArray⟩)).set 1 (.string ⟨[111, 99, 116, 101, 116, 45, 115, 116, 114, 101, 97, 109].toArray⟩)).set 2 (.slice none 0 0)).set 3 (.string ⟨VI.toArray⟩)).set 4 (.string ⟨VD.toArray⟩)).set 5 (.string ⟨VE.toArray⟩)).set 6 (.int .i64 (a : Nat))).set 7 (.int .i64 (y : Nat))).set 8 (.int .i64 (b : Nat))).set 9 (.int .i64 (lns : Nat))).set 10 (.slice none 0 0)).cell
              refine bodyPost_ret (v := .agg #[.string ⟨[97, 112, 112, 108, 105, 99, 97, 116, 105, 111, 110].toArray⟩, .string ⟨[111, 99, 116, 101, 116, 45, 115, 116, 114, 101, 97, 109].toArray⟩, .slice none 0 0, .string ⟨VI.toArray⟩, .string ⟨VD.toArray⟩, .string ⟨VE.toArray⟩, .int .i64 (a : Nat), .int .i64 (y : Nat), .int .i64 (b : Nat), .int .i64 (lns : Nat), .slice none 0 0]) (by simp [results, Tryz.results14, go_sem, h9]) rfl ?_
              refine psYes1 (w := w) (wc := (((wr.setCell ⟨w5.heap.size, 0, none⟩ (.string ⟨[97, 112, 112, 108, 105, 99, 97, 116, 105, 111, 110].toArray⟩)).setCell ⟨w5.heap.size, 1, none⟩ (.string ⟨[111, 99, 116, 101, 116, 45, 115, 116, 114, 101, 97, 109].toArray⟩)).setCell ⟨w5.heap.size, 2, none⟩ (.slice none 0 0))) HBd.out (Mvs11 _ _ _ _ _ _ _ _ _ _ _ _ _) ?_
              rw [HV.out]
              have h8 := PA.leaf0 (S := fun g => w.heap.size + 1 ≤ g) (w := (((wr.setCell ⟨w5.heap.size, 0, none⟩ (.string ⟨[97, 112, 112, 108, 105, 99, 97, 116, 105, 111, 110].toArray⟩)).setCell ⟨w5.heap.size, 1, none⟩ (.string ⟨[111, 99, 116, 101, 116, 45, 115, 116, 114, 101, 97, 109].toArray⟩)).setCell ⟨w5.heap.size, 2, none⟩ (.slice none 0 0))) (h := octP H0) (ReadS.nil _ _ _ _) d (none) (0)
              rw [HPO.out] at h8
              exact h8
theorem rparse_any (m : List UInt8) (hm : m.length ≤ 20000) : ∀ (d t a b : Nat) (w : World), d + t = 32 → a ≤ b → b ≤ m.length →
    Calls Tryz.prog 14 #[.string ⟨m.toArray⟩, .int .i64 (a : Nat), .int .i64 (b : Nat), .int .i64 (t : Nat)] w (PsOut d m a b w) := by
  intro d
  induction d with
  | zero => exact fun t a b w h1 h2 h3 => rparse_step m hm 0 t a b w h1 h2 h3 (fun d' h => by omega)
  | succ d ih => exact fun t a b w h1 h2 h3 => rparse_step m hm (d + 1) t a b w h1 h2 h3 (fun d' h a b w h4 h5 => by
      obtain rfl : d = d' := by omega
      exact ih (t + 1) a b w (by omega) h4 h5)
end Go.Proofs.YtfebohfmpikoeaaGreatDoor
