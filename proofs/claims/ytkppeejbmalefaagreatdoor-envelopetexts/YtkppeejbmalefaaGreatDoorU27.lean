/- value, addresses, Text of package envelope. -/
/- alive; EnvelopeAddresses, EnvelopeLists. -/
import Derived.Test.YtkppeejbmalefaaGreatDoorU18
import Derived.Test.YtkppeejbmalefaaGreatDoorU09
import Derived.Test.YtkppeejbmalefaaGreatDoorU26
section
set_option linter.unusedSimpArgs false
set_option linter.unusedVariables false
namespace Go.Proofs.YtkppeejbmalefaaGreatDoor
open Go.RowKit Go.Shelf
theorem valB_lenE (s : List UInt8) : (valB s).length ≤ s.length := by
  unfold valB
  have h1 := trim_len ((splitS s).map txt).flatten
  have h2 := txts_len (splitS s)
  rw [splitS_flat] at h2
  omega
theorem fd_bdE {s : List UInt8} {x : Fd} (h : x ∈ (hd (splitS s) 0).1) : x.name.length ≤ s.length ∧ x.value.length ≤ s.length := by
  have g := good_hd h
  have h1 := g.lo
  have h2 := g.hi
  have h3 := valB_lenE ((s.drop (x.from' + x.name.length + 1)).take (x.to - (x.from' + x.name.length + 1)))
  rw [g.val, List.length_take, List.length_drop] at h3
  omega
theorem fdsE_len (s : List UInt8) : (fdsOf s).length ≤ 200 := by
  unfold fdsOf
  split
  · assumption
  · simp
theorem fdsE_bd (s : List UInt8) : ∀ x ∈ (fdsOf s).map Fd.fi, x.name.length ≤ s.length ∧ x.value.length ≤ s.length := by
  intro x hx
  obtain ⟨f, hf, rfl⟩ := List.mem_map.1 hx
  unfold fdsOf at hf
  split at hf
  · exact fd_bdE hf
  · cases hf
theorem Fds.faE {B : Nat} {w : World} {v : Value} {xs : List Fd} (h : Fds B w v xs) : FA w v (xs.map Fd.fi) := by
  obtain ⟨A, c, rfl⟩ := h.form
  refine ⟨A, c, by rw [List.length_map], fun i hi => ?_⟩
  rw [List.length_map] at hi
  obtain ⟨g, o, cap, e, _, _, _, h5, q1, q2, q3, q4⟩ := h.read i hi
  refine ⟨g, o, by cases e; rfl, h5, ?_⟩
  simp only [List.getElem_map]
  exact ⟨q1, q2, q3, q4⟩
theorem FOut.uniE {S : List UInt8} {ea : Addr} {w w' : World} {e : Ending} (h : FOut S ea w e w') : Below w.heap.size w w' ∧ ∃ vf er, e = .returned (.tuple #[vf, er]) ∧ FA w' vf ((fdsOf S).map Fd.fi) := by
  obtain ⟨hb, (⟨h200, rfl⟩ | ⟨h200, v, rfl, hv⟩)⟩ := h
  · have e0 : fdsOf S = [] := by
      unfold fdsOf
      rw [if_neg (by omega)]
    refine ⟨hb, _, _, rfl, ?_⟩
    rw [e0]
    exact ⟨none, 0, rfl, fun i hi => by simp at hi⟩
  · have e0 : fdsOf S = (hd (splitS S) 0).1 := by
      unfold fdsOf
      rw [if_pos h200]
    refine ⟨hb, _, _, rfl, ?_⟩
    rw [e0]
    exact hv.faE
/-- What is known of the fields of a message. -/
structure FE (w : World) (v : Value) (fs : List FI) : Prop where
  fa : FA w v fs
  tab : TabM w
  len : fs.length ≤ 200
  bd : ∀ x ∈ fs, x.name.length ≤ 10000 ∧ x.value.length ≤ 10000
theorem FE.below {w w' : World} {v : Value} {fs : List FI} (h : FE w v fs) (hb : Below w.heap.size w w') : FE w' v fs := ⟨h.fa.below hb, h.tab.below hb, h.len, h.bd⟩
theorem FE.get {w : World} {v : Value} {fs : List FI} (h : FE w v fs) (n : List UInt8) (hn : n.length ≤ 100) :
    Calls Tryz.prog 35 #[v, .string ⟨n.toArray⟩] w fun e w' => e = .returned (.tuple #[.string ⟨(fstE n fs).toArray⟩, .bool (!(valsOf n fs).isEmpty)]) ∧ Below w.heap.size w w' :=
  get_any n v fs w h.fa (by have := h.len; omega) (by omega) (fun x hx => by have := (h.bd x hx).1; omega)
theorem FE.fst {w : World} {v : Value} {fs : List FI} (h : FE w v fs) (n : List UInt8) : (fstE n fs).length ≤ 10000 := fst_len (fun x hx => (h.bd x hx).2)
theorem valE_any {w : World} {v : Value} {fs : List FI} (h : FE w v fs) (n : List UInt8) (hn : n.length ≤ 100) :
    Calls Tryz.prog 16 #[v, .string ⟨n.toArray⟩] w fun e w' => e = .returned (.string ⟨(valE n fs).toArray⟩) ∧ Below w.heap.size w w' := by
  have HG := hide (h.get n hn)
  have hfl := h.fst n
  have HQ := hide (fun w (ht : TabM w) => quote_any (fstE n fs) w ht (by omega))
  have HN : Hid (valE n fs = if (valsOf n fs).isEmpty then tNil else quoI (fstE n fs)) := rfl
  have HTb := hide h.tab
  obtain ⟨A, c, rfl, _⟩ := h.fa
  clear h
  generalize valE n fs = N at *
  generalize quoI (fstE n fs) = q at *
  generalize fstE n fs = f at *
  cases he : (valsOf n fs).isEmpty with
  | true =>
    rw [he] at HG HN
    rw [if_pos rfl] at HN
    clear he
    go_enter Tryz.func16, Tryz.ntmps16
    go_wp2_with (first
      | (go_at_call 35; refine HG.out.mono ?_; rintro e w2 ⟨rfl, hb2⟩; replace hb2 := hide hb2))
    go_ret
    exact ⟨by rw [HN.out]; rfl, hb2.out⟩
  | false =>
    rw [he] at HG HN
    rw [if_neg (by simp)] at HN
    clear he
    go_enter Tryz.func16, Tryz.ntmps16
    go_wp2_with (first
      | (go_at_call 35; refine HG.out.mono ?_; rintro e w2 ⟨rfl, hb2⟩; replace hb2 := hide hb2)
      | (go_at_call 36; refine (HQ.out _ (HTb.out.below hb2.out)).mono ?_; rintro e w3 ⟨rfl, hb3⟩; replace hb3 := hide hb3))
    go_ret
    exact ⟨by rw [HN.out]; rfl, hb2.out.trans (hb3.out.mono hb2.out.size)⟩
theorem adrN_drop {ns : List (List UInt8)} {i : Nat} (hi : i < ns.length) (fs : List FI) : adrN (ns.drop i) fs = if adsV (fstE ns[i] fs) = [] then adrN (ns.drop (i + 1)) fs else lstT (adsV (fstE ns[i] fs)) := by
  rw [List.drop_eq_getElem_cons hi]
  rfl
set_option maxHeartbeats 2000000 in
theorem adrs_any {w : World} {v vn : Value} {fs : List FI} (h : FE w v fs) (ns : List (List UInt8)) (hx : TX w vn ns) (hl : ns.length ≤ 10) (hn : ∀ n ∈ ns, n.length ≤ 100) :
    Calls Tryz.prog 17 #[v, vn] w fun e w' => e = .returned (.string ⟨(adrN ns fs).toArray⟩) ∧ Below w.heap.size w w' := by
  obtain ⟨A, c, rfl, hc⟩ := hx
  have HC := hide hc
  have HF := hide h
  have HNs := hide hn
  obtain ⟨Af, cf, rfl, _⟩ := h.fa
  clear hc h hn
  have HS : Hid (adrN ns fs = adrN (ns.drop 0) fs) := rfl
  generalize adrN ns fs = N at *
  go_enter Tryz.func17, Tryz.ntmps17
  go_wp2
  go_loopw [12] (fun v12 wr => ∃ i : Nat, v12 = .int .i64 i ∧ i ≤ ns.length ∧ Hid (Below w.heap.size w wr) ∧ Hid (N = adrN (ns.drop i) fs)) (fun v12 _ => ns.length - (intOf v12).toNat)
  case atStart => exact ⟨0, rfl, Nat.zero_le _, Below.refl _ _, HS⟩
  case round =>
    obtain ⟨i, rfl, hi, HB, HI⟩ := hrel
    clear HS
    have hbs := HB.out.size
    by_cases hlt : i < ns.length
    · have hlt' : (i : Int) < ns.length := by omega
      obtain ⟨g, o, rfl, hg, hcs⟩ := HC.out i hlt
      replace hcs := (HB.out.cell (p := ⟨g, o + i, none⟩) hg).trans hcs
      have hnl := HNs.out _ (List.getElem_mem hlt)
      have hst := adrN_drop hlt fs
      rw [← HI.out] at hst
      have HFr := hide (HF.out.below HB.out)
      have HG := hide (HFr.out.get ns[i] hnl)
      have hfl := HFr.out.fst ns[i]
      generalize ns[i] = n at *
      obtain ⟨f, hf⟩ : ∃ f, fstE n fs = f := ⟨_, rfl⟩
      rw [hf] at HG hfl hst
      have HAd := hide (fun w => ads_any f w (by omega))
      have HLs := hide (fun w v (ht : TabM w) hr => lst_any (adsV f) v w ht hr (by have := adsV_50 f; omega) (M := 10000) (by omega) (adsV_le hfl))
      have h50 := adsV_50 f
      obtain ⟨as', has⟩ : ∃ a, adsV f = a := ⟨_, rfl⟩
      rw [has] at HAd HLs hst h50
      clear HI hf
      by_cases h0 : as' = []
      · rw [if_pos h0] at hst
        have HN2 := hide hst
        subst h0
        clear hst HLs has HC
        generalize (!(valsOf n fs).isEmpty) = bb at *
        go_wp2_with (first
          | (go_at_call 35; refine HG.out.mono ?_; rintro e w2 ⟨rfl, hb2⟩; replace hb2 := hide hb2)
          | (go_at_call 13; refine (HAd.out _).mono ?_; rintro e w3 ⟨hb3, u, rfl, hr3⟩
             obtain ⟨A3, c3, rfl⟩ := hr3.form
             replace hb3 := hide hb3
             clear hr3))
        go_roundw
        case rel => exact ⟨i + 1, by go_num, by omega, HB.out.trans ((hb2.out.trans (hb3.out.mono hb2.out.size)).mono hbs), HN2⟩
        case measure => simp [intOf]; omega
      · rw [if_neg h0] at hst
        have HN2 := hide hst
        have h0' : (as'.length : Int) > 0 := by have := List.length_pos_iff.2 h0; omega
        clear hst has h0 HC
        generalize (!(valsOf n fs).isEmpty) = bb at *
        generalize lstT as' = LT at *
        go_wp2_with (first
          | (go_at_call 35; refine HG.out.mono ?_; rintro e w2 ⟨rfl, hb2⟩; replace hb2 := hide hb2)
          | (go_at_call 13; refine (HAd.out _).mono ?_; rintro e w3 ⟨hb3, u, rfl, hr3⟩
             have HLc := hide (HLs.out w3 u (HFr.out.tab.below (hb2.out.trans (hb3.mono hb2.out.size))) (hr3.reads (fun _ => rfl)))
             obtain ⟨A3, c3, rfl⟩ := hr3.form
             replace hb3 := hide hb3
             clear hr3)
          | (go_at_call 37; refine HLc.out.mono ?_; rintro e w4 ⟨rfl, hb4⟩; replace hb4 := hide hb4))
        go_ret
        have hb23 := hb2.out.trans (hb3.out.mono hb2.out.size)
        exact ⟨by rw [HN2.out]; rfl, HB.out.trans ((hb23.trans (hb4.out.mono hb23.size)).mono hbs)⟩
    · have HN2 : Hid (N = tNil) := by
        have := HI.out
        rw [List.drop_of_length_le (by omega)] at this
        exact this
      have hlt' : ¬ ((i : Int) < ns.length) := by omega
      go_wp2
      go_ret
      exact ⟨by rw [HN2.out]; rfl, HB.out⟩
theorem tx_of (w : World) (xs : List (List UInt8)) (o : Obj) (ho : o = .cells (xs.map fun x => Value.string ⟨x.toArray⟩).toArray 9) {k : Nat} (hk : xs.length = k) : TX (w.alloc o) (.slice (some ⟨w.heap.size, 0, none⟩) k k) xs := by
  subst ho
  subst hk
  refine ⟨_, xs.length, rfl, fun i hi => ⟨w.heap.size, 0, rfl, by rw [World.size_alloc]; omega, ?_⟩⟩
  rw [(Blk.new w _ _).cell, Nat.zero_add, List.getElem?_toArray, List.getElem?_map, List.getElem?_eq_getElem hi]
  rfl
set_option maxRecDepth 20000 in
set_option maxHeartbeats 4000000 in
theorem etext_any (m : List UInt8) (w : World) (ea : Addr) (hE : 200 < (hd (splitS m) 0).1.length → EF w ea) (ht : TabM w) (hm : m.length ≤ 10000) :
    Calls Tryz.prog 6 #[.string ⟨m.toArray⟩] w fun e w' => e = .returned (.string ⟨(envT m).toArray⟩) ∧ Below w.heap.size w w' := by
  have HFc := hide (fields_any m w ea hE (by omega))
  have HTb := hide ht
  have HT : Hid (envT m = brk (envW ((fdsOf m).map Fd.fi))) := rfl
  have HFl := hide (fdsE_len m)
  have HFd : Hid (∀ x ∈ (fdsOf m).map Fd.fi, x.name.length ≤ 10000 ∧ x.value.length ≤ 10000) := fun x hx => by have := fdsE_bd m x hx; omega
  clear hE ht
  generalize envT m = N at *
  go_enter Tryz.func6, Tryz.ntmps6
  go_wp2_with fail
  refine HFc.out.mono ?_
  intro e w1 ho
  obtain ⟨hb1, vf, er, rfl, hfa⟩ := FOut.uniE ho
  have hfe : FE w1 vf ((fdsOf m).map Fd.fi) := ⟨hfa, HTb.out.below hb1, by have := HFl.out; rw [List.length_map]; exact this, HFd.out⟩
  have HW : Hid (∀ x ∈ envW ((fdsOf m).map Fd.fi), x.length ≤ 400 * 10000 + 22303) := envW_len (by omega) (fun n => hfe.fst n)
  have HFE := hide hfe
  have HB0 := hide hb1
  obtain ⟨Af, cf, rfl, _⟩ := hfa
  generalize ((fdsOf m).map Fd.fi) = fs at *
  clear ho hb1 hfe HFc HFl HFd
  have HV : Hid (∀ (n : List UInt8) W, n.length ≤ 100 → Below w1.heap.size w1 W → Calls Tryz.prog 16 #[.slice Af fs.length cf, .string ⟨n.toArray⟩] W fun e w' => e = .returned (.string ⟨(valE n fs).toArray⟩) ∧ Below W.heap.size W w') := fun n W hn hb => valE_any (HFE.out.below hb) n hn
  have HA : Hid (∀ (ns : List (List UInt8)) (W : World) (o : Obj) (k : Nat), o = .cells (ns.map fun x => Value.string ⟨x.toArray⟩).toArray 9 → ns.length = k → k ≤ 10 → (∀ n ∈ ns, n.length ≤ 100) → Below w1.heap.size w1 W → Calls Tryz.prog 17 #[.slice Af fs.length cf, .slice (some ⟨W.heap.size, 0, none⟩) k k] (W.alloc o) fun e w' => e = .returned (.string ⟨(adrN ns fs).toArray⟩) ∧ Below W.heap.size W w') := fun ns W o k ho hk hl hn hb => by
    have hA1 := (Below.refl W.heap.size W).alloc (Nat.le_refl _) o
    refine (adrs_any (HFE.out.below (hb.trans (hA1.mono hb.size))) ns (tx_of W ns o ho hk) (by omega) hn).mono ?_
    rintro e w' ⟨rfl, hb'⟩
    exact ⟨rfl, hA1.trans (hb'.mono (by rw [World.size_alloc]; omega))⟩
  have HB1 : Hid (Below w1.heap.size w1 w1) := Below.refl _ _
  go_wp2_with fail
  refine (HV.out nDate _ (by decide) HB1.out).mono ?_
  rintro e w2 ⟨rfl, hb⟩
  have HB2 := hide (HB1.out.trans (hb.mono HB1.out.size))
  clear hb
  obtain ⟨x1, hx1⟩ : ∃ x, valE nDate fs = x := ⟨_, rfl⟩
  rw [hx1]
  go_wp2_with fail
  refine (HV.out nSubj _ (by decide) HB2.out).mono ?_
  rintro e w3 ⟨rfl, hb⟩
  have HB3 := hide (HB2.out.trans (hb.mono HB2.out.size))
  clear hb
  obtain ⟨x2, hx2⟩ : ∃ x, valE nSubj fs = x := ⟨_, rfl⟩
  rw [hx2]
  go_wp2_with fail
  refine (HA.out [nFrom] _ _ 1 rfl rfl (by decide) (by decide) HB3.out).mono ?_
  rintro e w4 ⟨rfl, hb⟩
  have HB4 := hide (HB3.out.trans (hb.mono HB3.out.size))
  clear hb
  obtain ⟨x3, hx3⟩ : ∃ x, adrN [nFrom] fs = x := ⟨_, rfl⟩
  rw [hx3]
  go_wp2_with fail
  refine (HA.out [nSend, nFrom] _ _ 2 rfl rfl (by decide) (by decide) HB4.out).mono ?_
  rintro e w5 ⟨rfl, hb⟩
  have HB5 := hide (HB4.out.trans (hb.mono HB4.out.size))
  clear hb
  obtain ⟨x4, hx4⟩ : ∃ x, adrN [nSend, nFrom] fs = x := ⟨_, rfl⟩
  rw [hx4]
  go_wp2_with fail
  refine (HA.out [nRepl, nFrom] _ _ 2 rfl rfl (by decide) (by decide) HB5.out).mono ?_
  rintro e w6 ⟨rfl, hb⟩
  have HB6 := hide (HB5.out.trans (hb.mono HB5.out.size))
  clear hb
  obtain ⟨x5, hx5⟩ : ∃ x, adrN [nRepl, nFrom] fs = x := ⟨_, rfl⟩
  rw [hx5]
  go_wp2_with fail
  refine (HA.out [nTo] _ _ 1 rfl rfl (by decide) (by decide) HB6.out).mono ?_
  rintro e w7 ⟨rfl, hb⟩
  have HB7 := hide (HB6.out.trans (hb.mono HB6.out.size))
  clear hb
  obtain ⟨x6, hx6⟩ : ∃ x, adrN [nTo] fs = x := ⟨_, rfl⟩
  rw [hx6]
  go_wp2_with fail
  refine (HA.out [nCc] _ _ 1 rfl rfl (by decide) (by decide) HB7.out).mono ?_
  rintro e w8 ⟨rfl, hb⟩
  have HB8 := hide (HB7.out.trans (hb.mono HB7.out.size))
  clear hb
  obtain ⟨x7, hx7⟩ : ∃ x, adrN [nCc] fs = x := ⟨_, rfl⟩
  rw [hx7]
  go_wp2_with fail
  refine (HA.out [nBcc] _ _ 1 rfl rfl (by decide) (by decide) HB8.out).mono ?_
  rintro e w9 ⟨rfl, hb⟩
  have HB9 := hide (HB8.out.trans (hb.mono HB8.out.size))
  clear hb
  obtain ⟨x8, hx8⟩ : ∃ x, adrN [nBcc] fs = x := ⟨_, rfl⟩
  rw [hx8]
  go_wp2_with fail
  refine (HV.out nIn _ (by decide) HB9.out).mono ?_
  rintro e w10 ⟨rfl, hb⟩
  have HB10 := hide (HB9.out.trans (hb.mono HB9.out.size))
  clear hb
  obtain ⟨x9, hx9⟩ : ∃ x, valE nIn fs = x := ⟨_, rfl⟩
  rw [hx9]
  go_wp2_with fail
  refine (HV.out nMid _ (by decide) HB10.out).mono ?_
  rintro e w11 ⟨rfl, hb⟩
  have HB11 := hide (HB10.out.trans (hb.mono HB10.out.size))
  clear hb
  obtain ⟨x10, hx10⟩ : ∃ x, valE nMid fs = x := ⟨_, rfl⟩
  rw [hx10]
  have hEW : envW fs = [x1, x2, x3, x4, x5, x6, x7, x8, x9, x10] := by unfold envW; rw [hx1, hx2, hx3, hx4, hx5, hx6, hx7, hx8, hx9, hx10]
  rw [hEW] at HT HW
  have hBl : (brk [x1, x2, x3, x4, x5, x6, x7, x8, x9, x10]).length ≤ 1000000000 := by have := brk_len [x1, x2, x3, x4, x5, x6, x7, x8, x9, x10] _ HW.out; simp only [List.length_cons, List.length_nil] at this; omega
  have HBk := hide (brk_any _ (tx_of w11 [x1, x2, x3, x4, x5, x6, x7, x8, x9, x10] _ rfl rfl) (by simp) (by simp) (fun A n c e => by cases e; exact Nat.le_refl _) hBl)
  rw [← HT.out] at HBk
  simp only [List.map_cons, List.map_nil, List.length_cons, List.length_nil, Nat.zero_add, Nat.reduceAdd] at HBk
  clear HV HA HW hBl hEW hx1 hx2 hx3 hx4 hx5 hx6 hx7 hx8 hx9 hx10
  go_wp2_with fail
  refine HBk.out.mono ?_
  rintro e w12 ⟨rfl, hb⟩
  have HB12 := hide ((HB11.out.alloc HB11.out.size _).trans (hb.mono (by have := HB11.out.size; rw [World.size_alloc]; omega)))
  clear hb
  go_wp2
  go_ret
  exact ⟨rfl, HB0.out.trans (HB12.out.mono HB0.out.size)⟩
end Go.Proofs.YtkppeejbmalefaaGreatDoor

end
section
set_option linter.unusedSimpArgs false
set_option linter.unusedVariables false
namespace Go.Proofs.YtkppeejbmalefaaGreatDoor
open Go.RowKit Go.Shelf
def exA : List UInt8 := [65, 110, 110, 32, 60, 97, 64, 98, 62, 44, 32, 99, 64, 100]
def exE : List UInt8 := [40, 78, 73, 76, 32, 78, 73, 76, 32, 78, 73, 76, 32, 78, 73, 76, 32, 78, 73, 76, 32, 78, 73, 76, 32, 78, 73, 76, 32, 78, 73, 76, 32, 78, 73, 76, 32, 78, 73, 76, 41]
theorem exA_ads : adsV exA = [⟨[65, 110, 110], [97], [98]⟩, ⟨[], [99], [100]⟩] := by kernel_rfl
theorem exE_txt : envT [] = exE := by kernel_rfl
theorem exE_hd : ¬ 200 < (hd (splitS ([] : List UInt8)) 0).1.length := by decide
theorem alive11 (w : World) (ht : TabM w) : Calls Tryz.prog 5 #[] w fun e w' => e = .returned (.bool true) ∧ Below w.heap.size w w' := by
  have HA := hide (ads_any exA w (by decide))
  rw [exA_ads] at HA
  have HT : Hid (∀ W, Below w.heap.size w W → Calls Tryz.prog 6 #[.string ⟨#[]⟩] W fun e w' => e = .returned (.string ⟨exE.toArray⟩) ∧ Below W.heap.size W w') := fun W hb => by
    have := etext_any [] W ⟨0, 0, none⟩ (fun h => absurd h exE_hd) (ht.below hb) (by simp)
    rw [exE_txt] at this
    exact this
  clear ht
  go_enter Tryz.func5, Tryz.ntmps5
  go_wp2_with fail
  refine HA.out.mono ?_
  rintro e w2 ⟨hb2, v, rfl, hr⟩
  obtain ⟨A, c, rfl, hc⟩ := hr.reads Ad.cs_len
  obtain ⟨g, o, rfl, hg, c0⟩ := hc 0 (by simp)
  obtain ⟨g2, o2, e2, _, c1⟩ := hc 1 (by simp)
  cases e2
  have k0 : w2.cell? ⟨g, o, none⟩ = some (.string ⟨#[65, 110, 110]⟩) := c0 0 (by omega)
  have k1 : w2.cell? ⟨g, o + 1, none⟩ = some (.string ⟨#[97]⟩) := c0 1 (by omega)
  have k2 : w2.cell? ⟨g, o + 2, none⟩ = some (.string ⟨#[98]⟩) := c0 2 (by omega)
  have m0 : w2.cell? ⟨g, o + 3, none⟩ = some (.string ⟨#[]⟩) := c1 0 (by omega)
  have m1 : w2.cell? ⟨g, o + 3 + 1, none⟩ = some (.string ⟨#[99]⟩) := c1 1 (by omega)
  have m2 : w2.cell? ⟨g, o + 3 + 2, none⟩ = some (.string ⟨#[100]⟩) := c1 2 (by omega)
  have HB2 := hide hb2
  clear hb2 c0 c1 hc hr
  simp only [List.length_cons, List.length_nil, Nat.zero_add, Nat.reduceAdd]
  unfold exE at HT
  go_wp2_with fail
  refine (HT.out _ HB2.out).mono ?_
  rintro e w3 ⟨rfl, hb3⟩
  have HB3 := hide (HB2.out.trans (hb3.mono HB2.out.size))
  clear hb3
  go_wp2
  go_ret
  exact ⟨rfl, HB3.out⟩
/-- How many bytes addresses have. -/
def adSum (xs : List Ad) : Nat := (xs.map fun a => 1 + a.name.length + a.loc.length + a.dom.length).sum
theorem adSum_take {xs : List Ad} {k : Nat} (hk : k < xs.length) : adSum (xs.take (k + 1)) = adSum (xs.take k) + (1 + xs[k].name.length + xs[k].loc.length + xs[k].dom.length) := by
  unfold adSum
  rw [List.take_succ_eq_append_getElem hk, List.map_append, List.sum_append]
  simp
theorem adSum_le : ∀ (xs : List Ad), xs.length ≤ adSum xs ∧ ∀ x ∈ xs, adLe (adSum xs) x
  | [] => ⟨Nat.zero_le _, fun _ h => by cases h⟩
  | a :: r => by
    obtain ⟨h1, h2⟩ := adSum_le r
    have e : adSum (a :: r) = (1 + a.name.length + a.loc.length + a.dom.length) + adSum r := by unfold adSum; simp
    refine ⟨by rw [e, List.length_cons]; omega, fun x hx => ?_⟩
    rcases List.mem_cons.1 hx with rfl | hx
    · exact ⟨by omega, by omega, by omega⟩
    · obtain ⟨a1, a2, a3⟩ := h2 x hx
      exact ⟨by omega, by omega, by omega⟩
end Go.Proofs.YtkppeejbmalefaaGreatDoor

end
