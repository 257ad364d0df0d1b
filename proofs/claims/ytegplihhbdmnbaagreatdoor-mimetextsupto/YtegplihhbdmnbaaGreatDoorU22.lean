/- withoutEnd, boundaryOf, encoding of package mime. -/
import Derived.Test.YtegplihhbdmnbaaGreatDoorU20
import Derived.Test.YtegplihhbdmnbaaGreatDoorU21
namespace Go.Proofs.YtegplihhbdmnbaaGreatDoor
open Go.RowKit Go.Shelf
theorem callsRetM {P : Program} {f : FuncId} {args : Array Value} {w : World} {v : Value} {R : Ending → World → Prop} (h : Calls P f args w fun e w' => e = .returned v ∧ w' = w) (hr : R (.returned v) w) : Calls P f args w R :=
  h.mono fun e w' ⟨h1, h2⟩ => by subst h1; subst h2; exact hr
theorem wend_any (x : List UInt8) (w : World) (hx : x.length ≤ 1000000) : Calls Tryz.prog 116 #[.string ⟨x.toArray⟩] w fun e w' => e = .returned (.string ⟨(txt x).toArray⟩) ∧ w' = w := by
  have HC : Hid (∀ w, Calls Tryz.prog 44 #[.string ⟨x.toArray⟩, .string ⟨#[10]⟩] w fun e w' => e = .returned (.tuple #[.string ⟨(Lib.trimSuffix x [10]).toArray⟩, .bool (Lib.hasSuffix x [10])]) ∧ w' = w) := fun w => Tryz.strings_CutSuffix ⟨x.toArray⟩ ⟨#[10]⟩ w (by rw [size_lit]; omega)
  rcases List.eq_nil_or_concat x with rfl | ⟨q, c, hq⟩
  · go_enter Tryz.func116, Tryz.ntmps116
    go_wp2_with (first
      | (go_at_call 44; refine callsRetM (HC.out _) ?_))
    go_ret
    exact ⟨rfl, rfl⟩
  · rw [List.concat_eq_append] at hq
    by_cases hc : c = 10
    · have h1 : Lib.hasSuffix x [10] = true := by
        rw [hq, hc]
        simp [Lib.hasSuffix]
      have h2 : Lib.trimSuffix x [10] = q := by
        unfold Lib.trimSuffix
        rw [h1, hq]
        simp
      have h3 : txt x = cr q := by rw [hq, hc, txt_term]
      have hql : q.length ≤ 1000000 := by
        rw [hq] at hx
        simp at hx
        omega
      rw [h1, h2] at HC
      rw [h3]
      have HT := hide (trim_cr q hql)
      generalize cr q = y at *
      clear h1 h2 h3 hq hc
      go_enter Tryz.func116, Tryz.ntmps116
      go_wp2_with (first
        | (go_at_call 44; refine callsRetM (HC.out _) ?_)
        | (go_at_call 140; refine callsRetM (HT.out _) ?_))
      go_ret
      exact ⟨rfl, rfl⟩
    · have hc2 : ¬ (10 : UInt8) = c := fun e => hc e.symm
      have h1 : Lib.hasSuffix x [10] = false := by
        rw [hq]
        simp [Lib.hasSuffix, List.isSuffixOf, List.isPrefixOf, hc2]
      have h3 : txt x = x := by
        unfold txt
        rw [if_neg]
        rw [hq]
        simp [hc]
      rw [h1] at HC
      rw [h3]
      generalize Lib.trimSuffix x [10] = y at *
      clear h1 h3 hq hc hc2
      go_enter Tryz.func116, Tryz.ntmps116
      go_wp2_with (first
        | (go_at_call 44; refine callsRetM (HC.out _) ?_))
      go_ret
      exact ⟨rfl, rfl⟩
/-- What boundaryOf answers. -/
def bdV (ps : List Pm) : List UInt8 × Bool := match bdOf ps with
  | some bd => (bd, bdOk bd)
  | none => ([], false)
theorem bd_take {ps : List Pm} {k : Nat} (hk : k < ps.length) (h : bdOf (ps.take k) = none) : bdOf (ps.take (k + 1)) = if ps[k].name = tBound then some ps[k].value else none := by
  unfold bdOf at *
  rw [List.take_succ_eq_append_getElem hk, List.find?_append]
  have h1 : (ps.take k).find? (fun p => p.name == tBound) = none := by
    cases hf : (ps.take k).find? (fun p => p.name == tBound) with
    | none => rfl
    | some x => rw [hf] at h; cases h
  rw [h1]
  by_cases hn : ps[k].name = tBound
  · simp [hn]
  · simp [hn]
theorem bd_done {ps : List Pm} {k : Nat} {v : List UInt8} (h : bdOf (ps.take k) = some v) : bdOf ps = some v := by
  unfold bdOf at *
  obtain ⟨x, h1, h2⟩ := Option.map_eq_some_iff.1 h
  have : ps.find? (fun p => p.name == tBound) = some x := by
    conv => lhs; rw [← List.take_append_drop k ps]
    rw [List.find?_append, h1]
    rfl
  rw [this, ← h2]
  rfl
set_option maxRecDepth 20000 in
set_option maxHeartbeats 1000000 in
theorem boundary_any (v : Value) (ps : List Pm) (w : World) (hv : ReadOf Pm.cs 2 w v ps) (hl : ps.length ≤ 1000000) (hx : ∀ x ∈ ps, x.value.length ≤ 1000000) :
    Calls Tryz.prog 81 #[v] w fun e w' => e = .returned (.tuple #[.string ⟨(bdV ps).1.toArray⟩, .bool (bdV ps).2]) ∧ Below w.heap.size w w' := by
  obtain ⟨A, c, rfl, hr⟩ := hv
  have HR := hide hr
  have HX := hide hx
  clear hr hx
  go_enter Tryz.func81, Tryz.ntmps81
  go_wp2
  go_loopw [8] (fun v8 wr => ∃ k : Nat, k ≤ ps.length ∧ v8 = .int .i64 k ∧ Hid (bdOf (ps.take k) = none) ∧ Hid (Below w.heap.size w wr)) (fun v8 _ => ps.length - (intOf v8).toNat)
  case atStart => exact ⟨0, Nat.zero_le _, rfl, rfl, Below.refl _ _⟩
  case round =>
    obtain ⟨k, hk, rfl, HT, HB⟩ := hrel
    have hbs := HB.out.size
    by_cases hlt : k < ps.length
    · obtain ⟨g, o, rfl, hgl, hq⟩ := HR.out k hlt
      have hlt' : (k : Int) < ps.length := by omega
      have q0 := (HB.out.cell (p := ⟨g, o + k * 2, none⟩) hgl).trans (hq 0 (by omega))
      have q1 := (HB.out.cell (p := ⟨g, o + k * 2 + 1, none⟩) hgl).trans (hq 1 (by omega))
      have hvl := HX.out _ (List.getElem_mem hlt)
      have HS := hide (bd_take hlt HT.out)
      generalize ps[k] = p at *
      obtain ⟨pn, pv⟩ := p
      simp only [Pm.cs, List.getElem?_cons_zero, List.getElem?_cons_succ] at q0 q1
      dsimp only at hvl
      have HB2 := hide (HB.out.alloc hbs (.cells #[.string ⟨pn.toArray⟩, .string ⟨pv.toArray⟩] 65))
      clear hq HT
      by_cases hn : pn = tBound
      · have HV : Hid (bdV ps = (pv, bdOk pv)) := by
          show _ = _
          unfold bdV
          have h1 := HS.out
          rw [if_pos hn] at h1
          rw [bd_done h1]
        subst hn
        unfold tBound at *
        have hsz := size_lit pv
        by_cases h1 : 1 ≤ pv.length
        · have a1 : (1 : Int) ≤ pv.length := by omega
          have b1 : decide ((1 : Int) ≤ pv.length) = true := decide_eq_true (by omega)
          have HK : Hid (bdOk pv = decide ((pv.length : Int) ≤ 70)) := by
            show _ = _
            unfold bdOk
            rw [decide_eq_true h1, Bool.true_and]
            exact decide_eq_decide.2 (by omega)
          clear HS
          go_wp2
          go_quiet (fail)
          go_wp2
          exact bodyPost_ret (v := .tuple #[.string ⟨pv.toArray⟩, .bool (decide ((pv.length : Int) ≤ 70))]) (by simp [results, Tryz.results81, go_sem]) rfl ⟨by rw [HV.out, HK.out], HB2.out.trans ((bel_drewN _ _).mono HB2.out.size)⟩
        · have a1 : ¬ (1 : Int) ≤ pv.length := by omega
          have b1 : decide ((1 : Int) ≤ pv.length) = false := decide_eq_false (by omega)
          have HK : Hid (bdOk pv = false) := by
            show _ = _
            unfold bdOk
            rw [decide_eq_false h1, Bool.false_and]
          clear HS
          go_wp2
          go_quiet (fail)
          go_wp2
          exact bodyPost_ret (v := .tuple #[.string ⟨pv.toArray⟩, .bool false]) (by simp [results, Tryz.results81, go_sem]) rfl ⟨by rw [HV.out, HK.out], HB2.out.trans ((bel_drewN _ _).mono HB2.out.size)⟩
      · have HV : Hid (bdOf (ps.take (k + 1)) = none) := by
          show _ = _
          rw [HS.out, if_neg hn]
        have hn' : (pn == [98, 111, 117, 110, 100, 97, 114, 121]) = false := beq_eq_false_iff_ne.2 hn
        clear HS hn
        go_wp2
        go_roundw
        case rel => exact ⟨k + 1, by omega, by go_num, HV, HB2⟩
        case measure => simp [intOf]; omega
    · obtain rfl : k = ps.length := by omega
      have HV : Hid (bdV ps = ([], false)) := by
        have := HT.out
        rw [List.take_length] at this
        show _ = _
        unfold bdV
        rw [this]
      go_wp2
      exact bodyPost_ret (v := .tuple #[.string ⟨#[]⟩, .bool false]) (by simp [results, Tryz.results81, go_sem]) rfl ⟨by rw [HV.out], HB.out⟩
theorem Fds.fa {B : Nat} {w : World} {v : Value} {xs : List Fd} (h : Fds B w v xs) : FA w v (xs.map Fd.fi) := by
  obtain ⟨A, c, rfl⟩ := h.form
  refine ⟨A, c, by rw [List.length_map], fun i hi => ?_⟩
  rw [List.length_map] at hi
  obtain ⟨g, o, cap, e, _, _, _, h5, q1, q2, q3, q4⟩ := h.read i hi
  refine ⟨g, o, by cases e; rfl, h5, ?_⟩
  simp only [List.getElem_map]
  exact ⟨q1, q2, q3, q4⟩
theorem FA.nil0 (w : World) : FA w (.slice none 0 0) [] := ⟨none, 0, rfl, fun i hi => by simp at hi⟩
set_option maxRecDepth 20000 in
theorem encoding_any (v : Value) (fs : List Fd) (w : World) (hv : FA w v (fs.map Fd.fi)) (hl : fs.length ≤ 1000) (hx : ∀ x ∈ fs, x.name.length ≤ 1000000 ∧ x.value.length ≤ 1000000) :
    Calls Tryz.prog 113 #[v] w fun e w' => e = .returned (.string ⟨(encV (firstV nCE fs)).toArray⟩) ∧ Below w.heap.size w w' := by
  have HG := hide (get_any nCE v (fs.map Fd.fi) w hv (by simpa using hl) (by decide) (fun x hx' => by
    obtain ⟨f, hf, rfl⟩ := List.mem_map.1 hx'
    exact (hx f hf).1))
  have hfl : (firstV nCE fs).length ≤ 1000000 := by
    unfold firstV valsOf
    cases hh : (((fs.map Fd.fi).filter fun x => sameT x.name nCE).map FI.value).head? with
    | none => simp
    | some y =>
      obtain ⟨z, hz, rfl⟩ := List.mem_map.1 (List.mem_of_mem_head? hh)
      obtain ⟨f, hf, rfl⟩ := List.mem_map.1 (List.mem_filter.1 hz).1
      exact (hx f hf).2
  have HF : Hid ((valsOf nCE (fs.map Fd.fi)).head?.getD [] = firstV nCE fs) := rfl
  rw [HF.out] at HG
  generalize firstV nCE fs = x at *
  generalize (!(valsOf nCE (fs.map Fd.fi)).isEmpty) = ok at *
  unfold nCE at HG
  clear HF
  by_cases h0 : x = []
  · subst h0
    have HV : Hid (encV [] = [55, 98, 105, 116]) := rfl
    go_enter Tryz.func113, Tryz.ntmps113
    go_wp2_with fail
    refine HG.out.mono ?_
    rintro e w1 ⟨rfl, hb1⟩
    replace hb1 := hide hb1
    go_wp2
    go_ret
    exact ⟨by rw [HV.out]; rfl, hb1.out⟩
  · have HV : Hid (encV x = x.map lowB) := if_neg h0
    have hE : x.isEmpty = false := by simpa using h0
    have HM := hide (fun w => msmall_any x w hfl)
    rw [HV.out]
    generalize x.map lowB = y at *
    clear HV h0
    go_enter Tryz.func113, Tryz.ntmps113
    go_wp2_with fail
    refine HG.out.mono ?_
    rintro e w1 ⟨rfl, hb1⟩
    replace hb1 := hide hb1
    go_wp2_with (first
      | (go_at_call 76; refine (HM.out _).mono ?_; rintro e w2 ⟨rfl, hb2⟩; replace hb2 := hide hb2))
    go_ret
    exact ⟨rfl, hb1.out.trans (hb2.out.mono hb1.out.size)⟩
end Go.Proofs.YtegplihhbdmnbaaGreatDoor
