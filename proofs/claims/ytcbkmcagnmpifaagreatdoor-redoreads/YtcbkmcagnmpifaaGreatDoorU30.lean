/- How many files there are at most while a change is done; how much room it needs. -/
/- Which changes are in form, by the document. -/
import Derived.Test.YtcbkmcagnmpifaaGreatDoorU29
import Derived.Test.YtcbkmcagnmpifaaGreatDoorU28
section
namespace Go.Proofs.YtcbkmcagnmpifaaGreatDoor
open Go.RowKit Go.Maps Go.Sort
def stepF (ns : List (List UInt8)) (x : OpA) (f : Int) : Int := if (x.kind == 3) = true then (if ns.contains x.name = true then f - 1 else f) else if ns.contains x.name = true then f else f + 1
def mostF (ns : List (List UInt8)) : List OpA → Int → Int → Int
  | [], _, m => m
  | x :: r, f, m => mostF ns r (stepF ns x f) (max m (stepF ns x f))
theorem mostF_at (ns : List (List UInt8)) (ops : List OpA) (k : Nat) (h : k < ops.length) (f m : Int) : mostF ns (ops.drop k) f m = mostF ns (ops.drop (k + 1)) (stepF ns ops[k] f) (max m (stepF ns ops[k] f)) := by
  rw [List.drop_eq_getElem_cons h]
  rfl
section
variable (w0 w : World) (l d : Nat) (dead : Bool) (ρ : Nat → Option Role) (s : St) (a : Nat → Addr)
set_option maxRecDepth 8000 in
set_option maxHeartbeats 4000000 in
theorem mostFiles_any (h : LG w0 w l d dead ρ s) (hoff : s.off = false) (hN : s.N ≤ 100000) (ops : List OpA) (vo vr : Value) (hO : OPs w vo ops) (h16 : ops.length ≤ 16) :
    Calls Tryz.prog 67 #[.agg #[pv l, vo, vr]] w fun e w' => Below w.heap.size w w' ∧ ∃ ns : List (List UInt8), ns.Perm (strKeys s.D) ∧ e = .returned (.int .i64 (mostF ns ops ns.length ns.length)) := by
  obtain ⟨W, hW⟩ : ∃ W, Hid (W = w.alloc (.cells #[pv l, vo, vr] 84)) := ⟨_, rfl⟩
  have hb : Below w.heap.size w W := by rw [hW.out]; exact (Below.refl _ _).alloc (Nat.le_refl _) _
  have hL := h.then hb
  have hcl := h.lb.cell
  have hll := h.lb.lt
  have kW : Blk W w.heap.size #[pv l, vo, vr] 84 := by rw [hW.out]; exact Blk.new _ _ _
  have HLs := hide (list_any w0 W d ρ s hL.dk hoff (by omega))
  have hsz : Hid (Maps.size s.D ≤ 100000) := by
    obtain ⟨_, _, _, _, _, _, _, _, h⟩ := h.dk
    have := h.names.size_le
    show _ ≤ _
    omega
  have hkeys : Hid ((strKeys s.D).length = Maps.size s.D) := by
    obtain ⟨_, _, _, _, _, _, _, _, h⟩ := h.dk
    have hm := h.names.isMap
    show _ = _
    cases hD : s.D with
    | map es => simp [strKeys, Maps.size]
    | _ => exact absurd hm (by rw [hD]; simp [IsMap])
  have HB := hide hb
  have KW := hide kW
  have HO := hide hO
  obtain ⟨A, c, rfl, hl, hm⟩ := hO.form
  have hmx : c ≤ 9223372036854775807 := by simp only [maxLen] at hm; omega
  clear hL h hb kW hO hm
  unfold pv at *
  go_enter Tryz.func67, Tryz.ntmps67
  go_wp2_with fail
  rw [← hW.out]
  refine HLs.out.mono ?_
  rintro e w1 ⟨v, ss, rfl, hp, ht, hb1, _⟩
  obtain ⟨ns, hns⟩ : ∃ ns, Hid (ns = ss.mergeSort (fun x y => decide (x ≤ y))) := ⟨_, rfl⟩
  rw [← hns.out] at ht
  have hperm : Hid (ns.Perm (strKeys s.D)) := by
    show List.Perm _ _
    rw [hns.out]
    exact (List.mergeSort_perm _ _).trans hp
  have hnl : ns.length ≤ 100000 := by
    have h1 := hperm.out.length_eq
    have h2 := hkeys.out
    have h3 := hsz.out
    omega
  obtain ⟨An, cn, hvn, _⟩ : ∃ A c, v = .slice A ns.length c ∧ True := by
    obtain ⟨A, c, hv, _⟩ := ht
    rw [List.length_map] at hv
    exact ⟨A, c, hv, trivial⟩
  subst hvn
  have HT := hide ht
  have HB1 := hide hb1
  have K1 := (KW.out.below hb1 KW.out.lt).cell
  clear hp ht hb1 HLs hns
  go_wp2_with fail
  go_loopw [5, 6, 8, 9, 25] (fun fv mv _ _ u wr => ∃ (k : Nat) (f m : Int), k ≤ ops.length ∧ u = .int .i64 k ∧ fv = .int .i64 f ∧ mv = .int .i64 m ∧ Hid (-(k : Int) ≤ f ∧ f ≤ ns.length + k ∧ -(k : Int) ≤ m ∧ m ≤ ns.length + k) ∧ Hid (Below w1.heap.size w1 wr) ∧ Hid (mostF ns ops ns.length ns.length = mostF ns (ops.drop k) f m)) (fun _ _ _ _ u _ => ops.length - (intOf u).toNat)
  case atStart => exact ⟨0, ns.length, ns.length, Nat.zero_le _, rfl, rfl, rfl, ⟨by simp, by simp, by simp, by simp⟩, Below.refl _ _, rfl⟩
  case round =>
    obtain ⟨k, f, m, hkl, rfl, rfl, rfl, hbd, hBr, hA⟩ := hrel
    by_cases hlt : k < ops.length
    · have hltz : (k : Int) < (ops.length : Int) := by omega
      have hbA := HB.out.trans ((HB1.out.trans (hBr.out.mono HB1.out.size)).mono HB.out.size)
      obtain ⟨g, o, rfl, hg, _, q0, q1, q2, q3, q4⟩ := (HO.out.below hbA).at hlt
      obtain ⟨Ab, cb, hvb, _⟩ := q4.form
      have HD := mostF_at ns ops k hlt f m
      have hbW : Below wr.heap.size wr (wr.alloc (.cells ops[k].cells 35)) := (Below.refl _ _).alloc (Nat.le_refl _) _
      have HC := containsS_any ns _ (wr.alloc (.cells ops[k].cells 35)) ((HT.out.below hBr.out).below hbW) ops[k].name
      unfold OpA.cells at HC hbW
      unfold stepF at HD
      generalize hx : ops[k] = x at q0 q1 q2 q3 hvb HD HC hbW
      clear hx q4 hbA
      obtain ⟨kd, nm, att, vl, bs⟩ := x
      simp only at q0 q1 q2 q3 hvb HD HC hbW
      subst hvb
      replace hbW := hide hbW
      obtain ⟨b1, b2, b3, b4⟩ := hbd.out
      generalize hct : ns.contains nm = ct at HC HD
      replace HC := hide HC
      clear hct
      cases hk : (kd == 3) with
      | true =>
        have hk2 : (kd != 3) = false := by simpa using hk
        cases ct with
        | true =>
          rw [if_pos hk, if_pos rfl] at HD
          replace HD := hide HD
          go_wp2_with (go_at_call 96; refine HC.out.mono ?_; rintro e w2 ⟨rfl, rfl⟩)
          go_round
          case rel =>
            refine ⟨k + 1, f - 1, max m (f - 1), by omega, by go_num, rfl, ?_, ⟨by omega, by omega, by omega, by omega⟩, hBr.out.trans (hbW.out.mono hBr.out.size), hA.out.trans HD.out⟩
            congr 1 <;> omega
          case measure => simp [intOf]; omega
        | false =>
          rw [if_pos hk, if_neg (by simp)] at HD
          replace HD := hide HD
          go_wp2_with (go_at_call 96; refine HC.out.mono ?_; rintro e w2 ⟨rfl, rfl⟩)
          go_round
          case rel =>
            refine ⟨k + 1, f, max m f, by omega, by go_num, rfl, ?_, ⟨by omega, by omega, by omega, by omega⟩, hBr.out.trans (hbW.out.mono hBr.out.size), hA.out.trans HD.out⟩
            congr 1 <;> omega
          case measure => simp [intOf]; omega
      | false =>
        have hk2 : (kd != 3) = true := by simpa using hk
        cases ct with
        | true =>
          rw [if_neg (by rw [hk]; simp), if_pos rfl] at HD
          replace HD := hide HD
          go_wp2_with (go_at_call 96; refine HC.out.mono ?_; rintro e w2 ⟨rfl, rfl⟩)
          go_round
          case rel =>
            refine ⟨k + 1, f, max m f, by omega, by go_num, rfl, ?_, ⟨by omega, by omega, by omega, by omega⟩, hBr.out.trans (hbW.out.mono hBr.out.size), hA.out.trans HD.out⟩
            congr 1 <;> omega
          case measure => simp [intOf]; omega
        | false =>
          rw [if_neg (by rw [hk]; simp), if_neg (by simp)] at HD
          replace HD := hide HD
          go_wp2_with (go_at_call 96; refine HC.out.mono ?_; rintro e w2 ⟨rfl, rfl⟩)
          go_round
          case rel =>
            refine ⟨k + 1, f + 1, max m (f + 1), by omega, by go_num, rfl, ?_, ⟨by omega, by omega, by omega, by omega⟩, hBr.out.trans (hbW.out.mono hBr.out.size), hA.out.trans HD.out⟩
            congr 1 <;> omega
          case measure => simp [intOf]; omega
    · have hltz : ¬ (k : Int) < (ops.length : Int) := by omega
      have e : Hid (mostF ns ops ns.length ns.length = m) := by
        show _ = _
        rw [hA.out, List.drop_eq_nil_of_le (by omega)]
        rfl
      go_wp2
      go_ret
      exact ⟨HB.out.trans ((HB1.out.trans (hBr.out.mono HB1.out.size)).mono HB.out.size), ns, hperm.out, by rw [e.out]; rfl⟩
end
end Go.Proofs.YtcbkmcagnmpifaaGreatDoor

end
section
namespace Go.Proofs.YtcbkmcagnmpifaaGreatDoor
open Go.RowKit
theorem opForm_iff (x : OpA) : opForm x = true ↔ (1 ≤ x.kind ∧ x.kind ≤ 3 ∧ rightB x.name = true ∧ (x.name == redoN) = false ∧ 0 ≤ x.at_ ∧ x.at_ ≤ 1073741824 ∧ (x.kind ≠ 1 → x.at_ = 0) ∧ (x.kind = 3 → x.bytes.length = 0)) := by
  unfold opForm kindOk
  constructor
  · intro h
    simp only [Bool.and_eq_true, Bool.not_eq_true'] at h
    obtain ⟨h1, h2, h3⟩ := h
    split at h3
    · simp at h3
      exact ⟨by omega, by omega, h1, h2, by omega, by omega, fun h => by omega, fun h => by omega⟩
    · split at h3
      · simp at h3
        exact ⟨by omega, by omega, h1, h2, by omega, by omega, fun h => by omega, fun h => by omega⟩
      · split at h3
        · simp at h3
          exact ⟨by omega, by omega, h1, h2, by omega, by omega, fun h => by omega, fun h => by rw [h3.2]; rfl⟩
        · cases h3
  · rintro ⟨h1, h2, h3, h4, h5, h6, h7, h8⟩
    rw [h3, h4]
    simp only [Bool.not_false, Bool.true_and]
    by_cases k1 : x.kind = 1
    · rw [if_pos k1, decide_eq_true h5, decide_eq_true h6]
      rfl
    · rw [if_neg k1]
      have a0 := h7 k1
      by_cases k2 : x.kind = 2
      · rw [if_pos k2, a0]
        rfl
      · have k3 : x.kind = 3 := by omega
        rw [if_neg k2, if_pos k3, a0, h8 k3]
        rfl
theorem opForm_no {x : OpA} (h : ¬ (1 ≤ x.kind ∧ x.kind ≤ 3 ∧ rightB x.name = true ∧ (x.name == redoN) = false ∧ 0 ≤ x.at_ ∧ x.at_ ≤ 1073741824 ∧ (x.kind ≠ 1 → x.at_ = 0) ∧ (x.kind = 3 → x.bytes.length = 0))) : opForm x = false := by
  cases hb : opForm x with
  | false => rfl
  | true => exact absurd ((opForm_iff x).1 hb) h
/-- The first of the document's tests that fails, or none. -/
theorem op_cases (kd att : Int) (nm : List UInt8) (n : Nat) :
    (kd < 1) ∨ (1 ≤ kd ∧ 3 < kd) ∨ (1 ≤ kd ∧ kd ≤ 3 ∧ rightB nm = false) ∨ (1 ≤ kd ∧ kd ≤ 3 ∧ rightB nm = true ∧ (nm == redoN) = true) ∨ (1 ≤ kd ∧ kd ≤ 3 ∧ rightB nm = true ∧ (nm == redoN) = false ∧ att < 0) ∨
    (1 ≤ kd ∧ kd ≤ 3 ∧ rightB nm = true ∧ (nm == redoN) = false ∧ 0 ≤ att ∧ 1073741824 < att) ∨ (1 ≤ kd ∧ kd ≤ 3 ∧ rightB nm = true ∧ (nm == redoN) = false ∧ 0 ≤ att ∧ att ≤ 1073741824 ∧ kd ≠ 1 ∧ att ≠ 0) ∨
    (1 ≤ kd ∧ kd ≤ 3 ∧ rightB nm = true ∧ (nm == redoN) = false ∧ 0 ≤ att ∧ att ≤ 1073741824 ∧ kd = 3 ∧ att = 0 ∧ 0 < n) ∨
    (1 ≤ kd ∧ kd ≤ 3 ∧ rightB nm = true ∧ (nm == redoN) = false ∧ 0 ≤ att ∧ att ≤ 1073741824 ∧ (kd ≠ 1 → att = 0) ∧ (kd = 3 → n = 0)) := by
  cases h3 : rightB nm <;> cases h4 : (nm == redoN) <;> simp <;> omega
end Go.Proofs.YtcbkmcagnmpifaaGreatDoor

end
