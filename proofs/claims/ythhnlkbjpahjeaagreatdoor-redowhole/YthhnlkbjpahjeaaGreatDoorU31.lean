/- Which changes are in form, by the document. -/
/- Form, by the document. -/
/- How much room a change needs; why it is refused. -/
import Derived.Test.YthhnlkbjpahjeaaGreatDoorU20
import Derived.Test.YthhnlkbjpahjeaaGreatDoorU30
section
namespace Go.Proofs.YthhnlkbjpahjeaaGreatDoor
open Go.RowKit
theorem opForm_iff (x : OpA) : opForm x = true ↔ (1 ≤ x.kind ∧ x.kind ≤ 3 ∧ rightB x.name = true ∧ (x.name == redoN) = false ∧ 0 ≤ x.at_ ∧ x.at_ ≤ 1073741824 ∧ (x.kind ≠ 1 → x.at_ = 0) ∧ (x.kind = 3 → x.bytes.length = 0)) := by
  unfold opForm kindOk
  constructor
  · intro h
    simp only [Bool.and_eq_true, Bool.not_eq_true'] at h
    obtain ⟨h1, h2, h3⟩ := h
    split at h3
    · simp at h3
      exact ⟨by omega, by omega, h1, h2, by omega, by omega, fun h => by omega, fun h => by omega⟩
    · split at h3
      · simp at h3
        exact ⟨by omega, by omega, h1, h2, by omega, by omega, fun h => by omega, fun h => by omega⟩
      · split at h3
        · simp at h3
          exact ⟨by omega, by omega, h1, h2, by omega, by omega, fun h => by omega, fun h => by rw [h3.2]; rfl⟩
        · cases h3
  · rintro ⟨h1, h2, h3, h4, h5, h6, h7, h8⟩
    rw [h3, h4]
    simp only [Bool.not_false, Bool.true_and]
    by_cases k1 : x.kind = 1
    · rw [if_pos k1, decide_eq_true h5, decide_eq_true h6]
      rfl
    · rw [if_neg k1]
      have a0 := h7 k1
      by_cases k2 : x.kind = 2
      · rw [if_pos k2, a0]
        rfl
      · have k3 : x.kind = 3 := by omega
        rw [if_neg k2, if_pos k3, a0, h8 k3]
        rfl
theorem opForm_no {x : OpA} (h : ¬ (1 ≤ x.kind ∧ x.kind ≤ 3 ∧ rightB x.name = true ∧ (x.name == redoN) = false ∧ 0 ≤ x.at_ ∧ x.at_ ≤ 1073741824 ∧ (x.kind ≠ 1 → x.at_ = 0) ∧ (x.kind = 3 → x.bytes.length = 0))) : opForm x = false := by
  cases hb : opForm x with
  | false => rfl
  | true => exact absurd ((opForm_iff x).1 hb) h
/-- The first of the document's tests that fails, or none. -/
theorem op_cases (kd att : Int) (nm : List UInt8) (n : Nat) :
    (kd < 1) ∨ (1 ≤ kd ∧ 3 < kd) ∨ (1 ≤ kd ∧ kd ≤ 3 ∧ rightB nm = false) ∨ (1 ≤ kd ∧ kd ≤ 3 ∧ rightB nm = true ∧ (nm == redoN) = true) ∨ (1 ≤ kd ∧ kd ≤ 3 ∧ rightB nm = true ∧ (nm == redoN) = false ∧ att < 0) ∨
    (1 ≤ kd ∧ kd ≤ 3 ∧ rightB nm = true ∧ (nm == redoN) = false ∧ 0 ≤ att ∧ 1073741824 < att) ∨ (1 ≤ kd ∧ kd ≤ 3 ∧ rightB nm = true ∧ (nm == redoN) = false ∧ 0 ≤ att ∧ att ≤ 1073741824 ∧ kd ≠ 1 ∧ att ≠ 0) ∨
    (1 ≤ kd ∧ kd ≤ 3 ∧ rightB nm = true ∧ (nm == redoN) = false ∧ 0 ≤ att ∧ att ≤ 1073741824 ∧ kd = 3 ∧ att = 0 ∧ 0 < n) ∨
    (1 ≤ kd ∧ kd ≤ 3 ∧ rightB nm = true ∧ (nm == redoN) = false ∧ 0 ≤ att ∧ att ≤ 1073741824 ∧ (kd ≠ 1 → att = 0) ∧ (kd = 3 → n = 0)) := by
  cases h3 : rightB nm <;> cases h4 : (nm == redoN) <;> simp <;> omega
end Go.Proofs.YthhnlkbjpahjeaaGreatDoor

end
section
namespace Go.Proofs.YthhnlkbjpahjeaaGreatDoor
open Go.RowKit
theorem size_all : ∀ (r : List OpA), sizeOps r ≤ 400000 → ∀ x ∈ r, x.bytes.length ≤ 400000 ∧ x.name.length ≤ 400000
  | [], _, _, h => by cases h
  | y :: r, hs, x, hx => by
    unfold sizeOps opSize at hs
    rcases List.mem_cons.1 hx with rfl | hx
    · exact ⟨by omega, by omega⟩
    · exact size_all r (by omega) x hx
end Go.Proofs.YthhnlkbjpahjeaaGreatDoor

end
section
namespace Go.Proofs.YthhnlkbjpahjeaaGreatDoor
open Go.RowKit Go.Maps Go.Sort
def growI (s : St) (x : OpA) : Int := if x.kind = 1 then min x.at_ (szOf s x.name) + x.bytes.length - szOf s x.name else if x.kind = 2 then x.bytes.length - szOf s x.name else 0
def roomI (s : St) : List OpA → Int
  | [] => 0
  | x :: r => max 0 (growI s x) + roomI s r
theorem roomI_at (s : St) (ops : List OpA) (k : Nat) (h : k < ops.length) : roomI s (ops.drop k) = max 0 (growI s ops[k]) + roomI s (ops.drop (k + 1)) := by
  rw [List.drop_eq_getElem_cons h]
  rfl
theorem roomI_nonneg (s : St) : ∀ ops : List OpA, 0 ≤ roomI s ops
  | [] => Int.le_refl _
  | x :: r => by
    have := roomI_nonneg s r
    unfold roomI
    omega
theorem growI_le (s : St) (x : OpA) : growI s x ≤ x.bytes.length := by
  unfold growI
  split
  · omega
  · split <;> omega
theorem roomI_le (s : St) : ∀ ops : List OpA, roomI s ops + 1 ≤ sizeOps ops
  | [] => Int.le_refl _
  | x :: r => by
    have h1 := roomI_le s r
    have h2 := growI_le s x
    unfold roomI sizeOps opSize
    omega
section
variable (w0 w : World) (l d : Nat) (dead : Bool) (ρ : Nat → Option Role) (s : St) (a : Nat → Addr)
set_option maxRecDepth 8000 in
set_option maxHeartbeats 2000000 in
theorem growth_any (hE : Errs w0 a) (h : LG w0 w l d dead ρ s) (hoff : s.off = false) (vo vr : Value) (x : OpA) (hf : opForm x = true) (hb0 : x.bytes.length ≤ 400000) (hz : szOf s x.name ≤ 1000000000) (Ab : Option Addr) (cb : Nat) (hv : x.val = .slice Ab x.bytes.length cb) :
    Calls Tryz.prog 79 #[.agg #[pv l, vo, vr], .agg x.cells] w fun e w' => e = .returned (.int .i64 (growI s x)) ∧ Below w.heap.size w w' := by
  obtain ⟨o1, o2, o3, o4, o5⟩ := opForm_parts hf
  have hr : rightB x.name = true := by
    have := (opForm_iff x).1 hf
    exact this.2.2.1
  have hb : Below w.heap.size w ((w.alloc (.cells #[pv l, vo, vr] 65)).alloc (.cells x.cells 48)) := ((Below.refl _ _).alloc (Nat.le_refl _) _).alloc (by simp) _
  have k1 : Blk ((w.alloc (.cells #[pv l, vo, vr] 65)).alloc (.cells x.cells 48)) (w.heap.size + 1) x.cells 48 := Blk.new1 _ _ _ _
  have HS := hide (csize_any w0 _ l d dead ρ s a hE (h.then hb) hoff vo vr x.name hr)
  have HB := hide hb
  have K1 := hide k1
  obtain ⟨R, hR⟩ : ∃ R, Hid (R = growI s x) := ⟨_, rfl⟩
  rw [← hR.out]
  have hR' := hR.out
  unfold growI at hR'
  obtain ⟨kd, nm, att, vl, bs⟩ := x
  unfold OpA.cells at *
  simp only at hR' HS K1 HB hv hz o1 o2 o3 o4 o5 hb0 ⊢
  subst hv
  generalize szOf s nm = z at hR' HS hz
  clear k1 h hb hR hf
  unfold pv at *
  go_enter Tryz.func79, Tryz.ntmps79
  go_wp2_with fail
  refine HS.out.mono ?_
  rintro e w1 ⟨rfl, hb1⟩
  have hc1 := (K1.out.below hb1 K1.out.lt).cell
  have HB1 := hide (HB.out.trans (hb1.mono HB.out.size))
  clear hb1 HS K1 HB
  by_cases e1 : kd = 1
  · subst e1
    rw [if_pos rfl] at hR'
    replace hR' := hide hR'
    go_wp2
    go_ret
    refine ⟨?_, HB1.out⟩
    rw [hR'.out]
    exact ret_int (by omega)
  · by_cases e2 : kd = 2
    · subst e2
      rw [if_neg (by decide), if_pos rfl] at hR'
      replace hR' := hide hR'
      go_wp2
      go_ret
      refine ⟨?_, HB1.out⟩
      rw [hR'.out]
      exact ret_int (by omega)
    · obtain rfl : kd = 3 := by omega
      rw [if_neg (by decide), if_neg (by decide)] at hR'
      replace hR' := hide hR'
      go_wp2
      go_ret
      refine ⟨?_, HB1.out⟩
      rw [hR'.out]
      rfl
set_option maxRecDepth 8000 in
set_option maxHeartbeats 4000000 in
theorem room_any (hE : Errs w0 a) (h : LG w0 w l d dead ρ s) (hoff : s.off = false) (ops : List OpA) (vo vr : Value) (hO : OPs w vo ops) (hf : formB ops = true) (hz : ∀ name, szOf s name ≤ 1000000000) (rec : List UInt8) (hrec : BR w vr rec) (hrl : rec.length ≤ 1000000) :
    Calls Tryz.prog 46 #[.agg #[pv l, vo, vr]] w fun e w' => e = .returned (.int .i64 (rec.length + roomI s ops)) ∧ Below w.heap.size w w' := by
  obtain ⟨h1, h16, hgood, hsz⟩ := form_parts hf
  have hrle := roomI_le s ops
  have HL := hide h
  have HO := hide hO
  have hb : Below w.heap.size w (w.alloc (.cells #[pv l, vo, vr] 65)) := (Below.refl _ _).alloc (Nat.le_refl _) _
  have K0 := hide (Blk.new w #[pv l, vo, vr] 65)
  have HB := hide hb
  obtain ⟨A, c, rfl, hl, hm⟩ := hO.form
  have hmx : c ≤ 9223372036854775807 := by simp only [maxLen] at hm; omega
  obtain ⟨Ar, cr, rfl, _⟩ := BR.form hrec
  clear h hO hb hm hf hrec
  unfold pv at *
  go_enter Tryz.func46, Tryz.ntmps46
  go_wp2
  go_loopw [3, 5, 12] (fun n _ u wr => ∃ (k : Nat) (m : Int), k ≤ ops.length ∧ u = .int .i64 k ∧ n = .int .i64 m ∧ Hid (0 ≤ m ∧ m + roomI s (ops.drop k) = rec.length + roomI s ops) ∧ Hid (Below (w.alloc (.cells #[.pointer (some ⟨l, 0, none⟩), .slice A ops.length c, .slice Ar rec.length cr] 65)).heap.size (w.alloc (.cells #[.pointer (some ⟨l, 0, none⟩), .slice A ops.length c, .slice Ar rec.length cr] 65)) wr)) (fun _ _ u _ => ops.length - (intOf u).toNat)
  case atStart => exact ⟨0, rec.length, Nat.zero_le _, rfl, rfl, ⟨by omega, rfl⟩, Below.refl _ _⟩
  case round =>
    obtain ⟨k, m, hkl, rfl, rfl, hM, hBr⟩ := hrel
    have hbA := HB.out.trans (hBr.out.mono HB.out.size)
    by_cases hlt : k < ops.length
    · have hltz : (k : Int) < (ops.length : Int) := by omega
      have kb := K0.out.below hBr.out K0.out.lt
      have hc0 := kb.cell
      have hlb0 := kb.lt
      obtain ⟨g, o, rfl, hg, _, q0, q1, q2, q3, q4⟩ := (HO.out.below hbA).at hlt
      obtain ⟨Ab, cb, hvb, _⟩ := q4.form
      have hgr := growth_any w0 (wr.alloc (.cells ops[k].cells 48)) l d dead ρ s a hE ((HL.out.then hbA).then ((Below.refl _ _).alloc (Nat.le_refl _) _)) hoff (.slice (some ⟨g, o, none⟩) ops.length c) (.slice Ar rec.length cr) ops[k] (good_all ops [] hgood _ (List.getElem_mem hlt)) (size_all ops (by omega) _ (List.getElem_mem hlt)).1 (hz _) Ab cb hvb
      have hMo := hM.out
      rw [roomI_at s ops k hlt] at hMo
      have hnn := roomI_nonneg s (ops.drop (k + 1))
      unfold OpA.cells at hgr
      unfold pv at hgr
      generalize growI s ops[k] = gi at hgr hMo
      generalize hx : ops[k] = x at q0 q1 q2 q3 hvb hgr
      clear hx q4 kb
      obtain ⟨kd, nm, att, vl, bs⟩ := x
      simp only at q0 q1 q2 q3 hvb hgr
      subst hvb
      replace hgr := hide hgr
      have hbA' := hide hbA
      obtain ⟨m0, m1⟩ := hMo
      clear hbA
      go_wp2_with (go_at_call 79; refine hgr.out.mono ?_; rintro e w2 ⟨rfl, hb2⟩; replace hb2 := hide hb2)
      go_round
      case rel =>
        refine ⟨k + 1, m + max 0 gi, by omega, by go_num, ?_, ⟨by omega, by omega⟩, hBr.out.trans ((((Below.refl _ _).alloc (Nat.le_refl _) _).trans (hb2.out.mono (by simp))).mono hBr.out.size)⟩
        congr 1 <;> omega
      case measure => simp [intOf]; omega
    · have hltz : ¬ (k : Int) < (ops.length : Int) := by omega
      have hMo := hM.out
      rw [List.drop_eq_nil_of_le (by omega)] at hMo
      have e : Hid (m = rec.length + roomI s ops) := by
        show _ = _
        have h1 := hMo.2
        rw [show roomI s [] = 0 from rfl] at h1
        omega
      have hbA' := hide hbA
      clear hMo hbA
      go_wp2
      go_ret
      exact ⟨by rw [← e.out]; rfl, hbA'.out⟩
end
end Go.Proofs.YthhnlkbjpahjeaaGreatDoor

end
