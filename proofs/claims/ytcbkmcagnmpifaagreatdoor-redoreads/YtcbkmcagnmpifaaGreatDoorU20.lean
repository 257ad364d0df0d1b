/- Which changes are in form, by the program. -/
/- Whether a change is in form, by the program. -/
import Derived.Test.YtcbkmcagnmpifaaGreatDoorU19
section
namespace Go.Proofs.YtcbkmcagnmpifaaGreatDoor
open Go.RowKit
def redoN : List UInt8 := [114, 101, 100, 111]
def kindOk (x : OpA) : Bool := if x.kind = 1 then decide (0 ≤ x.at_) && decide (x.at_ ≤ 1073741824) else if x.kind = 2 then x.at_ == 0 else if x.kind = 3 then x.at_ == 0 && (x.bytes.length : Int) == 0 else false
def opForm (x : OpA) : Bool := rightB x.name && (!(x.name == redoN) && kindOk x)
def goodFrom : List OpA → List OpA → Bool
  | _, [] => true
  | pre, x :: r => (opForm x && !(pre.any fun y => y.name == x.name)) && goodFrom (pre ++ [x]) r
def opSize (x : OpA) : Nat := 10 + x.name.length + x.bytes.length
def sizeOps : List OpA → Nat
  | [] => 1
  | x :: r => opSize x + sizeOps r
def formB (ops : List OpA) : Bool := decide (1 ≤ ops.length) && (decide (ops.length ≤ 16) && (goodFrom [] ops && decide (sizeOps ops ≤ 400000)))
theorem sizeOps_pos (ops : List OpA) : 1 ≤ sizeOps ops := by
  cases ops with
  | nil => exact Nat.le_refl _
  | cons x r =>
    have : 1 ≤ sizeOps r := sizeOps_pos r
    show 1 ≤ opSize x + sizeOps r
    omega
theorem sizeOps_split (ops : List OpA) (k : Nat) (h : k < ops.length) : sizeOps (ops.drop k) = opSize ops[k] + sizeOps (ops.drop (k + 1)) := by
  rw [List.drop_eq_getElem_cons h]
  rfl
theorem sizeOps_le (ops : List OpA) (k : Nat) : sizeOps (ops.drop k) ≤ sizeOps ops := by
  induction k generalizing ops with
  | zero => simp
  | succ k ih =>
    cases ops with
    | nil => simp
    | cons x r =>
      have := ih r
      show sizeOps (r.drop k) ≤ opSize x + sizeOps r
      omega
theorem sizeOps_at (ops : List OpA) (k : Nat) (h : k < ops.length) : opSize ops[k] < sizeOps ops := by
  have h1 := sizeOps_split ops k h
  have h2 := sizeOps_le ops k
  have h3 := sizeOps_pos (ops.drop (k + 1))
  omega
theorem goodFrom_at (ops : List OpA) (k : Nat) (h : k < ops.length) : goodFrom (ops.take k) (ops.drop k) = ((opForm ops[k] && !((ops.take k).any fun y => y.name == ops[k].name)) && goodFrom (ops.take (k + 1)) (ops.drop (k + 1))) := by
  rw [List.drop_eq_getElem_cons h, List.take_succ_eq_append_getElem h]
  rfl
set_option maxRecDepth 8000 in
set_option maxHeartbeats 2000000 in
theorem hasClo (x : OpA) (name : List UInt8) (k : Nat) (w : World) (hk : Blk w k #[.string ⟨name.toArray⟩] 9) :
    Calls Tryz.prog 86 #[.agg x.cells, pv k] w fun e w' => e = .returned (.bool (x.name == name)) ∧ Below w.heap.size w w' := by
  have hc := hk.cell
  have hlt := hk.lt
  clear hk
  unfold OpA.cells pv
  go_enter Tryz.func86, Tryz.ntmps86
  go_wp2
  go_ret
  exact ⟨rfl, (Below.refl _ _).alloc (Nat.le_refl _) _⟩
set_option maxRecDepth 8000 in
set_option maxHeartbeats 2000000 in
theorem hasName_any (ops : List OpA) (v : Value) (w : World) (h : OPs w v ops) (name : List UInt8) :
    Calls Tryz.prog 54 #[v, .string ⟨name.toArray⟩] w fun e w' => e = .returned (.bool (ops.any fun y => y.name == name)) ∧ Below w.heap.size w w' := by
  obtain ⟨W, hW⟩ : ∃ W, W = w.alloc (.cells #[.string ⟨name.toArray⟩] 9) := ⟨_, rfl⟩
  have hb : Below w.heap.size w W := by rw [hW]; exact (Below.refl _ _).alloc (Nat.le_refl _) _
  have hk : Blk W w.heap.size #[.string ⟨name.toArray⟩] 9 := by rw [hW]; exact Blk.new _ _ _
  have HC := hide (containsFunc_any ops v W (h.below hb) (fun y => y.name == name) 86 #[] #[pv w.heap.size] (by intros; kernel_rfl) (fun i hi W' hb' => hasClo _ name w.heap.size W' (hk.below hb' hk.lt)))
  have HB := hide hb
  obtain ⟨A, c, rfl, hl, hm⟩ := h.form
  clear h hm hb hk
  unfold pv at HC
  go_enter Tryz.func54, Tryz.ntmps54
  go_wp2_with (first | (rw [← hW]; go_at_call 65; refine HC.out.mono ?_; rintro e w' ⟨rfl, hb'⟩; replace hb' := hide hb'))
  go_ret
  exact ⟨rfl, HB.out.trans (hb'.out.mono HB.out.size)⟩
set_option maxRecDepth 8000 in
set_option maxHeartbeats 4000000 in
theorem isOpInForm_any (x : OpA) (w : World) (A : Option Addr) (c : Nat) (hv : x.val = .slice A x.bytes.length c) (hn : x.name.length ≤ 1000000) :
    Calls Tryz.prog 53 #[.agg x.cells] w fun e w' => e = .returned (.bool (opForm x)) ∧ Below w.heap.size w w' := by
  have hb : Below w.heap.size w (w.alloc (.cells x.cells 35)) := (Below.refl _ _).alloc (Nat.le_refl _) _
  have HR := hide (oright_any x.name (w.alloc (.cells x.cells 35)) (by omega))
  obtain ⟨kd, nm, att, vl, bs⟩ := x
  simp only at hv hn
  subst hv
  unfold OpA.cells at hb HR ⊢
  simp only at hb HR ⊢
  have HB := hide hb
  clear hb
  obtain ⟨R, hR⟩ : ∃ R, Hid (R = opForm ⟨kd, nm, att, .slice A bs.length c, bs⟩) := ⟨_, rfl⟩
  rw [← hR.out]
  go_enter Tryz.func53, Tryz.ntmps53
  cases hr : rightB nm with
  | false =>
    rw [hr] at HR
    go_wp2_with (go_at_call 85; refine HR.out.mono ?_; rintro e w' ⟨rfl, rfl⟩)
    go_ret
    exact ⟨by rw [hR.out, opForm, hr]; rfl, HB.out⟩
  | true =>
    rw [hr] at HR
    cases hq : (nm == [114, 101, 100, 111]) with
    | true =>
      go_wp2_with (go_at_call 85; refine HR.out.mono ?_; rintro e w' ⟨rfl, rfl⟩)
      go_ret
      exact ⟨by rw [hR.out, opForm, hr, redoN]; simp only [hq]; rfl, HB.out⟩
    | false =>
      by_cases h1 : kd = 1
      · subst h1
        cases g2 : decide (0 ≤ att) with
        | true =>
          go_wp2_with (go_at_call 85; refine HR.out.mono ?_; rintro e w' ⟨rfl, rfl⟩)
          go_ret
          exact ⟨by rw [hR.out, opForm, hr, redoN]; simp only [hq, kindOk, g2]; rfl, HB.out⟩
        | false =>
          go_wp2_with (go_at_call 85; refine HR.out.mono ?_; rintro e w' ⟨rfl, rfl⟩)
          go_ret
          exact ⟨by rw [hR.out, opForm, hr, redoN]; simp only [hq, kindOk, g2]; rfl, HB.out⟩
      · by_cases h2 : kd = 2
        · subst h2
          go_wp2_with (go_at_call 85; refine HR.out.mono ?_; rintro e w' ⟨rfl, rfl⟩)
          go_ret
          exact ⟨by rw [hR.out, opForm, hr, redoN]; simp only [hq, kindOk]; rfl, HB.out⟩
        · by_cases h3 : kd = 3
          · subst h3
            cases h4 : (att == 0) with
            | true =>
              go_wp2_with (go_at_call 85; refine HR.out.mono ?_; rintro e w' ⟨rfl, rfl⟩)
              go_ret
              exact ⟨by rw [hR.out, opForm, hr, redoN]; simp only [hq, kindOk, h4]; rfl, HB.out⟩
            | false =>
              go_wp2_with (go_at_call 85; refine HR.out.mono ?_; rintro e w' ⟨rfl, rfl⟩)
              go_ret
              exact ⟨by rw [hR.out, opForm, hr, redoN]; simp only [hq, kindOk, h4]; rfl, HB.out⟩
          · have e1 : (kd == 1) = false := by simpa using h1
            have e2 : (kd == 2) = false := by simpa using h2
            have e3 : (kd == 3) = false := by simpa using h3
            have hk : Hid (kindOk ⟨kd, nm, att, .slice A bs.length c, bs⟩ = false) := by
              show _ = _
              unfold kindOk
              rw [if_neg h1, if_neg h2, if_neg h3]
            clear h1 h2 h3
            go_wp2_with (go_at_call 85; refine HR.out.mono ?_; rintro e w' ⟨rfl, rfl⟩)
            go_ret
            exact ⟨by rw [hR.out, opForm, hk.out, Bool.and_false, Bool.and_false]; rfl, HB.out⟩
set_option maxRecDepth 8000 in
set_option maxHeartbeats 4000000 in
theorem written_any (ops : List OpA) (v : Value) (w : World) (h : OPs w v ops) (hs : sizeOps ops ≤ 1000000000) :
    Calls Tryz.prog 29 #[v] w fun e w' => e = .returned (.int .i64 (sizeOps ops)) ∧ Below w.heap.size w w' := by
  have HO := hide h
  obtain ⟨A, c, rfl, hl, hm⟩ := h.form
  have hmx : c ≤ 9223372036854775807 := by simp only [maxLen] at hm; omega
  clear h hm
  go_enter Tryz.func29, Tryz.ntmps29
  go_wp2
  go_loopw [3, 5, 8] (fun n _ u wr => ∃ k m : Nat, k ≤ ops.length ∧ u = .int .i64 k ∧ n = .int .i64 m ∧ Hid (Below w.heap.size w wr) ∧ Hid (m + sizeOps (ops.drop k) = sizeOps ops + 1)) (fun _ _ u _ => ops.length - (intOf u).toNat)
  case atStart => exact ⟨0, 1, Nat.zero_le _, rfl, rfl, Below.refl _ _, Nat.add_comm _ _⟩
  case round =>
    obtain ⟨k, m, hkl, rfl, rfl, hB, hA⟩ := hrel
    by_cases hlt : k < ops.length
    · have hltz : (k : Int) < (ops.length : Int) := by omega
      obtain ⟨g, o, rfl, hg, _, q0, q1, q2, q3, q4⟩ := (HO.out.below hB.out).at hlt
      obtain ⟨Ab, cb, hvb, _⟩ := q4.form
      have HD := sizeOps_split ops k hlt
      have hA' := hA.out
      rw [HD] at hA'
      have hpos := sizeOps_pos (ops.drop (k + 1))
      unfold opSize at hA'
      generalize hx : ops[k] = x at q0 q1 q2 q3 hvb hA'
      clear hx q4 HD
      obtain ⟨kd, nm, att, vl, bs⟩ := x
      simp only at q0 q1 q2 q3 hvb hA'
      subst hvb
      go_wp2_with fail
      go_round
      case rel =>
        refine ⟨k + 1, m + (10 + nm.length + bs.length), by omega, by go_num, ?_, hB.out.trans (((Below.refl _ _).alloc (Nat.le_refl _) _).mono hB.out.size), ?_⟩
        · congr 1
          omega
        · show _ = _
          omega
      case measure => simp [intOf]; omega
    · have hltz : ¬ (k : Int) < (ops.length : Int) := by omega
      have hA' := hA.out
      rw [List.drop_eq_nil_of_le (by omega)] at hA'
      have hA2 : m = sizeOps ops := by
        have : sizeOps [] = 1 := rfl
        omega
      subst hA2
      go_wp2
      go_ret
      exact ⟨rfl, hB.out⟩
end Go.Proofs.YtcbkmcagnmpifaaGreatDoor

end
section
namespace Go.Proofs.YtcbkmcagnmpifaaGreatDoor
open Go.RowKit
set_option maxRecDepth 8000 in
set_option maxHeartbeats 4000000 in
theorem isInForm_any (ops : List OpA) (v : Value) (w : World) (h : OPs w v ops) (hs : sizeOps ops ≤ 1000000) :
    Calls Tryz.prog 28 #[v] w fun e w' => e = .returned (.bool (formB ops)) ∧ Below w.heap.size w w' := by
  have HO := hide h
  obtain ⟨A, c, rfl, hl, hm⟩ := h.form
  have hmx : c ≤ 9223372036854775807 := by simp only [maxLen] at hm; omega
  clear h hm
  obtain ⟨R, hR⟩ : ∃ R, Hid (R = formB ops) := ⟨_, rfl⟩
  rw [← hR.out]
  by_cases h1 : 1 ≤ ops.length
  · by_cases h2 : ops.length ≤ 16
    · have hR2 : Hid (R = (goodFrom [] ops && decide (sizeOps ops ≤ 400000))) := by
        show R = _
        rw [hR.out, formB, decide_eq_true h1, decide_eq_true h2]
        rfl
      have g1 : decide ((ops.length : Int) < 1) = false := decide_eq_false (by omega)
      have g2 : decide ((16 : Int) < ops.length) = false := decide_eq_false (by omega)
      have g3 : ¬ (ops.length : Int) < 1 := by omega
      have g4 : ¬ (16 : Int) < ops.length := by omega
      clear hR
      go_enter Tryz.func28, Tryz.ntmps28
      go_wp2
      go_loopw [3, 4, 15] (fun _ _ u wr => ∃ k : Nat, k ≤ ops.length ∧ u = .int .i64 k ∧ Hid (Below w.heap.size w wr) ∧ Hid (goodFrom [] ops = goodFrom (ops.take k) (ops.drop k))) (fun _ _ u _ => ops.length - (intOf u).toNat)
      case atStart => exact ⟨0, Nat.zero_le _, rfl, Below.refl _ _, rfl⟩
      case round =>
        obtain ⟨k, hkl, rfl, hB, hA⟩ := hrel
        by_cases hlt : k < ops.length
        · have hltz : (k : Int) < (ops.length : Int) := by omega
          have hkc : (k : Int) ≤ (c : Int) := by omega
          have hkc2 : k ≤ c := by omega
          obtain ⟨g, o, rfl, hg, _, q0, q1, q2, q3, q4⟩ := (HO.out.below hB.out).at hlt
          obtain ⟨Ab, cb, hvb, _⟩ := q4.form
          have HG := goodFrom_at ops k hlt
          have hsz := sizeOps_at ops k hlt
          unfold opSize at hsz
          have hof := isOpInForm_any ops[k]
          generalize hx : ops[k] = x at q0 q1 q2 q3 hvb HG hsz hof
          clear hx q4
          obtain ⟨kd, nm, att, vl, bs⟩ := x
          simp only at q0 q1 q2 q3 hvb HG hsz
          subst hvb
          obtain ⟨W, hW⟩ : ∃ W, Hid (W = wr.alloc (.cells #[.int .i64 kd, .string ⟨nm.toArray⟩, .int .i64 att, .slice Ab bs.length cb] 35)) := ⟨_, rfl⟩
          have hbW : Below wr.heap.size wr W := by rw [hW.out]; exact (Below.refl _ _).alloc (Nat.le_refl _) _
          have kW : Blk W wr.heap.size #[.int .i64 kd, .string ⟨nm.toArray⟩, .int .i64 att, .slice Ab bs.length cb] 35 := by rw [hW.out]; exact Blk.new _ _ _
          have HI := hide (fun u : Ext W => hof u.w Ab cb rfl (by show nm.length ≤ _; omega))
          have HN := hide (fun u : Ext W => hasName_any (ops.take k) (.slice (some ⟨g, o, none⟩) k c) u.w (((((HO.out.below hB.out).below hbW).below u.ok).to k (by omega))) nm)
          unfold OpA.cells at HI
          simp only at HI
          have hcW := kW.cell
          have hltW := kW.lt
          replace hbW := hide hbW
          replace HG := hide HG
          clear kW hof
          go_wp2_with fail
          rw [← hW.out]
          have hns := ext_some W
          have hce := ext_cell W
          cases b1 : opForm ⟨kd, nm, att, .slice Ab bs.length cb, bs⟩ with
          | false =>
            rw [b1] at HI
            refine wp_region_ext (by kernel_rfl) (by kernel_rfl) ?_
            repeat (go_big_quiet_step (first | (go_at_call 53; exact ext_call (HI.out _)) | (go_at_call 54; exact ext_call (HN.out _))))
            refine wpQuiet_nil ?_
            rintro w1 ⟨⟨_, hb1⟩, rfl⟩
            replace hb1 := hide hb1
            go_wp2
            go_ret
            exact ⟨by rw [hR2.out, hA.out, HG.out, b1]; rfl, hB.out.trans ((hbW.out.trans (hb1.out.mono hbW.out.size)).mono hB.out.size)⟩
          | true =>
            rw [b1] at HI
            cases b2 : ((ops.take k).any fun y => y.name == nm) with
            | true =>
              rw [b2] at HN
              refine wp_region_ext (by kernel_rfl) (by kernel_rfl) ?_
              repeat (go_big_quiet_step (first | (go_at_call 53; exact ext_call (HI.out _)) | (go_at_call 54; exact ext_call (HN.out _))))
              refine wpQuiet_nil ?_
              rintro w1 ⟨⟨_, hb1⟩, rfl⟩
              replace hb1 := hide hb1
              go_wp2
              go_ret
              exact ⟨by rw [hR2.out, hA.out, HG.out, b1, b2]; rfl, hB.out.trans ((hbW.out.trans (hb1.out.mono hbW.out.size)).mono hB.out.size)⟩
            | false =>
              rw [b2] at HN
              refine wp_region_ext (by kernel_rfl) (by kernel_rfl) ?_
              repeat (go_big_quiet_step (first | (go_at_call 53; exact ext_call (HI.out _)) | (go_at_call 54; exact ext_call (HN.out _))))
              refine wpQuiet_nil ?_
              rintro w1 ⟨⟨_, hb1⟩, rfl⟩
              replace hb1 := hide hb1
              go_wp2
              go_round
              case rel =>
                refine ⟨k + 1, by omega, by go_num, hB.out.trans ((hbW.out.trans (hb1.out.mono hbW.out.size)).mono hB.out.size), ?_⟩
                show _ = _
                rw [hA.out, HG.out, b1, b2]
                rfl
              case measure => simp [intOf]; omega
        · have hltz : ¬ (k : Int) < (ops.length : Int) := by omega
          have HW := hide (written_any ops _ wr (HO.out.below hB.out) (by omega))
          go_wp2_with (go_at_call 29; refine HW.out.mono ?_; rintro e w' ⟨rfl, hb'⟩; replace hb' := hide hb')
          go_ret
          refine ⟨?_, hB.out.trans (hb'.out.mono hB.out.size)⟩
          rw [hR2.out, hA.out, List.drop_eq_nil_of_le (by omega)]
          show Ending.returned (.bool (decide ((sizeOps ops : Int) ≤ 400000))) = .returned (.bool (decide (sizeOps ops ≤ 400000)))
          congr 2
          exact decide_eq_decide.2 (by omega)
    · have g1 : decide ((ops.length : Int) < 1) = false := decide_eq_false (by omega)
      have g2 : decide ((16 : Int) < ops.length) = true := decide_eq_true (by omega)
      have g3 : ¬ (ops.length : Int) < 1 := by omega
      have g4 : (16 : Int) < ops.length := by omega
      go_enter Tryz.func28, Tryz.ntmps28
      go_wp2
      go_ret
      exact ⟨by rw [hR.out, formB, decide_eq_false h2]; simp, Below.refl _ _⟩
  · have g1 : decide ((ops.length : Int) < 1) = true := decide_eq_true (by omega)
    have g3 : (ops.length : Int) < 1 := by omega
    go_enter Tryz.func28, Tryz.ntmps28
    go_wp2
    go_ret
    exact ⟨by rw [hR.out, formB, decide_eq_false h1]; rfl, Below.refl _ _⟩
end Go.Proofs.YtcbkmcagnmpifaaGreatDoor

end
