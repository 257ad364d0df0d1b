/- Why a change is refused. -/
import Derived.Test.YtcbkmcagnmpifaaGreatDoorU31
namespace Go.Proofs.YtcbkmcagnmpifaaGreatDoor
open Go.RowKit Go.Maps Go.Sort
def refV (a : Nat → Addr) (s : St) (ops : List OpA) (rl : Nat) (mf : Int) : Value := if ops.any (misB s) = true then errV a 0 else if 64 < mf then errV a 10 else if s.quota - usedOf s < rl + roomI s ops then errV a 6 else .nilIface
theorem mostF_bound (ns : List (List UInt8)) : ∀ (ops : List OpA) (f m : Int) (B : Int), f ≤ B → m ≤ B → mostF ns ops f m ≤ B + ops.length
  | [], f, m, B, _, h => by simp [mostF]; omega
  | x :: r, f, m, B, hf, hm => by
    have hs : stepF ns x f ≤ B + 1 := by
      unfold stepF
      split <;> split <;> omega
    have := mostF_bound ns r (stepF ns x f) (max m (stepF ns x f)) (B + 1) hs (by omega)
    rw [mostF, List.length_cons]
    omega
section
variable (w0 w : World) (l d : Nat) (dead : Bool) (ρ : Nat → Option Role) (s : St) (a : Nat → Addr)
set_option maxRecDepth 8000 in
set_option maxHeartbeats 4000000 in
theorem refuse_any (hE : Errs w0 a) (h : LG w0 w l d dead ρ s) (hoff : s.off = false) (hN : s.N ≤ 100000) (hu : usedOf s ≤ 1000000000) (hq0 : 0 ≤ s.quota) (hq1 : s.quota ≤ 1073741824) (ops : List OpA) (vo vr : Value) (hO : OPs w vo ops) (hf : formB ops = true) (hz : ∀ name, szOf s name ≤ 1000000000) (rec : List UInt8) (hrec : BR w vr rec) (hrl : rec.length ≤ 1000000) :
    Calls Tryz.prog 41 #[.agg #[pv l, vo, vr]] w fun e w' => Below w.heap.size w w' ∧ ∃ ns : List (List UInt8), ns.Perm (strKeys s.D) ∧ e = .returned (refV a s ops rec.length (mostF ns ops ns.length ns.length)) := by
  obtain ⟨h1, h16, hgood, hsz⟩ := form_parts hf
  have hrle := roomI_le s ops
  have hrnn := roomI_nonneg s ops
  have hb : Below w.heap.size w (w.alloc (.cells #[pv l, vo, vr] 84)) := (Below.refl _ _).alloc (Nat.le_refl _) _
  obtain ⟨W, hW⟩ : ∃ W, Hid (W = w.alloc (.cells #[pv l, vo, vr] 84)) := ⟨_, rfl⟩
  have k0 := Blk.new w #[pv l, vo, vr] 84
  have HL := hide (h.then hb)
  have HOo := hide (hO.below hb)
  have hre := hide (hrec.below hb)
  rw [← hW.out] at hb k0 HL HOo hre
  have K0 := hide k0
  have HB := hide hb
  have hoffc := hide (off_any w0 W d ρ s HL.out.dk)
  have hcl := h.lb.cell
  have hll := h.lb.lt
  have hform : ∀ x ∈ ops, rightB x.name = true := fun x hx => ((opForm_iff x).1 (good_all ops [] hgood x hx)).2.2.1
  have HC := hide (containsFunc_any ops vo W HOo.out (misB s) 66 #[.agg #[pv l, vo, vr]] #[] (by intros; kernel_rfl) (fun i hi W' hb' => misplaced_any w0 W' l d dead ρ s a hE (HL.out.then hb') hoff vo vr ops[i] (hform _ (List.getElem_mem hi))))
  have HE := hide (fun w' hb => (hE.below (w' := w') hb))
  obtain ⟨A, c, rfl, hl, hm⟩ := hO.form
  obtain ⟨Ar, cr, rfl, _⟩ := BR.form hrec
  have HM := hide (fun w1 (hb1 : Below W.heap.size W w1) => mostFiles_any w0 w1 l d dead ρ s (HL.out.then hb1) hoff hN ops _ (.slice Ar rec.length cr) (HOo.out.below hb1) h16)
  rw [hoff] at hoffc
  have hRm := hide (fun w1 (hb1 : Below W.heap.size W w1) => room_any w0 w1 l d dead ρ s a hE (HL.out.then hb1) hoff ops _ (.slice Ar rec.length cr) (HOo.out.below hb1) hf hz rec (hre.out.below hb1) hrl)
  have hUs := hide (fun w1 (hb1 : Below W.heap.size W w1) => used_any w0 w1 d ρ s (HL.out.then hb1).dk hu)
  have hQu := hide (fun w1 (hb1 : Below W.heap.size W w1) => quota_any w0 w1 d ρ s (HL.out.then hb1).dk)
  have HLb := hide (fun w1 (hb1 : Below W.heap.size W w1) => (HL.out.then hb1).lb)
  have HEr := hide (fun w1 (hb1 : Below W.heap.size W w1) => hE.below (HL.out.then hb1).dk.below)
  clear h hb k0 hO hrec hm hform
  unfold pv at *
  go_enter Tryz.func41, Tryz.ntmps41
  go_wp2_with fail
  rw [← hW.out]
  refine hoffc.out.mono ?_
  rintro e w1 ⟨rfl, hw1⟩
  subst hw1
  have hc1 := K0.out.cell
  clear hcl hll
  go_wp2_with fail
  refine HC.out.mono ?_
  rintro e w2 ⟨rfl, hb2⟩
  have hc2 := (K0.out.below hb2 K0.out.lt).cell
  have hb02 := hide (HB.out.trans (hb2.mono HB.out.size))
  have g0 : w2.cell? ⟨1, 0, none⟩ = some (errV a 0) := (HEr.out w2 hb2).cell 0 (by decide)
  have HB2 := hide hb2
  clear hc1 hb2 hoffc
  cases hany : ops.any (misB s) with
  | true =>
    obtain ⟨ns0, hns0⟩ : ∃ ns : List (List UInt8), ns.Perm (strKeys s.D) := ⟨_, List.Perm.refl _⟩
    unfold errV at *
    go_wp2
    go_ret
    exact ⟨hb02.out, ns0, hns0, by unfold refV; rw [if_pos hany]; rfl⟩
  | false =>
    clear g0
    go_wp2_with fail
    refine (HM.out w2 HB2.out).mono ?_
    rintro e w3 ⟨hb3, ns, hp, rfl⟩
    have hb13 := HB2.out.trans (hb3.mono HB2.out.size)
    have hc3 := (K0.out.below hb13 K0.out.lt).cell
    have hlt3 := (K0.out.below hb13 K0.out.lt).lt
    have hb03 := hide (HB.out.trans (hb13.mono HB.out.size))
    have g10 : w3.cell? ⟨10, 0, none⟩ = some (errV a 10) := (HEr.out w3 hb13).cell 10 (by decide)
    have g6 := hide ((HEr.out w3 hb13))
    have hlb := HLb.out w3 hb13
    have hcl3 := hlb.cell
    have hll3 := hlb.lt
    have HP := hide hp
    have HB3 := hide hb13
    have hRm3 := hide (fun u : Ext w3 => hRm.out u.w (HB3.out.trans (u.ok.mono HB3.out.size)))
    have hUs3 := hide (fun u : Ext w3 => hUs.out u.w (HB3.out.trans (u.ok.mono HB3.out.size)))
    have hQu3 := hide (fun u : Ext w3 => hQu.out u.w (HB3.out.trans (u.ok.mono HB3.out.size)))
    have hns := ext_some w3
    have hce := ext_cell w3
    obtain ⟨mf, hmfe⟩ : ∃ mf, Hid (mf = mostF ns ops ns.length ns.length) := ⟨_, rfl⟩
    rw [← hmfe.out]
    clear hc2 hb3 hb13 hp hlb HM HC
    by_cases hmf : 64 < mf
    · unfold errV at *
      go_wp2
      go_ret
      refine ⟨hb03.out, ns, HP.out, ?_⟩
      rw [← hmfe.out]
      unfold refV
      rw [if_neg (by rw [hany]; simp), if_pos hmf]
      rfl
    · clear g10
      go_wp2_with fail
      refine wp_region_ext (by kernel_rfl) (by kernel_rfl) ?_
      repeat (go_big_quiet_step (first | (go_at_call 68; exact ext_call (hRm3.out _)) | (go_at_call 70; exact ext_call (hUs3.out _)) | (go_at_call 69; exact ext_same (hQu3.out _))))
      refine wpQuiet_nil ?_
      rintro w4 ⟨⟨w4, hb4⟩, rfl⟩
      have g6' : w4.cell? ⟨6, 0, none⟩ = some (errV a 6) := (g6.out.below hb4).cell 6 (by decide)
      have hb04 := hide (hb03.out.trans (hb4.mono hb03.out.size))
      clear hb4
      by_cases hq : s.quota - usedOf s < rec.length + roomI s ops
      · unfold errV at *
        go_wp2
        go_ret
        refine ⟨hb04.out, ns, HP.out, ?_⟩
        rw [← hmfe.out]
        unfold refV
        rw [if_neg (by rw [hany]; simp), if_neg (by omega), if_pos (by omega)]
        rfl
      · clear g6'
        go_wp2
        go_ret
        refine ⟨hb04.out, ns, HP.out, ?_⟩
        rw [← hmfe.out]
        unfold refV
        rw [if_neg (by rw [hany]; simp), if_neg (by omega), if_neg (by omega)]
        rfl
end
end Go.Proofs.YtcbkmcagnmpifaaGreatDoor
