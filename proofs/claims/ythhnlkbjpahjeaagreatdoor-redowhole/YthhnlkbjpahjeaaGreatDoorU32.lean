/- Why a change is refused. -/
/- Format; a change's record; a Commit that the power cuts. -/
/- A change's bytes are read as it was written, and what is read is written as it was. -/
import Derived.Test.YthhnlkbjpahjeaaGreatDoorU31
import Derived.Test.YthhnlkbjpahjeaaGreatDoorU29
import Derived.Test.YthhnlkbjpahjeaaGreatDoorU20
section
namespace Go.Proofs.YthhnlkbjpahjeaaGreatDoor
open Go.RowKit Go.Maps Go.Sort
def refV (a : Nat → Addr) (s : St) (ops : List OpA) (rl : Nat) (mf : Int) : Value := if ops.any (misB s) = true then errV a 0 else if 64 < mf then errV a 10 else if s.quota - usedOf s < rl + roomI s ops then errV a 6 else .nilIface
theorem mostF_bound (ns : List (List UInt8)) : ∀ (ops : List OpA) (f m : Int) (B : Int), f ≤ B → m ≤ B → mostF ns ops f m ≤ B + ops.length
  | [], f, m, B, _, h => by simp [mostF]; omega
  | x :: r, f, m, B, hf, hm => by
    have hs : stepF ns x f ≤ B + 1 := by
      unfold stepF
      split <;> split <;> omega
    have := mostF_bound ns r (stepF ns x f) (max m (stepF ns x f)) (B + 1) hs (by omega)
    rw [mostF, List.length_cons]
    omega
section
variable (w0 w : World) (l d : Nat) (dead : Bool) (ρ : Nat → Option Role) (s : St) (a : Nat → Addr)
set_option maxRecDepth 8000 in
set_option maxHeartbeats 4000000 in
theorem refuse_any (hE : Errs w0 a) (h : LG w0 w l d dead ρ s) (hoff : s.off = false) (hN : s.N ≤ 100000) (hu : usedOf s ≤ 1000000000) (hq0 : 0 ≤ s.quota) (hq1 : s.quota ≤ 1073741824) (ops : List OpA) (vo vr : Value) (hO : OPs w vo ops) (hf : formB ops = true) (hz : ∀ name, szOf s name ≤ 1000000000) (rec : List UInt8) (hrec : BR w vr rec) (hrl : rec.length ≤ 1000000) :
    Calls Tryz.prog 23 #[.agg #[pv l, vo, vr]] w fun e w' => Below w.heap.size w w' ∧ ∃ ns : List (List UInt8), ns.Perm (strKeys s.D) ∧ e = .returned (refV a s ops rec.length (mostF ns ops ns.length ns.length)) := by
  obtain ⟨h1, h16, hgood, hsz⟩ := form_parts hf
  have hrle := roomI_le s ops
  have hrnn := roomI_nonneg s ops
  have hb : Below w.heap.size w (w.alloc (.cells #[pv l, vo, vr] 65)) := (Below.refl _ _).alloc (Nat.le_refl _) _
  obtain ⟨W, hW⟩ : ∃ W, Hid (W = w.alloc (.cells #[pv l, vo, vr] 65)) := ⟨_, rfl⟩
  have k0 := Blk.new w #[pv l, vo, vr] 65
  have HL := hide (h.then hb)
  have HOo := hide (hO.below hb)
  have hre := hide (hrec.below hb)
  rw [← hW.out] at hb k0 HL HOo hre
  have K0 := hide k0
  have HB := hide hb
  have hoffc := hide (off_any w0 W d ρ s HL.out.dk)
  have hcl := h.lb.cell
  have hll := h.lb.lt
  have hform : ∀ x ∈ ops, rightB x.name = true := fun x hx => ((opForm_iff x).1 (good_all ops [] hgood x hx)).2.2.1
  have HC := hide (containsFunc_any ops vo W HOo.out (misB s) 44 #[.agg #[pv l, vo, vr]] #[] (by intros; kernel_rfl) (fun i hi W' hb' => misplaced_any w0 W' l d dead ρ s a hE (HL.out.then hb') hoff vo vr ops[i] (hform _ (List.getElem_mem hi))))
  have HE := hide (fun w' hb => (hE.below (w' := w') hb))
  obtain ⟨A, c, rfl, hl, hm⟩ := hO.form
  obtain ⟨Ar, cr, rfl, _⟩ := BR.form hrec
  have HM := hide (fun w1 (hb1 : Below W.heap.size W w1) => mostFiles_any w0 w1 l d dead ρ s (HL.out.then hb1) hoff hN ops _ (.slice Ar rec.length cr) (HOo.out.below hb1) h16)
  rw [hoff] at hoffc
  have hRm := hide (fun w1 (hb1 : Below W.heap.size W w1) => room_any w0 w1 l d dead ρ s a hE (HL.out.then hb1) hoff ops _ (.slice Ar rec.length cr) (HOo.out.below hb1) hf hz rec (hre.out.below hb1) hrl)
  have hUs := hide (fun w1 (hb1 : Below W.heap.size W w1) => used_any w0 w1 d ρ s (HL.out.then hb1).dk hu)
  have hQu := hide (fun w1 (hb1 : Below W.heap.size W w1) => quota_any w0 w1 d ρ s (HL.out.then hb1).dk)
  have HLb := hide (fun w1 (hb1 : Below W.heap.size W w1) => (HL.out.then hb1).lb)
  have HEr := hide (fun w1 (hb1 : Below W.heap.size W w1) => hE.below (HL.out.then hb1).dk.below)
  clear h hb k0 hO hrec hm hform
  unfold pv at *
  go_enter Tryz.func23, Tryz.ntmps23
  go_wp2_with fail
  rw [← hW.out]
  refine hoffc.out.mono ?_
  rintro e w1 ⟨rfl, hw1⟩
  subst hw1
  have hc1 := K0.out.cell
  clear hcl hll
  go_wp2_with fail
  refine HC.out.mono ?_
  rintro e w2 ⟨rfl, hb2⟩
  have hc2 := (K0.out.below hb2 K0.out.lt).cell
  have hb02 := hide (HB.out.trans (hb2.mono HB.out.size))
  have g0 : w2.cell? ⟨3, 0, none⟩ = some (errV a 0) := (HEr.out w2 hb2).cell 0 (by decide)
  have HB2 := hide hb2
  clear hc1 hb2 hoffc
  cases hany : ops.any (misB s) with
  | true =>
    obtain ⟨ns0, hns0⟩ : ∃ ns : List (List UInt8), ns.Perm (strKeys s.D) := ⟨_, List.Perm.refl _⟩
    unfold errV at *
    go_wp2
    go_ret
    exact ⟨hb02.out, ns0, hns0, by unfold refV; rw [if_pos hany]; rfl⟩
  | false =>
    clear g0
    go_wp2_with fail
    refine (HM.out w2 HB2.out).mono ?_
    rintro e w3 ⟨hb3, ns, hp, rfl⟩
    have hb13 := HB2.out.trans (hb3.mono HB2.out.size)
    have hc3 := (K0.out.below hb13 K0.out.lt).cell
    have hlt3 := (K0.out.below hb13 K0.out.lt).lt
    have hb03 := hide (HB.out.trans (hb13.mono HB.out.size))
    have g10 : w3.cell? ⟨10, 0, none⟩ = some (errV a 10) := (HEr.out w3 hb13).cell 10 (by decide)
    have g6 := hide ((HEr.out w3 hb13))
    have hlb := HLb.out w3 hb13
    have hcl3 := hlb.cell
    have hll3 := hlb.lt
    have HP := hide hp
    have HB3 := hide hb13
    have hRm3 := hide (fun u : Ext w3 => hRm.out u.w (HB3.out.trans (u.ok.mono HB3.out.size)))
    have hUs3 := hide (fun u : Ext w3 => hUs.out u.w (HB3.out.trans (u.ok.mono HB3.out.size)))
    have hQu3 := hide (fun u : Ext w3 => hQu.out u.w (HB3.out.trans (u.ok.mono HB3.out.size)))
    have hns := ext_some w3
    have hce := ext_cell w3
    obtain ⟨mf, hmfe⟩ : ∃ mf, Hid (mf = mostF ns ops ns.length ns.length) := ⟨_, rfl⟩
    rw [← hmfe.out]
    clear hc2 hb3 hb13 hp hlb HM HC
    by_cases hmf : 64 < mf
    · unfold errV at *
      go_wp2
      go_ret
      refine ⟨hb03.out, ns, HP.out, ?_⟩
      rw [← hmfe.out]
      unfold refV
      rw [if_neg (by rw [hany]; simp), if_pos hmf]
      rfl
    · clear g10
      go_wp2_with fail
      refine wp_region_ext (by kernel_rfl) (by kernel_rfl) ?_
      repeat (go_big_quiet_step (first | (go_at_call 46; exact ext_call (hRm3.out _)) | (go_at_call 48; exact ext_call (hUs3.out _)) | (go_at_call 47; exact ext_same (hQu3.out _))))
      refine wpQuiet_nil ?_
      rintro w4 ⟨⟨w4, hb4⟩, rfl⟩
      have g6' : w4.cell? ⟨8, 0, none⟩ = some (errV a 6) := (g6.out.below hb4).cell 6 (by decide)
      have hb04 := hide (hb03.out.trans (hb4.mono hb03.out.size))
      clear hb4
      by_cases hq : s.quota - usedOf s < rec.length + roomI s ops
      · unfold errV at *
        go_wp2
        go_ret
        refine ⟨hb04.out, ns, HP.out, ?_⟩
        rw [← hmfe.out]
        unfold refV
        rw [if_neg (by rw [hany]; simp), if_neg (by omega), if_pos (by omega)]
        rfl
      · clear g6'
        go_wp2
        go_ret
        refine ⟨hb04.out, ns, HP.out, ?_⟩
        rw [← hmfe.out]
        unfold refV
        rw [if_neg (by rw [hany]; simp), if_neg (by omega), if_neg (by omega)]
        rfl
end
end Go.Proofs.YthhnlkbjpahjeaaGreatDoor

end
section
namespace Go.Proofs.YthhnlkbjpahjeaaGreatDoor
open Go.RowKit Go.Maps Go.Sort
theorem runs_blk {w w' : World} {g : Nat} {cs : Array Value} {t : TypeId} (h : Blk w g cs t) (h' : Blk w' g cs t) : w'.heap[g]? = w.heap[g]? := h'.trans h.symm
section
variable (w : World) (d : Nat) (a : Nat → Addr) (Q : World → Prop)
set_option maxRecDepth 8000 in
set_option maxHeartbeats 2000000 in
theorem format_via (hQ : ∀ g w1, Below w.heap.size w w1 → Blk w1 w.heap.size #[pv d, .bool false] 59 → w.heap.size < g → g < w1.heap.size → (∀ k, w.heap.size ≤ k → k < w1.heap.size → k = w.heap.size ∨ k = g) → Blk w1 g #[.func (.func 20) #[pv w.heap.size] #[], .func (.func 21) #[pv d] #[]] 61 → RunsG a g [.func (.func 20) #[pv w.heap.size] #[], .func (.func 21) #[pv d] #[]] w1 fun v w' => v = .nilIface ∧ Q w') :
    Calls Tryz.prog 7 #[pv d] w fun e w' => e = .returned (.tuple #[pv w.heap.size, .nilIface]) ∧ Q w' := by
  have hb : Below w.heap.size w ((w.alloc (.cells #[pv d, .bool false] 59)).alloc (.cells #[.func (.func 20) #[pv w.heap.size] #[], .func (.func 21) #[pv d] #[]] 61)) := ((Below.refl _ _).alloc (Nat.le_refl _) _).alloc (by simp) _
  have hk := Blk.new1 w (.cells #[pv d, .bool false] 59) [.func (.func 20) #[pv w.heap.size] #[], .func (.func 21) #[pv d] #[]].toArray 61
  have HR := hide (run_any a _ (w.heap.size + 1) _ (fun v w' => v = .nilIface ∧ Q w') hk (by simp) (hQ (w.heap.size + 1) _ hb ((Blk.new _ _ _).alloc _) (by omega) (by simp) (fun k h1 h2 => by simp at h2; omega) hk))
  clear hQ hb hk
  unfold pv at *
  go_enter Tryz.func7, Tryz.ntmps7
  go_wp2_with (go_at_call 19; refine HR.out.mono ?_; rintro e w' ⟨v, rfl, rfl, hq⟩; replace hq := hide hq)
  go_ret2
  exact ⟨rfl, hq.out⟩
end
set_option maxRecDepth 8000 in
set_option maxHeartbeats 2000000 in
theorem recordOf_yes (ops : List OpA) (v : Value) (w : World) (h : OPs w v ops) (hf : formB ops = true) :
    Calls Tryz.prog 22 #[v] w fun e w' => ∃ v', e = .returned (.tuple #[v', .nilIface]) ∧ Bts w w' v' (recB (opsB ops)) := by
  have HB := hide (obytes_yes ops v w h hf)
  have hlen : (opsB ops).length ≤ 400000 := by
    rw [opsB_length]
    exact (form_parts hf).2.2.2
  replace hlen := hide hlen
  obtain ⟨A, c, rfl, _⟩ := h.form
  clear h hf
  go_enter Tryz.func22, Tryz.ntmps22
  go_wp2_with fail
  refine HB.out.mono ?_
  rintro e w1 ⟨v1, rfl, T1⟩
  have HR := hide (record_any (opsB ops) v1 w1 T1.br hlen.out)
  have HT := hide T1.1
  clear T1 HB
  go_wp2_with fail
  refine HR.out.mono ?_
  rintro e w2 ⟨v2, rfl, T2⟩
  have HT2 := hide (T2.weaken HT.out)
  clear T2 HR
  go_wp2
  go_ret2
  exact ⟨_, rfl, HT2.out⟩
def commitFs (l : Nat) (vo vr : Value) : List Value := [.func (.func 23) #[.agg #[pv l, vo, vr]] #[], .func (.func 24) #[.agg #[pv l, vo, vr]] #[], .func (.func 25) #[pv l] #[], .func (.func 26) #[.agg #[pv l, vo, vr]] #[], .func (.func 27) #[pv l] #[], .func (.func 25) #[pv l] #[]]
section
variable (w0 w : World) (l d : Nat) (a : Nat → Addr) (Q : World → Prop)
set_option maxRecDepth 8000 in
set_option maxHeartbeats 4000000 in
/-- The power goes within it. -/
theorem commit_cut (ops : List OpA) (vo : Value) (hl : Blk w l #[pv d, .bool false] 59) (hO : OPs w vo ops) (hf : formB ops = true)
    (hQ : ∀ g w1 vr, Below w.heap.size w w1 → BR w1 vr (recB (opsB ops)) → (∀ A n c, vr = .slice (some A) n c → w.heap.size ≤ A.block) → w.heap.size ≤ g → Blk w1 g (commitFs l vo vr).toArray 61 → RunsG a g (commitFs l vo vr) w1 fun v w' => v = errV a 7 ∧ w'.cell? ⟨2, 0, none⟩ = some (errV a 7) ∧ Blk w' l #[pv d, .bool false] 59 ∧ Q (w'.setCell ⟨l, 1, none⟩ (.bool true))) :
    Calls Tryz.prog 8 #[pv l, vo] w fun e w' => e = .returned (errV a 7) ∧ Q w' := by
  have HR := hide (recordOf_yes ops vo w hO hf)
  have hcl := hl.cell
  obtain ⟨A, c, rfl, _⟩ := hO.form
  replace hQ := hide hQ
  clear hO hf hl
  unfold pv at *
  go_enter Tryz.func8, Tryz.ntmps8
  go_wp2_with fail
  refine HR.out.mono ?_
  rintro e w1 ⟨vr, rfl, T1⟩
  have hvr : ∀ A n c, vr = .slice (some A) n c → w.heap.size ≤ A.block := by
    obtain ⟨_, G, hr, hg⟩ := T1
    rintro A n c rfl
    rcases hr.2 with ⟨h, _⟩ | ⟨g, o, cap, hG, hv, _⟩
    · cases h
    · cases hv
      exact hg _ hG
  have hbr := T1.br
  have hb1 := T1.1
  have hs1 := hb1.size
  have hb2 : Below w1.heap.size w1 ((w1.alloc (.cells #[.pointer (some ⟨l, 0, none⟩), .slice A ops.length c, vr] 65)).alloc (.cells (commitFs l (.slice A ops.length c) vr).toArray 61)) := ((Below.refl _ _).alloc (Nat.le_refl _) _).alloc (by simp) _
  have hk := Blk.new1 w1 (.cells #[.pointer (some ⟨l, 0, none⟩), .slice A ops.length c, vr] 65) (commitFs l (.slice A ops.length c) vr).toArray 61
  have HRun := hide (run_any a (commitFs l (.slice A ops.length c) vr) (w1.heap.size + 1) _ _ hk (by simp [commitFs]) (hQ.out (w1.heap.size + 1) _ vr (hb1.trans (hb2.mono hs1)) (hbr.below hb2) hvr (by omega) hk))
  unfold commitFs pv at HRun
  obtain ⟨Ar, cr, rfl, _⟩ := BR.form hbr
  clear hbr hb1 hb2 hk hvr T1 HR hQ hcl
  go_wp2_with fail
  refine HRun.out.mono ?_
  rintro e w2 ⟨v, rfl, rfl, hg7, hlb, hq⟩
  have hcl := hlb.cell
  have hfl := hlb.frozen
  replace hq := hide hq
  clear hlb HRun
  unfold errV at *
  go_wp2_with (go_at_call 28; refine (is_same _ _).mono ?_; rintro e w' ⟨rfl, rfl⟩)
  go_ret
  exact ⟨rfl, hq.out⟩
end
end Go.Proofs.YthhnlkbjpahjeaaGreatDoor

end
section
namespace Go.Proofs.YthhnlkbjpahjeaaGreatDoor
open Go.RowKit
theorem take_app {n : Nat} {l r : List UInt8} (h : l.length = n) : takeA n (l ++ r) = l ∧ takeB n (l ++ r) = r ∧ ∀ s, takeS n (l ++ r) s = s := by
  subst h
  have hn : ¬ (l ++ r).length < l.length := by rw [List.length_append]; omega
  refine ⟨?_, ?_, fun s => if_neg hn⟩
  · rw [takeA, if_neg hn, List.take_left']
    rfl
  · rw [takeB, if_neg hn, List.drop_left']
    rfl
theorem numR_one (k : Nat) (h : k < 256) : numR [UInt8.ofNat k] = k := by
  show 0 * 256 + (UInt8.ofNat k).toNat = k
  rw [UInt8.toNat_ofNat']
  omega
theorem numR_four (n : Nat) (h : n < 4294967296) : numR (fourB n) = n := by
  show (((0 * 256 + (UInt8.ofNat (n / 16777216)).toNat) * 256 + (UInt8.ofNat (n / 65536)).toNat) * 256 + (UInt8.ofNat (n / 256)).toNat) * 256 + (UInt8.ofNat n).toNat = n
  rw [UInt8.toNat_ofNat', UInt8.toNat_ofNat', UInt8.toNat_ofNat', UInt8.toNat_ofNat']
  omega
theorem readOp_opB (x : OpA) (hf : opForm x = true) (hb : x.bytes.length < 4294967296) (r : List UInt8) (s : Bool) : readOp (opB x ++ r) s = ⟨x.kind.toNat, x.name, x.at_.toNat, x.bytes, r, s⟩ := by
  obtain ⟨o1, o2, o3, o4, o5⟩ := opForm_parts hf
  have e1 : opB x ++ r = [UInt8.ofNat x.kind.toNat] ++ ([UInt8.ofNat x.name.length] ++ (x.name ++ (fourB x.at_.toNat ++ (fourB x.bytes.length ++ (x.bytes ++ r))))) := by
    unfold opB
    simp
  obtain ⟨a1, b1, c1⟩ := take_app (n := 1) (l := [UInt8.ofNat x.kind.toNat]) (r := [UInt8.ofNat x.name.length] ++ (x.name ++ (fourB x.at_.toNat ++ (fourB x.bytes.length ++ (x.bytes ++ r))))) rfl
  obtain ⟨a2, b2, c2⟩ := take_app (n := 1) (l := [UInt8.ofNat x.name.length]) (r := x.name ++ (fourB x.at_.toNat ++ (fourB x.bytes.length ++ (x.bytes ++ r)))) rfl
  obtain ⟨a3, b3, c3⟩ := take_app (n := x.name.length) (l := x.name) (r := fourB x.at_.toNat ++ (fourB x.bytes.length ++ (x.bytes ++ r))) rfl
  obtain ⟨a4, b4, c4⟩ := take_app (n := 4) (l := fourB x.at_.toNat) (r := fourB x.bytes.length ++ (x.bytes ++ r)) rfl
  obtain ⟨a5, b5, c5⟩ := take_app (n := 4) (l := fourB x.bytes.length) (r := x.bytes ++ r) rfl
  obtain ⟨a6, b6, c6⟩ := take_app (n := x.bytes.length) (l := x.bytes) (r := r) rfl
  rw [e1]
  unfold readOp
  simp only
  rw [a1, b1, c1, a2, b2, c2, numR_one _ (show x.kind.toNat < 256 by omega), numR_one _ (show x.name.length < 256 by omega), a3, b3, c3, a4, b4, c4, numR_four _ (by omega), a5, b5, c5, numR_four _ hb, a6, b6, c6]
theorem bare_opB (x : OpA) (hf : opForm x = true) (r : List UInt8) (s : Bool) : (⟨x.kind.toNat, x.name, x.at_.toNat, x.bytes, r, s⟩ : Rdd).bare = x.erase := by
  obtain ⟨o1, o2, o3, o4, o5⟩ := opForm_parts hf
  unfold Rdd.bare OpA.erase
  simp only [OpA.mk.injEq]
  exact ⟨by omega, trivial, by omega, trivial, trivial⟩
theorem readOps_flat : ∀ (ops : List OpA), (∀ x ∈ ops, opForm x = true ∧ x.bytes.length < 4294967296) → ∀ (r : List UInt8) (s : Bool), readOps ops.length (ops.flatMap opB ++ r) s = ops.map OpA.erase ∧ restOps ops.length (ops.flatMap opB ++ r) s = (r, s)
  | [], _, r, s => ⟨rfl, rfl⟩
  | x :: ops, h, r, s => by
    obtain ⟨h1, h2⟩ := h x (by simp)
    obtain ⟨i1, i2⟩ := readOps_flat ops (fun y hy => h y (by simp [hy])) r s
    have e : (x :: ops).flatMap opB ++ r = opB x ++ (ops.flatMap opB ++ r) := by simp
    have hr := readOp_opB x h1 h2 (ops.flatMap opB ++ r) s
    rw [e, List.length_cons, readOps, restOps, hr, bare_opB x h1, List.map_cons]
    simp only
    rw [i1, i2]
    exact ⟨rfl, rfl⟩
theorem opsOf_opsB (ops : List OpA) (hf : formB ops = true) : opsOf (opsB ops) = some (ops.map OpA.erase) := by
  obtain ⟨h1, h16, hgood, hsz⟩ := form_parts hf
  obtain ⟨a1, b1, c1⟩ := take_app (n := 1) (l := [UInt8.ofNat ops.length]) (r := ops.flatMap opB) rfl
  have hall : ∀ x ∈ ops, opForm x = true ∧ x.bytes.length < 4294967296 := fun x hx => ⟨good_all ops [] hgood x hx, by
    obtain ⟨i, hi, rfl⟩ := List.getElem_of_mem hx
    have := sizeOps_at ops i hi
    unfold opSize at this
    omega⟩
  obtain ⟨i1, i2⟩ := readOps_flat ops hall [] false
  rw [List.append_nil] at i1 i2
  unfold opsOf opsB
  rw [a1, b1, c1, numR_one _ (by omega), i1, i2, form_erase, hf, if_neg (by simp)]
/-- The other way round. -/
theorem four_numR : ∀ (l : List UInt8), l.length = 4 → fourB (numR l) = l
  | [a, b, c, d], _ => by
    have ha := UInt8.toNat_lt a
    have hb := UInt8.toNat_lt b
    have hc := UInt8.toNat_lt c
    have hd := UInt8.toNat_lt d
    have e : numR [a, b, c, d] = ((a.toNat * 256 + b.toNat) * 256 + c.toNat) * 256 + d.toNat := by
      show (((0 * 256 + a.toNat) * 256 + b.toNat) * 256 + c.toNat) * 256 + d.toNat = _
      omega
    unfold fourB
    rw [e]
    have z : ∀ (m : Nat) (x : UInt8), m % 256 = x.toNat → UInt8.ofNat m = x := fun m x h => by
      apply UInt8.toNat_inj.1
      rw [UInt8.toNat_ofNat']
      omega
    rw [z _ a (by omega), z _ b (by omega), z _ c (by omega), z _ d (by omega)]
theorem one_numR : ∀ (l : List UInt8), l.length = 1 → [UInt8.ofNat (numR l)] = l
  | [a], _ => by
    have e : numR [a] = a.toNat := by
      show 0 * 256 + a.toNat = _
      omega
    rw [e]
    congr 1
    exact UInt8.ofNat_toNat
theorem readOp_back {l : List UInt8} {s : Bool} (h : (readOp l s).short = false) : opB (readOp l s).bare ++ (readOp l s).rest = l := by
  unfold readOp at h ⊢
  simp only at h ⊢
  obtain ⟨h6, k6, a6, b6⟩ := takeS_no h
  obtain ⟨h5, k5, a5, b5⟩ := takeS_no h6
  obtain ⟨h4, k4, a4, b4⟩ := takeS_no h5
  obtain ⟨h3, k3, a3, b3⟩ := takeS_no h4
  obtain ⟨h2, k2, a2, b2⟩ := takeS_no h3
  obtain ⟨h1, k1, a1, b1⟩ := takeS_no h2
  have f : ∀ {n : Nat} {l : List UInt8}, n ≤ l.length → takeA n l = l.take n → takeB n l = l.drop n → takeA n l ++ takeB n l = l ∧ (takeA n l).length = n := fun hk ha hb => by
    rw [ha, hb]
    exact ⟨List.take_append_drop _ _, by rw [List.length_take]; omega⟩
  obtain ⟨e1, m1⟩ := f k1 a1 b1
  obtain ⟨e2, m2⟩ := f k2 a2 b2
  obtain ⟨e3, m3⟩ := f k3 a3 b3
  obtain ⟨e4, m4⟩ := f k4 a4 b4
  obtain ⟨e5, m5⟩ := f k5 a5 b5
  obtain ⟨e6, m6⟩ := f k6 a6 b6
  unfold opB Rdd.bare
  simp only [Int.toNat_natCast]
  have g1 := one_numR _ m1
  have g2 := one_numR _ m2
  have g4 := four_numR _ m4
  have g5 := four_numR _ m5
  rw [m3, m6, g4, g5]
  have t : ∀ (a b : UInt8) (x y z u v : List UInt8), [a, b] ++ x ++ y ++ z ++ u ++ v = [a] ++ ([b] ++ (x ++ (y ++ (z ++ (u ++ v))))) := fun a b x y z u v => by simp
  rw [t, g1, g2, e6, e5, e4, e3, e2, e1]
theorem readOps_back : ∀ (n : Nat) (l : List UInt8) (s : Bool), (restOps n l s).2 = false → (readOps n l s).flatMap opB ++ (restOps n l s).1 = l
  | 0, l, s, _ => rfl
  | n + 1, l, s, h => by
    have h' : (restOps n (readOp l s).rest (readOp l s).short).2 = false := h
    have ih := readOps_back n _ _ h'
    have hs := (readOps_size n _ _ h').1
    rw [readOps, restOps, List.flatMap_cons, List.append_assoc, ih]
    exact readOp_back hs
theorem readOps_length : ∀ (n : Nat) (l : List UInt8) (s : Bool), (readOps n l s).length = n
  | 0, _, _ => rfl
  | n + 1, l, s => by rw [readOps, List.length_cons, readOps_length n]
theorem opsOf_back {b : List UInt8} {ys : List OpA} (h : opsOf b = some ys) : opsB ys = b ∧ formB ys = true := by
  unfold opsOf at h
  split at h
  · cases h
  · rename_i hn
    have h1 : (restOps (numR (takeA 1 b)) (takeB 1 b) (takeS 1 b false)).2 = false := by
      cases hb : (restOps (numR (takeA 1 b)) (takeB 1 b) (takeS 1 b false)).2 with
      | false => rfl
      | true => exact absurd (.inl hb) hn
    have h2 : (restOps (numR (takeA 1 b)) (takeB 1 b) (takeS 1 b false)).1 = [] := by
      by_cases hb : (restOps (numR (takeA 1 b)) (takeB 1 b) (takeS 1 b false)).1 = []
      · exact hb
      · exact absurd (.inr (.inl hb)) hn
    have h3 : formB (readOps (numR (takeA 1 b)) (takeB 1 b) (takeS 1 b false)) = true := by
      cases hb : formB (readOps (numR (takeA 1 b)) (takeB 1 b) (takeS 1 b false)) with
      | true => rfl
      | false => exact absurd (.inr (.inr hb)) hn
    have hk := readOps_back _ _ _ h1
    rw [h2, List.append_nil] at hk
    obtain ⟨_, k1, a1, b1⟩ := takeS_no (readOps_size _ _ _ h1).1
    simp only [Option.some.injEq] at h
    subst h
    refine ⟨?_, h3⟩
    unfold opsB
    rw [readOps_length, hk, one_numR _ (by rw [a1, List.length_take]; omega), a1, b1]
    exact List.take_append_drop _ _
theorem whole_rec (b : List UInt8) (h : b.length ≤ 400000) : wholeN (recB b) = some b.length := by
  have hl := recB_length b
  have e1 : numN (recB b) = b.length := by
    unfold recB
    rw [List.append_assoc]
    exact numN_four _ (by omega) _
  have e2 : (recB b).drop 4 = fourB (sumN 1 b) ++ b := by
    unfold recB
    rw [List.append_assoc]
    exact List.drop_left' (fourB_length _)
  have e3 : (recB b).drop 8 = b := by
    unfold recB
    exact List.drop_left' (by rw [List.length_append, fourB_length, fourB_length])
  unfold wholeN
  rw [if_neg (by omega), e1, e2, e3, List.take_of_length_le (Nat.le_refl _), numN_four _ (sumN_lt 1 b), if_pos ⟨h, by omega, rfl⟩]
theorem rec_payload (b : List UInt8) : ((recB b).drop 8).take b.length = b := by
  have e3 : (recB b).drop 8 = b := by
    unfold recB
    exact List.drop_left' (by rw [List.length_append, fourB_length, fourB_length])
  rw [e3, List.take_of_length_le (Nat.le_refl _)]
end Go.Proofs.YthhnlkbjpahjeaaGreatDoor

end
