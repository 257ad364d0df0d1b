/- The numbers of a disk's state, step by step. -/
/- The chapter's own case: a log is made on an empty disk. -/
/- Commit: refused, done, or cut. -/
import Derived.Test.YthhnlkbjpahjeaaGreatDoorU33
import Derived.Test.YthhnlkbjpahjeaaGreatDoorU32
import Derived.Test.YthhnlkbjpahjeaaGreatDoorU30
section
namespace Go.Proofs.YthhnlkbjpahjeaaGreatDoor
open Go.RowKit Go.Maps Go.Sort
structure Sm (s : St) (D Ds ch : DataW Unit) (ns : Nat) (cr op st ar : Int) (off : Bool) (q : Int) (N : Nat) : Prop where
  D : s.D = D
  Ds : s.Ds = Ds
  ch : s.ch = ch
  ns : s.ns = ns
  ls : s.ls = []
  cr : s.created = cr
  op : s.opened = op
  st : s.steps = st
  ar : s.armed = ar
  off : s.off = off
  q : s.quota = q
  N : s.N = N
section
variable {s : St} {D Ds ch : DataW Unit} {ns : Nat} {cr op st ar : Int} {off : Bool} {q : Int} {N : Nat}
theorem Sm.empty (q : Int) : Sm (emptySt q) (.map []) (.map []) (.map []) 0 0 0 0 (-1) false q 0 := ⟨rfl, rfl, rfl, rfl, rfl, rfl, rfl, rfl, rfl, rfl, rfl, rfl⟩
theorem Sm.madeG (h : Sm s D Ds ch ns cr op st ar off q N) (name : List UInt8) (f : Nat) : Sm (s.madeG name f) (D.put (.string name) (pd f)) Ds ch (ns + 1) (cr + 1) (op + 1) (st + 1) (dec ar) off q (N + 1) := by
  obtain ⟨rfl, rfl, rfl, rfl, h1, rfl, rfl, rfl, rfl, rfl, rfl, rfl⟩ := h
  exact ⟨rfl, rfl, rfl, rfl, h1, rfl, rfl, rfl, rfl, rfl, rfl, rfl⟩
theorem Sm.putG (h : Sm s D Ds ch ns cr op st ar off q N) (b : Nat) (fa : FA) (news : List UInt8) : Sm (s.putG b fa news) D Ds (ch.put (.int .i64 fa.num) (pd b)) ns cr (op + 1) (st + 1) (dec ar) off q (N + 1) := by
  obtain ⟨rfl, rfl, rfl, rfl, h1, rfl, rfl, rfl, rfl, rfl, rfl, rfl⟩ := h
  exact ⟨rfl, rfl, rfl, rfl, h1, rfl, rfl, rfl, rfl, rfl, rfl, rfl⟩
theorem Sm.cutG (h : Sm s D Ds ch ns cr op st ar off q N) (b : Nat) (fa : FA) : Sm (s.cutG b fa) D Ds (ch.put (.int .i64 fa.num) (pd b)) ns cr (op + 1) (st + 1) (dec ar) off q (N + 1) := by
  obtain ⟨rfl, rfl, rfl, rfl, h1, rfl, rfl, rfl, rfl, rfl, rfl, rfl⟩ := h
  exact ⟨rfl, rfl, rfl, rfl, h1, rfl, rfl, rfl, rfl, rfl, rfl, rfl⟩
theorem Sm.syncd (h : Sm s D Ds ch ns cr op st ar off q N) (b : Nat) (fa : FA) : Sm (s.syncd b fa) D Ds (ch.del (.int .i64 fa.num)) ns cr (op - fa.opn.length) (st + 1) (dec ar) off q (N + 1) := by
  obtain ⟨rfl, rfl, rfl, rfl, h1, rfl, rfl, rfl, rfl, rfl, rfl, rfl⟩ := h
  exact ⟨rfl, rfl, rfl, rfl, h1, rfl, rfl, rfl, rfl, rfl, rfl, rfl⟩
theorem Sm.syncedG (h : Sm s D Ds ch ns cr op st ar off q N) : Sm s.syncedG D D ch 0 cr (op - ns) (st + 1) (dec ar) off q N := by
  obtain ⟨rfl, rfl, rfl, rfl, h1, rfl, rfl, rfl, rfl, rfl, rfl, rfl⟩ := h
  exact ⟨rfl, rfl, rfl, rfl, h1, rfl, rfl, rfl, rfl, rfl, rfl, rfl⟩
theorem Sm.gone (h : Sm s D Ds ch ns cr op st ar off q N) : Sm s.gone D Ds ch ns cr op st ar true q N := by
  obtain ⟨rfl, rfl, rfl, rfl, h1, rfl, rfl, rfl, rfl, rfl, rfl, rfl⟩ := h
  exact ⟨rfl, rfl, rfl, rfl, h1, rfl, rfl, rfl, rfl, rfl, rfl, rfl⟩
theorem Sm.arm (h : Sm s D Ds ch ns cr op st ar off q N) (n : Int) : Sm { s with armed := n } D Ds ch ns cr op st n off q N := by
  obtain ⟨rfl, rfl, rfl, rfl, h1, rfl, rfl, rfl, rfl, rfl, rfl, rfl⟩ := h
  exact ⟨rfl, rfl, rfl, rfl, h1, rfl, rfl, rfl, rfl, rfl, rfl, rfl⟩
theorem Sm.quota (h : Sm s D Ds ch ns cr op st ar off q N) (n : Int) : Sm { s with quota := n } D Ds ch ns cr op st ar off n N := by
  obtain ⟨rfl, rfl, rfl, rfl, h1, rfl, rfl, rfl, rfl, rfl, rfl, rfl⟩ := h
  exact ⟨rfl, rfl, rfl, rfl, h1, rfl, rfl, rfl, rfl, rfl, rfl, rfl⟩
theorem Sm.crashed (h : Sm s D Ds ch ns cr op st ar off q N) (b : Nat) (fa : FA) : Sm (s.crashed b fa) Ds Ds (.map []) 0 cr 0 st (-1) false q N := by
  obtain ⟨rfl, rfl, rfl, rfl, h1, rfl, rfl, rfl, rfl, rfl, rfl, rfl⟩ := h
  exact ⟨rfl, rfl, rfl, rfl, rfl, rfl, rfl, rfl, rfl, rfl, rfl, rfl⟩
theorem Sm.small (h : Sm s D Ds ch ns cr op st ar false q N) (h1 : ar ≠ 0) (h2 : ar ≤ 1000000000) (h3 : 0 ≤ st) (h4 : st ≤ 1000000) (h5 : 0 ≤ op) (h6 : op ≤ 1000000) (h7 : N ≤ 100000) (h8 : 0 ≤ q) (h9 : q ≤ 1073741824) (hu : usedOf s ≤ 1000000) : s.SmallG where
  armed := by rw [h.ar]; exact h1
  armed1 := by rw [h.ar]; omega
  s0 := by rw [h.st]; exact h3
  s1 := by rw [h.st]; exact h4
  o0 := by rw [h.op]; exact h5
  o1 := by rw [h.op]; exact h6
  n := by rw [h.N]; exact h7
  off := h.off
  q0 := by rw [h.q]; exact h8
  q1 := by rw [h.q]; exact h9
  u := by omega
theorem Sm.used (h : Sm s D Ds ch ns cr op st ar off q N) : usedOf s = sumD (lenD s.φ) D := by rw [usedOf, h.D]
end
theorem rightRedo : rightB redoN = true := by decide
theorem rightBb : rightB [98] = true := by decide
/-- Files by their blocks. -/
def files1 (f0 : Nat) : DataW Unit := .map [(.string redoN, pd f0)]
def files2 (f0 f1 : Nat) : DataW Unit := .map [(.string [97], pd f1), (.string redoN, pd f0)]
def files3 (f0 f1 f2 : Nat) : DataW Unit := .map [(.string [97], pd f1), (.string [98], pd f2), (.string redoN, pd f0)]
theorem files1_put (f0 : Nat) : (DataW.map [] : DataW Unit).put (.string redoN) (pd f0) = files1 f0 := rfl
theorem files2_put (f0 f1 : Nat) : (files1 f0).put (.string [97]) (pd f1) = files2 f0 f1 := rfl
theorem files3_put (f0 f1 f2 : Nat) : (files2 f0 f1).put (.string [98]) (pd f2) = files3 f0 f1 f2 := rfl
theorem files1_redo (f0 : Nat) : (files1 f0).atKey (.string redoN) .nil = pd f0 := rfl
theorem files1_a (f0 : Nat) : (files1 f0).atKey (.string [97]) .nil = .nil := rfl
theorem files2_a (f0 f1 : Nat) : (files2 f0 f1).atKey (.string [97]) .nil = pd f1 := rfl
theorem files2_b (f0 f1 : Nat) : (files2 f0 f1).atKey (.string [98]) .nil = .nil := rfl
theorem files3_b (f0 f1 f2 : Nat) : (files3 f0 f1 f2).atKey (.string [98]) .nil = pd f2 := rfl
theorem files3_a (f0 f1 f2 : Nat) : (files3 f0 f1 f2).atKey (.string [97]) .nil = pd f1 := rfl
theorem files3_redo (f0 f1 f2 : Nat) : (files3 f0 f1 f2).atKey (.string redoN) .nil = pd f0 := rfl
theorem files1_sum {φ : Nat → Option FA} {f0 : Nat} {a0 : FA} (h0 : φ f0 = some a0) : sumD (lenD φ) (files1 f0) = a0.bytes.length := by
  show lenD φ (pd f0) + 0 = _
  rw [lenD_pd h0, Nat.add_zero]
theorem files2_sum {φ : Nat → Option FA} {f0 f1 : Nat} {a0 a1 : FA} (h0 : φ f0 = some a0) (h1 : φ f1 = some a1) : sumD (lenD φ) (files2 f0 f1) = a0.bytes.length + a1.bytes.length := by
  show lenD φ (pd f1) + (lenD φ (pd f0) + 0) = _
  rw [lenD_pd h0, lenD_pd h1]
  omega
theorem files3_sum {φ : Nat → Option FA} {f0 f1 f2 : Nat} {a0 a1 a2 : FA} (h0 : φ f0 = some a0) (h1 : φ f1 = some a1) (h2 : φ f2 = some a2) : sumD (lenD φ) (files3 f0 f1 f2) = a0.bytes.length + (a1.bytes.length + a2.bytes.length) := by
  show lenD φ (pd f1) + (lenD φ (pd f2) + (lenD φ (pd f0) + 0)) = _
  rw [lenD_pd h0, lenD_pd h1, lenD_pd h2]
  omega
theorem ch_put (n : Int) (f : Nat) : (DataW.map [] : DataW Unit).put (.int .i64 n) (pd f) = .map [(.int .i64 n, pd f)] := rfl
theorem ch_del0 (f : Nat) : (DataW.map [(.int .i64 0, pd f)] : DataW Unit).del (.int .i64 0) = .map [] := rfl
theorem ch_del1 (f : Nat) : (DataW.map [(.int .i64 1, pd f)] : DataW Unit).del (.int .i64 1) = .map [] := rfl
theorem ch_del2 (f : Nat) : (DataW.map [(.int .i64 2, pd f)] : DataW Unit).del (.int .i64 2) = .map [] := rfl
/-- The block of a file is one of the disk's: it lies in the world. -/
theorem DK.flt {w0 w : World} {d : Nat} {ρ : Nat → Option Role} {s : St} (h : DK w0 w d ρ s) {b : Nat} {fa : FA} (hφ : s.φ b = some fa) : b < w.heap.size := by
  obtain ⟨bn, bs, bc, vs, vl, Gs, Gl, cs, h⟩ := h
  obtain ⟨_, _, _, _, _, hF⟩ := h.files b fa hφ
  exact hF.blk.lt
end Go.Proofs.YthhnlkbjpahjeaaGreatDoor

end
section
namespace Go.Proofs.YthhnlkbjpahjeaaGreatDoor
open Go.RowKit Go.Maps Go.Sort
theorem RunsG.step {a : Nat → Addr} {g : Nat} {r : List Value} {w : World} {Q : Value → World → Prop} (F : Nat) (fi : Array Value) (eg : ∀ args w, (callFunc F args).run Tryz.prog w = .ok (.enter F args) w)
    (hc : Calls Tryz.prog F fi w fun e w' => (e = .returned .nilIface ∧ w'.heap[g]? = w.heap[g]? ∧ RunsG a g r w' Q) ∨ ∃ i, e = .returned (errV a i) ∧ Q (errV a i) w') : RunsG a g (.func (.func F) fi #[] :: r) w Q :=
  ⟨F, fi, #[], rfl, eg, by rw [Array.append_empty]; exact hc⟩
/-- The state behind Format. -/
def Fmt (s : St) (f0 : Nat) : Prop := Sm s (files1 f0) (files1 f0) (.map []) 0 1 0 2 (-1) false 1000 1 ∧ s.φ f0 = some ⟨0, [], []⟩
section
variable (w0 w : World) (d : Nat) (ρ : Nat → Option Role) (a : Nat → Addr)
set_option maxHeartbeats 1000000 in
theorem afmt (hE : Errs w0 a) (h : DK w0 w d ρ (emptySt 1000)) :
    Calls Tryz.prog 7 #[pv d] w fun e w' => e = .returned (.tuple #[pv w.heap.size, .nilIface]) ∧ ∃ ρ' s f0, LG w0 w' w.heap.size d false ρ' s ∧ Fmt s f0 := by
  refine format_via w d a (fun w' => ∃ ρ' s f0, LG w0 w' w.heap.size d false ρ' s ∧ Fmt s f0) ?_
  intro g w1 hb1 hl1 hlg hg1 _ hkg
  have hd1 := h.then hb1
  have L1 : LG w0 w1 w.heap.size d false ρ (emptySt 1000) := ⟨hd1, hl1, h.free (Nat.le_refl _), h.below.size⟩
  have rg : ρ g = none := h.free (by omega)
  refine RunsG.step _ _ (by intros; kernel_rfl) ?_
  refine (makeLog_via w1 w.heap.size d false (fun v w2 => v = .nilIface ∧ ∃ ρ2 f, DK w0 w2 d ρ2 ((emptySt 1000).madeG redoN f) ∧ Turn w1 w2 ρ ρ2) hl1 ?_).mono ?_
  · refine (create_okG w0 w1 d ρ (emptySt 1000) a hE hd1 rfl (by decide) (by decide) (by decide) (by decide) (by decide) (by decide) (by decide) (by decide) (by decide) (by decide) redoN rightRedo rfl).mono ?_
    rintro e w2 ⟨rfl, ρ2, f, hd2, ht2, _⟩
    exact ⟨_, rfl, rfl, ρ2, f, hd2, ht2⟩
  rintro e w2 ⟨_, rfl, rfl, ρ2, f, hd2, ht2⟩
  have k2 := ht2.blk hkg rg
  have rg2 := ht2.off hkg.lt rg
  refine .inl ⟨rfl, runs_blk hkg k2, ?_⟩
  have L2 := L1.turn hd2 ht2
  have s1 := (Sm.empty 1000).madeG redoN f
  rw [files1_put] at s1
  have hφ : ((emptySt 1000).madeG redoN f).φ f = some ⟨0, [], []⟩ := if_pos rfl
  refine RunsG.step _ _ (by intros; kernel_rfl) ?_
  refine (syncDir_okG w0 w2 d ρ2 _ hd2 (s1.small (by decide) (by decide) (by decide) (by decide) (by decide) (by decide) (by decide) (by decide) (by decide) (by rw [s1.used, files1_sum hφ]; decide)) (by rw [s1.ns, s1.op]; decide) s1.ch).mono ?_
  rintro e w3 ⟨rfl, ρ3, hd3, ht3⟩
  refine .inl ⟨rfl, runs_blk k2 (ht3.blk k2 rg2), rfl, ρ3, _, f, L2.turn hd3 ht3, s1.syncedG, hφ⟩
end
end Go.Proofs.YthhnlkbjpahjeaaGreatDoor

end
section
namespace Go.Proofs.YthhnlkbjpahjeaaGreatDoor
open Go.RowKit Go.Maps Go.Sort
theorem LG.deadTo {w0 w : World} {l d : Nat} {dead : Bool} {ρ : Nat → Option Role} {s : St} (h : LG w0 w l d dead ρ s) (b : Bool) : LG w0 (w.setCell ⟨l, 1, none⟩ (.bool b)) l d b ρ s := by
  have hm : Mvs (fun k => k = l) w (w.setCell ⟨l, 1, none⟩ (.bool b)) := (Mvs.refl (fun k => k = l) w).setCell ⟨l, 1, none⟩ _ (fun _ => rfl)
  exact ⟨h.dk.keep hm (fun k r hr e => by subst e; rw [h.rl] at hr; cases hr) (fun k e => by subst e; exact h.low), h.lb.set 1 _, h.rl, h.low⟩
section
variable (w0 w : World) (l d : Nat) (a : Nat → Addr) (Q : Value → World → Prop)
/-- What the steps of a Commit leave. -/
def ComQ (v : Value) (w' : World) : Prop := Errs w' a ∧ Blk w' l #[pv d, .bool false] 59 ∧ ((v = .nilIface ∧ Q v (w'.setCell ⟨l, 1, none⟩ (.bool false))) ∨ (v = errV a 7 ∧ Q v (w'.setCell ⟨l, 1, none⟩ (.bool true))) ∨ ∃ i, i < 13 ∧ i ≠ 7 ∧ v = errV a i ∧ Q v (w'.setCell ⟨l, 1, none⟩ (.bool false)))
set_option maxRecDepth 8000 in
set_option maxHeartbeats 4000000 in
theorem commit_via (ops : List OpA) (vo : Value) (hl : Blk w l #[pv d, .bool false] 59) (hO : OPs w vo ops) (hf : formB ops = true)
    (hQ : ∀ g w1 vr, Below w.heap.size w w1 → BR w1 vr (recB (opsB ops)) → (∀ A n c, vr = .slice (some A) n c → w.heap.size ≤ A.block) → w.heap.size ≤ g → g < w1.heap.size → Blk w1 g (commitFs l vo vr).toArray 61 → RunsG a g (commitFs l vo vr) w1 (ComQ l d a Q)) :
    Calls Tryz.prog 8 #[pv l, vo] w (Ans Q) := by
  have HR := hide (recordOf_yes ops vo w hO hf)
  have hcl := hl.cell
  obtain ⟨A, c, rfl, _⟩ := hO.form
  replace hQ := hide hQ
  clear hO hf hl
  unfold pv at *
  go_enter Tryz.func8, Tryz.ntmps8
  go_wp2_with fail
  refine HR.out.mono ?_
  rintro e w1 ⟨vr, rfl, T1⟩
  have hvr : ∀ A n c, vr = .slice (some A) n c → w.heap.size ≤ A.block := by
    obtain ⟨_, G, hr, hg⟩ := T1
    rintro A n c rfl
    rcases hr.2 with ⟨h, _⟩ | ⟨g, o, cap, hG, hv, _⟩
    · cases h
    · cases hv
      exact hg _ hG
  have hbr := T1.br
  have hb1 := T1.1
  have hs1 := hb1.size
  have hb2 : Below w1.heap.size w1 ((w1.alloc (.cells #[.pointer (some ⟨l, 0, none⟩), .slice A ops.length c, vr] 65)).alloc (.cells (commitFs l (.slice A ops.length c) vr).toArray 61)) := ((Below.refl _ _).alloc (Nat.le_refl _) _).alloc (by simp) _
  have hk := Blk.new1 w1 (.cells #[.pointer (some ⟨l, 0, none⟩), .slice A ops.length c, vr] 65) (commitFs l (.slice A ops.length c) vr).toArray 61
  have HRun := hide (run_any a (commitFs l (.slice A ops.length c) vr) (w1.heap.size + 1) _ _ hk (by simp [commitFs]) (hQ.out (w1.heap.size + 1) _ vr (hb1.trans (hb2.mono hs1)) (hbr.below hb2) hvr (by omega) (by simp) hk))
  unfold commitFs pv at HRun
  obtain ⟨Ar, cr, rfl, _⟩ := BR.form hbr
  clear hbr hb1 hb2 hk hvr T1 HR hQ hcl
  go_wp2_with fail
  refine HRun.out.mono ?_
  rintro e w2 ⟨v, rfl, hEE, hlb, hq⟩
  have hg7 : w2.cell? ⟨2, 0, none⟩ = some (errV a 7) := hEE.cell 7 (by decide)
  have hcl := hlb.cell
  have hfl := hlb.frozen
  clear hlb HRun
  rcases hq with ⟨rfl, hq⟩ | ⟨rfl, hq⟩ | ⟨i, hi, hi7, rfl, hq⟩
  · replace hq := hide hq
    clear hEE
    unfold errV at *
    go_wp2_with (go_at_call 28; refine (is_nil _ _).mono ?_; rintro e w' ⟨rfl, rfl⟩)
    go_ret
    exact ⟨_, rfl, hq.out⟩
  · replace hq := hide hq
    clear hEE
    unfold errV at *
    go_wp2_with (go_at_call 28; refine (is_same _ _).mono ?_; rintro e w' ⟨rfl, rfl⟩)
    go_ret
    exact ⟨_, rfl, hq.out⟩
  · replace hq := hide hq
    have hne := hEE.ne i 7 hi (by decide) hi7
    obtain ⟨ck, tk, bk⟩ := hEE.blk i hi
    obtain ⟨cn, tn, bn⟩ := hEE.blk 7 (by decide)
    have HX := hide (is_other _ _ ck cn tk tn w2 hne bk bn)
    clear hEE hne bk bn
    unfold errV at *
    go_wp2_with (go_at_call 28; refine HX.out.mono ?_; rintro e w' ⟨rfl, rfl⟩)
    go_ret
    exact ⟨_, rfl, hq.out⟩
set_option maxRecDepth 8000 in
set_option maxHeartbeats 4000000 in
/-- A change that is not in form. -/
theorem commit_form (ops : List OpA) (vo : Value) (hE : Errs w a) (hl : Blk w l #[pv d, .bool false] 59) (hO : OPs w vo ops) (hs : sizeOps ops ≤ 1000000) (hf : formB ops = false) :
    Calls Tryz.prog 8 #[pv l, vo] w fun e w' => e = .returned (errV a 1) ∧ Below w.heap.size w w' := by
  have HB := hide (obytes_no ops vo w hO hs a hE hf)
  have HR : Hid (Calls Tryz.prog 22 #[vo] w fun e w' => e = .returned (.tuple #[.slice none 0 0, errV a 1]) ∧ Below w.heap.size w w') := by
    obtain ⟨A, c, rfl, _⟩ := hO.form
    clear hE hl hO hf
    unfold errV at *
    go_enter Tryz.func22, Tryz.ntmps22
    go_wp2_with fail
    refine HB.out.mono ?_
    rintro e w1 ⟨rfl, hb1⟩
    replace hb1 := hide hb1
    go_wp2
    go_ret2
    exact ⟨rfl, hb1.out⟩
  have hcl := hl.cell
  obtain ⟨A, c, rfl, _⟩ := hO.form
  clear hE hl hO hf HB
  unfold errV pv at *
  go_enter Tryz.func8, Tryz.ntmps8
  go_wp2_with fail
  refine HR.out.mono ?_
  rintro e w1 ⟨rfl, hb1⟩
  replace hb1 := hide hb1
  go_wp2
  go_ret
  exact ⟨rfl, hb1.out⟩
end
end Go.Proofs.YthhnlkbjpahjeaaGreatDoor

end
