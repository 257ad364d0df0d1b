/- Format; a change's record; a Commit that the power cuts. -/
/- Take. -/
import Derived.Test.YtcbkmcagnmpifaaGreatDoorU32
import Derived.Test.YtcbkmcagnmpifaaGreatDoorU34
import Derived.Test.YtcbkmcagnmpifaaGreatDoorU26
section
namespace Go.Proofs.YtcbkmcagnmpifaaGreatDoor
open Go.RowKit Go.Maps Go.Sort
theorem runs_blk {w w' : World} {g : Nat} {cs : Array Value} {t : TypeId} (h : Blk w g cs t) (h' : Blk w' g cs t) : w'.heap[g]? = w.heap[g]? := h'.trans h.symm
section
variable (w : World) (d : Nat) (a : Nat → Addr) (Q : World → Prop)
set_option maxRecDepth 8000 in
set_option maxHeartbeats 2000000 in
theorem format_via (hQ : ∀ g w1, Below w.heap.size w w1 → Blk w1 w.heap.size #[pv d, .bool false] 80 → w.heap.size < g → g < w1.heap.size → (∀ k, w.heap.size ≤ k → k < w1.heap.size → k = w.heap.size ∨ k = g) → Blk w1 g #[.func (.func 38) #[pv w.heap.size] #[], .func (.func 39) #[pv d] #[]] 82 → RunsG a g [.func (.func 38) #[pv w.heap.size] #[], .func (.func 39) #[pv d] #[]] w1 fun v w' => v = .nilIface ∧ Q w') :
    Calls Tryz.prog 18 #[pv d] w fun e w' => e = .returned (.tuple #[pv w.heap.size, .nilIface]) ∧ Q w' := by
  have hb : Below w.heap.size w ((w.alloc (.cells #[pv d, .bool false] 80)).alloc (.cells #[.func (.func 38) #[pv w.heap.size] #[], .func (.func 39) #[pv d] #[]] 82)) := ((Below.refl _ _).alloc (Nat.le_refl _) _).alloc (by simp) _
  have hk := Blk.new1 w (.cells #[pv d, .bool false] 80) [.func (.func 38) #[pv w.heap.size] #[], .func (.func 39) #[pv d] #[]].toArray 82
  have HR := hide (run_any a _ (w.heap.size + 1) _ (fun v w' => v = .nilIface ∧ Q w') hk (by simp) (hQ (w.heap.size + 1) _ hb ((Blk.new _ _ _).alloc _) (by omega) (by simp) (fun k h1 h2 => by simp at h2; omega) hk))
  clear hQ hb hk
  unfold pv at *
  go_enter Tryz.func18, Tryz.ntmps18
  go_wp2_with (go_at_call 37; refine HR.out.mono ?_; rintro e w' ⟨v, rfl, rfl, hq⟩; replace hq := hide hq)
  go_ret2
  exact ⟨rfl, hq.out⟩
end
set_option maxRecDepth 8000 in
set_option maxHeartbeats 2000000 in
theorem recordOf_yes (ops : List OpA) (v : Value) (w : World) (h : OPs w v ops) (hf : formB ops = true) :
    Calls Tryz.prog 40 #[v] w fun e w' => ∃ v', e = .returned (.tuple #[v', .nilIface]) ∧ Bts w w' v' (recB (opsB ops)) := by
  have HB := hide (obytes_yes ops v w h hf)
  have hlen : (opsB ops).length ≤ 400000 := by
    rw [opsB_length]
    exact (form_parts hf).2.2.2
  replace hlen := hide hlen
  obtain ⟨A, c, rfl, _⟩ := h.form
  clear h hf
  go_enter Tryz.func40, Tryz.ntmps40
  go_wp2_with fail
  refine HB.out.mono ?_
  rintro e w1 ⟨v1, rfl, T1⟩
  have HR := hide (record_any (opsB ops) v1 w1 T1.br hlen.out)
  have HT := hide T1.1
  clear T1 HB
  go_wp2_with fail
  refine HR.out.mono ?_
  rintro e w2 ⟨v2, rfl, T2⟩
  have HT2 := hide (T2.weaken HT.out)
  clear T2 HR
  go_wp2
  go_ret2
  exact ⟨_, rfl, HT2.out⟩
def commitFs (l : Nat) (vo vr : Value) : List Value := [.func (.func 41) #[.agg #[pv l, vo, vr]] #[], .func (.func 42) #[.agg #[pv l, vo, vr]] #[], .func (.func 43) #[pv l] #[], .func (.func 44) #[.agg #[pv l, vo, vr]] #[], .func (.func 45) #[pv l] #[], .func (.func 43) #[pv l] #[]]
section
variable (w0 w : World) (l d : Nat) (a : Nat → Addr) (Q : World → Prop)
set_option maxRecDepth 8000 in
set_option maxHeartbeats 4000000 in
/-- The power goes within it. -/
theorem commit_cut (ops : List OpA) (vo : Value) (hl : Blk w l #[pv d, .bool false] 80) (hO : OPs w vo ops) (hf : formB ops = true)
    (hQ : ∀ g w1 vr, Below w.heap.size w w1 → BR w1 vr (recB (opsB ops)) → (∀ A n c, vr = .slice (some A) n c → w.heap.size ≤ A.block) → w.heap.size ≤ g → Blk w1 g (commitFs l vo vr).toArray 82 → RunsG a g (commitFs l vo vr) w1 fun v w' => v = errV a 7 ∧ w'.cell? ⟨7, 0, none⟩ = some (errV a 7) ∧ Blk w' l #[pv d, .bool false] 80 ∧ Q (w'.setCell ⟨l, 1, none⟩ (.bool true))) :
    Calls Tryz.prog 19 #[pv l, vo] w fun e w' => e = .returned (errV a 7) ∧ Q w' := by
  have HR := hide (recordOf_yes ops vo w hO hf)
  have hcl := hl.cell
  obtain ⟨A, c, rfl, _⟩ := hO.form
  replace hQ := hide hQ
  clear hO hf hl
  unfold pv at *
  go_enter Tryz.func19, Tryz.ntmps19
  go_wp2_with fail
  refine HR.out.mono ?_
  rintro e w1 ⟨vr, rfl, T1⟩
  have hvr : ∀ A n c, vr = .slice (some A) n c → w.heap.size ≤ A.block := by
    obtain ⟨_, G, hr, hg⟩ := T1
    rintro A n c rfl
    rcases hr.2 with ⟨h, _⟩ | ⟨g, o, cap, hG, hv, _⟩
    · cases h
    · cases hv
      exact hg _ hG
  have hbr := T1.br
  have hb1 := T1.1
  have hs1 := hb1.size
  have hb2 : Below w1.heap.size w1 ((w1.alloc (.cells #[.pointer (some ⟨l, 0, none⟩), .slice A ops.length c, vr] 84)).alloc (.cells (commitFs l (.slice A ops.length c) vr).toArray 82)) := ((Below.refl _ _).alloc (Nat.le_refl _) _).alloc (by simp) _
  have hk := Blk.new1 w1 (.cells #[.pointer (some ⟨l, 0, none⟩), .slice A ops.length c, vr] 84) (commitFs l (.slice A ops.length c) vr).toArray 82
  have HRun := hide (run_any a (commitFs l (.slice A ops.length c) vr) (w1.heap.size + 1) _ _ hk (by simp [commitFs]) (hQ.out (w1.heap.size + 1) _ vr (hb1.trans (hb2.mono hs1)) (hbr.below hb2) hvr (by omega) hk))
  unfold commitFs pv at HRun
  obtain ⟨Ar, cr, rfl, _⟩ := BR.form hbr
  clear hbr hb1 hb2 hk hvr T1 HR hQ hcl
  go_wp2_with fail
  refine HRun.out.mono ?_
  rintro e w2 ⟨v, rfl, rfl, hg7, hlb, hq⟩
  have hcl := hlb.cell
  have hfl := hlb.frozen
  replace hq := hide hq
  clear hlb HRun
  unfold errV at *
  go_wp2_with (go_at_call 32; refine (is_same _ _).mono ?_; rintro e w' ⟨rfl, rfl⟩)
  go_ret
  exact ⟨rfl, hq.out⟩
end
end Go.Proofs.YtcbkmcagnmpifaaGreatDoor

end
section
namespace Go.Proofs.YtcbkmcagnmpifaaGreatDoor
open Go.RowKit
/-- What Take answers. -/
def TakeNo (w w' : World) (e : Ending) : Prop := e = .returned (.tuple #[.slice none 0 0, .slice none 0 0, .bool false]) ∧ Below w.heap.size w w'
def TakeYes (w w' : World) (e : Ending) (bs : List UInt8) (n : Nat) : Prop := ∃ v1 v2, e = .returned (.tuple #[v1, v2, .bool true]) ∧ BR w' v1 ((bs.drop 8).take n) ∧ BR w' v2 (bs.drop (8 + n)) ∧ Below w.heap.size w w'
set_option maxRecDepth 20000 in
set_option maxHeartbeats 4000000 in
theorem take_no (bs : List UInt8) (v : Value) (w : World) (h : BR w v bs) (hn : wholeN bs = none) :
    Calls Tryz.prog 118 #[v] w fun e w' => TakeNo w w' e := by
  have HF : Hid (Calls Tryz.prog 142 #[v] w fun e w' => FirstNo w w' e) := (first_any bs v w h).mono fun e w' hh => hh.1 hn
  obtain ⟨A, c, rfl, _⟩ := BR.form h
  clear h hn
  go_enter Tryz.func118, Tryz.ntmps118
  go_wp2_with (go_at_call 142; refine HF.out.mono ?_; rintro e w1 ⟨rfl, m, rfl⟩)
  go_ret3
  exact ⟨rfl, below_drewN _ _⟩
set_option maxRecDepth 20000 in
set_option maxHeartbeats 4000000 in
theorem take_yes (bs : List UInt8) (v : Value) (w : World) (h : BR w v bs) (hb : bs.length ≤ 900000) (n : Nat) (hn : wholeN bs = some n) :
    Calls Tryz.prog 118 #[v] w fun e w' => TakeYes w w' e bs n := by
  have HF : Hid (Calls Tryz.prog 142 #[v] w fun e w' => FirstYes v w w' e bs n) := (first_any bs v w h).mono fun e w' hh => hh.2 n hn
  have hl1 := hide (show ((bs.drop 8).take n).length ≤ 1000000 by rw [List.length_take, List.length_drop]; omega)
  have hl2 := hide (show (bs.drop (8 + n)).length ≤ 1000000 by rw [List.length_drop]; omega)
  obtain ⟨A, c, rfl, _⟩ := BR.form h
  clear h hn hb
  go_enter Tryz.func118, Tryz.ntmps118
  go_wp2_with fail
  refine HF.out.mono ?_
  rintro e w1 ⟨a1, n1, c1, a2, n2, c2, rfl, h1, h2, _, m, rfl⟩
  replace h1 := hide (h1.drewN m)
  replace h2 := hide (h2.drewN m)
  go_wp2_with fail
  refine (clone_any _ a1 n1 c1 _ h1.out hl1.out).mono ?_
  rintro e w2 ⟨v1, rfl, T1⟩
  replace T1 := hide T1
  replace h2 := hide (h2.out.below T1.out.1)
  go_wp2_with fail
  refine (clone_any _ a2 n2 c2 _ h2.out hl2.out).mono ?_
  rintro e w3 ⟨v2, rfl, T2⟩
  have T1' := hide (T1.out.then T2.1)
  replace T2 := hide T2
  have hB := hide ((below_drewN w m).trans ((T1'.out.1.mono (Nat.le_refl _))))
  go_wp2
  go_ret3
  exact ⟨_, _, rfl, T1'.out.br, T2.out.br, hB.out⟩
end Go.Proofs.YtcbkmcagnmpifaaGreatDoor

end
