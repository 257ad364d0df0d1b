/- The keeper that MboxKeeps hands over, and saysSo of package mbox. -/
import Derived.Test.YtcmhaihoeecjoaaDoorM7a
import Derived.Defers
import Derived.Recover
namespace Go.Proofs.YtcmhaihoeecjoaaDoor
open Go.RowKit Go.Shelf
theorem ret_b {a b : Bool} (h : a = b) : Ending.returned (.bool a) = .returned (.bool b) := by rw [h]
/-- What the keeper says of entry i. -/
def keepB (ks : List Bool) (i : Nat) : Bool := ks.getD i false
theorem AR.keep' {w w' : World} {v : Value} {cs : List Value} {S : Nat → Prop} (h : AR w v cs) (hm : Mvs S w w') (hS : cs ≠ [] → ∀ A n c, v = .slice (some A) n c → ¬ S A.block) : AR w' v cs := by
  obtain ⟨A, cap, rfl, h1, h2, h3, h4⟩ := h
  refine ⟨A, cap, rfl, h1, h2, h3, fun hc => ?_⟩
  obtain ⟨g, o, rfl, hg, h5⟩ := h4 hc
  refine ⟨g, o, rfl, Nat.lt_of_lt_of_le hg hm.size, fun j u hu => ?_⟩
  rw [hm.cell (a := ⟨g, o + j, none⟩) hg (hS hc ⟨g, o, none⟩ _ _ rfl)]
  exact h5 j u hu
/-- The keeper's two cells: how many were asked, and the slice of bools. -/
structure KC (w : World) (a b : Nat) (i : Nat) (kv : Value) (ks : List Bool) : Prop where
  asked : Blk w a #[.int .i64 i] 3
  box : Blk w b #[kv] 39
  row : AR w kv (ks.map Value.bool)
  apart : ks ≠ [] → ∀ A n c, kv = .slice (some A) n c → A.block ≠ a
set_option maxHeartbeats 1000000 in
theorem keeper_any (a b i : Nat) (kv : Value) (ks : List Bool) (w : World) (h : KC w a b i kv ks) (hi : i ≤ 1000) :
    Calls Tryd.prog 13 #[.int .i64 i, .pointer (some ⟨a, 0, none⟩), .pointer (some ⟨b, 0, none⟩)] w fun e w' => e = .returned (.bool (keepB ks i)) ∧ w' = w.setCell ⟨a, 0, none⟩ (.int .i64 ((i : Int) + 1)) := by
  obtain ⟨h1, h2, h3, h4⟩ := h
  have hab : b ≠ a := by
    rintro rfl
    unfold Blk at h1 h2
    rw [h1] at h2
    simp at h2
  have ca := h1.cell 0
  have fa := h1.frozen 0
  have la := h1.lt
  have lb := h2.lt
  have cb := (h2.set_other ⟨a, 0, none⟩ (.int .i64 ((i : Int) + 1)) (by exact fun e => hab e.symm)).cell 0
  obtain ⟨A, cap, rfl, hkl⟩ := h3.len
  unfold maxLen at hkl
  clear h1 h2
  by_cases hlt : i < ks.length
  · obtain ⟨g, o, cap', ev, q1, q2, q3, q4⟩ := h3.at (by intro e; rw [e] at hlt; simp at hlt)
    obtain ⟨rfl, rfl⟩ : A = some ⟨g, o, none⟩ ∧ cap = cap' := by cases ev; exact ⟨rfl, rfl⟩
    have hc := q4 i hlt
    have HK : Hid (keepB ks i = ks[i]) := by
      show _ = _
      unfold keepB
      rw [List.getD_eq_getElem?_getD, List.getElem?_eq_getElem hlt]
      rfl
    have hga : g ≠ a := h4 (by intro e; rw [e] at hlt; simp at hlt) _ _ _ rfl
    have hc' := (World.cell?_setCell_other w ⟨a, 0, none⟩ ⟨g, o + i, none⟩ (.int .i64 ((i : Int) + 1)) (by intro e; exact hga (congrArg Addr.block e).symm)).trans hc
    have hlt' : (i : Int) < ks.length := by omega
    clear ev q4 h3 h4
    go_enter Tryd.func13, Tryd.ntmps13
    go_wp2
    go_ret
    exact ⟨ret_b HK.out.symm, rfl⟩
  · have HK : Hid (keepB ks i = false) := by
      show _ = _
      unfold keepB
      rw [List.getD_eq_getElem?_getD, List.getElem?_eq_none (by omega)]
      rfl
    have hlt' : ¬ (i : Int) < ks.length := by omega
    clear h3 h4
    go_enter Tryd.func13, Tryd.ntmps13
    go_wp2
    go_ret
    exact ⟨ret_b HK.out.symm, rfl⟩
theorem so_idle (p : Addr) (w : World) :
    CallsD Tryd.prog 38 #[.pointer (some p)] .returning w fun e u' w' => e = .returned (.tuple #[]) ∧ u' = .returning ∧ w' = w := by
  refine callsD_of_wpS Tryd.func38 rfl fun c₀ cs hu => ?_
  apply wpS_seq
  apply wpS_region
  simp [wpOpsS, go_sem, recoverD, hu, Tryd.ntmps38, Exit.thenS]
  refine wpS_cond (t := false) (by simp [Act.eval, Array.replicate]) ?_
  simp only [Bool.false_eq_true, if_false]
  refine wpS_of_wp (wp_skip ?_)
  cases c₀
  simp_all [bodyPostS, results, Tryd.results38]
def keeperV (a b : Nat) : Value := .func (.func 13) #[] #[.pointer (some ⟨a, 0, none⟩), .pointer (some ⟨b, 0, none⟩)]
set_option maxHeartbeats 1000000 in
theorem so_any (a b i : Nat) (kv : Value) (ks : List Bool) (w : World) (h : KC w a b i kv ks) (hi : i ≤ 1000) :
    Calls Tryd.prog 21 #[keeperV a b, .int .i64 i] w fun e w' => e = .returned (.bool (keepB ks i)) ∧ Mvs (fun k => k = a) w w' ∧ Blk w' a #[.int .i64 ((i : Int) + 1)] 3 := by
  have hmf : ∀ (fn : Fn) (first cap : Array Value) (w : World), (Instr.makeFunc fn first cap).run Tryd.prog w = .ok (.func fn first cap) w := fun _ _ _ _ => rfl
  unfold keeperV
  have la := h.asked.lt
  have hK : KC (w.alloc (.cells #[.bool false] 4)) a b i kv ks := ⟨h.asked.alloc _, h.box.alloc _, h.row.below ((Below.refl _ _).alloc (Nat.le_refl _) _), h.apart⟩
  have HK := hide (keeper_any a b i kv ks _ hK hi)
  have HA := hide h.asked
  clear h hK
  go_enter_defers Tryd.func21, Tryd.ntmps21
  go_wp2_with fail
  refine HK.out.mono ?_
  rintro e w1 ⟨rfl, rfl⟩
  go_wp2
  refine leaves_cons (f := 38) (args := #[.pointer (some ⟨w.heap.size, 0, none⟩)]) (by simp) (by simp [go_sem]) ?_
  refine (so_idle _ _).mono ?_
  rintro e u' w'' ⟨rfl, rfl, rfl⟩
  have hm : Mvs (fun k => k = a) w ((w.setCell ⟨a, 0, none⟩ (.int .i64 ((i : Int) + 1))).alloc (.cells #[.bool (keepB ks i)] 4)) := (Mvs.setCell (S := fun k => k = a) (Mvs.refl _ w) ⟨a, 0, none⟩ _ (fun _ => rfl)).alloc _
  have hb : Blk ((w.setCell ⟨a, 0, none⟩ (.int .i64 ((i : Int) + 1))).alloc (.cells #[.bool (keepB ks i)] 4)) a #[.int .i64 ((i : Int) + 1)] 3 := (HA.out.set 0 _).alloc _
  simp [Leaves, settle, results, Tryd.results21, go_sem]
  exact ⟨hm, hb⟩
end Go.Proofs.YtcmhaihoeecjoaaDoor
