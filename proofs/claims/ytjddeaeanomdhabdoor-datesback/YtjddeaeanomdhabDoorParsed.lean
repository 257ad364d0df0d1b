/- The reading of a text that is in form: the deferred closure finds no panic. -/
import Derived.Test.YtjddeaeanomdhabDoorRd7
import Derived.Defers
import Derived.Recover
namespace Go.Proofs.YtjddeaeanomdhabDoor
open Go.RowKit

theorem catch_idle (p q : Addr) (w : World) :
    CallsD Tryd.prog 60 #[.pointer (some p), .pointer (some q)] .returning w fun e u' w' => e = .returned (.tuple #[]) ∧ u' = .returning ∧ w' = w := by
  refine callsD_of_wpS Tryd.func60 rfl fun c₀ cs hu => ?_
  apply wpS_seq
  apply wpS_region
  simp [wpOpsS, go_sem, recoverD, hu, Tryd.ntmps60, Exit.thenS]
  refine wpS_cond (t := false) (by simp [Act.eval, Array.replicate]) ?_
  simp only [Bool.false_eq_true, if_false]
  refine wpS_of_wp (wp_skip ?_)
  cases c₀
  simp_all [bodyPostS, results, Tryd.results60]

theorem Mv.blk {b k : Nat} {x y : World} {vs : Array Value} {t : TypeId} (h : Mv b x y) (hk : Blk x k vs t) (hne : k ≠ b) : Blk y k vs t := (h.block k hk.lt hne).trans hk
theorem Blk.new2 (w : World) (o o' : Obj) (vs : Array Value) (t : TypeId) : Blk (((w.alloc o).alloc o').alloc (.cells vs t)) (w.heap.size + 1 + 1) vs t := by
  have := Blk.new ((w.alloc o).alloc o') vs t
  rwa [World.size_alloc, World.size_alloc] at this

set_option maxHeartbeats 2000000 in
theorem parsed_day (l : List UInt8) (y m d h mi s wk : Int) (w : World) (hr : rightB y m d h mi s = true) (t0 : 0 ≤ mom y m d h mi s) (t1 : mom y m d h mi s ≤ 4102444799)
    (HG : Hid (∀ (b : Nat) (w : World), Rd w b l 0 0 0 0 0 0 0 0 → Calls Tryd.prog 59 #[.pointer (some ⟨b, 0, none⟩)] w fun e w' => e = .returned (.tuple #[]) ∧ Mv b w w' ∧ Rd w' b [] y m d h mi s wk 0)) :
    Calls Tryd.prog 22 #[.string ⟨l.toArray⟩, .func (.func 59) #[] #[]] w fun e w' => e = .returned (.tuple #[.int .i64 (mom y m d h mi s), .nilIface]) ∧ Below w.heap.size w w' := by
  have hmf : ∀ (fn : Fn) (first cap : Array Value) (w : World), (Instr.makeFunc fn first cap).run Tryd.prog w = .ok (.func fn first cap) w := fun _ _ _ _ => rfl
  go_enter_defers Tryd.func22, Tryd.ntmps22
  go_wp2_with fail
  refine (HG.out _ _ (Blk.new2 w _ _ _ _)).mono ?_
  rintro e w1 ⟨rfl, hm1, hr1⟩
  have HT1 : Hid (Blk w1 w.heap.size #[.int .i64 0] 3) := hm1.blk (((Blk.new w _ _).alloc _).alloc _) (by omega)
  have HE1 : Hid (Blk w1 (w.heap.size + 1) #[.nilIface] 24) := hm1.blk ((Blk.new1 w _ _ _).alloc _) (by omega)
  have HB1 : Hid (Below w.heap.size w w1) := hm1.below ((((Below.refl _ _).alloc (Nat.le_refl _) _).alloc (by simp) _).alloc (by simp; omega) _) (by omega)
  have HR1 : Hid (Rd w1 (w.heap.size + 1 + 1) [] y m d h mi s wk 0) := hr1
  clear hm1 hr1
  go_wp2_with (go_at_call 61; refine (end_ok _ y m d h mi s wk 0 _ HR1.out).mono ?_; rintro e w' ⟨rfl, hw⟩; obtain rfl := hw.symm)
  refine (rmom_ok _ y m d h mi s wk _ HR1.out hr t0 t1).mono ?_
  generalize hTT : mom y m d h mi s = T at *
  have HTT : Hid (mom y m d h mi s = T) := hTT
  clear hTT
  rintro e w2 ⟨rfl, hb2⟩
  have HT2 : Hid (Blk w2 w.heap.size #[.int .i64 0] 3) := HT1.out.below hb2 HT1.out.lt
  have HE2 : Hid (Blk w2 (w.heap.size + 1) #[.nilIface] 24) := HE1.out.below hb2 HE1.out.lt
  have HB2 : Hid (Below w.heap.size w w2) := HB1.out.trans (hb2.mono HB1.out.size)
  have hcT := HT2.out.cell
  have hfT := HT2.out.frozen
  have hcE := HE2.out.cell
  have hfE := HE2.out.frozen
  clear hb2
  go_wp2
  refine leaves_cons (f := 60) (args := #[.pointer (some ⟨w.heap.size, 0, none⟩), .pointer (some ⟨w.heap.size + 1, 0, none⟩)]) (by simp) (by simp [go_sem]) ?_
  refine (catch_idle _ _ _).mono ?_
  rintro e u' w'' ⟨rfl, rfl, rfl⟩
  have hB : Below w.heap.size w ((w2.setCell ⟨w.heap.size, 0, none⟩ (.int .i64 T)).setCell ⟨w.heap.size + 1, 0, none⟩ .nilIface) := (HB2.out.setCell (by simp) _).setCell (by simp) _
  simp [Leaves, settle, results, Tryd.results22, go_sem, hcT, hcE]
  exact ⟨HTT.out.symm, hB⟩

set_option maxHeartbeats 1000000 in
theorem parse_day (l : List UInt8) (y m d h mi s wk : Int) (w : World) (hr : rightB y m d h mi s = true) (t0 : 0 ≤ mom y m d h mi s) (t1 : mom y m d h mi s ≤ 4102444799)
    (HG : Hid (∀ (b : Nat) (w : World), Rd w b l 0 0 0 0 0 0 0 0 → Calls Tryd.prog 59 #[.pointer (some ⟨b, 0, none⟩)] w fun e w' => e = .returned (.tuple #[]) ∧ Mv b w w' ∧ Rd w' b [] y m d h mi s wk 0)) :
    Calls Tryd.prog 21 #[.string ⟨l.toArray⟩] w fun e w' => e = .returned (.tuple #[.int .i64 (mom y m d h mi s), .nilIface]) ∧ Below w.heap.size w w' := by
  have HP : Hid (∀ w, Calls Tryd.prog 22 #[.string ⟨l.toArray⟩, .func (.func 59) #[] #[]] w fun e w' => e = .returned (.tuple #[.int .i64 (mom y m d h mi s), .nilIface]) ∧ Below w.heap.size w w') := fun w => parsed_day l y m d h mi s wk w hr t0 t1 HG
  clear HG hr t0 t1
  go_enter Tryd.func21, Tryd.ntmps21
  go_wp2_with (go_at_call 22; refine (HP.out _).mono ?_; rintro e w1 ⟨rfl, hb1⟩)
  go_ret2
  exact ⟨rfl, hb1⟩

set_option maxHeartbeats 2000000 in
theorem parsed_internal (l : List UInt8) (y m d h mi s wk : Int) (w : World) (hr : rightB y m d h mi s = true) (t0 : 0 ≤ mom y m d h mi s) (t1 : mom y m d h mi s ≤ 4102444799)
    (HG : Hid (∀ (b : Nat) (w : World), Rd w b l 0 0 0 0 0 0 0 0 → Calls Tryd.prog 52 #[.pointer (some ⟨b, 0, none⟩)] w fun e w' => e = .returned (.tuple #[]) ∧ Mv b w w' ∧ Rd w' b [] y m d h mi s wk 0)) :
    Calls Tryd.prog 22 #[.string ⟨l.toArray⟩, .func (.func 52) #[] #[]] w fun e w' => e = .returned (.tuple #[.int .i64 (mom y m d h mi s), .nilIface]) ∧ Below w.heap.size w w' := by
  have hmf : ∀ (fn : Fn) (first cap : Array Value) (w : World), (Instr.makeFunc fn first cap).run Tryd.prog w = .ok (.func fn first cap) w := fun _ _ _ _ => rfl
  go_enter_defers Tryd.func22, Tryd.ntmps22
  go_wp2_with fail
  refine (HG.out _ _ (Blk.new2 w _ _ _ _)).mono ?_
  rintro e w1 ⟨rfl, hm1, hr1⟩
  have HT1 : Hid (Blk w1 w.heap.size #[.int .i64 0] 3) := hm1.blk (((Blk.new w _ _).alloc _).alloc _) (by omega)
  have HE1 : Hid (Blk w1 (w.heap.size + 1) #[.nilIface] 24) := hm1.blk ((Blk.new1 w _ _ _).alloc _) (by omega)
  have HB1 : Hid (Below w.heap.size w w1) := hm1.below ((((Below.refl _ _).alloc (Nat.le_refl _) _).alloc (by simp) _).alloc (by simp; omega) _) (by omega)
  have HR1 : Hid (Rd w1 (w.heap.size + 1 + 1) [] y m d h mi s wk 0) := hr1
  clear hm1 hr1
  go_wp2_with (go_at_call 61; refine (end_ok _ y m d h mi s wk 0 _ HR1.out).mono ?_; rintro e w' ⟨rfl, hw⟩; obtain rfl := hw.symm)
  refine (rmom_ok _ y m d h mi s wk _ HR1.out hr t0 t1).mono ?_
  generalize hTT : mom y m d h mi s = T at *
  have HTT : Hid (mom y m d h mi s = T) := hTT
  clear hTT
  rintro e w2 ⟨rfl, hb2⟩
  have HT2 : Hid (Blk w2 w.heap.size #[.int .i64 0] 3) := HT1.out.below hb2 HT1.out.lt
  have HE2 : Hid (Blk w2 (w.heap.size + 1) #[.nilIface] 24) := HE1.out.below hb2 HE1.out.lt
  have HB2 : Hid (Below w.heap.size w w2) := HB1.out.trans (hb2.mono HB1.out.size)
  have hcT := HT2.out.cell
  have hfT := HT2.out.frozen
  have hcE := HE2.out.cell
  have hfE := HE2.out.frozen
  clear hb2
  go_wp2
  refine leaves_cons (f := 60) (args := #[.pointer (some ⟨w.heap.size, 0, none⟩), .pointer (some ⟨w.heap.size + 1, 0, none⟩)]) (by simp) (by simp [go_sem]) ?_
  refine (catch_idle _ _ _).mono ?_
  rintro e u' w'' ⟨rfl, rfl, rfl⟩
  have hB : Below w.heap.size w ((w2.setCell ⟨w.heap.size, 0, none⟩ (.int .i64 T)).setCell ⟨w.heap.size + 1, 0, none⟩ .nilIface) := (HB2.out.setCell (by simp) _).setCell (by simp) _
  simp [Leaves, settle, results, Tryd.results22, go_sem, hcT, hcE]
  exact ⟨HTT.out.symm, hB⟩

set_option maxHeartbeats 1000000 in
theorem parse_internal (l : List UInt8) (y m d h mi s wk : Int) (w : World) (hr : rightB y m d h mi s = true) (t0 : 0 ≤ mom y m d h mi s) (t1 : mom y m d h mi s ≤ 4102444799)
    (HG : Hid (∀ (b : Nat) (w : World), Rd w b l 0 0 0 0 0 0 0 0 → Calls Tryd.prog 52 #[.pointer (some ⟨b, 0, none⟩)] w fun e w' => e = .returned (.tuple #[]) ∧ Mv b w w' ∧ Rd w' b [] y m d h mi s wk 0)) :
    Calls Tryd.prog 18 #[.string ⟨l.toArray⟩] w fun e w' => e = .returned (.tuple #[.int .i64 (mom y m d h mi s), .nilIface]) ∧ Below w.heap.size w w' := by
  have HP : Hid (∀ w, Calls Tryd.prog 22 #[.string ⟨l.toArray⟩, .func (.func 52) #[] #[]] w fun e w' => e = .returned (.tuple #[.int .i64 (mom y m d h mi s), .nilIface]) ∧ Below w.heap.size w w') := fun w => parsed_internal l y m d h mi s wk w hr t0 t1 HG
  clear HG hr t0 t1
  go_enter Tryd.func18, Tryd.ntmps18
  go_wp2_with (go_at_call 22; refine (HP.out _).mono ?_; rintro e w1 ⟨rfl, hb1⟩)
  go_ret2
  exact ⟨rfl, hb1⟩

set_option maxHeartbeats 2000000 in
theorem parsed_mail (l : List UInt8) (y m d h mi s wk : Int) (w : World) (hr : rightB y m d h mi s = true) (t0 : 0 ≤ mom y m d h mi s) (t1 : mom y m d h mi s ≤ 4102444799)
    (HG : Hid (∀ (b : Nat) (w : World), Rd w b l 0 0 0 0 0 0 0 0 → Calls Tryd.prog 23 #[.pointer (some ⟨b, 0, none⟩)] w fun e w' => e = .returned (.tuple #[]) ∧ Mv b w w' ∧ Rd w' b [] y m d h mi s wk 0)) :
    Calls Tryd.prog 22 #[.string ⟨l.toArray⟩, .func (.func 23) #[] #[]] w fun e w' => e = .returned (.tuple #[.int .i64 (mom y m d h mi s), .nilIface]) ∧ Below w.heap.size w w' := by
  have hmf : ∀ (fn : Fn) (first cap : Array Value) (w : World), (Instr.makeFunc fn first cap).run Tryd.prog w = .ok (.func fn first cap) w := fun _ _ _ _ => rfl
  go_enter_defers Tryd.func22, Tryd.ntmps22
  go_wp2_with fail
  refine (HG.out _ _ (Blk.new2 w _ _ _ _)).mono ?_
  rintro e w1 ⟨rfl, hm1, hr1⟩
  have HT1 : Hid (Blk w1 w.heap.size #[.int .i64 0] 3) := hm1.blk (((Blk.new w _ _).alloc _).alloc _) (by omega)
  have HE1 : Hid (Blk w1 (w.heap.size + 1) #[.nilIface] 24) := hm1.blk ((Blk.new1 w _ _ _).alloc _) (by omega)
  have HB1 : Hid (Below w.heap.size w w1) := hm1.below ((((Below.refl _ _).alloc (Nat.le_refl _) _).alloc (by simp) _).alloc (by simp; omega) _) (by omega)
  have HR1 : Hid (Rd w1 (w.heap.size + 1 + 1) [] y m d h mi s wk 0) := hr1
  clear hm1 hr1
  go_wp2_with (go_at_call 61; refine (end_ok _ y m d h mi s wk 0 _ HR1.out).mono ?_; rintro e w' ⟨rfl, hw⟩; obtain rfl := hw.symm)
  refine (rmom_ok _ y m d h mi s wk _ HR1.out hr t0 t1).mono ?_
  generalize hTT : mom y m d h mi s = T at *
  have HTT : Hid (mom y m d h mi s = T) := hTT
  clear hTT
  rintro e w2 ⟨rfl, hb2⟩
  have HT2 : Hid (Blk w2 w.heap.size #[.int .i64 0] 3) := HT1.out.below hb2 HT1.out.lt
  have HE2 : Hid (Blk w2 (w.heap.size + 1) #[.nilIface] 24) := HE1.out.below hb2 HE1.out.lt
  have HB2 : Hid (Below w.heap.size w w2) := HB1.out.trans (hb2.mono HB1.out.size)
  have hcT := HT2.out.cell
  have hfT := HT2.out.frozen
  have hcE := HE2.out.cell
  have hfE := HE2.out.frozen
  clear hb2
  go_wp2
  refine leaves_cons (f := 60) (args := #[.pointer (some ⟨w.heap.size, 0, none⟩), .pointer (some ⟨w.heap.size + 1, 0, none⟩)]) (by simp) (by simp [go_sem]) ?_
  refine (catch_idle _ _ _).mono ?_
  rintro e u' w'' ⟨rfl, rfl, rfl⟩
  have hB : Below w.heap.size w ((w2.setCell ⟨w.heap.size, 0, none⟩ (.int .i64 T)).setCell ⟨w.heap.size + 1, 0, none⟩ .nilIface) := (HB2.out.setCell (by simp) _).setCell (by simp) _
  simp [Leaves, settle, results, Tryd.results22, go_sem, hcT, hcE]
  exact ⟨HTT.out.symm, hB⟩

set_option maxHeartbeats 1000000 in
theorem parse_mail (l : List UInt8) (y m d h mi s wk : Int) (w : World) (hr : rightB y m d h mi s = true) (t0 : 0 ≤ mom y m d h mi s) (t1 : mom y m d h mi s ≤ 4102444799)
    (HG : Hid (∀ (b : Nat) (w : World), Rd w b l 0 0 0 0 0 0 0 0 → Calls Tryd.prog 23 #[.pointer (some ⟨b, 0, none⟩)] w fun e w' => e = .returned (.tuple #[]) ∧ Mv b w w' ∧ Rd w' b [] y m d h mi s wk 0)) :
    Calls Tryd.prog 8 #[.string ⟨l.toArray⟩] w fun e w' => e = .returned (.tuple #[.int .i64 (mom y m d h mi s), .nilIface]) ∧ Below w.heap.size w w' := by
  have HP : Hid (∀ w, Calls Tryd.prog 22 #[.string ⟨l.toArray⟩, .func (.func 23) #[] #[]] w fun e w' => e = .returned (.tuple #[.int .i64 (mom y m d h mi s), .nilIface]) ∧ Below w.heap.size w w') := fun w => parsed_mail l y m d h mi s wk w hr t0 t1 HG
  clear HG hr t0 t1
  go_enter Tryd.func8, Tryd.ntmps8
  go_wp2_with (go_at_call 22; refine (HP.out _).mono ?_; rintro e w1 ⟨rfl, hb1⟩)
  go_ret2
  exact ⟨rfl, hb1⟩

end Go.Proofs.YtjddeaeanomdhabDoor
