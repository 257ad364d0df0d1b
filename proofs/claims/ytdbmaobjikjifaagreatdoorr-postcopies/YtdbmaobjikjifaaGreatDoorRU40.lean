/- Package post: a message is added. -/
/- Package post: an actor's questions, on. -/
/- Package post: Step, where a message is added. -/
import Derived.Test.YtdbmaobjikjifaaGreatDoorRU39
import Derived.Test.YtdbmaobjikjifaaGreatDoorRU32
import Derived.Test.YtdbmaobjikjifaaGreatDoorRU38
section
set_option linter.unusedVariables false
set_option linter.unusedSimpArgs false
namespace Go.Proofs.YtdbmaobjikjifaaGreatDoorR
open Go.RowKit Go.Shelf
/-- A block that holds one message. -/
def OneM (w : World) (g : Nat) (fl dt : Int) (b : List UInt8) : Prop := Blk w g #[.int .i64 0, .int .i64 fl, .int .i64 dt, .string ⟨b.toArray⟩] 47
theorem one_msg (w : World) (fl dt : Int) (b : List UInt8) : OneM (w.alloc (.cells #[.int .i64 0, .int .i64 fl, .int .i64 dt, .string ⟨b.toArray⟩] 47)) w.heap.size fl dt b := Blk.new ..
theorem OneM.below {w w' : World} {g : Nat} {fl dt : Int} {b : List UInt8} (h : OneM w g fl dt b) (hb : Below w.heap.size w w') : OneM w' g fl dt b := Blk.below h hb h.lt
theorem one_keep {w w' : World} {S : Nat → Prop} {g : Nat} {fl dt : Int} {b : List UInt8} (h : OneM w g fl dt b) (hm : Mvs S w w') (hg : ¬ S g) : RdE 4 MsgAt w' (.slice (some ⟨g, 0, none⟩) 1 1) [⟨0, fl, dt, b⟩] := by
  have h' : Blk w' g _ _ := hm.blk h hg
  refine ⟨_, 1, rfl, fun i hi => ?_⟩
  have hi0 : i = 0 := by simp at hi; exact hi
  subst hi0
  exact ⟨g, 0, rfl, h'.lt, h'.cell 0, h'.cell 1, h'.cell 2, h'.cell 3⟩
/-- What add puts. -/
def addM (a : Ac) : Msg := ⟨0, a.flags, a.date, a.body⟩
set_option maxRecDepth 20000 in
set_option maxHeartbeats 16000000 in
theorem padd_any {w0 w : World} {X : Nat} {p : PA} {ea : Nat → Addr} (h : AS w0 w X p) (hE : Errs w0 ea) (hl : p.lb.length ≤ 1000) {k : Nat} (hk : k < p.lb.length) (hfi : fiP (poFind p.st.boxes p.a.user p.a.name) = (k : Int))
    (hfl : poIn p.a.flags 0 31 = true) (hdt : poMom p.a.date = true) (hby : p.a.body.length ≤ 100000)
    (hml : p.lb[k].b.msgs.length + 1 ≤ 1000000) (hnx : 0 ≤ p.lb[k].b.next ∧ p.lb[k].b.next ≤ 4000000000) (hus : p.us.length + 1 ≤ 1000000) (hbd : ∀ m ∈ p.lb[k].b.msgs, m.body.length ≤ 1000000) (Q : Value → World → Prop)
    (hQ : ∀ w' v G vu gu, AS w0 w' X (p.putP k ⟨(poPut p.lb[k].b [addM p.a]).1, v, G⟩ (p.us ++ (poPut p.lb[k].b [addM p.a]).2) vu gu) → (poRoom (poPut p.lb[k].b [addM p.a]).1 = true → Q .nilIface w') ∧ (poRoom (poPut p.lb[k].b [addM p.a]).1 = false → Q (erV ea 11) w')) :
    Calls Tryz.prog 55 #[.pointer (some ⟨X, 0, none⟩)] w fun e w' => ∃ v, e = .returned v ∧ Q v w' := by
  have HP : Hid (∀ W, Below w.heap.size w W → Calls Tryz.prog 80 #[.pointer (some ⟨X, 0, none⟩), .string ⟨p.a.name.toArray⟩] W fun e w' => e = .returned (.int .i64 (k : Int)) ∧ Below W.heap.size W w') := fun W hW => by
    have := pplace_any (h.below hW) p.a.name (by omega)
    rwa [hfi] at this
  have HPut : Hid (∀ W, Below w.heap.size w W → ∀ mv, (∀ w2, Mvs (fun j => some j ∈ p.blocks ∨ j = X) W w2 → RdE 4 MsgAt w2 mv [addM p.a]) → Calls Tryz.prog 92 #[.pointer (some ⟨X, 0, none⟩), .int .i64 (k : Int), mv] W fun e w' => ∃ v, e = .returned v ∧ Q v w') := fun W hW mv HMs =>
    pput_loop (h.below hW) hE hl hk HMs hml hnx hus ⟨hbd, fun m hm => by rw [List.mem_singleton.1 hm]; show p.a.body.length ≤ _; omega⟩ Q (fun w' v G vu gu h1 _ => hQ w' v G vu gu h1)
  have HT : Hid (∀ W, Below w.heap.size w W → Below w.heap.size w W ∧ W.cell? ⟨X, 11, none⟩ = some (.string ⟨p.a.name.toArray⟩) ∧ W.cell? ⟨X, 9, none⟩ = some (.int .i64 p.a.flags) ∧ W.cell? ⟨X, 10, none⟩ = some (.int .i64 p.a.date) ∧ W.cell? ⟨X, 14, none⟩ = some (.string ⟨p.a.body.toArray⟩)) := fun W hW => by
    have hb := h.blk.below hW h.blk.lt
    exact ⟨hW, hb.cell 11, hb.cell 9, hb.cell 10, hb.cell 14⟩
  have hown : Hid (∀ g, some g ∈ p.blocks → g < w.heap.size) := fun g hg => h.block_lt g hg
  have hXl : X < w.heap.size := h.blk.lt
  have H1 : Hid (∀ W, Calls Tryz.prog 91 #[.int .i64 p.a.flags] W fun e w' => e = .returned (.bool true) ∧ w' = W) := fun W => by
    have := pflg_any p.a.flags W
    rwa [hfl] at this
  have H2 : Hid (∀ W, Calls Tryz.prog 77 #[.int .i64 p.a.date] W fun e w' => e = .returned (.bool true) ∧ w' = W) := fun W => by
    have := pmom_any p.a.date W
    rwa [hdt] at this
  have H3 : Hid (∀ W, Calls Tryz.prog 78 #[.string ⟨p.a.body.toArray⟩] W fun e w' => e = .returned (.bool true) ∧ w' = W) := fun W => by
    have := pbody_any p.a.body W
    rwa [decide_eq_true hby] at this
  unfold addM at HPut
  clear hQ hml hnx hus hbd hfi hfl hdt hby hl hk h hE
  generalize p.a.flags = fl at *
  generalize p.a.date = dt at *
  generalize p.a.body = by0 at *
  generalize p.a.name = nm at *
  have k9 := (HT.out _ (Below.refl _ _)).2.2.1
  have k10 := (HT.out _ (Below.refl _ _)).2.2.2.1
  have k14 := (HT.out _ (Below.refl _ _)).2.2.2.2
  go_enter Tryz.func55, Tryz.ntmps55
  go_upto_region 5 with (first | (go_at_call 91; refine (H1.out _).mono ?_; rintro e w1 ⟨rfl, hw1⟩; obtain rfl := hw1.symm) | (go_at_call 77; refine (H2.out _).mono ?_; rintro e w1 ⟨rfl, hw1⟩; obtain rfl := hw1.symm) | (go_at_call 78; refine (H3.out _).mono ?_; rintro e w1 ⟨rfl, hw1⟩; obtain rfl := hw1.symm))
  clear k9 k10 k14 H1 H2 H3
  refine regionL 25 (fun W => Below w.heap.size w W ∧ W.cell? ⟨X, 11, none⟩ = some (.string ⟨nm.toArray⟩) ∧ W.cell? ⟨X, 9, none⟩ = some (.int .i64 fl) ∧ W.cell? ⟨X, 10, none⟩ = some (.int .i64 dt) ∧ W.cell? ⟨X, 14, none⟩ = some (.string ⟨by0.toArray⟩)) (by kernel_rfl) ?_
  have HT0 : Below w.heap.size w w.drew ∧ w.drew.cell? ⟨X, 11, none⟩ = some (.string ⟨nm.toArray⟩) ∧ w.drew.cell? ⟨X, 9, none⟩ = some (.int .i64 fl) ∧ w.drew.cell? ⟨X, 10, none⟩ = some (.int .i64 dt) ∧ w.drew.cell? ⟨X, 14, none⟩ = some (.string ⟨by0.toArray⟩) := HT.out _ (Below.refl _ _).drew
  refine takeW (i := 0) (v := .pointer (some ⟨X, 0, none⟩)) rfl (by kernel_rfl) (by kernel_rfl) (by kernel_rfl) rfl (fun _ _ _ h => h) (fun _ => HT0) (Or.inl ⟨by rfl, fun W _ => by go_simp⟩) ?_
  try simp only [Act.put, List.getElem_toArray, List.getElem_cons_succ, List.getElem_cons_zero, List.setIfInBounds_toArray, List.set_cons_zero, List.set_cons_succ]
  refine takeW (i := 1) (v := .pointer (some ⟨X, 0, none⟩)) rfl (by kernel_rfl) (by kernel_rfl) (by kernel_rfl) rfl (fun _ _ _ h => h) (fun _ => HT0) (Or.inl ⟨by rfl, fun W _ => by go_simp⟩) ?_
  try simp only [Act.put, List.getElem_toArray, List.getElem_cons_succ, List.getElem_cons_zero, List.setIfInBounds_toArray, List.set_cons_zero, List.set_cons_succ]
  refine takeW (i := 2) (v := .pointer (some ⟨X, 0, none⟩)) rfl (by kernel_rfl) (by kernel_rfl) (by kernel_rfl) rfl (fun _ _ _ h => h) (fun _ => HT0) (Or.inl ⟨by rfl, fun W _ => by go_simp⟩) ?_
  try simp only [Act.put, List.getElem_toArray, List.getElem_cons_succ, List.getElem_cons_zero, List.setIfInBounds_toArray, List.set_cons_zero, List.set_cons_succ]
  refine takeW (i := 3) (v := .pointer (some ⟨X, 0, none⟩)) rfl (by kernel_rfl) (by kernel_rfl) (by kernel_rfl) rfl (fun _ _ _ h => h) (fun _ => HT0) (Or.inl ⟨by rfl, fun W _ => by go_simp⟩) ?_
  try simp only [Act.put, List.getElem_toArray, List.getElem_cons_succ, List.getElem_cons_zero, List.setIfInBounds_toArray, List.set_cons_zero, List.set_cons_succ]
  refine takeW (i := 4) (v := .pointer (some ⟨X, 5, none⟩)) rfl (by kernel_rfl) (by kernel_rfl) (by kernel_rfl) rfl (fun _ _ _ h => h) (fun _ => HT0) (Or.inl ⟨by rfl, fun W _ => by go_simp⟩) ?_
  try simp only [Act.put, List.getElem_toArray, List.getElem_cons_succ, List.getElem_cons_zero, List.setIfInBounds_toArray, List.set_cons_zero, List.set_cons_succ]
  refine takeW (i := 5) (v := .pointer (some ⟨X, 11, none⟩)) rfl (by kernel_rfl) (by kernel_rfl) (by kernel_rfl) rfl (fun _ _ _ h => h) (fun _ => HT0) (Or.inl ⟨by rfl, fun W _ => by go_simp⟩) ?_
  try simp only [Act.put, List.getElem_toArray, List.getElem_cons_succ, List.getElem_cons_zero, List.setIfInBounds_toArray, List.set_cons_zero, List.set_cons_succ]
  refine takeM [7, 25] (i := 6) (v := .string ⟨nm.toArray⟩) rfl (by kernel_rfl) (by kernel_rfl) (by kernel_rfl) (by kernel_rfl) (by kernel_rfl) (by kernel_rfl) (fun _ _ _ h => h) HT0 (Or.inl ⟨by rfl, fun W hW => by obtain ⟨t0, t1, t2, t3, t4⟩ := hW; go_simp⟩) ?_
  try simp only [Act.put, List.getElem_toArray, List.getElem_cons_succ, List.getElem_cons_zero, List.setIfInBounds_toArray, List.set_cons_zero, List.set_cons_succ]
  refine takeW (i := 8) (v := .pointer (some ⟨X, 0, none⟩)) rfl (by kernel_rfl) (by kernel_rfl) (by kernel_rfl) rfl (fun _ _ _ h => h) (fun _ => HT0) (Or.inl ⟨by rfl, fun W _ => by go_simp⟩) ?_
  try simp only [Act.put, List.getElem_toArray, List.getElem_cons_succ, List.getElem_cons_zero, List.setIfInBounds_toArray, List.set_cons_zero, List.set_cons_succ]
  refine takeW (i := 9) (v := .pointer (some ⟨X, 0, none⟩)) rfl (by kernel_rfl) (by kernel_rfl) (by kernel_rfl) rfl (fun _ _ _ h => h) (fun _ => HT0) (Or.inl ⟨by rfl, fun W _ => by go_simp⟩) ?_
  try simp only [Act.put, List.getElem_toArray, List.getElem_cons_succ, List.getElem_cons_zero, List.setIfInBounds_toArray, List.set_cons_zero, List.set_cons_succ]
  refine takeW (i := 10) (v := .pointer (some ⟨X, 5, none⟩)) rfl (by kernel_rfl) (by kernel_rfl) (by kernel_rfl) rfl (fun _ _ _ h => h) (fun _ => HT0) (Or.inl ⟨by rfl, fun W _ => by go_simp⟩) ?_
  try simp only [Act.put, List.getElem_toArray, List.getElem_cons_succ, List.getElem_cons_zero, List.setIfInBounds_toArray, List.set_cons_zero, List.set_cons_succ]
  refine takeW (i := 11) (v := .pointer (some ⟨X, 9, none⟩)) rfl (by kernel_rfl) (by kernel_rfl) (by kernel_rfl) rfl (fun _ _ _ h => h) (fun _ => HT0) (Or.inl ⟨by rfl, fun W _ => by go_simp⟩) ?_
  try simp only [Act.put, List.getElem_toArray, List.getElem_cons_succ, List.getElem_cons_zero, List.setIfInBounds_toArray, List.set_cons_zero, List.set_cons_succ]
  refine takeM [23, 24, 25] (i := 12) (v := .int .i64 fl) rfl (by kernel_rfl) (by kernel_rfl) (by kernel_rfl) (by kernel_rfl) (by kernel_rfl) (by kernel_rfl) (fun _ _ _ h => h) HT0 (Or.inl ⟨by rfl, fun W hW => by obtain ⟨t0, t1, t2, t3, t4⟩ := hW; go_simp⟩) ?_
  try simp only [Act.put, List.getElem_toArray, List.getElem_cons_succ, List.getElem_cons_zero, List.setIfInBounds_toArray, List.set_cons_zero, List.set_cons_succ]
  refine takeW (i := 13) (v := .pointer (some ⟨X, 0, none⟩)) rfl (by kernel_rfl) (by kernel_rfl) (by kernel_rfl) rfl (fun _ _ _ h => h) (fun _ => HT0) (Or.inl ⟨by rfl, fun W _ => by go_simp⟩) ?_
  try simp only [Act.put, List.getElem_toArray, List.getElem_cons_succ, List.getElem_cons_zero, List.setIfInBounds_toArray, List.set_cons_zero, List.set_cons_succ]
  refine takeW (i := 14) (v := .pointer (some ⟨X, 0, none⟩)) rfl (by kernel_rfl) (by kernel_rfl) (by kernel_rfl) rfl (fun _ _ _ h => h) (fun _ => HT0) (Or.inl ⟨by rfl, fun W _ => by go_simp⟩) ?_
  try simp only [Act.put, List.getElem_toArray, List.getElem_cons_succ, List.getElem_cons_zero, List.setIfInBounds_toArray, List.set_cons_zero, List.set_cons_succ]
  refine takeW (i := 15) (v := .pointer (some ⟨X, 5, none⟩)) rfl (by kernel_rfl) (by kernel_rfl) (by kernel_rfl) rfl (fun _ _ _ h => h) (fun _ => HT0) (Or.inl ⟨by rfl, fun W _ => by go_simp⟩) ?_
  try simp only [Act.put, List.getElem_toArray, List.getElem_cons_succ, List.getElem_cons_zero, List.setIfInBounds_toArray, List.set_cons_zero, List.set_cons_succ]
  refine takeW (i := 16) (v := .pointer (some ⟨X, 10, none⟩)) rfl (by kernel_rfl) (by kernel_rfl) (by kernel_rfl) rfl (fun _ _ _ h => h) (fun _ => HT0) (Or.inl ⟨by rfl, fun W _ => by go_simp⟩) ?_
  try simp only [Act.put, List.getElem_toArray, List.getElem_cons_succ, List.getElem_cons_zero, List.setIfInBounds_toArray, List.set_cons_zero, List.set_cons_succ]
  refine takeM [23, 24, 25] (i := 17) (v := .int .i64 dt) rfl (by kernel_rfl) (by kernel_rfl) (by kernel_rfl) (by kernel_rfl) (by kernel_rfl) (by kernel_rfl) (fun _ _ _ h => h) HT0 (Or.inl ⟨by rfl, fun W hW => by obtain ⟨t0, t1, t2, t3, t4⟩ := hW; go_simp⟩) ?_
  try simp only [Act.put, List.getElem_toArray, List.getElem_cons_succ, List.getElem_cons_zero, List.setIfInBounds_toArray, List.set_cons_zero, List.set_cons_succ]
  refine takeW (i := 18) (v := .pointer (some ⟨X, 0, none⟩)) rfl (by kernel_rfl) (by kernel_rfl) (by kernel_rfl) rfl (fun _ _ _ h => h) (fun _ => HT0) (Or.inl ⟨by rfl, fun W _ => by go_simp⟩) ?_
  try simp only [Act.put, List.getElem_toArray, List.getElem_cons_succ, List.getElem_cons_zero, List.setIfInBounds_toArray, List.set_cons_zero, List.set_cons_succ]
  refine takeW (i := 19) (v := .pointer (some ⟨X, 0, none⟩)) rfl (by kernel_rfl) (by kernel_rfl) (by kernel_rfl) rfl (fun _ _ _ h => h) (fun _ => HT0) (Or.inl ⟨by rfl, fun W _ => by go_simp⟩) ?_
  try simp only [Act.put, List.getElem_toArray, List.getElem_cons_succ, List.getElem_cons_zero, List.setIfInBounds_toArray, List.set_cons_zero, List.set_cons_succ]
  refine takeW (i := 20) (v := .pointer (some ⟨X, 5, none⟩)) rfl (by kernel_rfl) (by kernel_rfl) (by kernel_rfl) rfl (fun _ _ _ h => h) (fun _ => HT0) (Or.inl ⟨by rfl, fun W _ => by go_simp⟩) ?_
  try simp only [Act.put, List.getElem_toArray, List.getElem_cons_succ, List.getElem_cons_zero, List.setIfInBounds_toArray, List.set_cons_zero, List.set_cons_succ]
  refine takeW (i := 21) (v := .pointer (some ⟨X, 14, none⟩)) rfl (by kernel_rfl) (by kernel_rfl) (by kernel_rfl) rfl (fun _ _ _ h => h) (fun _ => HT0) (Or.inl ⟨by rfl, fun W _ => by go_simp⟩) ?_
  try simp only [Act.put, List.getElem_toArray, List.getElem_cons_succ, List.getElem_cons_zero, List.setIfInBounds_toArray, List.set_cons_zero, List.set_cons_succ]
  refine takeM [23, 24, 25] (i := 22) (v := .string ⟨by0.toArray⟩) rfl (by kernel_rfl) (by kernel_rfl) (by kernel_rfl) (by kernel_rfl) (by kernel_rfl) (by kernel_rfl) (fun _ _ _ h => h) HT0 (Or.inl ⟨by rfl, fun W hW => by obtain ⟨t0, t1, t2, t3, t4⟩ := hW; go_simp⟩) ?_
  try simp only [Act.put, List.getElem_toArray, List.getElem_cons_succ, List.getElem_cons_zero, List.setIfInBounds_toArray, List.set_cons_zero, List.set_cons_succ]
  refine takeW (i := 23) (v := .agg #[.int .i64 0, .int .i64 fl, .int .i64 dt, .string ⟨by0.toArray⟩]) rfl (by kernel_rfl) (by kernel_rfl) (by kernel_rfl) rfl (fun _ _ _ h => h) (fun _ => HT0) (Or.inl ⟨by rfl, fun W _ => by go_simp⟩) ?_
  try simp only [Act.put, List.getElem_toArray, List.getElem_cons_succ, List.getElem_cons_zero, List.setIfInBounds_toArray, List.set_cons_zero, List.set_cons_succ]
  refine readyL (rs := [7, 24]) (by kernel_rfl) (by simp) ?_
  refine AllL.cons rfl (fun K hK => ?_) (AllL.cons rfl (fun K hK => ?_) AllL.nil)
  · try simp only [List.getElem_toArray, List.getElem_cons_succ, List.getElem_cons_zero]
    go_simp
    refine (HP.out _ HT0.1).mono ?_
    rintro e u1 ⟨rfl, hb1⟩
    have HT1 : Below w.heap.size w u1 ∧ u1.cell? ⟨X, 11, none⟩ = some (.string ⟨nm.toArray⟩) ∧ u1.cell? ⟨X, 9, none⟩ = some (.int .i64 fl) ∧ u1.cell? ⟨X, 10, none⟩ = some (.int .i64 dt) ∧ u1.cell? ⟨X, 14, none⟩ = some (.string ⟨by0.toArray⟩) := HT.out _ (HT0.1.trans (hb1.mono HT0.1.size))
    refine hK.out _ _ (fun _ => HT1) (fun _ => ?_)
    clear hK K
    try simp only [Act.put, List.getElem_toArray, List.getElem_cons_succ, List.getElem_cons_zero, List.setIfInBounds_toArray, List.set_cons_zero, List.set_cons_succ]
    clear HT0
    have HT0 := HT1
    clear HT1
    refine readyL (rs := [24]) (by kernel_rfl) (by simp) ?_
    refine AllL.cons rfl (fun K hK => ?_) AllL.nil
    try simp only [List.getElem_toArray, List.getElem_cons_succ, List.getElem_cons_zero]
    go_simp
    have hal : Below w.heap.size w (u1.alloc (.cells #[.int .i64 0, .int .i64 fl, .int .i64 dt, .string ⟨by0.toArray⟩] 47)) := HT0.1.alloc HT0.1.size _
    have HT1 : Below w.heap.size w (u1.alloc (.cells #[.int .i64 0, .int .i64 fl, .int .i64 dt, .string ⟨by0.toArray⟩] 47)) ∧ (u1.alloc (.cells #[.int .i64 0, .int .i64 fl, .int .i64 dt, .string ⟨by0.toArray⟩] 47)).cell? ⟨X, 11, none⟩ = some (.string ⟨nm.toArray⟩) ∧ (u1.alloc (.cells #[.int .i64 0, .int .i64 fl, .int .i64 dt, .string ⟨by0.toArray⟩] 47)).cell? ⟨X, 9, none⟩ = some (.int .i64 fl) ∧ (u1.alloc (.cells #[.int .i64 0, .int .i64 fl, .int .i64 dt, .string ⟨by0.toArray⟩] 47)).cell? ⟨X, 10, none⟩ = some (.int .i64 dt) ∧ (u1.alloc (.cells #[.int .i64 0, .int .i64 fl, .int .i64 dt, .string ⟨by0.toArray⟩] 47)).cell? ⟨X, 14, none⟩ = some (.string ⟨by0.toArray⟩) := HT.out _ hal
    have hrd := one_msg u1 fl dt by0
    refine hK.out _ _ (fun _ => HT1) (fun _ => ?_)
    clear hK K
    try simp only [Act.put, List.getElem_toArray, List.getElem_cons_succ, List.getElem_cons_zero, List.setIfInBounds_toArray, List.set_cons_zero, List.set_cons_succ]
    refine readyL (rs := [25]) (by kernel_rfl) (by simp) ?_
    refine AllL.cons rfl (fun K hK => ?_) AllL.nil
    try simp only [List.getElem_toArray, List.getElem_cons_succ, List.getElem_cons_zero]
    go_simp
    refine (HPut.out _ HT1.1 _ (fun w2 h2 => one_keep hrd h2 (fun hc => hc.elim (fun h1 => absurd (hown.out _ h1) (by have := HT0.1.size; omega)) (fun h1 => by have := HT0.1.size; omega)))).mono ?_
    rintro e w9 ⟨v9, rfl, hq9⟩
    replace hq9 := hide hq9
    refine hK.out _ _ (vac (by kernel_rfl)) (fun _ => ?_)
    clear hK K
    try simp only [Act.put, List.getElem_toArray, List.getElem_cons_succ, List.getElem_cons_zero, List.setIfInBounds_toArray, List.set_cons_zero, List.set_cons_succ]
    refine readyL (rs := [26]) (by kernel_rfl) (by simp) ?_
    refine AllL.cons rfl (fun K hK => ?_) AllL.nil
    try simp only [List.getElem_toArray, List.getElem_cons_succ, List.getElem_cons_zero]
    go_simp
    refine hK.out _ _ (vac (by kernel_rfl)) (fun _ => ?_)
    clear hK K
    try simp only [Act.put, List.getElem_toArray, List.getElem_cons_succ, List.getElem_cons_zero, List.setIfInBounds_toArray, List.set_cons_zero, List.set_cons_succ]
    refine doneL (by kernel_rfl) ?_ _
    go_wp2
    go_ret
    exact ⟨_, rfl, hq9.out⟩
  · try simp only [List.getElem_toArray, List.getElem_cons_succ, List.getElem_cons_zero]
    go_simp
    have hal : Below w.heap.size w (w.drew.alloc (.cells #[.int .i64 0, .int .i64 fl, .int .i64 dt, .string ⟨by0.toArray⟩] 47)) := HT0.1.alloc HT0.1.size _
    have HT1 : Below w.heap.size w (w.drew.alloc (.cells #[.int .i64 0, .int .i64 fl, .int .i64 dt, .string ⟨by0.toArray⟩] 47)) ∧ (w.drew.alloc (.cells #[.int .i64 0, .int .i64 fl, .int .i64 dt, .string ⟨by0.toArray⟩] 47)).cell? ⟨X, 11, none⟩ = some (.string ⟨nm.toArray⟩) ∧ (w.drew.alloc (.cells #[.int .i64 0, .int .i64 fl, .int .i64 dt, .string ⟨by0.toArray⟩] 47)).cell? ⟨X, 9, none⟩ = some (.int .i64 fl) ∧ (w.drew.alloc (.cells #[.int .i64 0, .int .i64 fl, .int .i64 dt, .string ⟨by0.toArray⟩] 47)).cell? ⟨X, 10, none⟩ = some (.int .i64 dt) ∧ (w.drew.alloc (.cells #[.int .i64 0, .int .i64 fl, .int .i64 dt, .string ⟨by0.toArray⟩] 47)).cell? ⟨X, 14, none⟩ = some (.string ⟨by0.toArray⟩) := HT.out _ hal
    have hrd := one_msg w.drew fl dt by0
    have hsz : w.drew.heap.size = w.heap.size := rfl
    refine hK.out _ _ (fun _ => HT1) (fun _ => ?_)
    clear hK K HT0
    have HT0 := HT1
    clear HT1
    try simp only [Act.put, List.getElem_toArray, List.getElem_cons_succ, List.getElem_cons_zero, List.setIfInBounds_toArray, List.set_cons_zero, List.set_cons_succ]
    refine readyL (rs := [7]) (by kernel_rfl) (by simp) ?_
    refine AllL.cons rfl (fun K hK => ?_) AllL.nil
    try simp only [List.getElem_toArray, List.getElem_cons_succ, List.getElem_cons_zero]
    go_simp
    refine (HP.out _ HT0.1).mono ?_
    rintro e u1 ⟨rfl, hb1⟩
    have HT1 : Below w.heap.size w u1 ∧ u1.cell? ⟨X, 11, none⟩ = some (.string ⟨nm.toArray⟩) ∧ u1.cell? ⟨X, 9, none⟩ = some (.int .i64 fl) ∧ u1.cell? ⟨X, 10, none⟩ = some (.int .i64 dt) ∧ u1.cell? ⟨X, 14, none⟩ = some (.string ⟨by0.toArray⟩) := HT.out _ (HT0.1.trans (hb1.mono HT0.1.size))
    have hrd2 := hrd.below hb1
    refine hK.out _ _ (fun _ => HT1) (fun _ => ?_)
    clear hK K
    try simp only [Act.put, List.getElem_toArray, List.getElem_cons_succ, List.getElem_cons_zero, List.setIfInBounds_toArray, List.set_cons_zero, List.set_cons_succ]
    refine readyL (rs := [25]) (by kernel_rfl) (by simp) ?_
    refine AllL.cons rfl (fun K hK => ?_) AllL.nil
    try simp only [List.getElem_toArray, List.getElem_cons_succ, List.getElem_cons_zero]
    go_simp
    refine (HPut.out _ HT1.1 _ (fun w2 h2 => one_keep hrd2 h2 (fun hc => hc.elim (fun h1 => absurd (hown.out _ h1) (by rw [hsz]; omega)) (fun h1 => by rw [hsz] at h1; omega)))).mono ?_
    rintro e w9 ⟨v9, rfl, hq9⟩
    replace hq9 := hide hq9
    refine hK.out _ _ (vac (by kernel_rfl)) (fun _ => ?_)
    clear hK K
    try simp only [Act.put, List.getElem_toArray, List.getElem_cons_succ, List.getElem_cons_zero, List.setIfInBounds_toArray, List.set_cons_zero, List.set_cons_succ]
    refine readyL (rs := [26]) (by kernel_rfl) (by simp) ?_
    refine AllL.cons rfl (fun K hK => ?_) AllL.nil
    try simp only [List.getElem_toArray, List.getElem_cons_succ, List.getElem_cons_zero]
    go_simp
    refine hK.out _ _ (vac (by kernel_rfl)) (fun _ => ?_)
    clear hK K
    try simp only [Act.put, List.getElem_toArray, List.getElem_cons_succ, List.getElem_cons_zero, List.setIfInBounds_toArray, List.set_cons_zero, List.set_cons_succ]
    refine doneL (by kernel_rfl) ?_ _
    go_wp2
    go_ret
    exact ⟨_, rfl, hq9.out⟩
end Go.Proofs.YtdbmaobjikjifaaGreatDoorR

end
section
set_option linter.unusedVariables false
set_option linter.unusedSimpArgs false
namespace Go.Proofs.YtdbmaobjikjifaaGreatDoorR
open Go.RowKit Go.Shelf
/-- What askDate answers, as a number. -/
def qDate (p : PA) : Nat := if poMom p.a.date = true then 0 else 1
set_option maxRecDepth 20000 in
set_option maxHeartbeats 2000000 in
theorem paskDate_any {w0 w : World} {X : Nat} {p : PA} {ea : Nat → Addr} (h : AS w0 w X p) (hE : Errs w0 ea) :
    Calls Tryz.prog 59 #[.pointer (some ⟨X, 0, none⟩)] w fun e w' => e = .returned (erN ea (qDate p)) ∧ Below w.heap.size w w' := by
  have k : w.cell? ⟨X, 10, none⟩ = some (.int .i64 p.a.date) := h.blk.cell 10
  have H1 : Hid (∀ W, Calls Tryz.prog 77 #[.int .i64 p.a.date] W fun e w' => e = .returned (.bool (poMom p.a.date)) ∧ w' = W) := fun W => pmom_any _ W
  have c1 : w.cell? ⟨0, 0, none⟩ = some (.iface 216 (.pointer (some (ea 0)))) := (hE.below h.bel).cell 0 (by omega)
  obtain ⟨V, HV⟩ : ∃ V, Hid (V = erN ea (qDate p)) := ⟨_, hide rfl⟩
  rw [← HV.out]
  unfold qDate at HV
  clear h
  generalize p.a.date = d at *
  cases hm : poMom d
  · rw [hm] at H1
    have HF : Hid (V = .iface 216 (.pointer (some (ea 0)))) := by show _ = _; rw [HV.out, hm]; rfl
    go_enter Tryz.func59, Tryz.ntmps59
    go_wp2_with (go_at_call 77; refine (H1.out _).mono ?_; rintro e w1 ⟨rfl, rfl⟩)
    go_ret
    exact ⟨by rw [HF.out]; rfl, by first | exact Below.refl _ _ | exact (Below.refl _ _).drew⟩
  · rw [hm] at H1
    have HF : Hid (V = .nilIface) := by show _ = _; rw [HV.out, hm]; rfl
    go_enter Tryz.func59, Tryz.ntmps59
    go_wp2_with (go_at_call 77; refine (H1.out _).mono ?_; rintro e w1 ⟨rfl, rfl⟩)
    go_ret
    exact ⟨by rw [HF.out]; rfl, by first | exact Below.refl _ _ | exact (Below.refl _ _).drew⟩
/-- What askBox answers, as a number. -/
def qBox (p : PA) : Nat := if qName p = 0 then (if fiP (poFind p.st.boxes p.a.user p.a.name) < 0 then 5 else 0) else qName p
set_option maxRecDepth 20000 in
set_option maxHeartbeats 2000000 in
theorem paskBox_any {w0 w : World} {X : Nat} {p : PA} {ea : Nat → Addr} (h : AS w0 w X p) (hE : Errs w0 ea) (hl : p.lb.length ≤ 1000000) :
    Calls Tryz.prog 54 #[.pointer (some ⟨X, 0, none⟩)] w fun e w' => e = .returned (erN ea (qBox p)) ∧ Below w.heap.size w w' := by
  have H1 := hide (paskName_any h hE hl)
  have HK : Hid (∀ W, Below w.heap.size w W → W.cell? ⟨X, 11, none⟩ = some (.string ⟨p.a.name.toArray⟩)) := fun W hW => (h.blk.below hW h.blk.lt).cell 11
  have HP : Hid (∀ W, Below w.heap.size w W → Calls Tryz.prog 80 #[.pointer (some ⟨X, 0, none⟩), .string ⟨p.a.name.toArray⟩] W fun e w' => e = .returned (.int .i64 (fiP (poFind p.st.boxes p.a.user p.a.name))) ∧ Below W.heap.size W w') := fun W hW => pplace_any (h.below hW) _ hl
  have HE5 : Hid (∀ W, Below w.heap.size w W → W.cell? ⟨6, 0, none⟩ = some (.iface 216 (.pointer (some (ea 4))))) := fun W hW => (hE.below (h.bel.trans (hW.mono h.bel.size))).cell 4 (by omega)
  obtain ⟨V, HV⟩ : ∃ V, Hid (V = erN ea (qBox p)) := ⟨_, hide rfl⟩
  rw [← HV.out]
  unfold qBox at HV
  clear h
  generalize qName p = Q at *
  generalize fiP (poFind p.st.boxes p.a.user p.a.name) = T at *
  generalize p.a.name = nm at *
  by_cases hq : Q = 0
  · subst hq
    change Hid (Calls _ _ _ _ fun e w' => e = .returned .nilIface ∧ _) at H1
    by_cases ht : T < 0
    · have HF : Hid (V = .iface 216 (.pointer (some (ea 4)))) := by show _ = _; rw [HV.out, if_pos rfl, if_pos ht]; rfl
      go_enter Tryz.func54, Tryz.ntmps54
      go_wp2_with (first | (go_at_call 47; refine H1.out.mono ?_; rintro e w1 ⟨rfl, hb1⟩; have c2 := HK.out _ hb1; replace hb1 := hide hb1) | (go_at_call 80; refine (HP.out _ (by first | exact hb1.out | exact hb1.out.drew)).mono ?_; rintro e w2 ⟨rfl, hb2⟩; replace hb2 := hide (hb1.out.trans (hb2.mono hb1.out.size)); have c1 := HE5.out _ hb2.out))
      go_ret
      exact ⟨by rw [HF.out]; rfl, hb2.out⟩
    · have HF : Hid (V = .nilIface) := by show _ = _; rw [HV.out, if_pos rfl, if_neg ht]; rfl
      go_enter Tryz.func54, Tryz.ntmps54
      go_wp2_with (first | (go_at_call 47; refine H1.out.mono ?_; rintro e w1 ⟨rfl, hb1⟩; have c2 := HK.out _ hb1; replace hb1 := hide hb1) | (go_at_call 80; refine (HP.out _ (by first | exact hb1.out | exact hb1.out.drew)).mono ?_; rintro e w2 ⟨rfl, hb2⟩; replace hb2 := hide (hb1.out.trans (hb2.mono hb1.out.size))))
      go_ret
      exact ⟨by rw [HF.out]; rfl, hb2.out⟩
  · have HF : Hid (V = .iface 216 (.pointer (some (ea (Q - 1))))) := by show _ = _; rw [HV.out, if_neg hq]; unfold erN erV; rw [if_neg hq]
    have e1 : erN ea Q = .iface 216 (.pointer (some (ea (Q - 1)))) := by unfold erN erV; rw [if_neg hq]
    rw [e1] at H1
    clear e1
    go_enter Tryz.func54, Tryz.ntmps54
    go_wp2_with (go_at_call 47; refine H1.out.mono ?_; rintro e w1 ⟨rfl, hb1⟩; replace hb1 := hide hb1)
    go_ret
    exact ⟨by rw [HF.out]; rfl, hb1.out⟩
end Go.Proofs.YtdbmaobjikjifaaGreatDoorR

end
section
set_option linter.unusedVariables false
set_option linter.unusedSimpArgs false
namespace Go.Proofs.YtdbmaobjikjifaaGreatDoorR
open Go.RowKit Go.Shelf
/-- What an actor leaves is what it holds. -/
theorem AS.fs {w0 w : World} {X : Nat} {p : PA} (h : AS w0 w X p) : FS w0 w X p.st p.us p.n := by
  refine ⟨h.bel, h.hX, h.blk.lt, _, _, _, _, h.blk.cell 0, h.blk.cell 1, h.blk.cell 2, h.blk.cell 3, h.blk.cell 4, h.blk.cell 17, h.blk.cell 18, fun w2 hm => ?_⟩
  have hf : ∀ G : Option Nat, G ∈ p.blocks → ∀ g, G = some g → ¬ g < w0.heap.size := fun G hG g e hc => by
    subst e
    have := (h.own g hG).1
    omega
  have m0 : ∀ x ∈ p.lb, x.G ∈ p.blocks := fun x hx => by unfold PA.blocks; simp; right; right; right; right; left; exact ⟨x, hx, rfl⟩
  have m1 : ∀ x ∈ p.lq, x.G ∈ p.blocks := fun x hx => by unfold PA.blocks; simp; right; right; right; right; right; exact ⟨x, hx, rfl⟩
  exact ⟨⟨_, _, _, rfl, blC_rd (h.rb.keep hm (hf _ (by simp [PA.blocks]))) (fun x hx => msC_rd ((h.rm x hx).keep hm (hf _ (m0 x hx)))), sbC_rd (h.rs.keep hm (hf _ (by simp [PA.blocks]))), qlC_rd (h.rq.keep hm (hf _ (by simp [PA.blocks]))) (fun x hx => inC_rd ((h.rf x hx).keep hm (hf _ (m1 x hx))))⟩, inC_rd (h.ru.keep hm (hf _ (by simp [PA.blocks])))⟩
theorem putP_st (p : PA) (k : Nat) (x : BL) (us : List Int) (vu : Value) (gu : Option Nat) : (p.putP k x us vu gu).st = poSet p.st k x.b := by
  unfold PA.putP PA.st poSet
  simp only [List.map_set]
theorem qBox_eq {p q : PA} (hs : p.st = q.st) (h : p.a = q.a) : qBox p = qBox q := by
  unfold qBox
  rw [qName_eq hs h, hs, h]
set_option maxHeartbeats 4000000 in
theorem pstepAppend {w : World} {sv av : Value} {s : Stt} {a : Ac} {ea : Nat → Addr} (hE : Errs w ea) (hS : StR w sv s) (hA : AcR w av a) (hd : BdS s) (hform : poForm s = true) (hk : a.kind = 6) (h2 : a.name.length ≤ 1000000) (h3 : a.dst.length ≤ 1000000) (hq : qBox (paOf s (nmA a)) = 0) {k : Nat} (hkk : k < s.boxes.length) (hfi : fiP (poFind s.boxes a.user (nmP a.name)) = (k : Int)) (hfl : poIn a.flags 0 31 = true) (hdt : poMom a.date = true) (hby : a.body.length ≤ 100000) (hb : s.boxes.length ≤ 24) (hml : s.boxes[k].msgs.length + 1 ≤ 1000000) (hnx : 0 ≤ s.boxes[k].next ∧ s.boxes[k].next ≤ 4000000000) (hroom : poRoom (poPut s.boxes[k] [addM a]).1 = true) :
    Calls Tryz.prog 8 #[sv, av] w fun e w' => ∃ tv uv n t us, e = .returned (.tuple #[tv, .agg #[uv, .int .i64 n], .nilIface]) ∧ Below w.heap.size w w' ∧ (t = poSet s k (poPut s.boxes[k] [addM a]).1 ∧ us = (poPut s.boxes[k] [addM a]).2 ∧ n = 0) ∧ (∀ w2, Mvs (fun k => k < w.heap.size) w' w2 → StR w2 tv t ∧ RdE 1 IntAt w2 uv us) := by
  refine pstep_yes hE hS hA hd hform (fun t us n => t = poSet s k (poPut s.boxes[k] [addM a]).1 ∧ us = (poPut s.boxes[k] [addM a]).2 ∧ n = 0) ?_
  intro w0 W X p hb0 hAS hst hpa hus hn
  have hE0 := hE.below hb0
  have hl : p.lb.length = s.boxes.length := by rw [← hst, boxes_len]
  have hkd : dmL (.pointer (some ⟨X, 0, none⟩)) p.a.kind = .tuple #[.agg #[(.func (.func 54) #[.pointer (some ⟨X, 0, none⟩)] #[]), (.func (.func 55) #[.pointer (some ⟨X, 0, none⟩)] #[])], .bool true] := by
    rw [hpa, hk]
    rfl
  have e1 : (nmd p).st = (paOf s (nmA a)).st := by rw [nmd_st, paOf_st, hst]
  have e2 : (nmd p).a = (paOf s (nmA a)).a := by rw [nmd_a, paOf_a, hpa]
  have ea1 : (nmd p).a = nmA a := by rw [nmd_a, hpa]
  have hqn : qBox (nmd p) = 0 := by rw [qBox_eq e1 e2, hq]
  have hkp : k < (nmd p).lb.length := by show k < p.lb.length; omega
  have hbk : (nmd p).lb[k].b = s.boxes[k] := by
    have h1 : p.lb.map BL.b = s.boxes := congrArg Stt.boxes hst
    show p.lb[k].b = _
    simp only [← h1, List.getElem_map]
    rfl
  have hus' : (nmd p).us = [] := hus
  have hn' : (nmd p).n = 0 := hn
  refine (pact_yes hAS hE0 (by rw [hpa]; exact h2) (by rw [hpa]; exact h3) hkd (enters_of Tryz.func54 (by kernel_rfl) rfl) (enters_of Tryz.func55 (by kernel_rfl) rfl) (fun v w' => v = .nilIface ∧ ∃ t us n, FS w0 w' X t us n ∧ (t = poSet s k (poPut s.boxes[k] [addM a]).1 ∧ us = (poPut s.boxes[k] [addM a]).2 ∧ n = 0)) (fun W hW => ?_) (fun W hW => ?_)).mono ?_
  · refine (paskBox_any hW hE0 (by show p.lb.length ≤ _; omega)).mono ?_
    rintro e w' ⟨rfl, hb⟩
    rw [hqn]
    exact ⟨rfl, hb⟩
  · have hm0 : addM (nmd p).a = addM a := by rw [ea1]; rfl
    refine padd_any hW hE0 (by show p.lb.length ≤ _; omega) hkp (by rw [e1, paOf_st, ea1]; exact hfi) (by rw [ea1]; exact hfl) (by rw [ea1]; exact hdt) (by rw [ea1]; exact hby) (by rw [hbk]; exact hml) (by rw [hbk]; exact hnx) (by rw [hus']; simp) (by rw [hbk]; exact fun m hm => (hd.bx _ (List.getElem_mem hkk)).body m hm) _ ?_
    intro w' v G vu gu hR
    rw [hbk, hm0] at hR ⊢
    refine ⟨fun _ => ⟨rfl, _, _, _, hR.fs, ?_, ?_, hn'⟩, fun hc => by rw [hroom] at hc; cases hc⟩
    · rw [putP_st]
      rw [e1, paOf_st]
    · show (nmd p).us ++ _ = _
      rw [hus', List.nil_append]
  · rintro e w' ⟨v, rfl, rfl, t, us, n, hf, hr⟩
    exact ⟨rfl, t, us, n, hf, hr⟩
end Go.Proofs.YtdbmaobjikjifaaGreatDoorR

end
