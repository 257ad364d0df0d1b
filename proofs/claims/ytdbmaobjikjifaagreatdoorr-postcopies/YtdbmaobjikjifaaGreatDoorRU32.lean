/- Package post: an actor's questions. -/
/- A renaming, as the program does it, in plain lists. -/
/- An actor in memory: one plain cell of one of its boxes, or items, is written over. -/
import Derived.Test.YtdbmaobjikjifaaGreatDoorRU31
import Derived.Test.YtdbmaobjikjifaaGreatDoorRU22
import Derived.Test.YtdbmaobjikjifaaGreatDoorRU23
section
set_option linter.unusedVariables false
set_option linter.unusedSimpArgs false
namespace Go.Proofs.YtdbmaobjikjifaaGreatDoorR
open Go.RowKit Go.Shelf
/-- What an error's number stands for; 0: nil. -/
def erN (ea : Nat → Addr) (k : Nat) : Value := if k = 0 then .nilIface else erV ea k
theorem boxes_len (p : PA) : p.st.boxes.length = p.lb.length := by unfold PA.st; rw [List.length_map]
set_option maxRecDepth 20000 in
set_option maxHeartbeats 2000000 in
theorem phas_any {w0 w : World} {X : Nat} {p : PA} (h : AS w0 w X p) (u : Int) (hl : p.lb.length ≤ 1000000) :
    Calls Tryz.prog 79 #[.pointer (some ⟨X, 0, none⟩), .int .i64 u] w fun e w' => e = .returned (.bool (poUser p.st.boxes u)) ∧ Below w.heap.size w w' := by
  obtain ⟨Ab, cb, e1⟩ := h.rb.form
  obtain ⟨As, cs, e2⟩ := h.rs.form
  obtain ⟨Aq, cq, e3⟩ := h.rq.form
  have k0 : w.cell? ⟨X, 0, none⟩ = some (.slice Ab p.lb.length cb) := by rw [← e1]; exact h.blk.cell 0
  have k1 : w.cell? ⟨X, 1, none⟩ = some (.slice As p.ls.length cs) := by rw [← e2]; exact h.blk.cell 1
  have k2 : w.cell? ⟨X, 2, none⟩ = some (.slice Aq p.lq.length cq) := by rw [← e3]; exact h.blk.cell 2
  have k3 : w.cell? ⟨X, 3, none⟩ = some (.int .i64 p.nv) := h.blk.cell 3
  have k4 : w.cell? ⟨X, 4, none⟩ = some (.int .i64 p.ni) := h.blk.cell 4
  have hst := h.str
  rw [e1, e2, e3] at hst
  have H1 := hide (puser_any hst u (by rw [boxes_len]; exact hl))
  clear h hst e1 e2 e3
  generalize poUser p.st.boxes u = T at *
  generalize p.lb.length = nb at *
  generalize p.ls.length = ns at *
  generalize p.lq.length = nq at *
  go_enter Tryz.func79, Tryz.ntmps79
  go_wp2_with (go_at_call 34; refine H1.out.mono ?_; rintro e w1 ⟨rfl, hb1⟩; replace hb1 := hide hb1)
  go_ret
  exact ⟨rfl, hb1.out⟩
set_option maxRecDepth 20000 in
set_option maxHeartbeats 2000000 in
theorem pplace_any {w0 w : World} {X : Nat} {p : PA} (h : AS w0 w X p) (n : List UInt8) (hl : p.lb.length ≤ 1000000) :
    Calls Tryz.prog 80 #[.pointer (some ⟨X, 0, none⟩), .string ⟨n.toArray⟩] w fun e w' => e = .returned (.int .i64 (fiP (poFind p.st.boxes p.a.user n))) ∧ Below w.heap.size w w' := by
  obtain ⟨Ab, cb, e1⟩ := h.rb.form
  obtain ⟨As, cs, e2⟩ := h.rs.form
  obtain ⟨Aq, cq, e3⟩ := h.rq.form
  have k0 : w.cell? ⟨X, 0, none⟩ = some (.slice Ab p.lb.length cb) := by rw [← e1]; exact h.blk.cell 0
  have k1 : w.cell? ⟨X, 1, none⟩ = some (.slice As p.ls.length cs) := by rw [← e2]; exact h.blk.cell 1
  have k2 : w.cell? ⟨X, 2, none⟩ = some (.slice Aq p.lq.length cq) := by rw [← e3]; exact h.blk.cell 2
  have k3 : w.cell? ⟨X, 3, none⟩ = some (.int .i64 p.nv) := h.blk.cell 3
  have k4 : w.cell? ⟨X, 4, none⟩ = some (.int .i64 p.ni) := h.blk.cell 4
  have hst := h.str
  rw [e1, e2, e3] at hst
  have k6 : w.cell? ⟨X, 6, none⟩ = some (.int .i64 p.a.user) := h.blk.cell 6
  have hXl : X < w.heap.size := h.blk.lt
  have H1 : Hid (∀ u : Ext w, Calls Tryz.prog 11 #[.agg #[.slice Ab p.lb.length cb, .slice As p.ls.length cs, .slice Aq p.lq.length cq, .int .i64 p.nv, .int .i64 p.ni], .int .i64 p.a.user, .string ⟨n.toArray⟩] u.w fun e w' => e = .returned (.int .i64 (fiP (poFind p.st.boxes p.a.user n))) ∧ Below u.w.heap.size u.w w') := fun u => pfind_any (hst.below u.ok) p.a.user n (by rw [boxes_len]; exact hl)
  clear h hst e1 e2 e3
  generalize fiP (poFind p.st.boxes p.a.user n) = T at *
  generalize p.lb.length = nb at *
  generalize p.ls.length = ns at *
  generalize p.lq.length = nq at *
  generalize p.a.user = u at *
  have hn0 := ext_some w
  have hc0 := ext_cell w
  go_enter Tryz.func80, Tryz.ntmps80
  go_wp2
  refine wp_region_ext (by kernel_rfl) (by kernel_rfl) ?_
  repeat (go_big_quiet_step ((go_at_call 11; exact ext_call (H1.out _))))
  refine wpQuiet_nil ?_
  rintro w1 ⟨u1, rfl⟩
  have HB1 := hide u1.ok
  generalize u1.w = w1 at *
  clear hn0 hc0
  go_wp2
  go_ret
  exact ⟨rfl, HB1.out⟩
/-- What askName answers, as a number. -/
def qName (p : PA) : Nat := if poUser p.st.boxes p.a.user = false then 13 else if p.a.name = [] then 4 else 0
set_option maxRecDepth 20000 in
set_option maxHeartbeats 2000000 in
theorem paskName_any {w0 w : World} {X : Nat} {p : PA} {ea : Nat → Addr} (h : AS w0 w X p) (hE : Errs w0 ea) (hl : p.lb.length ≤ 1000000) :
    Calls Tryz.prog 47 #[.pointer (some ⟨X, 0, none⟩)] w fun e w' => e = .returned (erN ea (qName p)) ∧ Below w.heap.size w w' := by
  have H1 := hide (phas_any h p.a.user hl)
  have k6 : w.cell? ⟨X, 6, none⟩ = some (.int .i64 p.a.user) := h.blk.cell 6
  have HK : Hid (∀ W, Below w.heap.size w W → W.cell? ⟨X, 11, none⟩ = some (.string ⟨p.a.name.toArray⟩)) := fun W hW => (h.blk.below hW h.blk.lt).cell 11
  have HE13 : Hid (∀ W, Below w.heap.size w W → W.cell? ⟨2, 0, none⟩ = some (.iface 216 (.pointer (some (ea 12))))) := fun W hW => (hE.below (h.bel.trans (hW.mono h.bel.size))).cell 12 (by omega)
  have HE4 : Hid (∀ W, Below w.heap.size w W → W.cell? ⟨3, 0, none⟩ = some (.iface 216 (.pointer (some (ea 3))))) := fun W hW => (hE.below (h.bel.trans (hW.mono h.bel.size))).cell 3 (by omega)
  have hsz := size_lit p.a.name
  obtain ⟨V, HV⟩ : ∃ V, Hid (V = erN ea (qName p)) := ⟨_, hide rfl⟩
  rw [← HV.out]
  unfold qName at HV
  clear h
  generalize poUser p.st.boxes p.a.user = T at *
  generalize p.a.user = u at *
  generalize p.a.name = nm at *
  cases T with
  | false =>
    have HF : Hid (V = .iface 216 (.pointer (some (ea 12)))) := by show _ = _; rw [HV.out]; rfl
    go_enter Tryz.func47, Tryz.ntmps47
    go_wp2_with (go_at_call 79; refine H1.out.mono ?_; rintro e w1 ⟨rfl, hb1⟩; have c1 := HE13.out _ hb1; replace hb1 := hide hb1)
    go_ret
    exact ⟨by rw [HF.out]; rfl, hb1.out⟩
  | true =>
    by_cases hn : nm = []
    · subst hn
      have HF : Hid (V = .iface 216 (.pointer (some (ea 3)))) := by show _ = _; rw [HV.out]; rfl
      go_enter Tryz.func47, Tryz.ntmps47
      go_wp2_with (go_at_call 79; refine H1.out.mono ?_; rintro e w1 ⟨rfl, hb1⟩; have c1 := HE4.out _ hb1; have c2 := HK.out _ hb1; replace hb1 := hide hb1)
      go_ret
      exact ⟨by rw [HF.out]; rfl, hb1.out⟩
    · have hnb : (nm == []) = false := beq_eq_false_iff_ne.2 hn
      have HF : Hid (V = .nilIface) := by show _ = _; rw [HV.out]; simp [hn, erN]
      go_enter Tryz.func47, Tryz.ntmps47
      go_wp2_with (go_at_call 79; refine H1.out.mono ?_; rintro e w1 ⟨rfl, hb1⟩; have c2 := HK.out _ hb1; replace hb1 := hide hb1)
      go_ret
      exact ⟨by rw [HF.out]; rfl, hb1.out⟩
/-- What askNames answers. -/
def qNames (p : PA) : Nat := if qName p = 0 then (if p.a.dst = [] then 4 else 0) else qName p
set_option maxRecDepth 20000 in
set_option maxHeartbeats 2000000 in
theorem paskNames_any {w0 w : World} {X : Nat} {p : PA} {ea : Nat → Addr} (h : AS w0 w X p) (hE : Errs w0 ea) (hl : p.lb.length ≤ 1000000) :
    Calls Tryz.prog 50 #[.pointer (some ⟨X, 0, none⟩)] w fun e w' => e = .returned (erN ea (qNames p)) ∧ Below w.heap.size w w' := by
  have H1 := hide (paskName_any h hE hl)
  have HK : Hid (∀ W, Below w.heap.size w W → W.cell? ⟨X, 12, none⟩ = some (.string ⟨p.a.dst.toArray⟩)) := fun W hW => (h.blk.below hW h.blk.lt).cell 12
  have HE4 : Hid (∀ W, Below w.heap.size w W → W.cell? ⟨3, 0, none⟩ = some (.iface 216 (.pointer (some (ea 3))))) := fun W hW => (hE.below (h.bel.trans (hW.mono h.bel.size))).cell 3 (by omega)
  have hsz := size_lit p.a.dst
  obtain ⟨V, HV⟩ : ∃ V, Hid (V = erN ea (qNames p)) := ⟨_, hide rfl⟩
  rw [← HV.out]
  unfold qNames at HV
  clear h
  generalize qName p = Q at *
  generalize p.a.dst = nm at *
  by_cases hq : Q = 0
  · subst hq
    change Hid (Calls _ _ _ _ fun e w' => e = .returned .nilIface ∧ _) at H1
    by_cases hn : nm = []
    · subst hn
      have HF : Hid (V = .iface 216 (.pointer (some (ea 3)))) := by show _ = _; rw [HV.out]; rfl
      go_enter Tryz.func50, Tryz.ntmps50
      go_wp2_with (go_at_call 47; refine H1.out.mono ?_; rintro e w1 ⟨rfl, hb1⟩; have c1 := HE4.out _ hb1; have c2 := HK.out _ hb1; replace hb1 := hide hb1)
      go_ret
      exact ⟨by rw [HF.out]; rfl, hb1.out⟩
    · have hnb : (nm == []) = false := beq_eq_false_iff_ne.2 hn
      have HF : Hid (V = .nilIface) := by show _ = _; rw [HV.out]; simp [hn, erN]
      go_enter Tryz.func50, Tryz.ntmps50
      go_wp2_with (go_at_call 47; refine H1.out.mono ?_; rintro e w1 ⟨rfl, hb1⟩; have c2 := HK.out _ hb1; replace hb1 := hide hb1)
      go_ret
      exact ⟨by rw [HF.out]; rfl, hb1.out⟩
  · have HF : Hid (V = .iface 216 (.pointer (some (ea (Q - 1))))) := by show _ = _; rw [HV.out, if_neg hq]; unfold erN erV; rw [if_neg hq]
    have e1 : erN ea Q = .iface 216 (.pointer (some (ea (Q - 1)))) := by unfold erN erV; rw [if_neg hq]
    rw [e1] at H1
    clear e1
    go_enter Tryz.func50, Tryz.ntmps50
    go_wp2_with (go_at_call 47; refine H1.out.mono ?_; rintro e w1 ⟨rfl, hb1⟩; replace hb1 := hide hb1)
    go_ret
    exact ⟨by rw [HF.out]; rfl, hb1.out⟩
end Go.Proofs.YtdbmaobjikjifaaGreatDoorR

end
section
set_option linter.unusedVariables false
namespace Go.Proofs.YtdbmaobjikjifaaGreatDoorR
open Go.RowKit
/-- The name that a box gets, if it gets one. -/
def nwO (p : PA) (b : Bx) : Option (List UInt8) := if b.user = p.a.user then movO b.name p.a.name p.a.dst else none
/-- Whether its new name is too long. -/
def lngB (p : PA) (b : Bx) : Bool := decide (60 < ((nwO p b).getD []).length)
/-- Whether it leaves its name. -/
def lvsB (p : PA) (b : Bx) : Bool := match nwO p b with
  | none => false
  | some n => decide (n ≠ b.name)
/-- Whether it gets a name that is held. -/
def hldB (p : PA) (b : Bx) : Bool := match nwO p b with
  | none => false
  | some n => match poFind p.st.boxes p.a.user n with
    | none => false
    | some i => match p.st.boxes[i]? with
      | none => false
      | some c => !lvsB p c
/-- Why nothing is renamed. -/
def qRen (p : PA) : Nat :=
  if p.a.name = inboxU ∨ p.a.dst = inboxU then 4
  else if poFind p.st.boxes p.a.user p.a.name = none then 5
  else if p.st.boxes.any (lngB p) then 3
  else if p.st.boxes.any (hldB p) then 6
  else 0
/-- A box with its new name. -/
def rnB (p : PA) (b : Bx) : Bx := match nwO p b with
  | none => b
  | some n => { b with name := n }
def rnL (p : PA) (x : BL) : BL := { x with b := rnB p x.b }
theorem rnL_b (p : PA) (l : List BL) : (l.map (rnL p)).map BL.b = (l.map BL.b).map (rnB p) := by
  rw [List.map_map, List.map_map]
  rfl
theorem rnL_none {p : PA} {x : BL} (h : nwO p x.b = none) : rnL p x = x := by
  unfold rnL rnB
  rw [h]
theorem rnL_some {p : PA} {x : BL} {n : List UInt8} (h : nwO p x.b = some n) : rnL p x = { x with b := { x.b with name := n } } := by
  unfold rnL rnB
  rw [h]
/-- The row where the first k have their new names. -/
def rnK (p : PA) (k : Nat) : List BL := (p.lb.take k).map (rnL p) ++ p.lb.drop k
theorem rnK_zero (p : PA) : rnK p 0 = p.lb := by simp [rnK]
theorem rnK_all (p : PA) : rnK p p.lb.length = p.lb.map (rnL p) := by simp [rnK]
theorem rnK_len (p : PA) (k : Nat) (hk : k ≤ p.lb.length) : (rnK p k).length = p.lb.length := by
  unfold rnK
  rw [List.length_append, List.length_map, List.length_take, List.length_drop]
  omega
theorem rnK_at (p : PA) (k : Nat) (hk : k < p.lb.length) : (rnK p k)[k]'(by rw [rnK_len p k (by omega)]; exact hk) = p.lb[k] := by
  unfold rnK
  have hl : ((p.lb.take k).map (rnL p)).length = k := by rw [List.length_map, List.length_take]; omega
  rw [List.getElem_append_right (by omega), List.getElem_drop]
  congr 1
  omega
theorem rnK_next (p : PA) (k : Nat) (hk : k < p.lb.length) : rnK p (k + 1) = (rnK p k).set k (rnL p p.lb[k]) := by
  unfold rnK
  have hl : ((p.lb.take k).map (rnL p)).length = k := by rw [List.length_map, List.length_take]; omega
  rw [List.take_succ_eq_append_getElem hk, List.map_append, List.set_append_right _ _ (by omega), List.length_map, List.length_take, Nat.min_eq_left (by omega), Nat.sub_self, List.drop_eq_getElem_cons hk, List.set_cons_zero]
  simp
theorem movO_lenle {x f t n : List UInt8} (h : movO x f t = some n) : n.length ≤ x.length + t.length := by
  unfold movO at h
  split at h
  · cases h
    omega
  · split at h
    · cases h
      rw [List.length_append, List.length_drop]
      omega
    · cases h
end Go.Proofs.YtdbmaobjikjifaaGreatDoorR

end
section
set_option linter.unusedVariables false
set_option linter.unusedSimpArgs false
namespace Go.Proofs.YtdbmaobjikjifaaGreatDoorR
open Go.RowKit
theorem set_map_same {α β : Type} (f : α → β) (l : List α) (k : Nat) (hk : k < l.length) (x : α) (h : f x = f l[k]) : (l.set k x).map f = l.map f := by
  rw [List.map_set, h, ← List.getElem_map f (h := by rw [List.length_map]; exact hk), List.set_getElem_self]
section
variable {w0 w : World} {X : Nat} {p : PA}
/-- No list but the row of boxes lies in its block. -/
theorem AS.rest_gb (h : AS w0 w X p) {b : Option Nat} (hb : b ∈ (p.gs :: p.gq :: p.gu :: (p.lb.map BL.G ++ p.lq.map QL.G))) : ∀ g, b = some g → ¬ some g = p.gb := sep_other (l := []) h.sep (.inr hb)
theorem AS.gb_X (h : AS w0 w X p) : ¬ some X = p.gb := fun e => (h.own X (by rw [e]; simp [PA.blocks])).2 rfl
theorem AS.gb_own (h : AS w0 w X p) {g : Nat} (e : p.gb = some g) : w0.heap.size ≤ g := (h.own g (by rw [← e]; simp [PA.blocks])).1
theorem AS.setB (h : AS w0 w X p) {g o c : Nat} (hg : p.gb = some g) (hv : p.vb = .slice (some ⟨g, o, none⟩) p.lb.length c) (k j : Nat) (hk : k < p.lb.length) (hj : j < 5) (x' : BL) (u : Value) (hx : blC x' = (blC p.lb[k]).set j u) (e1 : x'.v = p.lb[k].v) (e2 : x'.G = p.lb[k].G) (e3 : x'.b.msgs = p.lb[k].b.msgs) :
    AS w0 (w.setCell ⟨g, o + k * 5 + j, none⟩ u) X { p with lb := p.lb.set k x' } := by
  have hm : Mvs (fun k => some k = p.gb) w (w.setCell ⟨g, o + k * 5 + j, none⟩ u) := (Mvs.refl _ _).setCell _ _ (fun _ => hg.symm)
  have hlb : ∀ y ∈ p.lb, y.G ∈ (p.gs :: p.gq :: p.gu :: (p.lb.map BL.G ++ p.lq.map QL.G)) := fun y hy => by simp; right; right; right; left; exact ⟨y, hy, rfl⟩
  have hlq : ∀ y ∈ p.lq, y.G ∈ (p.gs :: p.gq :: p.gu :: (p.lb.map BL.G ++ p.lq.map QL.G)) := fun y hy => by simp; right; right; right; right; exact ⟨y, hy, rfl⟩
  have hbl : ({ p with lb := p.lb.set k x' } : PA).blocks = p.blocks := by
    show p.gb :: p.gs :: p.gq :: p.gu :: ((p.lb.set k x').map BL.G ++ p.lq.map QL.G) = _
    rw [set_map_same BL.G p.lb k hk x' e2]
    rfl
  refine ⟨h.bel.trans (hm.below (fun i hi e => by have := h.gb_own e.symm; omega) h.bel.size), h.hX, hm.blk h.blk h.gb_X, ?_, h.rs.keep hm (h.rest_gb (by simp)), h.rq.keep hm (h.rest_gb (by simp)), h.ru.keep hm (h.rest_gb (by simp)), fun x hx' => ?_, fun x hx' => (h.rf x hx').keep hm (h.rest_gb (hlq x hx')), by rw [hbl]; exact h.own, by rw [hbl]; exact h.sep, h.ua, h.fa⟩
  · show Rw _ 5 p.vb (p.lb.set k x').length ((p.lb.set k x').flatMap blC) p.gb
    have hr := h.rb
    rw [hv, hg] at hr
    rw [List.length_set, hv, hg]
    exact rw_set blC_len hr k j hk hj x' u hx
  · rcases List.mem_or_eq_of_mem_set hx' with hx' | rfl
    · exact (h.rm x hx').keep hm (h.rest_gb (hlb x hx'))
    · rw [e1, e2, e3]
      exact (h.rm _ (List.getElem_mem hk)).keep hm (h.rest_gb (hlb _ (List.getElem_mem hk)))
end
end Go.Proofs.YtdbmaobjikjifaaGreatDoorR

end
