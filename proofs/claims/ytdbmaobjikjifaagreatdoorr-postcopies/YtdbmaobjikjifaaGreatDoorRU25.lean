/- Package post: whether a state is in form. -/
import Derived.Test.YtdbmaobjikjifaaGreatDoorRU24
set_option linter.unusedVariables false
set_option linter.unusedSimpArgs false
namespace Go.Proofs.YtdbmaobjikjifaaGreatDoorR
open Go.RowKit Go.Shelf

set_option maxRecDepth 20000 in
set_option maxHeartbeats 8000000 in
theorem pareBoxes1_any {v : Value} {b : Bx} {w : World} {ea : Addr} {s : Stt} {Ab As Aq : Option Addr} {cb cs cq ps : Nat} (hE : EN w ea) (h : BxV w v b) (hd : BdB b) (hS : StR w (.agg #[.slice Ab s.boxes.length cb, .slice As s.subs.length cs, .slice Aq s.queue.length cq, .int .i64 s.nextValid, .int .i64 s.nextItem]) s) (hk : Blk w ps #[.slice Ab s.boxes.length cb, .slice As s.subs.length cs, .slice Aq s.queue.length cq, .int .i64 s.nextValid, .int .i64 s.nextItem] 28) (hl : s.boxes.length ≤ 1000000) :
    Calls Tryz.prog 32 #[v, .pointer (some ⟨ps, 0, none⟩)] w fun e w' => e = .returned (.bool (bxB b && decide (b.valid < s.nextValid) && poUser s.boxes b.user)) ∧ Below w.heap.size w w' := by
  have hv := h
  obtain ⟨mv, rfl, hm⟩ := h
  obtain ⟨A, c, rfl⟩ := hm.form
  have HB0 : Hid (Below w.heap.size w (w.alloc (.cells #[.int .i64 b.user, .string ⟨b.name.toArray⟩, .int .i64 b.valid, .int .i64 b.next, .slice A b.msgs.length c] 45))) := (Below.refl w.heap.size w).alloc (Nat.le_refl _) _
  have HB : Hid (Below (w.alloc (.cells #[.int .i64 b.user, .string ⟨b.name.toArray⟩, .int .i64 b.valid, .int .i64 b.next, .slice A b.msgs.length c] 45)).heap.size (w.alloc (.cells #[.int .i64 b.user, .string ⟨b.name.toArray⟩, .int .i64 b.valid, .int .i64 b.next, .slice A b.msgs.length c] 45)) (w.alloc (.cells #[.int .i64 b.user, .string ⟨b.name.toArray⟩, .int .i64 b.valid, .int .i64 b.next, .slice A b.msgs.length c] 45))) := Below.refl _ _
  have HK := hide (Blk.new w #[.int .i64 b.user, .string ⟨b.name.toArray⟩, .int .i64 b.valid, .int .i64 b.next, .slice A b.msgs.length c] 45)
  have HS := hide (hk.alloc (.cells #[.int .i64 b.user, .string ⟨b.name.toArray⟩, .int .i64 b.valid, .int .i64 b.next, .slice A b.msgs.length c] 45))
  have HV0 := hide (hv.below HB0.out)
  have HE0 := hide (hE.below HB0.out)
  have HT0 := hide (hS.below HB0.out)
  have H1 : Hid (∀ W, Below (w.alloc (.cells #[.int .i64 b.user, .string ⟨b.name.toArray⟩, .int .i64 b.valid, .int .i64 b.next, .slice A b.msgs.length c] 45)).heap.size (w.alloc (.cells #[.int .i64 b.user, .string ⟨b.name.toArray⟩, .int .i64 b.valid, .int .i64 b.next, .slice A b.msgs.length c] 45)) W → Calls Tryz.prog 33 #[.agg #[.int .i64 b.user, .string ⟨b.name.toArray⟩, .int .i64 b.valid, .int .i64 b.next, .slice A b.msgs.length c]] W fun e w' => e = .returned (.bool (bxB b)) ∧ Below W.heap.size W w') := fun W hW => pisBox_any (HE0.out.below hW) (HV0.out.below hW) hd
  have H2 : Hid (∀ W, Below (w.alloc (.cells #[.int .i64 b.user, .string ⟨b.name.toArray⟩, .int .i64 b.valid, .int .i64 b.next, .slice A b.msgs.length c] 45)).heap.size (w.alloc (.cells #[.int .i64 b.user, .string ⟨b.name.toArray⟩, .int .i64 b.valid, .int .i64 b.next, .slice A b.msgs.length c] 45)) W → Calls Tryz.prog 34 #[.agg #[.slice Ab s.boxes.length cb, .slice As s.subs.length cs, .slice Aq s.queue.length cq, .int .i64 s.nextValid, .int .i64 s.nextItem], .int .i64 b.user] W fun e w' => e = .returned (.bool (poUser s.boxes b.user)) ∧ Below W.heap.size W w') := fun W hW => puser_any (HT0.out.below hW) b.user hl
  clear hv hm hE HV0 HE0 hS HT0 hk
  generalize bxB b = T1 at *
  generalize poUser s.boxes b.user = T2 at *
  generalize s.boxes.length = lb at *
  generalize s.subs.length = ls at *
  generalize s.queue.length = lq at *
  clear hd
  obtain ⟨bu, bn, bv, bx, bm⟩ := b
  dsimp only at *
  generalize bm.length = lm at *
  generalize s.nextValid = nv at *
  generalize s.nextItem = ni at *
  obtain ⟨R, HR⟩ : ∃ R, Hid (R = (T1 && decide (bv < nv) && T2)) := ⟨_, hide rfl⟩
  rw [← HR.out]
  cases T1 with
  | true =>
    by_cases h0 : bv < nv
    · skip
      cases T2 with
      | true =>
        have HF : Hid (R = true) := by show _ = _; rw [HR.out]; simp [h0]
        clear HR
        go_enter Tryz.func32, Tryz.ntmps32
        go_wp2_with (first | (go_at_call 33; refine (H1.out _ HB.out).mono ?_; rintro e w1 ⟨rfl, hb1⟩; replace HB := hide (HB.out.trans (hb1.mono HB.out.size)); clear hb1; have kk := HK.out.below HB.out HK.out.lt; have k0 := kk.cell 0; have k1 := kk.cell 1; have k2 := kk.cell 2; have k3 := kk.cell 3; have k4 := kk.cell 4; clear kk; have kk := HS.out.below HB.out HS.out.lt; have s0 := kk.cell 0; have s1 := kk.cell 1; have s2 := kk.cell 2; have s3 := kk.cell 3; have s4 := kk.cell 4; clear kk) | (go_at_call 34; refine (H2.out _ HB.out).mono ?_; rintro e w1 ⟨rfl, hb1⟩; replace HB := hide (HB.out.trans (hb1.mono HB.out.size)); clear hb1))
        exact bodyPost_ret (v := .bool true) (by simp [results, Tryz.results32, go_sem, h0] <;> omega) rfl ⟨by rw [HF.out], HB0.out.trans (HB.out.mono HB0.out.size)⟩
      | false =>
        have HF : Hid (R = false) := by show _ = _; rw [HR.out]; simp [h0]
        clear HR
        go_enter Tryz.func32, Tryz.ntmps32
        go_wp2_with (first | (go_at_call 33; refine (H1.out _ HB.out).mono ?_; rintro e w1 ⟨rfl, hb1⟩; replace HB := hide (HB.out.trans (hb1.mono HB.out.size)); clear hb1; have kk := HK.out.below HB.out HK.out.lt; have k0 := kk.cell 0; have k1 := kk.cell 1; have k2 := kk.cell 2; have k3 := kk.cell 3; have k4 := kk.cell 4; clear kk; have kk := HS.out.below HB.out HS.out.lt; have s0 := kk.cell 0; have s1 := kk.cell 1; have s2 := kk.cell 2; have s3 := kk.cell 3; have s4 := kk.cell 4; clear kk) | (go_at_call 34; refine (H2.out _ HB.out).mono ?_; rintro e w1 ⟨rfl, hb1⟩; replace HB := hide (HB.out.trans (hb1.mono HB.out.size)); clear hb1))
        exact bodyPost_ret (v := .bool false) (by simp [results, Tryz.results32, go_sem, h0] <;> omega) rfl ⟨by rw [HF.out], HB0.out.trans (HB.out.mono HB0.out.size)⟩
    · skip
      have HF : Hid (R = false) := by show _ = _; rw [HR.out]; simp [h0]
      clear HR
      go_enter Tryz.func32, Tryz.ntmps32
      go_wp2_with (first | (go_at_call 33; refine (H1.out _ HB.out).mono ?_; rintro e w1 ⟨rfl, hb1⟩; replace HB := hide (HB.out.trans (hb1.mono HB.out.size)); clear hb1; have kk := HK.out.below HB.out HK.out.lt; have k0 := kk.cell 0; have k1 := kk.cell 1; have k2 := kk.cell 2; have k3 := kk.cell 3; have k4 := kk.cell 4; clear kk; have kk := HS.out.below HB.out HS.out.lt; have s0 := kk.cell 0; have s1 := kk.cell 1; have s2 := kk.cell 2; have s3 := kk.cell 3; have s4 := kk.cell 4; clear kk) | (go_at_call 34; refine (H2.out _ HB.out).mono ?_; rintro e w1 ⟨rfl, hb1⟩; replace HB := hide (HB.out.trans (hb1.mono HB.out.size)); clear hb1))
      exact bodyPost_ret (v := .bool false) (by simp [results, Tryz.results32, go_sem, h0] <;> omega) rfl ⟨by rw [HF.out], HB0.out.trans (HB.out.mono HB0.out.size)⟩
  | false =>
    have HF : Hid (R = false) := by show _ = _; rw [HR.out]; simp []
    clear HR
    go_enter Tryz.func32, Tryz.ntmps32
    go_wp2_with (first | (go_at_call 33; refine (H1.out _ HB.out).mono ?_; rintro e w1 ⟨rfl, hb1⟩; replace HB := hide (HB.out.trans (hb1.mono HB.out.size)); clear hb1; have kk := HK.out.below HB.out HK.out.lt; have k0 := kk.cell 0; have k1 := kk.cell 1; have k2 := kk.cell 2; have k3 := kk.cell 3; have k4 := kk.cell 4; clear kk; have kk := HS.out.below HB.out HS.out.lt; have s0 := kk.cell 0; have s1 := kk.cell 1; have s2 := kk.cell 2; have s3 := kk.cell 3; have s4 := kk.cell 4; clear kk) | (go_at_call 34; refine (H2.out _ HB.out).mono ?_; rintro e w1 ⟨rfl, hb1⟩; replace HB := hide (HB.out.trans (hb1.mono HB.out.size)); clear hb1))
    exact bodyPost_ret (v := .bool false) (by simp [results, Tryz.results32, go_sem, ] <;> omega) rfl ⟨by rw [HF.out], HB0.out.trans (HB.out.mono HB0.out.size)⟩

set_option maxRecDepth 20000 in
set_option maxHeartbeats 8000000 in
theorem pareSubs1_any {v : Value} {x : Sb} {w : World} {ea : Addr} {s : Stt} {Ab As Aq : Option Addr} {cb cs cq ps : Nat} (hE : EN w ea) (h : SbV w v x) (hd : x.name.length ≤ 1000000) (hS : StR w (.agg #[.slice Ab s.boxes.length cb, .slice As s.subs.length cs, .slice Aq s.queue.length cq, .int .i64 s.nextValid, .int .i64 s.nextItem]) s) (hk : Blk w ps #[.slice Ab s.boxes.length cb, .slice As s.subs.length cs, .slice Aq s.queue.length cq, .int .i64 s.nextValid, .int .i64 s.nextItem] 28) (hl : s.boxes.length ≤ 1000000) :
    Calls Tryz.prog 38 #[v, .pointer (some ⟨ps, 0, none⟩)] w fun e w' => e = .returned (.bool (poName x.name && poUser s.boxes x.user)) ∧ Below w.heap.size w w' := by
  cases h
  have HB0 : Hid (Below w.heap.size w (w.alloc (.cells #[.int .i64 x.user, .string ⟨x.name.toArray⟩] 68))) := (Below.refl w.heap.size w).alloc (Nat.le_refl _) _
  have HB : Hid (Below (w.alloc (.cells #[.int .i64 x.user, .string ⟨x.name.toArray⟩] 68)).heap.size (w.alloc (.cells #[.int .i64 x.user, .string ⟨x.name.toArray⟩] 68)) (w.alloc (.cells #[.int .i64 x.user, .string ⟨x.name.toArray⟩] 68))) := Below.refl _ _
  have HK := hide (Blk.new w #[.int .i64 x.user, .string ⟨x.name.toArray⟩] 68)
  have HS := hide (hk.alloc (.cells #[.int .i64 x.user, .string ⟨x.name.toArray⟩] 68))
  have HE0 := hide (hE.below HB0.out)
  have HT0 := hide (hS.below HB0.out)
  have H1 : Hid (∀ W, Below (w.alloc (.cells #[.int .i64 x.user, .string ⟨x.name.toArray⟩] 68)).heap.size (w.alloc (.cells #[.int .i64 x.user, .string ⟨x.name.toArray⟩] 68)) W → Calls Tryz.prog 39 #[.string ⟨x.name.toArray⟩] W fun e w' => e = .returned (.bool (poName x.name)) ∧ Below W.heap.size W w') := fun W hW => pisName_any x.name W ea (HE0.out.below hW) hd
  have H2 : Hid (∀ W, Below (w.alloc (.cells #[.int .i64 x.user, .string ⟨x.name.toArray⟩] 68)).heap.size (w.alloc (.cells #[.int .i64 x.user, .string ⟨x.name.toArray⟩] 68)) W → Calls Tryz.prog 34 #[.agg #[.slice Ab s.boxes.length cb, .slice As s.subs.length cs, .slice Aq s.queue.length cq, .int .i64 s.nextValid, .int .i64 s.nextItem], .int .i64 x.user] W fun e w' => e = .returned (.bool (poUser s.boxes x.user)) ∧ Below W.heap.size W w') := fun W hW => puser_any (HT0.out.below hW) x.user hl
  clear hE HE0 hS HT0 hk
  generalize poName x.name = T1 at *
  generalize poUser s.boxes x.user = T2 at *
  generalize s.boxes.length = lb at *
  generalize s.subs.length = ls at *
  generalize s.queue.length = lq at *
  clear hd
  generalize s.nextValid = nv at *
  generalize s.nextItem = ni at *
  obtain ⟨R, HR⟩ : ∃ R, Hid (R = (T1 && T2)) := ⟨_, hide rfl⟩
  rw [← HR.out]
  cases T1 with
  | true =>
    cases T2 with
    | true =>
      have HF : Hid (R = true) := by show _ = _; rw [HR.out]; simp []
      clear HR
      go_enter Tryz.func38, Tryz.ntmps38
      go_wp2_with (first | (go_at_call 39; refine (H1.out _ HB.out).mono ?_; rintro e w1 ⟨rfl, hb1⟩; replace HB := hide (HB.out.trans (hb1.mono HB.out.size)); clear hb1; have kk := HK.out.below HB.out HK.out.lt; have k0 := kk.cell 0; have k1 := kk.cell 1; clear kk; have kk := HS.out.below HB.out HS.out.lt; have s0 := kk.cell 0; have s1 := kk.cell 1; have s2 := kk.cell 2; have s3 := kk.cell 3; have s4 := kk.cell 4; clear kk) | (go_at_call 34; refine (H2.out _ HB.out).mono ?_; rintro e w1 ⟨rfl, hb1⟩; replace HB := hide (HB.out.trans (hb1.mono HB.out.size)); clear hb1))
      exact bodyPost_ret (v := .bool true) (by simp [results, Tryz.results38, go_sem, ] <;> omega) rfl ⟨by rw [HF.out], HB0.out.trans (HB.out.mono HB0.out.size)⟩
    | false =>
      have HF : Hid (R = false) := by show _ = _; rw [HR.out]; simp []
      clear HR
      go_enter Tryz.func38, Tryz.ntmps38
      go_wp2_with (first | (go_at_call 39; refine (H1.out _ HB.out).mono ?_; rintro e w1 ⟨rfl, hb1⟩; replace HB := hide (HB.out.trans (hb1.mono HB.out.size)); clear hb1; have kk := HK.out.below HB.out HK.out.lt; have k0 := kk.cell 0; have k1 := kk.cell 1; clear kk; have kk := HS.out.below HB.out HS.out.lt; have s0 := kk.cell 0; have s1 := kk.cell 1; have s2 := kk.cell 2; have s3 := kk.cell 3; have s4 := kk.cell 4; clear kk) | (go_at_call 34; refine (H2.out _ HB.out).mono ?_; rintro e w1 ⟨rfl, hb1⟩; replace HB := hide (HB.out.trans (hb1.mono HB.out.size)); clear hb1))
      exact bodyPost_ret (v := .bool false) (by simp [results, Tryz.results38, go_sem, ] <;> omega) rfl ⟨by rw [HF.out], HB0.out.trans (HB.out.mono HB0.out.size)⟩
  | false =>
    have HF : Hid (R = false) := by show _ = _; rw [HR.out]; simp []
    clear HR
    go_enter Tryz.func38, Tryz.ntmps38
    go_wp2_with (first | (go_at_call 39; refine (H1.out _ HB.out).mono ?_; rintro e w1 ⟨rfl, hb1⟩; replace HB := hide (HB.out.trans (hb1.mono HB.out.size)); clear hb1; have kk := HK.out.below HB.out HK.out.lt; have k0 := kk.cell 0; have k1 := kk.cell 1; clear kk; have kk := HS.out.below HB.out HS.out.lt; have s0 := kk.cell 0; have s1 := kk.cell 1; have s2 := kk.cell 2; have s3 := kk.cell 3; have s4 := kk.cell 4; clear kk) | (go_at_call 34; refine (H2.out _ HB.out).mono ?_; rintro e w1 ⟨rfl, hb1⟩; replace HB := hide (HB.out.trans (hb1.mono HB.out.size)); clear hb1))
    exact bodyPost_ret (v := .bool false) (by simp [results, Tryz.results38, go_sem, ] <;> omega) rfl ⟨by rw [HF.out], HB0.out.trans (HB.out.mono HB0.out.size)⟩

set_option maxRecDepth 20000 in
set_option maxHeartbeats 2000000 in
theorem pisQueue11_any {w : World} {u : Int} {s : Stt} {Ab As Aq : Option Addr} {cb cs cq ps : Nat} (hS : StR w (.agg #[.slice Ab s.boxes.length cb, .slice As s.subs.length cs, .slice Aq s.queue.length cq, .int .i64 s.nextValid, .int .i64 s.nextItem]) s) (hk : Blk w ps #[.slice Ab s.boxes.length cb, .slice As s.subs.length cs, .slice Aq s.queue.length cq, .int .i64 s.nextValid, .int .i64 s.nextItem] 28) (hl : s.boxes.length ≤ 1000000) :
    Calls Tryz.prog 46 #[.int .i64 u, .pointer (some ⟨ps, 0, none⟩)] w fun e w' => e = .returned (.bool (poUser s.boxes u)) ∧ Below w.heap.size w w' := by
  have H2 := hide (puser_any hS u hl)
  have k0 := hk.cell 0
  have k1 := hk.cell 1
  have k2 := hk.cell 2
  have k3 := hk.cell 3
  have k4 := hk.cell 4
  clear hS hk
  simp only [List.getElem?_toArray, List.getElem?_cons_zero, List.getElem?_cons_succ] at k0 k1 k2 k3 k4
  generalize poUser s.boxes u = T2 at *
  generalize s.boxes.length = lb at *
  generalize s.subs.length = ls at *
  generalize s.queue.length = lq at *
  generalize s.nextValid = nv at *
  generalize s.nextItem = ni at *
  go_enter Tryz.func46, Tryz.ntmps46
  go_wp2_with (go_at_call 34; refine H2.out.mono ?_; rintro e w1 ⟨rfl, hb1⟩; replace hb1 := hide hb1)
  go_ret
  exact ⟨rfl, hb1.out⟩

set_option maxRecDepth 20000 in
set_option maxHeartbeats 8000000 in
theorem pisQueue1_any {v : Value} {q : It} {w : World} {s : Stt} {Ab As Aq : Option Addr} {cb cs cq ps : Nat} (h : ItV w v q) (hd : q.fr.length ≤ 1000000) (hS : StR w (.agg #[.slice Ab s.boxes.length cb, .slice As s.subs.length cs, .slice Aq s.queue.length cq, .int .i64 s.nextValid, .int .i64 s.nextItem]) s) (hk : Blk w ps #[.slice Ab s.boxes.length cb, .slice As s.subs.length cs, .slice Aq s.queue.length cq, .int .i64 s.nextValid, .int .i64 s.nextItem] 28) (hl : s.boxes.length ≤ 1000000) :
    Calls Tryz.prog 43 #[v, .pointer (some ⟨ps, 0, none⟩)] w fun e w' => e = .returned (.bool (itB q && decide (q.id < s.nextItem) && q.fr.all (poUser s.boxes))) ∧ Below w.heap.size w w' := by
  have hv := h
  obtain ⟨mv, rfl, hm⟩ := h
  obtain ⟨A, c, rfl⟩ := hm.form
  have HB0 : Hid (Below w.heap.size w (w.alloc (.cells #[.int .i64 q.id, .string ⟨q.frm.toArray⟩, .slice A q.fr.length c, .int .i64 q.born, .int .i64 q.tries, .int .i64 q.due, .string ⟨q.body.toArray⟩] 71))) := (Below.refl w.heap.size w).alloc (Nat.le_refl _) _
  have HB : Hid (Below (w.alloc (.cells #[.int .i64 q.id, .string ⟨q.frm.toArray⟩, .slice A q.fr.length c, .int .i64 q.born, .int .i64 q.tries, .int .i64 q.due, .string ⟨q.body.toArray⟩] 71)).heap.size (w.alloc (.cells #[.int .i64 q.id, .string ⟨q.frm.toArray⟩, .slice A q.fr.length c, .int .i64 q.born, .int .i64 q.tries, .int .i64 q.due, .string ⟨q.body.toArray⟩] 71)) (w.alloc (.cells #[.int .i64 q.id, .string ⟨q.frm.toArray⟩, .slice A q.fr.length c, .int .i64 q.born, .int .i64 q.tries, .int .i64 q.due, .string ⟨q.body.toArray⟩] 71))) := Below.refl _ _
  have HK := hide (Blk.new w #[.int .i64 q.id, .string ⟨q.frm.toArray⟩, .slice A q.fr.length c, .int .i64 q.born, .int .i64 q.tries, .int .i64 q.due, .string ⟨q.body.toArray⟩] 71)
  have HS := hide (hk.alloc (.cells #[.int .i64 q.id, .string ⟨q.frm.toArray⟩, .slice A q.fr.length c, .int .i64 q.born, .int .i64 q.tries, .int .i64 q.due, .string ⟨q.body.toArray⟩] 71))
  have HV0 := hide (hv.below HB0.out)
  have HM0 := hide (hm.below stb_int HB0.out)
  have HT0 := hide (hS.below HB0.out)
  have eg1 : ∀ args w, (callFunc 46 args).run Tryz.prog w = .ok (.enter 46 args) w := enters_of Tryz.func46 (by kernel_rfl) rfl
  have H1 : Hid (∀ W, Below (w.alloc (.cells #[.int .i64 q.id, .string ⟨q.frm.toArray⟩, .slice A q.fr.length c, .int .i64 q.born, .int .i64 q.tries, .int .i64 q.due, .string ⟨q.body.toArray⟩] 71)).heap.size (w.alloc (.cells #[.int .i64 q.id, .string ⟨q.frm.toArray⟩, .slice A q.fr.length c, .int .i64 q.born, .int .i64 q.tries, .int .i64 q.due, .string ⟨q.body.toArray⟩] 71)) W → Calls Tryz.prog 44 #[.agg #[.int .i64 q.id, .string ⟨q.frm.toArray⟩, .slice A q.fr.length c, .int .i64 q.born, .int .i64 q.tries, .int .i64 q.due, .string ⟨q.body.toArray⟩]] W fun e w' => e = .returned (.bool (itB q)) ∧ Below W.heap.size W w') := fun W hW => pisItem_any (HV0.out.below hW) hd
  have H2 : Hid (∀ W, Below (w.alloc (.cells #[.int .i64 q.id, .string ⟨q.frm.toArray⟩, .slice A q.fr.length c, .int .i64 q.born, .int .i64 q.tries, .int .i64 q.due, .string ⟨q.body.toArray⟩] 71)).heap.size (w.alloc (.cells #[.int .i64 q.id, .string ⟨q.frm.toArray⟩, .slice A q.fr.length c, .int .i64 q.born, .int .i64 q.tries, .int .i64 q.due, .string ⟨q.body.toArray⟩] 71)) W → Calls Tryz.prog 45 #[.slice A q.fr.length c, .func (.func 46) #[] #[.pointer (some ⟨ps, 0, none⟩)]] W fun e w' => e = .returned (.bool (q.fr.all (poUser s.boxes))) ∧ Below W.heap.size W w') := fun W hW =>
    pallint_any (HM0.out.below stb_int hW) hd (poUser s.boxes) _ #[] #[.pointer (some ⟨ps, 0, none⟩)] eg1 (fun i hi v W' hW' hv => by cases hv; exact pisQueue11_any ((HT0.out.below hW).below hW') ((HS.out.below hW HS.out.lt).below hW' (HS.out.below hW HS.out.lt).lt) hl)
  clear hv hm HV0 hS HT0 hk HM0 eg1
  generalize itB q = T1 at *
  generalize q.fr.all (poUser s.boxes) = T2 at *
  generalize s.boxes.length = lb at *
  generalize s.subs.length = ls at *
  generalize s.queue.length = lq at *
  obtain ⟨qi, qf, qr, qb, qt, qd, qo⟩ := q
  dsimp only at *
  generalize qr.length = lr at *
  generalize s.nextValid = nv at *
  generalize s.nextItem = ni at *
  obtain ⟨R, HR⟩ : ∃ R, Hid (R = (T1 && decide (qi < ni) && T2)) := ⟨_, hide rfl⟩
  rw [← HR.out]
  cases T1 with
  | true =>
    by_cases h0 : qi < ni
    · skip
      cases T2 with
      | true =>
        have HF : Hid (R = true) := by show _ = _; rw [HR.out]; simp [h0]
        clear HR
        go_enter Tryz.func43, Tryz.ntmps43
        go_wp2_with (first | (go_at_call 44; refine (H1.out _ HB.out).mono ?_; rintro e w1 ⟨rfl, hb1⟩; replace HB := hide (HB.out.trans (hb1.mono HB.out.size)); clear hb1; have kk := HK.out.below HB.out HK.out.lt; have k0 := kk.cell 0; have k1 := kk.cell 1; have k2 := kk.cell 2; have k3 := kk.cell 3; have k4 := kk.cell 4; have k5 := kk.cell 5; have k6 := kk.cell 6; clear kk; have kk := HS.out.below HB.out HS.out.lt; have s0 := kk.cell 0; have s1 := kk.cell 1; have s2 := kk.cell 2; have s3 := kk.cell 3; have s4 := kk.cell 4; clear kk) | (go_at_call 45; refine (H2.out _ HB.out).mono ?_; rintro e w1 ⟨rfl, hb1⟩; replace HB := hide (HB.out.trans (hb1.mono HB.out.size)); clear hb1))
        exact bodyPost_ret (v := .bool true) (by simp [results, Tryz.results43, go_sem, h0] <;> omega) rfl ⟨by rw [HF.out], HB0.out.trans (HB.out.mono HB0.out.size)⟩
      | false =>
        have HF : Hid (R = false) := by show _ = _; rw [HR.out]; simp [h0]
        clear HR
        go_enter Tryz.func43, Tryz.ntmps43
        go_wp2_with (first | (go_at_call 44; refine (H1.out _ HB.out).mono ?_; rintro e w1 ⟨rfl, hb1⟩; replace HB := hide (HB.out.trans (hb1.mono HB.out.size)); clear hb1; have kk := HK.out.below HB.out HK.out.lt; have k0 := kk.cell 0; have k1 := kk.cell 1; have k2 := kk.cell 2; have k3 := kk.cell 3; have k4 := kk.cell 4; have k5 := kk.cell 5; have k6 := kk.cell 6; clear kk; have kk := HS.out.below HB.out HS.out.lt; have s0 := kk.cell 0; have s1 := kk.cell 1; have s2 := kk.cell 2; have s3 := kk.cell 3; have s4 := kk.cell 4; clear kk) | (go_at_call 45; refine (H2.out _ HB.out).mono ?_; rintro e w1 ⟨rfl, hb1⟩; replace HB := hide (HB.out.trans (hb1.mono HB.out.size)); clear hb1))
        exact bodyPost_ret (v := .bool false) (by simp [results, Tryz.results43, go_sem, h0] <;> omega) rfl ⟨by rw [HF.out], HB0.out.trans (HB.out.mono HB0.out.size)⟩
    · skip
      have HF : Hid (R = false) := by show _ = _; rw [HR.out]; simp [h0]
      clear HR
      go_enter Tryz.func43, Tryz.ntmps43
      go_wp2_with (first | (go_at_call 44; refine (H1.out _ HB.out).mono ?_; rintro e w1 ⟨rfl, hb1⟩; replace HB := hide (HB.out.trans (hb1.mono HB.out.size)); clear hb1; have kk := HK.out.below HB.out HK.out.lt; have k0 := kk.cell 0; have k1 := kk.cell 1; have k2 := kk.cell 2; have k3 := kk.cell 3; have k4 := kk.cell 4; have k5 := kk.cell 5; have k6 := kk.cell 6; clear kk; have kk := HS.out.below HB.out HS.out.lt; have s0 := kk.cell 0; have s1 := kk.cell 1; have s2 := kk.cell 2; have s3 := kk.cell 3; have s4 := kk.cell 4; clear kk) | (go_at_call 45; refine (H2.out _ HB.out).mono ?_; rintro e w1 ⟨rfl, hb1⟩; replace HB := hide (HB.out.trans (hb1.mono HB.out.size)); clear hb1))
      exact bodyPost_ret (v := .bool false) (by simp [results, Tryz.results43, go_sem, h0] <;> omega) rfl ⟨by rw [HF.out], HB0.out.trans (HB.out.mono HB0.out.size)⟩
  | false =>
    have HF : Hid (R = false) := by show _ = _; rw [HR.out]; simp []
    clear HR
    go_enter Tryz.func43, Tryz.ntmps43
    go_wp2_with (first | (go_at_call 44; refine (H1.out _ HB.out).mono ?_; rintro e w1 ⟨rfl, hb1⟩; replace HB := hide (HB.out.trans (hb1.mono HB.out.size)); clear hb1; have kk := HK.out.below HB.out HK.out.lt; have k0 := kk.cell 0; have k1 := kk.cell 1; have k2 := kk.cell 2; have k3 := kk.cell 3; have k4 := kk.cell 4; have k5 := kk.cell 5; have k6 := kk.cell 6; clear kk; have kk := HS.out.below HB.out HS.out.lt; have s0 := kk.cell 0; have s1 := kk.cell 1; have s2 := kk.cell 2; have s3 := kk.cell 3; have s4 := kk.cell 4; clear kk) | (go_at_call 45; refine (H2.out _ HB.out).mono ?_; rintro e w1 ⟨rfl, hb1⟩; replace HB := hide (HB.out.trans (hb1.mono HB.out.size)); clear hb1))
    exact bodyPost_ret (v := .bool false) (by simp [results, Tryz.results43, go_sem, ] <;> omega) rfl ⟨by rw [HF.out], HB0.out.trans (HB.out.mono HB0.out.size)⟩

set_option maxRecDepth 20000 in
set_option maxHeartbeats 8000000 in
theorem pareBoxes_any {v : Value} {w : World} {s : Stt} {ea : Addr} (hE : EN w ea) (hS : StR w v s) (hd : BdS s) :
    Calls Tryz.prog 18 #[v] w fun e w' => e = .returned (.bool (formBx s)) ∧ Below w.heap.size w w' := by
  have hv := hS
  obtain ⟨bv, sv, qv, rfl, hb, hs, hq⟩ := hS
  obtain ⟨Ab, cb, rfl⟩ := hb.form
  obtain ⟨As, cs, rfl⟩ := hs.form
  obtain ⟨Aq, cq, rfl⟩ := hq.form
  have HB0 : Hid (Below w.heap.size w (w.alloc (.cells #[.slice Ab s.boxes.length cb, .slice As s.subs.length cs, .slice Aq s.queue.length cq, .int .i64 s.nextValid, .int .i64 s.nextItem] 28))) := (Below.refl w.heap.size w).alloc (Nat.le_refl _) _
  have HB : Hid (Below (w.alloc (.cells #[.slice Ab s.boxes.length cb, .slice As s.subs.length cs, .slice Aq s.queue.length cq, .int .i64 s.nextValid, .int .i64 s.nextItem] 28)).heap.size (w.alloc (.cells #[.slice Ab s.boxes.length cb, .slice As s.subs.length cs, .slice Aq s.queue.length cq, .int .i64 s.nextValid, .int .i64 s.nextItem] 28)) (w.alloc (.cells #[.slice Ab s.boxes.length cb, .slice As s.subs.length cs, .slice Aq s.queue.length cq, .int .i64 s.nextValid, .int .i64 s.nextItem] 28))) := Below.refl _ _
  have HK := hide (Blk.new w #[.slice Ab s.boxes.length cb, .slice As s.subs.length cs, .slice Aq s.queue.length cq, .int .i64 s.nextValid, .int .i64 s.nextItem] 28)
  have HT0 := hide (hv.below HB0.out)
  have HX0 := hide (hb.below stb_bx HB0.out)
  have HE0 := hide (hE.below HB0.out)
  have eg1 : ∀ args w, (callFunc 29 args).run Tryz.prog w = .ok (.enter 29 args) w := enters_of Tryz.func29 (by kernel_rfl) rfl
  have eg2 : ∀ args w, (callFunc 32 args).run Tryz.prog w = .ok (.enter 32 args) w := enters_of Tryz.func32 (by kernel_rfl) rfl
  have H1 : Hid (∀ W, Below (w.alloc (.cells #[.slice Ab s.boxes.length cb, .slice As s.subs.length cs, .slice Aq s.queue.length cq, .int .i64 s.nextValid, .int .i64 s.nextItem] 28)).heap.size (w.alloc (.cells #[.slice Ab s.boxes.length cb, .slice As s.subs.length cs, .slice Aq s.queue.length cq, .int .i64 s.nextValid, .int .i64 s.nextItem] 28)) W → Calls Tryz.prog 28 #[.slice Ab s.boxes.length cb, .func (.func 29) #[] #[]] W fun e w' => e = .returned (.bool (risL bxLt s.boxes)) ∧ Below W.heap.size W w') := fun W hW =>
    prisesBox_any (HX0.out.below stb_bx hW) hd.boxes bxLt (fun x y => sbO x.user x.name y.user y.name) (fun x y => sbO_ge _ _ _ _) _ eg1 (fun x y u v W hu hv => by obtain ⟨_, rfl, _⟩ := hu; obtain ⟨_, rfl, _⟩ := hv; exact pboxOrder_any _ _ _ _ _ _ _ _ _ _ W)
  have H2 : Hid (∀ W, Below (w.alloc (.cells #[.slice Ab s.boxes.length cb, .slice As s.subs.length cs, .slice Aq s.queue.length cq, .int .i64 s.nextValid, .int .i64 s.nextItem] 28)).heap.size (w.alloc (.cells #[.slice Ab s.boxes.length cb, .slice As s.subs.length cs, .slice Aq s.queue.length cq, .int .i64 s.nextValid, .int .i64 s.nextItem] 28)) W → Calls Tryz.prog 30 #[.slice Ab s.boxes.length cb] W fun e w' => e = .returned (.bool (ownV (s.boxes.map Bx.valid))) ∧ Below W.heap.size W w') := fun W hW => pown_any (HX0.out.below stb_bx hW) hd.boxes
  have H3 : Hid (∀ W, Below (w.alloc (.cells #[.slice Ab s.boxes.length cb, .slice As s.subs.length cs, .slice Aq s.queue.length cq, .int .i64 s.nextValid, .int .i64 s.nextItem] 28)).heap.size (w.alloc (.cells #[.slice Ab s.boxes.length cb, .slice As s.subs.length cs, .slice Aq s.queue.length cq, .int .i64 s.nextValid, .int .i64 s.nextItem] 28)) W → Calls Tryz.prog 31 #[.slice Ab s.boxes.length cb, .func (.func 32) #[] #[.pointer (some ⟨w.heap.size, 0, none⟩)]] W fun e w' => e = .returned (.bool (s.boxes.all (fun b => bxB b && decide (b.valid < s.nextValid) && poUser s.boxes b.user))) ∧ Below W.heap.size W w') := fun W hW =>
    pallBox_any (HX0.out.below stb_bx hW) hd.boxes (fun b => bxB b && decide (b.valid < s.nextValid) && poUser s.boxes b.user) _ #[] #[.pointer (some ⟨w.heap.size, 0, none⟩)] eg2 (fun i hi v W' hW' hv => pareBoxes1_any ((HE0.out.below hW).below hW') hv (hd.bx _ (List.getElem_mem _)) ((HT0.out.below hW).below hW') ((HK.out.below hW HK.out.lt).below hW' (HK.out.below hW HK.out.lt).lt) hd.boxes)
  obtain ⟨R, HR⟩ : ∃ R, Hid (R = formBx s) := ⟨_, hide rfl⟩
  rw [← HR.out]
  replace HR : Hid (R = (decide (s.boxes.length ≤ 24) && risL bxLt s.boxes && ownV (s.boxes.map Bx.valid) && s.boxes.all (fun b => bxB b && decide (b.valid < s.nextValid) && poUser s.boxes b.user))) := HR
  clear hv hb hs hq HT0 HX0 eg1 eg2 hE HE0
  generalize risL bxLt s.boxes = T1 at *
  generalize ownV (s.boxes.map Bx.valid) = T2 at *
  generalize s.boxes.all (fun b => bxB b && decide (b.valid < s.nextValid) && poUser s.boxes b.user) = T3 at *
  clear hd
  generalize s.boxes.length = l0 at *
  generalize s.nextValid = nv at *
  generalize s.nextItem = ni at *
  generalize s.subs.length = ls at *
  generalize s.queue.length = lq at *
  by_cases h0 : l0 ≤ 24
  · skip
    cases T1 with
    | true =>
      cases T2 with
      | true =>
        cases T3 with
        | true =>
          have HF : Hid (R = true) := by show _ = _; rw [HR.out]; simp [h0]
          clear HR
          go_enter Tryz.func18, Tryz.ntmps18
          go_wp2_with (first | (go_at_call 28; refine (H1.out _ HB.out).mono ?_; rintro e w1 ⟨rfl, hb1⟩; replace HB := hide (HB.out.trans (hb1.mono HB.out.size)); clear hb1; have kk := HK.out.below HB.out HK.out.lt; have k0 := kk.cell 0; have k1 := kk.cell 1; have k2 := kk.cell 2; have k3 := kk.cell 3; have k4 := kk.cell 4; clear kk) | (go_at_call 30; refine (H2.out _ HB.out).mono ?_; rintro e w1 ⟨rfl, hb1⟩; replace HB := hide (HB.out.trans (hb1.mono HB.out.size)); clear hb1; have kk := HK.out.below HB.out HK.out.lt; have k0 := kk.cell 0; have k1 := kk.cell 1; have k2 := kk.cell 2; have k3 := kk.cell 3; have k4 := kk.cell 4; clear kk) | (go_at_call 31; refine (H3.out _ HB.out).mono ?_; rintro e w1 ⟨rfl, hb1⟩; replace HB := hide (HB.out.trans (hb1.mono HB.out.size)); clear hb1; have kk := HK.out.below HB.out HK.out.lt; have k0 := kk.cell 0; have k1 := kk.cell 1; have k2 := kk.cell 2; have k3 := kk.cell 3; have k4 := kk.cell 4; clear kk))
          exact bodyPost_ret (v := .bool true) (by simp [results, Tryz.results18, go_sem, h0] <;> omega) rfl ⟨by rw [HF.out], HB0.out.trans (HB.out.mono HB0.out.size)⟩
        | false =>
          have HF : Hid (R = false) := by show _ = _; rw [HR.out]; simp [h0]
          clear HR
          go_enter Tryz.func18, Tryz.ntmps18
          go_wp2_with (first | (go_at_call 28; refine (H1.out _ HB.out).mono ?_; rintro e w1 ⟨rfl, hb1⟩; replace HB := hide (HB.out.trans (hb1.mono HB.out.size)); clear hb1; have kk := HK.out.below HB.out HK.out.lt; have k0 := kk.cell 0; have k1 := kk.cell 1; have k2 := kk.cell 2; have k3 := kk.cell 3; have k4 := kk.cell 4; clear kk) | (go_at_call 30; refine (H2.out _ HB.out).mono ?_; rintro e w1 ⟨rfl, hb1⟩; replace HB := hide (HB.out.trans (hb1.mono HB.out.size)); clear hb1; have kk := HK.out.below HB.out HK.out.lt; have k0 := kk.cell 0; have k1 := kk.cell 1; have k2 := kk.cell 2; have k3 := kk.cell 3; have k4 := kk.cell 4; clear kk) | (go_at_call 31; refine (H3.out _ HB.out).mono ?_; rintro e w1 ⟨rfl, hb1⟩; replace HB := hide (HB.out.trans (hb1.mono HB.out.size)); clear hb1; have kk := HK.out.below HB.out HK.out.lt; have k0 := kk.cell 0; have k1 := kk.cell 1; have k2 := kk.cell 2; have k3 := kk.cell 3; have k4 := kk.cell 4; clear kk))
          exact bodyPost_ret (v := .bool false) (by simp [results, Tryz.results18, go_sem, h0] <;> omega) rfl ⟨by rw [HF.out], HB0.out.trans (HB.out.mono HB0.out.size)⟩
      | false =>
        have HF : Hid (R = false) := by show _ = _; rw [HR.out]; simp [h0]
        clear HR
        go_enter Tryz.func18, Tryz.ntmps18
        go_wp2_with (first | (go_at_call 28; refine (H1.out _ HB.out).mono ?_; rintro e w1 ⟨rfl, hb1⟩; replace HB := hide (HB.out.trans (hb1.mono HB.out.size)); clear hb1; have kk := HK.out.below HB.out HK.out.lt; have k0 := kk.cell 0; have k1 := kk.cell 1; have k2 := kk.cell 2; have k3 := kk.cell 3; have k4 := kk.cell 4; clear kk) | (go_at_call 30; refine (H2.out _ HB.out).mono ?_; rintro e w1 ⟨rfl, hb1⟩; replace HB := hide (HB.out.trans (hb1.mono HB.out.size)); clear hb1; have kk := HK.out.below HB.out HK.out.lt; have k0 := kk.cell 0; have k1 := kk.cell 1; have k2 := kk.cell 2; have k3 := kk.cell 3; have k4 := kk.cell 4; clear kk) | (go_at_call 31; refine (H3.out _ HB.out).mono ?_; rintro e w1 ⟨rfl, hb1⟩; replace HB := hide (HB.out.trans (hb1.mono HB.out.size)); clear hb1; have kk := HK.out.below HB.out HK.out.lt; have k0 := kk.cell 0; have k1 := kk.cell 1; have k2 := kk.cell 2; have k3 := kk.cell 3; have k4 := kk.cell 4; clear kk))
        exact bodyPost_ret (v := .bool false) (by simp [results, Tryz.results18, go_sem, h0] <;> omega) rfl ⟨by rw [HF.out], HB0.out.trans (HB.out.mono HB0.out.size)⟩
    | false =>
      have HF : Hid (R = false) := by show _ = _; rw [HR.out]; simp [h0]
      clear HR
      go_enter Tryz.func18, Tryz.ntmps18
      go_wp2_with (first | (go_at_call 28; refine (H1.out _ HB.out).mono ?_; rintro e w1 ⟨rfl, hb1⟩; replace HB := hide (HB.out.trans (hb1.mono HB.out.size)); clear hb1; have kk := HK.out.below HB.out HK.out.lt; have k0 := kk.cell 0; have k1 := kk.cell 1; have k2 := kk.cell 2; have k3 := kk.cell 3; have k4 := kk.cell 4; clear kk) | (go_at_call 30; refine (H2.out _ HB.out).mono ?_; rintro e w1 ⟨rfl, hb1⟩; replace HB := hide (HB.out.trans (hb1.mono HB.out.size)); clear hb1; have kk := HK.out.below HB.out HK.out.lt; have k0 := kk.cell 0; have k1 := kk.cell 1; have k2 := kk.cell 2; have k3 := kk.cell 3; have k4 := kk.cell 4; clear kk) | (go_at_call 31; refine (H3.out _ HB.out).mono ?_; rintro e w1 ⟨rfl, hb1⟩; replace HB := hide (HB.out.trans (hb1.mono HB.out.size)); clear hb1; have kk := HK.out.below HB.out HK.out.lt; have k0 := kk.cell 0; have k1 := kk.cell 1; have k2 := kk.cell 2; have k3 := kk.cell 3; have k4 := kk.cell 4; clear kk))
      exact bodyPost_ret (v := .bool false) (by simp [results, Tryz.results18, go_sem, h0] <;> omega) rfl ⟨by rw [HF.out], HB0.out.trans (HB.out.mono HB0.out.size)⟩
  · skip
    have HF : Hid (R = false) := by show _ = _; rw [HR.out]; simp [h0]
    clear HR
    go_enter Tryz.func18, Tryz.ntmps18
    go_wp2_with (first | (go_at_call 28; refine (H1.out _ HB.out).mono ?_; rintro e w1 ⟨rfl, hb1⟩; replace HB := hide (HB.out.trans (hb1.mono HB.out.size)); clear hb1; have kk := HK.out.below HB.out HK.out.lt; have k0 := kk.cell 0; have k1 := kk.cell 1; have k2 := kk.cell 2; have k3 := kk.cell 3; have k4 := kk.cell 4; clear kk) | (go_at_call 30; refine (H2.out _ HB.out).mono ?_; rintro e w1 ⟨rfl, hb1⟩; replace HB := hide (HB.out.trans (hb1.mono HB.out.size)); clear hb1; have kk := HK.out.below HB.out HK.out.lt; have k0 := kk.cell 0; have k1 := kk.cell 1; have k2 := kk.cell 2; have k3 := kk.cell 3; have k4 := kk.cell 4; clear kk) | (go_at_call 31; refine (H3.out _ HB.out).mono ?_; rintro e w1 ⟨rfl, hb1⟩; replace HB := hide (HB.out.trans (hb1.mono HB.out.size)); clear hb1; have kk := HK.out.below HB.out HK.out.lt; have k0 := kk.cell 0; have k1 := kk.cell 1; have k2 := kk.cell 2; have k3 := kk.cell 3; have k4 := kk.cell 4; clear kk))
    exact bodyPost_ret (v := .bool false) (by simp [results, Tryz.results18, go_sem, h0] <;> omega) rfl ⟨by rw [HF.out], HB0.out.trans (HB.out.mono HB0.out.size)⟩

set_option maxRecDepth 20000 in
set_option maxHeartbeats 8000000 in
theorem pareSubs_any {v : Value} {w : World} {s : Stt} {ea : Addr} (hE : EN w ea) (hS : StR w v s) (hd : BdS s) :
    Calls Tryz.prog 19 #[v] w fun e w' => e = .returned (.bool (formSb s)) ∧ Below w.heap.size w w' := by
  have hv := hS
  obtain ⟨bv, sv, qv, rfl, hb, hs, hq⟩ := hS
  obtain ⟨Ab, cb, rfl⟩ := hb.form
  obtain ⟨As, cs, rfl⟩ := hs.form
  obtain ⟨Aq, cq, rfl⟩ := hq.form
  have HB0 : Hid (Below w.heap.size w (w.alloc (.cells #[.slice Ab s.boxes.length cb, .slice As s.subs.length cs, .slice Aq s.queue.length cq, .int .i64 s.nextValid, .int .i64 s.nextItem] 28))) := (Below.refl w.heap.size w).alloc (Nat.le_refl _) _
  have HB : Hid (Below (w.alloc (.cells #[.slice Ab s.boxes.length cb, .slice As s.subs.length cs, .slice Aq s.queue.length cq, .int .i64 s.nextValid, .int .i64 s.nextItem] 28)).heap.size (w.alloc (.cells #[.slice Ab s.boxes.length cb, .slice As s.subs.length cs, .slice Aq s.queue.length cq, .int .i64 s.nextValid, .int .i64 s.nextItem] 28)) (w.alloc (.cells #[.slice Ab s.boxes.length cb, .slice As s.subs.length cs, .slice Aq s.queue.length cq, .int .i64 s.nextValid, .int .i64 s.nextItem] 28))) := Below.refl _ _
  have HK := hide (Blk.new w #[.slice Ab s.boxes.length cb, .slice As s.subs.length cs, .slice Aq s.queue.length cq, .int .i64 s.nextValid, .int .i64 s.nextItem] 28)
  have HT0 := hide (hv.below HB0.out)
  have HX0 := hide (hs.below stb_sb HB0.out)
  have HE0 := hide (hE.below HB0.out)
  have eg1 : ∀ args w, (callFunc 36 args).run Tryz.prog w = .ok (.enter 36 args) w := enters_of Tryz.func36 (by kernel_rfl) rfl
  have eg2 : ∀ args w, (callFunc 38 args).run Tryz.prog w = .ok (.enter 38 args) w := enters_of Tryz.func38 (by kernel_rfl) rfl
  have H1 : Hid (∀ W, Below (w.alloc (.cells #[.slice Ab s.boxes.length cb, .slice As s.subs.length cs, .slice Aq s.queue.length cq, .int .i64 s.nextValid, .int .i64 s.nextItem] 28)).heap.size (w.alloc (.cells #[.slice Ab s.boxes.length cb, .slice As s.subs.length cs, .slice Aq s.queue.length cq, .int .i64 s.nextValid, .int .i64 s.nextItem] 28)) W → Calls Tryz.prog 35 #[.slice As s.subs.length cs, .func (.func 36) #[] #[]] W fun e w' => e = .returned (.bool (risL sbLt s.subs)) ∧ Below W.heap.size W w') := fun W hW =>
    prisesSub_any (HX0.out.below stb_sb hW) hd.subs sbLt (fun x y => sbO x.user x.name y.user y.name) (fun x y => sbO_ge _ _ _ _) _ eg1 (fun x y u v W hu hv => by cases hu; cases hv; exact psubOrder_any _ _ _ _ W)
  have H3 : Hid (∀ W, Below (w.alloc (.cells #[.slice Ab s.boxes.length cb, .slice As s.subs.length cs, .slice Aq s.queue.length cq, .int .i64 s.nextValid, .int .i64 s.nextItem] 28)).heap.size (w.alloc (.cells #[.slice Ab s.boxes.length cb, .slice As s.subs.length cs, .slice Aq s.queue.length cq, .int .i64 s.nextValid, .int .i64 s.nextItem] 28)) W → Calls Tryz.prog 37 #[.slice As s.subs.length cs, .func (.func 38) #[] #[.pointer (some ⟨w.heap.size, 0, none⟩)]] W fun e w' => e = .returned (.bool (s.subs.all (fun x => poName x.name && poUser s.boxes x.user))) ∧ Below W.heap.size W w') := fun W hW =>
    pallSub_any (HX0.out.below stb_sb hW) hd.subs (fun x => poName x.name && poUser s.boxes x.user) _ #[] #[.pointer (some ⟨w.heap.size, 0, none⟩)] eg2 (fun i hi v W' hW' hv => pareSubs1_any ((HE0.out.below hW).below hW') hv (hd.sb _ (List.getElem_mem _)) ((HT0.out.below hW).below hW') ((HK.out.below hW HK.out.lt).below hW' (HK.out.below hW HK.out.lt).lt) hd.boxes)
  obtain ⟨R, HR⟩ : ∃ R, Hid (R = formSb s) := ⟨_, hide rfl⟩
  rw [← HR.out]
  replace HR : Hid (R = (decide (s.subs.length ≤ 24) && risL sbLt s.subs && s.subs.all (fun x => poName x.name && poUser s.boxes x.user))) := HR
  clear hv hb hs hq HT0 HX0 eg1 eg2 hE HE0
  generalize risL sbLt s.subs = T1 at *
  generalize s.subs.all (fun x => poName x.name && poUser s.boxes x.user) = T3 at *
  clear hd
  generalize s.subs.length = l0 at *
  generalize s.nextValid = nv at *
  generalize s.nextItem = ni at *
  generalize s.boxes.length = lb at *
  generalize s.queue.length = lq at *
  by_cases h0 : l0 ≤ 24
  · skip
    cases T1 with
    | true =>
      cases T3 with
      | true =>
        have HF : Hid (R = true) := by show _ = _; rw [HR.out]; simp [h0]
        clear HR
        go_enter Tryz.func19, Tryz.ntmps19
        go_wp2_with (first | (go_at_call 35; refine (H1.out _ HB.out).mono ?_; rintro e w1 ⟨rfl, hb1⟩; replace HB := hide (HB.out.trans (hb1.mono HB.out.size)); clear hb1; have kk := HK.out.below HB.out HK.out.lt; have k0 := kk.cell 0; have k1 := kk.cell 1; have k2 := kk.cell 2; have k3 := kk.cell 3; have k4 := kk.cell 4; clear kk) | (go_at_call 37; refine (H3.out _ HB.out).mono ?_; rintro e w1 ⟨rfl, hb1⟩; replace HB := hide (HB.out.trans (hb1.mono HB.out.size)); clear hb1; have kk := HK.out.below HB.out HK.out.lt; have k0 := kk.cell 0; have k1 := kk.cell 1; have k2 := kk.cell 2; have k3 := kk.cell 3; have k4 := kk.cell 4; clear kk))
        exact bodyPost_ret (v := .bool true) (by simp [results, Tryz.results19, go_sem, h0] <;> omega) rfl ⟨by rw [HF.out], HB0.out.trans (HB.out.mono HB0.out.size)⟩
      | false =>
        have HF : Hid (R = false) := by show _ = _; rw [HR.out]; simp [h0]
        clear HR
        go_enter Tryz.func19, Tryz.ntmps19
        go_wp2_with (first | (go_at_call 35; refine (H1.out _ HB.out).mono ?_; rintro e w1 ⟨rfl, hb1⟩; replace HB := hide (HB.out.trans (hb1.mono HB.out.size)); clear hb1; have kk := HK.out.below HB.out HK.out.lt; have k0 := kk.cell 0; have k1 := kk.cell 1; have k2 := kk.cell 2; have k3 := kk.cell 3; have k4 := kk.cell 4; clear kk) | (go_at_call 37; refine (H3.out _ HB.out).mono ?_; rintro e w1 ⟨rfl, hb1⟩; replace HB := hide (HB.out.trans (hb1.mono HB.out.size)); clear hb1; have kk := HK.out.below HB.out HK.out.lt; have k0 := kk.cell 0; have k1 := kk.cell 1; have k2 := kk.cell 2; have k3 := kk.cell 3; have k4 := kk.cell 4; clear kk))
        exact bodyPost_ret (v := .bool false) (by simp [results, Tryz.results19, go_sem, h0] <;> omega) rfl ⟨by rw [HF.out], HB0.out.trans (HB.out.mono HB0.out.size)⟩
    | false =>
      have HF : Hid (R = false) := by show _ = _; rw [HR.out]; simp [h0]
      clear HR
      go_enter Tryz.func19, Tryz.ntmps19
      go_wp2_with (first | (go_at_call 35; refine (H1.out _ HB.out).mono ?_; rintro e w1 ⟨rfl, hb1⟩; replace HB := hide (HB.out.trans (hb1.mono HB.out.size)); clear hb1; have kk := HK.out.below HB.out HK.out.lt; have k0 := kk.cell 0; have k1 := kk.cell 1; have k2 := kk.cell 2; have k3 := kk.cell 3; have k4 := kk.cell 4; clear kk) | (go_at_call 37; refine (H3.out _ HB.out).mono ?_; rintro e w1 ⟨rfl, hb1⟩; replace HB := hide (HB.out.trans (hb1.mono HB.out.size)); clear hb1; have kk := HK.out.below HB.out HK.out.lt; have k0 := kk.cell 0; have k1 := kk.cell 1; have k2 := kk.cell 2; have k3 := kk.cell 3; have k4 := kk.cell 4; clear kk))
      exact bodyPost_ret (v := .bool false) (by simp [results, Tryz.results19, go_sem, h0] <;> omega) rfl ⟨by rw [HF.out], HB0.out.trans (HB.out.mono HB0.out.size)⟩
  · skip
    have HF : Hid (R = false) := by show _ = _; rw [HR.out]; simp [h0]
    clear HR
    go_enter Tryz.func19, Tryz.ntmps19
    go_wp2_with (first | (go_at_call 35; refine (H1.out _ HB.out).mono ?_; rintro e w1 ⟨rfl, hb1⟩; replace HB := hide (HB.out.trans (hb1.mono HB.out.size)); clear hb1; have kk := HK.out.below HB.out HK.out.lt; have k0 := kk.cell 0; have k1 := kk.cell 1; have k2 := kk.cell 2; have k3 := kk.cell 3; have k4 := kk.cell 4; clear kk) | (go_at_call 37; refine (H3.out _ HB.out).mono ?_; rintro e w1 ⟨rfl, hb1⟩; replace HB := hide (HB.out.trans (hb1.mono HB.out.size)); clear hb1; have kk := HK.out.below HB.out HK.out.lt; have k0 := kk.cell 0; have k1 := kk.cell 1; have k2 := kk.cell 2; have k3 := kk.cell 3; have k4 := kk.cell 4; clear kk))
    exact bodyPost_ret (v := .bool false) (by simp [results, Tryz.results19, go_sem, h0] <;> omega) rfl ⟨by rw [HF.out], HB0.out.trans (HB.out.mono HB0.out.size)⟩

set_option maxRecDepth 20000 in
set_option maxHeartbeats 8000000 in
theorem pisQueue_any {v : Value} {w : World} {s : Stt} (hS : StR w v s) (hd : BdS s) :
    Calls Tryz.prog 20 #[v] w fun e w' => e = .returned (.bool (formIt s)) ∧ Below w.heap.size w w' := by
  have hv := hS
  obtain ⟨bv, sv, qv, rfl, hb, hs, hq⟩ := hS
  obtain ⟨Ab, cb, rfl⟩ := hb.form
  obtain ⟨As, cs, rfl⟩ := hs.form
  obtain ⟨Aq, cq, rfl⟩ := hq.form
  have HB0 : Hid (Below w.heap.size w (w.alloc (.cells #[.slice Ab s.boxes.length cb, .slice As s.subs.length cs, .slice Aq s.queue.length cq, .int .i64 s.nextValid, .int .i64 s.nextItem] 28))) := (Below.refl w.heap.size w).alloc (Nat.le_refl _) _
  have HB : Hid (Below (w.alloc (.cells #[.slice Ab s.boxes.length cb, .slice As s.subs.length cs, .slice Aq s.queue.length cq, .int .i64 s.nextValid, .int .i64 s.nextItem] 28)).heap.size (w.alloc (.cells #[.slice Ab s.boxes.length cb, .slice As s.subs.length cs, .slice Aq s.queue.length cq, .int .i64 s.nextValid, .int .i64 s.nextItem] 28)) (w.alloc (.cells #[.slice Ab s.boxes.length cb, .slice As s.subs.length cs, .slice Aq s.queue.length cq, .int .i64 s.nextValid, .int .i64 s.nextItem] 28))) := Below.refl _ _
  have HK := hide (Blk.new w #[.slice Ab s.boxes.length cb, .slice As s.subs.length cs, .slice Aq s.queue.length cq, .int .i64 s.nextValid, .int .i64 s.nextItem] 28)
  have HT0 := hide (hv.below HB0.out)
  have HX0 := hide (hq.below stb_it HB0.out)
  have eg1 : ∀ args w, (callFunc 41 args).run Tryz.prog w = .ok (.enter 41 args) w := enters_of Tryz.func41 (by kernel_rfl) rfl
  have eg2 : ∀ args w, (callFunc 43 args).run Tryz.prog w = .ok (.enter 43 args) w := enters_of Tryz.func43 (by kernel_rfl) rfl
  have H1 : Hid (∀ W, Below (w.alloc (.cells #[.slice Ab s.boxes.length cb, .slice As s.subs.length cs, .slice Aq s.queue.length cq, .int .i64 s.nextValid, .int .i64 s.nextItem] 28)).heap.size (w.alloc (.cells #[.slice Ab s.boxes.length cb, .slice As s.subs.length cs, .slice Aq s.queue.length cq, .int .i64 s.nextValid, .int .i64 s.nextItem] 28)) W → Calls Tryz.prog 40 #[.slice Aq s.queue.length cq, .func (.func 41) #[] #[]] W fun e w' => e = .returned (.bool (risL itLt s.queue)) ∧ Below W.heap.size W w') := fun W hW =>
    prisesItem_any (HX0.out.below stb_it hW) hd.queue itLt (fun x y => ciV x.id y.id) (fun x y => ciV_ge _ _) _ eg1 (fun x y u v W hu hv => by obtain ⟨_, rfl, _⟩ := hu; obtain ⟨_, rfl, _⟩ := hv; exact pitemOrder_any _ _ _ _ _ _ _ _ _ _ _ _ _ _ W)
  have H3 : Hid (∀ W, Below (w.alloc (.cells #[.slice Ab s.boxes.length cb, .slice As s.subs.length cs, .slice Aq s.queue.length cq, .int .i64 s.nextValid, .int .i64 s.nextItem] 28)).heap.size (w.alloc (.cells #[.slice Ab s.boxes.length cb, .slice As s.subs.length cs, .slice Aq s.queue.length cq, .int .i64 s.nextValid, .int .i64 s.nextItem] 28)) W → Calls Tryz.prog 42 #[.slice Aq s.queue.length cq, .func (.func 43) #[] #[.pointer (some ⟨w.heap.size, 0, none⟩)]] W fun e w' => e = .returned (.bool (s.queue.all (fun q => itB q && decide (q.id < s.nextItem) && q.fr.all (poUser s.boxes)))) ∧ Below W.heap.size W w') := fun W hW =>
    pallItem_any (HX0.out.below stb_it hW) hd.queue (fun q => itB q && decide (q.id < s.nextItem) && q.fr.all (poUser s.boxes)) _ #[] #[.pointer (some ⟨w.heap.size, 0, none⟩)] eg2 (fun i hi v W' hW' hv => pisQueue1_any hv (hd.qu _ (List.getElem_mem _)) ((HT0.out.below hW).below hW') ((HK.out.below hW HK.out.lt).below hW' (HK.out.below hW HK.out.lt).lt) hd.boxes)
  obtain ⟨R, HR⟩ : ∃ R, Hid (R = formIt s) := ⟨_, hide rfl⟩
  rw [← HR.out]
  replace HR : Hid (R = (decide (s.queue.length ≤ 24) && risL itLt s.queue && s.queue.all (fun q => itB q && decide (q.id < s.nextItem) && q.fr.all (poUser s.boxes)))) := HR
  clear hv hb hs hq HT0 HX0 eg1 eg2
  generalize risL itLt s.queue = T1 at *
  generalize s.queue.all (fun q => itB q && decide (q.id < s.nextItem) && q.fr.all (poUser s.boxes)) = T3 at *
  clear hd
  generalize s.queue.length = l0 at *
  generalize s.nextValid = nv at *
  generalize s.nextItem = ni at *
  generalize s.boxes.length = lb at *
  generalize s.subs.length = ls at *
  by_cases h0 : l0 ≤ 24
  · skip
    cases T1 with
    | true =>
      cases T3 with
      | true =>
        have HF : Hid (R = true) := by show _ = _; rw [HR.out]; simp [h0]
        clear HR
        go_enter Tryz.func20, Tryz.ntmps20
        go_wp2_with (first | (go_at_call 40; refine (H1.out _ HB.out).mono ?_; rintro e w1 ⟨rfl, hb1⟩; replace HB := hide (HB.out.trans (hb1.mono HB.out.size)); clear hb1; have kk := HK.out.below HB.out HK.out.lt; have k0 := kk.cell 0; have k1 := kk.cell 1; have k2 := kk.cell 2; have k3 := kk.cell 3; have k4 := kk.cell 4; clear kk) | (go_at_call 42; refine (H3.out _ HB.out).mono ?_; rintro e w1 ⟨rfl, hb1⟩; replace HB := hide (HB.out.trans (hb1.mono HB.out.size)); clear hb1; have kk := HK.out.below HB.out HK.out.lt; have k0 := kk.cell 0; have k1 := kk.cell 1; have k2 := kk.cell 2; have k3 := kk.cell 3; have k4 := kk.cell 4; clear kk))
        exact bodyPost_ret (v := .bool true) (by simp [results, Tryz.results20, go_sem, h0] <;> omega) rfl ⟨by rw [HF.out], HB0.out.trans (HB.out.mono HB0.out.size)⟩
      | false =>
        have HF : Hid (R = false) := by show _ = _; rw [HR.out]; simp [h0]
        clear HR
        go_enter Tryz.func20, Tryz.ntmps20
        go_wp2_with (first | (go_at_call 40; refine (H1.out _ HB.out).mono ?_; rintro e w1 ⟨rfl, hb1⟩; replace HB := hide (HB.out.trans (hb1.mono HB.out.size)); clear hb1; have kk := HK.out.below HB.out HK.out.lt; have k0 := kk.cell 0; have k1 := kk.cell 1; have k2 := kk.cell 2; have k3 := kk.cell 3; have k4 := kk.cell 4; clear kk) | (go_at_call 42; refine (H3.out _ HB.out).mono ?_; rintro e w1 ⟨rfl, hb1⟩; replace HB := hide (HB.out.trans (hb1.mono HB.out.size)); clear hb1; have kk := HK.out.below HB.out HK.out.lt; have k0 := kk.cell 0; have k1 := kk.cell 1; have k2 := kk.cell 2; have k3 := kk.cell 3; have k4 := kk.cell 4; clear kk))
        exact bodyPost_ret (v := .bool false) (by simp [results, Tryz.results20, go_sem, h0] <;> omega) rfl ⟨by rw [HF.out], HB0.out.trans (HB.out.mono HB0.out.size)⟩
    | false =>
      have HF : Hid (R = false) := by show _ = _; rw [HR.out]; simp [h0]
      clear HR
      go_enter Tryz.func20, Tryz.ntmps20
      go_wp2_with (first | (go_at_call 40; refine (H1.out _ HB.out).mono ?_; rintro e w1 ⟨rfl, hb1⟩; replace HB := hide (HB.out.trans (hb1.mono HB.out.size)); clear hb1; have kk := HK.out.below HB.out HK.out.lt; have k0 := kk.cell 0; have k1 := kk.cell 1; have k2 := kk.cell 2; have k3 := kk.cell 3; have k4 := kk.cell 4; clear kk) | (go_at_call 42; refine (H3.out _ HB.out).mono ?_; rintro e w1 ⟨rfl, hb1⟩; replace HB := hide (HB.out.trans (hb1.mono HB.out.size)); clear hb1; have kk := HK.out.below HB.out HK.out.lt; have k0 := kk.cell 0; have k1 := kk.cell 1; have k2 := kk.cell 2; have k3 := kk.cell 3; have k4 := kk.cell 4; clear kk))
      exact bodyPost_ret (v := .bool false) (by simp [results, Tryz.results20, go_sem, h0] <;> omega) rfl ⟨by rw [HF.out], HB0.out.trans (HB.out.mono HB0.out.size)⟩
  · skip
    have HF : Hid (R = false) := by show _ = _; rw [HR.out]; simp [h0]
    clear HR
    go_enter Tryz.func20, Tryz.ntmps20
    go_wp2_with (first | (go_at_call 40; refine (H1.out _ HB.out).mono ?_; rintro e w1 ⟨rfl, hb1⟩; replace HB := hide (HB.out.trans (hb1.mono HB.out.size)); clear hb1; have kk := HK.out.below HB.out HK.out.lt; have k0 := kk.cell 0; have k1 := kk.cell 1; have k2 := kk.cell 2; have k3 := kk.cell 3; have k4 := kk.cell 4; clear kk) | (go_at_call 42; refine (H3.out _ HB.out).mono ?_; rintro e w1 ⟨rfl, hb1⟩; replace HB := hide (HB.out.trans (hb1.mono HB.out.size)); clear hb1; have kk := HK.out.below HB.out HK.out.lt; have k0 := kk.cell 0; have k1 := kk.cell 1; have k2 := kk.cell 2; have k3 := kk.cell 3; have k4 := kk.cell 4; clear kk))
    exact bodyPost_ret (v := .bool false) (by simp [results, Tryz.results20, go_sem, h0] <;> omega) rfl ⟨by rw [HF.out], HB0.out.trans (HB.out.mono HB0.out.size)⟩

set_option maxRecDepth 20000 in
set_option maxHeartbeats 8000000 in
theorem pform_any {v : Value} {w : World} {s : Stt} {ea : Addr} (hE : EN w ea) (hS : StR w v s) (hd : BdS s) :
    Calls Tryz.prog 12 #[v] w fun e w' => e = .returned (.bool (poForm s)) ∧ Below w.heap.size w w' := by
  rw [← formP_eq]
  have hv := hS
  obtain ⟨bv, sv, qv, rfl, hb, hs, hq⟩ := hS
  obtain ⟨Ab, cb, rfl⟩ := hb.form
  obtain ⟨As, cs, rfl⟩ := hs.form
  obtain ⟨Aq, cq, rfl⟩ := hq.form
  have HB0 : Hid (Below w.heap.size w (w.alloc (.cells #[.slice Ab s.boxes.length cb, .slice As s.subs.length cs, .slice Aq s.queue.length cq, .int .i64 s.nextValid, .int .i64 s.nextItem] 28))) := (Below.refl w.heap.size w).alloc (Nat.le_refl _) _
  have HB : Hid (Below (w.alloc (.cells #[.slice Ab s.boxes.length cb, .slice As s.subs.length cs, .slice Aq s.queue.length cq, .int .i64 s.nextValid, .int .i64 s.nextItem] 28)).heap.size (w.alloc (.cells #[.slice Ab s.boxes.length cb, .slice As s.subs.length cs, .slice Aq s.queue.length cq, .int .i64 s.nextValid, .int .i64 s.nextItem] 28)) (w.alloc (.cells #[.slice Ab s.boxes.length cb, .slice As s.subs.length cs, .slice Aq s.queue.length cq, .int .i64 s.nextValid, .int .i64 s.nextItem] 28))) := Below.refl _ _
  have HK := hide (Blk.new w #[.slice Ab s.boxes.length cb, .slice As s.subs.length cs, .slice Aq s.queue.length cq, .int .i64 s.nextValid, .int .i64 s.nextItem] 28)
  have HT0 := hide (hv.below HB0.out)
  have HE0 := hide (hE.below HB0.out)
  have H0 := hide (fun n W => pnum_any n W)
  have H3 : Hid (∀ W, Below (w.alloc (.cells #[.slice Ab s.boxes.length cb, .slice As s.subs.length cs, .slice Aq s.queue.length cq, .int .i64 s.nextValid, .int .i64 s.nextItem] 28)).heap.size (w.alloc (.cells #[.slice Ab s.boxes.length cb, .slice As s.subs.length cs, .slice Aq s.queue.length cq, .int .i64 s.nextValid, .int .i64 s.nextItem] 28)) W → Calls Tryz.prog 18 #[.agg #[.slice Ab s.boxes.length cb, .slice As s.subs.length cs, .slice Aq s.queue.length cq, .int .i64 s.nextValid, .int .i64 s.nextItem]] W fun e w' => e = .returned (.bool (formBx s)) ∧ Below W.heap.size W w') := fun W hW => pareBoxes_any (HE0.out.below hW) (HT0.out.below hW) hd
  have H4 : Hid (∀ W, Below (w.alloc (.cells #[.slice Ab s.boxes.length cb, .slice As s.subs.length cs, .slice Aq s.queue.length cq, .int .i64 s.nextValid, .int .i64 s.nextItem] 28)).heap.size (w.alloc (.cells #[.slice Ab s.boxes.length cb, .slice As s.subs.length cs, .slice Aq s.queue.length cq, .int .i64 s.nextValid, .int .i64 s.nextItem] 28)) W → Calls Tryz.prog 19 #[.agg #[.slice Ab s.boxes.length cb, .slice As s.subs.length cs, .slice Aq s.queue.length cq, .int .i64 s.nextValid, .int .i64 s.nextItem]] W fun e w' => e = .returned (.bool (formSb s)) ∧ Below W.heap.size W w') := fun W hW => pareSubs_any (HE0.out.below hW) (HT0.out.below hW) hd
  have H5 : Hid (∀ W, Below (w.alloc (.cells #[.slice Ab s.boxes.length cb, .slice As s.subs.length cs, .slice Aq s.queue.length cq, .int .i64 s.nextValid, .int .i64 s.nextItem] 28)).heap.size (w.alloc (.cells #[.slice Ab s.boxes.length cb, .slice As s.subs.length cs, .slice Aq s.queue.length cq, .int .i64 s.nextValid, .int .i64 s.nextItem] 28)) W → Calls Tryz.prog 20 #[.agg #[.slice Ab s.boxes.length cb, .slice As s.subs.length cs, .slice Aq s.queue.length cq, .int .i64 s.nextValid, .int .i64 s.nextItem]] W fun e w' => e = .returned (.bool (formIt s)) ∧ Below W.heap.size W w') := fun W hW => pisQueue_any (HT0.out.below hW) hd
  obtain ⟨R, HR⟩ : ∃ R, Hid (R = formP s) := ⟨_, hide rfl⟩
  rw [← HR.out]
  replace HR : Hid (R = (poIn s.nextValid 1 2147483648 && poIn s.nextItem 1 2147483648 && formBx s && formSb s && formIt s)) := HR
  obtain ⟨T1, HT1⟩ : ∃ T, Hid (poIn s.nextValid 1 2147483648 = T) := ⟨_, hide rfl⟩
  obtain ⟨T2, HT2⟩ : ∃ T, Hid (poIn s.nextItem 1 2147483648 = T) := ⟨_, hide rfl⟩
  rw [HT1.out, HT2.out] at HR
  clear hv hb hs hq HT0 hE HE0 hd
  generalize formBx s = T3 at *
  generalize formSb s = T4 at *
  generalize formIt s = T5 at *
  generalize s.boxes.length = lb at *
  generalize s.subs.length = ls at *
  generalize s.queue.length = lq at *
  generalize s.nextValid = nv at *
  generalize s.nextItem = ni at *
  cases T1 with
  | true =>
    cases T2 with
    | true =>
      cases T3 with
      | true =>
        cases T4 with
        | true =>
          cases T5 with
          | true =>
            have HF : Hid (R = true) := by show _ = _; rw [HR.out]; simp []
            clear HR
            go_enter Tryz.func12, Tryz.ntmps12
            go_wp2_with (first | (go_at_call 17; refine (H0.out _ _).mono ?_; rintro e w1 ⟨rfl, rfl⟩; first | rw [HT1.out] | rw [HT2.out]) | (go_at_call 18; refine (H3.out _ HB.out).mono ?_; rintro e w1 ⟨rfl, hb1⟩; replace HB := hide (HB.out.trans (hb1.mono HB.out.size)); clear hb1; have kk := HK.out.below HB.out HK.out.lt; have k0 := kk.cell 0; have k1 := kk.cell 1; have k2 := kk.cell 2; have k3 := kk.cell 3; have k4 := kk.cell 4; clear kk) | (go_at_call 19; refine (H4.out _ HB.out).mono ?_; rintro e w1 ⟨rfl, hb1⟩; replace HB := hide (HB.out.trans (hb1.mono HB.out.size)); clear hb1; have kk := HK.out.below HB.out HK.out.lt; have k0 := kk.cell 0; have k1 := kk.cell 1; have k2 := kk.cell 2; have k3 := kk.cell 3; have k4 := kk.cell 4; clear kk) | (go_at_call 20; refine (H5.out _ HB.out).mono ?_; rintro e w1 ⟨rfl, hb1⟩; replace HB := hide (HB.out.trans (hb1.mono HB.out.size)); clear hb1; have kk := HK.out.below HB.out HK.out.lt; have k0 := kk.cell 0; have k1 := kk.cell 1; have k2 := kk.cell 2; have k3 := kk.cell 3; have k4 := kk.cell 4; clear kk))
            exact bodyPost_ret (v := .bool true) (by simp [results, Tryz.results12, go_sem, ] <;> omega) rfl ⟨by rw [HF.out], HB0.out.trans (HB.out.mono HB0.out.size)⟩
          | false =>
            have HF : Hid (R = false) := by show _ = _; rw [HR.out]; simp []
            clear HR
            go_enter Tryz.func12, Tryz.ntmps12
            go_wp2_with (first | (go_at_call 17; refine (H0.out _ _).mono ?_; rintro e w1 ⟨rfl, rfl⟩; first | rw [HT1.out] | rw [HT2.out]) | (go_at_call 18; refine (H3.out _ HB.out).mono ?_; rintro e w1 ⟨rfl, hb1⟩; replace HB := hide (HB.out.trans (hb1.mono HB.out.size)); clear hb1; have kk := HK.out.below HB.out HK.out.lt; have k0 := kk.cell 0; have k1 := kk.cell 1; have k2 := kk.cell 2; have k3 := kk.cell 3; have k4 := kk.cell 4; clear kk) | (go_at_call 19; refine (H4.out _ HB.out).mono ?_; rintro e w1 ⟨rfl, hb1⟩; replace HB := hide (HB.out.trans (hb1.mono HB.out.size)); clear hb1; have kk := HK.out.below HB.out HK.out.lt; have k0 := kk.cell 0; have k1 := kk.cell 1; have k2 := kk.cell 2; have k3 := kk.cell 3; have k4 := kk.cell 4; clear kk) | (go_at_call 20; refine (H5.out _ HB.out).mono ?_; rintro e w1 ⟨rfl, hb1⟩; replace HB := hide (HB.out.trans (hb1.mono HB.out.size)); clear hb1; have kk := HK.out.below HB.out HK.out.lt; have k0 := kk.cell 0; have k1 := kk.cell 1; have k2 := kk.cell 2; have k3 := kk.cell 3; have k4 := kk.cell 4; clear kk))
            exact bodyPost_ret (v := .bool false) (by simp [results, Tryz.results12, go_sem, ] <;> omega) rfl ⟨by rw [HF.out], HB0.out.trans (HB.out.mono HB0.out.size)⟩
        | false =>
          have HF : Hid (R = false) := by show _ = _; rw [HR.out]; simp []
          clear HR
          go_enter Tryz.func12, Tryz.ntmps12
          go_wp2_with (first | (go_at_call 17; refine (H0.out _ _).mono ?_; rintro e w1 ⟨rfl, rfl⟩; first | rw [HT1.out] | rw [HT2.out]) | (go_at_call 18; refine (H3.out _ HB.out).mono ?_; rintro e w1 ⟨rfl, hb1⟩; replace HB := hide (HB.out.trans (hb1.mono HB.out.size)); clear hb1; have kk := HK.out.below HB.out HK.out.lt; have k0 := kk.cell 0; have k1 := kk.cell 1; have k2 := kk.cell 2; have k3 := kk.cell 3; have k4 := kk.cell 4; clear kk) | (go_at_call 19; refine (H4.out _ HB.out).mono ?_; rintro e w1 ⟨rfl, hb1⟩; replace HB := hide (HB.out.trans (hb1.mono HB.out.size)); clear hb1; have kk := HK.out.below HB.out HK.out.lt; have k0 := kk.cell 0; have k1 := kk.cell 1; have k2 := kk.cell 2; have k3 := kk.cell 3; have k4 := kk.cell 4; clear kk) | (go_at_call 20; refine (H5.out _ HB.out).mono ?_; rintro e w1 ⟨rfl, hb1⟩; replace HB := hide (HB.out.trans (hb1.mono HB.out.size)); clear hb1; have kk := HK.out.below HB.out HK.out.lt; have k0 := kk.cell 0; have k1 := kk.cell 1; have k2 := kk.cell 2; have k3 := kk.cell 3; have k4 := kk.cell 4; clear kk))
          exact bodyPost_ret (v := .bool false) (by simp [results, Tryz.results12, go_sem, ] <;> omega) rfl ⟨by rw [HF.out], HB0.out.trans (HB.out.mono HB0.out.size)⟩
      | false =>
        have HF : Hid (R = false) := by show _ = _; rw [HR.out]; simp []
        clear HR
        go_enter Tryz.func12, Tryz.ntmps12
        go_wp2_with (first | (go_at_call 17; refine (H0.out _ _).mono ?_; rintro e w1 ⟨rfl, rfl⟩; first | rw [HT1.out] | rw [HT2.out]) | (go_at_call 18; refine (H3.out _ HB.out).mono ?_; rintro e w1 ⟨rfl, hb1⟩; replace HB := hide (HB.out.trans (hb1.mono HB.out.size)); clear hb1; have kk := HK.out.below HB.out HK.out.lt; have k0 := kk.cell 0; have k1 := kk.cell 1; have k2 := kk.cell 2; have k3 := kk.cell 3; have k4 := kk.cell 4; clear kk) | (go_at_call 19; refine (H4.out _ HB.out).mono ?_; rintro e w1 ⟨rfl, hb1⟩; replace HB := hide (HB.out.trans (hb1.mono HB.out.size)); clear hb1; have kk := HK.out.below HB.out HK.out.lt; have k0 := kk.cell 0; have k1 := kk.cell 1; have k2 := kk.cell 2; have k3 := kk.cell 3; have k4 := kk.cell 4; clear kk) | (go_at_call 20; refine (H5.out _ HB.out).mono ?_; rintro e w1 ⟨rfl, hb1⟩; replace HB := hide (HB.out.trans (hb1.mono HB.out.size)); clear hb1; have kk := HK.out.below HB.out HK.out.lt; have k0 := kk.cell 0; have k1 := kk.cell 1; have k2 := kk.cell 2; have k3 := kk.cell 3; have k4 := kk.cell 4; clear kk))
        exact bodyPost_ret (v := .bool false) (by simp [results, Tryz.results12, go_sem, ] <;> omega) rfl ⟨by rw [HF.out], HB0.out.trans (HB.out.mono HB0.out.size)⟩
    | false =>
      have HF : Hid (R = false) := by show _ = _; rw [HR.out]; simp []
      clear HR
      go_enter Tryz.func12, Tryz.ntmps12
      go_wp2_with (first | (go_at_call 17; refine (H0.out _ _).mono ?_; rintro e w1 ⟨rfl, rfl⟩; first | rw [HT1.out] | rw [HT2.out]) | (go_at_call 18; refine (H3.out _ HB.out).mono ?_; rintro e w1 ⟨rfl, hb1⟩; replace HB := hide (HB.out.trans (hb1.mono HB.out.size)); clear hb1; have kk := HK.out.below HB.out HK.out.lt; have k0 := kk.cell 0; have k1 := kk.cell 1; have k2 := kk.cell 2; have k3 := kk.cell 3; have k4 := kk.cell 4; clear kk) | (go_at_call 19; refine (H4.out _ HB.out).mono ?_; rintro e w1 ⟨rfl, hb1⟩; replace HB := hide (HB.out.trans (hb1.mono HB.out.size)); clear hb1; have kk := HK.out.below HB.out HK.out.lt; have k0 := kk.cell 0; have k1 := kk.cell 1; have k2 := kk.cell 2; have k3 := kk.cell 3; have k4 := kk.cell 4; clear kk) | (go_at_call 20; refine (H5.out _ HB.out).mono ?_; rintro e w1 ⟨rfl, hb1⟩; replace HB := hide (HB.out.trans (hb1.mono HB.out.size)); clear hb1; have kk := HK.out.below HB.out HK.out.lt; have k0 := kk.cell 0; have k1 := kk.cell 1; have k2 := kk.cell 2; have k3 := kk.cell 3; have k4 := kk.cell 4; clear kk))
      exact bodyPost_ret (v := .bool false) (by simp [results, Tryz.results12, go_sem, ] <;> omega) rfl ⟨by rw [HF.out], HB0.out.trans (HB.out.mono HB0.out.size)⟩
  | false =>
    have HF : Hid (R = false) := by show _ = _; rw [HR.out]; simp []
    clear HR
    go_enter Tryz.func12, Tryz.ntmps12
    go_wp2_with (first | (go_at_call 17; refine (H0.out _ _).mono ?_; rintro e w1 ⟨rfl, rfl⟩; first | rw [HT1.out] | rw [HT2.out]) | (go_at_call 18; refine (H3.out _ HB.out).mono ?_; rintro e w1 ⟨rfl, hb1⟩; replace HB := hide (HB.out.trans (hb1.mono HB.out.size)); clear hb1; have kk := HK.out.below HB.out HK.out.lt; have k0 := kk.cell 0; have k1 := kk.cell 1; have k2 := kk.cell 2; have k3 := kk.cell 3; have k4 := kk.cell 4; clear kk) | (go_at_call 19; refine (H4.out _ HB.out).mono ?_; rintro e w1 ⟨rfl, hb1⟩; replace HB := hide (HB.out.trans (hb1.mono HB.out.size)); clear hb1; have kk := HK.out.below HB.out HK.out.lt; have k0 := kk.cell 0; have k1 := kk.cell 1; have k2 := kk.cell 2; have k3 := kk.cell 3; have k4 := kk.cell 4; clear kk) | (go_at_call 20; refine (H5.out _ HB.out).mono ?_; rintro e w1 ⟨rfl, hb1⟩; replace HB := hide (HB.out.trans (hb1.mono HB.out.size)); clear hb1; have kk := HK.out.below HB.out HK.out.lt; have k0 := kk.cell 0; have k1 := kk.cell 1; have k2 := kk.cell 2; have k3 := kk.cell 3; have k4 := kk.cell 4; clear kk))
    exact bodyPost_ret (v := .bool false) (by simp [results, Tryz.results12, go_sem, ] <;> omega) rfl ⟨by rw [HF.out], HB0.out.trans (HB.out.mono HB0.out.size)⟩
end Go.Proofs.YtdbmaobjikjifaaGreatDoorR
