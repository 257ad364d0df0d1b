/- Package post: whether a state is in form. -/
import Derived.Test.YtbfdbbpkpjgamaaGreatDoorU24
set_option linter.unusedVariables false
set_option linter.unusedSimpArgs false
namespace Go.Proofs.YtbfdbbpkpjgamaaGreatDoor
open Go.RowKit Go.Shelf

set_option maxRecDepth 20000 in
set_option maxHeartbeats 8000000 in
theorem pareBoxes1_any {v : Value} {b : Bx} {w : World} {ea : Addr} {s : Stt} {Ab As Aq : Option Addr} {cb cs cq ps : Nat} (hE : EN w ea) (h : BxV w v b) (hd : BdB b) (hS : StR w (.agg #[.slice Ab s.boxes.length cb, .slice As s.subs.length cs, .slice Aq s.queue.length cq, .int .i64 s.nextValid, .int .i64 s.nextItem]) s) (hk : Blk w ps #[.slice Ab s.boxes.length cb, .slice As s.subs.length cs, .slice Aq s.queue.length cq, .int .i64 s.nextValid, .int .i64 s.nextItem] 26) (hl : s.boxes.length ≤ 1000000) :
    Calls Tryz.prog 65 #[v, .pointer (some ⟨ps, 0, none⟩)] w fun e w' => e = .returned (.bool (bxB b && decide (b.valid < s.nextValid) && poUser s.boxes b.user)) ∧ Below w.heap.size w w' := by
  have hv := h
  obtain ⟨mv, rfl, hm⟩ := h
  obtain ⟨A, c, rfl⟩ := hm.form
  have HB0 : Hid (Below w.heap.size w (w.alloc (.cells #[.int .i64 b.user, .string ⟨b.name.toArray⟩, .int .i64 b.valid, .int .i64 b.next, .slice A b.msgs.length c] 39))) := (Below.refl w.heap.size w).alloc (Nat.le_refl _) _
  have HB : Hid (Below (w.alloc (.cells #[.int .i64 b.user, .string ⟨b.name.toArray⟩, .int .i64 b.valid, .int .i64 b.next, .slice A b.msgs.length c] 39)).heap.size (w.alloc (.cells #[.int .i64 b.user, .string ⟨b.name.toArray⟩, .int .i64 b.valid, .int .i64 b.next, .slice A b.msgs.length c] 39)) (w.alloc (.cells #[.int .i64 b.user, .string ⟨b.name.toArray⟩, .int .i64 b.valid, .int .i64 b.next, .slice A b.msgs.length c] 39))) := Below.refl _ _
  have HK := hide (Blk.new w #[.int .i64 b.user, .string ⟨b.name.toArray⟩, .int .i64 b.valid, .int .i64 b.next, .slice A b.msgs.length c] 39)
  have HS := hide (hk.alloc (.cells #[.int .i64 b.user, .string ⟨b.name.toArray⟩, .int .i64 b.valid, .int .i64 b.next, .slice A b.msgs.length c] 39))
  have HV0 := hide (hv.below HB0.out)
  have HE0 := hide (hE.below HB0.out)
  have HT0 := hide (hS.below HB0.out)
  have H1 : Hid (∀ W, Below (w.alloc (.cells #[.int .i64 b.user, .string ⟨b.name.toArray⟩, .int .i64 b.valid, .int .i64 b.next, .slice A b.msgs.length c] 39)).heap.size (w.alloc (.cells #[.int .i64 b.user, .string ⟨b.name.toArray⟩, .int .i64 b.valid, .int .i64 b.next, .slice A b.msgs.length c] 39)) W → Calls Tryz.prog 66 #[.agg #[.int .i64 b.user, .string ⟨b.name.toArray⟩, .int .i64 b.valid, .int .i64 b.next, .slice A b.msgs.length c]] W fun e w' => e = .returned (.bool (bxB b)) ∧ Below W.heap.size W w') := fun W hW => pisBox_any (HE0.out.below hW) (HV0.out.below hW) hd
  have H2 : Hid (∀ W, Below (w.alloc (.cells #[.int .i64 b.user, .string ⟨b.name.toArray⟩, .int .i64 b.valid, .int .i64 b.next, .slice A b.msgs.length c] 39)).heap.size (w.alloc (.cells #[.int .i64 b.user, .string ⟨b.name.toArray⟩, .int .i64 b.valid, .int .i64 b.next, .slice A b.msgs.length c] 39)) W → Calls Tryz.prog 67 #[.agg #[.slice Ab s.boxes.length cb, .slice As s.subs.length cs, .slice Aq s.queue.length cq, .int .i64 s.nextValid, .int .i64 s.nextItem], .int .i64 b.user] W fun e w' => e = .returned (.bool (poUser s.boxes b.user)) ∧ Below W.heap.size W w') := fun W hW => puser_any (HT0.out.below hW) b.user hl
  clear hv hm hE HV0 HE0 hS HT0 hk
  generalize bxB b = T1 at *
  generalize poUser s.boxes b.user = T2 at *
  generalize s.boxes.length = lb at *
  generalize s.subs.length = ls at *
  generalize s.queue.length = lq at *
  clear hd
  obtain ⟨bu, bn, bv, bx, bm⟩ := b
  dsimp only at *
  generalize bm.length = lm at *
  generalize s.nextValid = nv at *
  generalize s.nextItem = ni at *
  obtain ⟨R, HR⟩ : ∃ R, Hid (R = (T1 && decide (bv < nv) && T2)) := ⟨_, hide rfl⟩
  rw [← HR.out]
  cases T1 with
  | true =>
    by_cases h0 : bv < nv
    · skip
      cases T2 with
      | true =>
        have HF : Hid (R = true) := by show _ = _; rw [HR.out]; simp [h0]
        clear HR
        go_enter Tryz.func65, Tryz.ntmps65
        go_wp2_with (first | (go_at_call 66; refine (H1.out _ HB.out).mono ?_; rintro e w1 ⟨rfl, hb1⟩; replace HB := hide (HB.out.trans (hb1.mono HB.out.size)); clear hb1; have kk := HK.out.below HB.out HK.out.lt; have k0 := kk.cell 0; have k1 := kk.cell 1; have k2 := kk.cell 2; have k3 := kk.cell 3; have k4 := kk.cell 4; clear kk; have kk := HS.out.below HB.out HS.out.lt; have s0 := kk.cell 0; have s1 := kk.cell 1; have s2 := kk.cell 2; have s3 := kk.cell 3; have s4 := kk.cell 4; clear kk) | (go_at_call 67; refine (H2.out _ HB.out).mono ?_; rintro e w1 ⟨rfl, hb1⟩; replace HB := hide (HB.out.trans (hb1.mono HB.out.size)); clear hb1))
        exact bodyPost_ret (v := .bool true) (by simp [results, Tryz.results65, go_sem, h0] <;> omega) rfl ⟨by rw [HF.out], HB0.out.trans (HB.out.mono HB0.out.size)⟩
      | false =>
        have HF : Hid (R = false) := by show _ = _; rw [HR.out]; simp [h0]
        clear HR
        go_enter Tryz.func65, Tryz.ntmps65
        go_wp2_with (first | (go_at_call 66; refine (H1.out _ HB.out).mono ?_; rintro e w1 ⟨rfl, hb1⟩; replace HB := hide (HB.out.trans (hb1.mono HB.out.size)); clear hb1; have kk := HK.out.below HB.out HK.out.lt; have k0 := kk.cell 0; have k1 := kk.cell 1; have k2 := kk.cell 2; have k3 := kk.cell 3; have k4 := kk.cell 4; clear kk; have kk := HS.out.below HB.out HS.out.lt; have s0 := kk.cell 0; have s1 := kk.cell 1; have s2 := kk.cell 2; have s3 := kk.cell 3; have s4 := kk.cell 4; clear kk) | (go_at_call 67; refine (H2.out _ HB.out).mono ?_; rintro e w1 ⟨rfl, hb1⟩; replace HB := hide (HB.out.trans (hb1.mono HB.out.size)); clear hb1))
        exact bodyPost_ret (v := .bool false) (by simp [results, Tryz.results65, go_sem, h0] <;> omega) rfl ⟨by rw [HF.out], HB0.out.trans (HB.out.mono HB0.out.size)⟩
    · skip
      have HF : Hid (R = false) := by show _ = _; rw [HR.out]; simp [h0]
      clear HR
      go_enter Tryz.func65, Tryz.ntmps65
      go_wp2_with (first | (go_at_call 66; refine (H1.out _ HB.out).mono ?_; rintro e w1 ⟨rfl, hb1⟩; replace HB := hide (HB.out.trans (hb1.mono HB.out.size)); clear hb1; have kk := HK.out.below HB.out HK.out.lt; have k0 := kk.cell 0; have k1 := kk.cell 1; have k2 := kk.cell 2; have k3 := kk.cell 3; have k4 := kk.cell 4; clear kk; have kk := HS.out.below HB.out HS.out.lt; have s0 := kk.cell 0; have s1 := kk.cell 1; have s2 := kk.cell 2; have s3 := kk.cell 3; have s4 := kk.cell 4; clear kk) | (go_at_call 67; refine (H2.out _ HB.out).mono ?_; rintro e w1 ⟨rfl, hb1⟩; replace HB := hide (HB.out.trans (hb1.mono HB.out.size)); clear hb1))
      exact bodyPost_ret (v := .bool false) (by simp [results, Tryz.results65, go_sem, h0] <;> omega) rfl ⟨by rw [HF.out], HB0.out.trans (HB.out.mono HB0.out.size)⟩
  | false =>
    have HF : Hid (R = false) := by show _ = _; rw [HR.out]; simp []
    clear HR
    go_enter Tryz.func65, Tryz.ntmps65
    go_wp2_with (first | (go_at_call 66; refine (H1.out _ HB.out).mono ?_; rintro e w1 ⟨rfl, hb1⟩; replace HB := hide (HB.out.trans (hb1.mono HB.out.size)); clear hb1; have kk := HK.out.below HB.out HK.out.lt; have k0 := kk.cell 0; have k1 := kk.cell 1; have k2 := kk.cell 2; have k3 := kk.cell 3; have k4 := kk.cell 4; clear kk; have kk := HS.out.below HB.out HS.out.lt; have s0 := kk.cell 0; have s1 := kk.cell 1; have s2 := kk.cell 2; have s3 := kk.cell 3; have s4 := kk.cell 4; clear kk) | (go_at_call 67; refine (H2.out _ HB.out).mono ?_; rintro e w1 ⟨rfl, hb1⟩; replace HB := hide (HB.out.trans (hb1.mono HB.out.size)); clear hb1))
    exact bodyPost_ret (v := .bool false) (by simp [results, Tryz.results65, go_sem, ] <;> omega) rfl ⟨by rw [HF.out], HB0.out.trans (HB.out.mono HB0.out.size)⟩

set_option maxRecDepth 20000 in
set_option maxHeartbeats 8000000 in
theorem pareSubs1_any {v : Value} {x : Sb} {w : World} {ea : Addr} {s : Stt} {Ab As Aq : Option Addr} {cb cs cq ps : Nat} (hE : EN w ea) (h : SbV w v x) (hd : x.name.length ≤ 1000000) (hS : StR w (.agg #[.slice Ab s.boxes.length cb, .slice As s.subs.length cs, .slice Aq s.queue.length cq, .int .i64 s.nextValid, .int .i64 s.nextItem]) s) (hk : Blk w ps #[.slice Ab s.boxes.length cb, .slice As s.subs.length cs, .slice Aq s.queue.length cq, .int .i64 s.nextValid, .int .i64 s.nextItem] 26) (hl : s.boxes.length ≤ 1000000) :
    Calls Tryz.prog 71 #[v, .pointer (some ⟨ps, 0, none⟩)] w fun e w' => e = .returned (.bool (poName x.name && poUser s.boxes x.user)) ∧ Below w.heap.size w w' := by
  cases h
  have HB0 : Hid (Below w.heap.size w (w.alloc (.cells #[.int .i64 x.user, .string ⟨x.name.toArray⟩] 69))) := (Below.refl w.heap.size w).alloc (Nat.le_refl _) _
  have HB : Hid (Below (w.alloc (.cells #[.int .i64 x.user, .string ⟨x.name.toArray⟩] 69)).heap.size (w.alloc (.cells #[.int .i64 x.user, .string ⟨x.name.toArray⟩] 69)) (w.alloc (.cells #[.int .i64 x.user, .string ⟨x.name.toArray⟩] 69))) := Below.refl _ _
  have HK := hide (Blk.new w #[.int .i64 x.user, .string ⟨x.name.toArray⟩] 69)
  have HS := hide (hk.alloc (.cells #[.int .i64 x.user, .string ⟨x.name.toArray⟩] 69))
  have HE0 := hide (hE.below HB0.out)
  have HT0 := hide (hS.below HB0.out)
  have H1 : Hid (∀ W, Below (w.alloc (.cells #[.int .i64 x.user, .string ⟨x.name.toArray⟩] 69)).heap.size (w.alloc (.cells #[.int .i64 x.user, .string ⟨x.name.toArray⟩] 69)) W → Calls Tryz.prog 72 #[.string ⟨x.name.toArray⟩] W fun e w' => e = .returned (.bool (poName x.name)) ∧ Below W.heap.size W w') := fun W hW => pisName_any x.name W ea (HE0.out.below hW) hd
  have H2 : Hid (∀ W, Below (w.alloc (.cells #[.int .i64 x.user, .string ⟨x.name.toArray⟩] 69)).heap.size (w.alloc (.cells #[.int .i64 x.user, .string ⟨x.name.toArray⟩] 69)) W → Calls Tryz.prog 67 #[.agg #[.slice Ab s.boxes.length cb, .slice As s.subs.length cs, .slice Aq s.queue.length cq, .int .i64 s.nextValid, .int .i64 s.nextItem], .int .i64 x.user] W fun e w' => e = .returned (.bool (poUser s.boxes x.user)) ∧ Below W.heap.size W w') := fun W hW => puser_any (HT0.out.below hW) x.user hl
  clear hE HE0 hS HT0 hk
  generalize poName x.name = T1 at *
  generalize poUser s.boxes x.user = T2 at *
  generalize s.boxes.length = lb at *
  generalize s.subs.length = ls at *
  generalize s.queue.length = lq at *
  clear hd
  generalize s.nextValid = nv at *
  generalize s.nextItem = ni at *
  obtain ⟨R, HR⟩ : ∃ R, Hid (R = (T1 && T2)) := ⟨_, hide rfl⟩
  rw [← HR.out]
  cases T1 with
  | true =>
    cases T2 with
    | true =>
      have HF : Hid (R = true) := by show _ = _; rw [HR.out]; simp []
      clear HR
      go_enter Tryz.func71, Tryz.ntmps71
      go_wp2_with (first | (go_at_call 72; refine (H1.out _ HB.out).mono ?_; rintro e w1 ⟨rfl, hb1⟩; replace HB := hide (HB.out.trans (hb1.mono HB.out.size)); clear hb1; have kk := HK.out.below HB.out HK.out.lt; have k0 := kk.cell 0; have k1 := kk.cell 1; clear kk; have kk := HS.out.below HB.out HS.out.lt; have s0 := kk.cell 0; have s1 := kk.cell 1; have s2 := kk.cell 2; have s3 := kk.cell 3; have s4 := kk.cell 4; clear kk) | (go_at_call 67; refine (H2.out _ HB.out).mono ?_; rintro e w1 ⟨rfl, hb1⟩; replace HB := hide (HB.out.trans (hb1.mono HB.out.size)); clear hb1))
      exact bodyPost_ret (v := .bool true) (by simp [results, Tryz.results71, go_sem, ] <;> omega) rfl ⟨by rw [HF.out], HB0.out.trans (HB.out.mono HB0.out.size)⟩
    | false =>
      have HF : Hid (R = false) := by show _ = _; rw [HR.out]; simp []
      clear HR
      go_enter Tryz.func71, Tryz.ntmps71
      go_wp2_with (first | (go_at_call 72; refine (H1.out _ HB.out).mono ?_; rintro e w1 ⟨rfl, hb1⟩; replace HB := hide (HB.out.trans (hb1.mono HB.out.size)); clear hb1; have kk := HK.out.below HB.out HK.out.lt; have k0 := kk.cell 0; have k1 := kk.cell 1; clear kk; have kk := HS.out.below HB.out HS.out.lt; have s0 := kk.cell 0; have s1 := kk.cell 1; have s2 := kk.cell 2; have s3 := kk.cell 3; have s4 := kk.cell 4; clear kk) | (go_at_call 67; refine (H2.out _ HB.out).mono ?_; rintro e w1 ⟨rfl, hb1⟩; replace HB := hide (HB.out.trans (hb1.mono HB.out.size)); clear hb1))
      exact bodyPost_ret (v := .bool false) (by simp [results, Tryz.results71, go_sem, ] <;> omega) rfl ⟨by rw [HF.out], HB0.out.trans (HB.out.mono HB0.out.size)⟩
  | false =>
    have HF : Hid (R = false) := by show _ = _; rw [HR.out]; simp []
    clear HR
    go_enter Tryz.func71, Tryz.ntmps71
    go_wp2_with (first | (go_at_call 72; refine (H1.out _ HB.out).mono ?_; rintro e w1 ⟨rfl, hb1⟩; replace HB := hide (HB.out.trans (hb1.mono HB.out.size)); clear hb1; have kk := HK.out.below HB.out HK.out.lt; have k0 := kk.cell 0; have k1 := kk.cell 1; clear kk; have kk := HS.out.below HB.out HS.out.lt; have s0 := kk.cell 0; have s1 := kk.cell 1; have s2 := kk.cell 2; have s3 := kk.cell 3; have s4 := kk.cell 4; clear kk) | (go_at_call 67; refine (H2.out _ HB.out).mono ?_; rintro e w1 ⟨rfl, hb1⟩; replace HB := hide (HB.out.trans (hb1.mono HB.out.size)); clear hb1))
    exact bodyPost_ret (v := .bool false) (by simp [results, Tryz.results71, go_sem, ] <;> omega) rfl ⟨by rw [HF.out], HB0.out.trans (HB.out.mono HB0.out.size)⟩

set_option maxRecDepth 20000 in
set_option maxHeartbeats 2000000 in
theorem pisQueue11_any {w : World} {u : Int} {s : Stt} {Ab As Aq : Option Addr} {cb cs cq ps : Nat} (hS : StR w (.agg #[.slice Ab s.boxes.length cb, .slice As s.subs.length cs, .slice Aq s.queue.length cq, .int .i64 s.nextValid, .int .i64 s.nextItem]) s) (hk : Blk w ps #[.slice Ab s.boxes.length cb, .slice As s.subs.length cs, .slice Aq s.queue.length cq, .int .i64 s.nextValid, .int .i64 s.nextItem] 26) (hl : s.boxes.length ≤ 1000000) :
    Calls Tryz.prog 79 #[.int .i64 u, .pointer (some ⟨ps, 0, none⟩)] w fun e w' => e = .returned (.bool (poUser s.boxes u)) ∧ Below w.heap.size w w' := by
  have H2 := hide (puser_any hS u hl)
  have k0 := hk.cell 0
  have k1 := hk.cell 1
  have k2 := hk.cell 2
  have k3 := hk.cell 3
  have k4 := hk.cell 4
  clear hS hk
  simp only [List.getElem?_toArray, List.getElem?_cons_zero, List.getElem?_cons_succ] at k0 k1 k2 k3 k4
  generalize poUser s.boxes u = T2 at *
  generalize s.boxes.length = lb at *
  generalize s.subs.length = ls at *
  generalize s.queue.length = lq at *
  generalize s.nextValid = nv at *
  generalize s.nextItem = ni at *
  go_enter Tryz.func79, Tryz.ntmps79
  go_wp2_with (go_at_call 67; refine H2.out.mono ?_; rintro e w1 ⟨rfl, hb1⟩; replace hb1 := hide hb1)
  go_ret
  exact ⟨rfl, hb1.out⟩

set_option maxRecDepth 20000 in
set_option maxHeartbeats 8000000 in
theorem pisQueue1_any {v : Value} {q : It} {w : World} {s : Stt} {Ab As Aq : Option Addr} {cb cs cq ps : Nat} (h : ItV w v q) (hd : q.fr.length ≤ 1000000) (hS : StR w (.agg #[.slice Ab s.boxes.length cb, .slice As s.subs.length cs, .slice Aq s.queue.length cq, .int .i64 s.nextValid, .int .i64 s.nextItem]) s) (hk : Blk w ps #[.slice Ab s.boxes.length cb, .slice As s.subs.length cs, .slice Aq s.queue.length cq, .int .i64 s.nextValid, .int .i64 s.nextItem] 26) (hl : s.boxes.length ≤ 1000000) :
    Calls Tryz.prog 76 #[v, .pointer (some ⟨ps, 0, none⟩)] w fun e w' => e = .returned (.bool (itB q && decide (q.id < s.nextItem) && q.fr.all (poUser s.boxes))) ∧ Below w.heap.size w w' := by
  have hv := h
  obtain ⟨mv, rfl, hm⟩ := h
  obtain ⟨A, c, rfl⟩ := hm.form
  have HB0 : Hid (Below w.heap.size w (w.alloc (.cells #[.int .i64 q.id, .string ⟨q.frm.toArray⟩, .slice A q.fr.length c, .int .i64 q.born, .int .i64 q.tries, .int .i64 q.due, .string ⟨q.body.toArray⟩] 62))) := (Below.refl w.heap.size w).alloc (Nat.le_refl _) _
  have HB : Hid (Below (w.alloc (.cells #[.int .i64 q.id, .string ⟨q.frm.toArray⟩, .slice A q.fr.length c, .int .i64 q.born, .int .i64 q.tries, .int .i64 q.due, .string ⟨q.body.toArray⟩] 62)).heap.size (w.alloc (.cells #[.int .i64 q.id, .string ⟨q.frm.toArray⟩, .slice A q.fr.length c, .int .i64 q.born, .int .i64 q.tries, .int .i64 q.due, .string ⟨q.body.toArray⟩] 62)) (w.alloc (.cells #[.int .i64 q.id, .string ⟨q.frm.toArray⟩, .slice A q.fr.length c, .int .i64 q.born, .int .i64 q.tries, .int .i64 q.due, .string ⟨q.body.toArray⟩] 62))) := Below.refl _ _
  have HK := hide (Blk.new w #[.int .i64 q.id, .string ⟨q.frm.toArray⟩, .slice A q.fr.length c, .int .i64 q.born, .int .i64 q.tries, .int .i64 q.due, .string ⟨q.body.toArray⟩] 62)
  have HS := hide (hk.alloc (.cells #[.int .i64 q.id, .string ⟨q.frm.toArray⟩, .slice A q.fr.length c, .int .i64 q.born, .int .i64 q.tries, .int .i64 q.due, .string ⟨q.body.toArray⟩] 62))
  have HV0 := hide (hv.below HB0.out)
  have HM0 := hide (hm.below stb_int HB0.out)
  have HT0 := hide (hS.below HB0.out)
  have eg1 : ∀ args w, (callFunc 79 args).run Tryz.prog w = .ok (.enter 79 args) w := enters_of Tryz.func79 (by kernel_rfl) rfl
  have H1 : Hid (∀ W, Below (w.alloc (.cells #[.int .i64 q.id, .string ⟨q.frm.toArray⟩, .slice A q.fr.length c, .int .i64 q.born, .int .i64 q.tries, .int .i64 q.due, .string ⟨q.body.toArray⟩] 62)).heap.size (w.alloc (.cells #[.int .i64 q.id, .string ⟨q.frm.toArray⟩, .slice A q.fr.length c, .int .i64 q.born, .int .i64 q.tries, .int .i64 q.due, .string ⟨q.body.toArray⟩] 62)) W → Calls Tryz.prog 77 #[.agg #[.int .i64 q.id, .string ⟨q.frm.toArray⟩, .slice A q.fr.length c, .int .i64 q.born, .int .i64 q.tries, .int .i64 q.due, .string ⟨q.body.toArray⟩]] W fun e w' => e = .returned (.bool (itB q)) ∧ Below W.heap.size W w') := fun W hW => pisItem_any (HV0.out.below hW) hd
  have H2 : Hid (∀ W, Below (w.alloc (.cells #[.int .i64 q.id, .string ⟨q.frm.toArray⟩, .slice A q.fr.length c, .int .i64 q.born, .int .i64 q.tries, .int .i64 q.due, .string ⟨q.body.toArray⟩] 62)).heap.size (w.alloc (.cells #[.int .i64 q.id, .string ⟨q.frm.toArray⟩, .slice A q.fr.length c, .int .i64 q.born, .int .i64 q.tries, .int .i64 q.due, .string ⟨q.body.toArray⟩] 62)) W → Calls Tryz.prog 78 #[.slice A q.fr.length c, .func (.func 79) #[] #[.pointer (some ⟨ps, 0, none⟩)]] W fun e w' => e = .returned (.bool (q.fr.all (poUser s.boxes))) ∧ Below W.heap.size W w') := fun W hW =>
    pallint_any (HM0.out.below stb_int hW) hd (poUser s.boxes) _ #[] #[.pointer (some ⟨ps, 0, none⟩)] eg1 (fun i hi v W' hW' hv => by cases hv; exact pisQueue11_any ((HT0.out.below hW).below hW') ((HS.out.below hW HS.out.lt).below hW' (HS.out.below hW HS.out.lt).lt) hl)
  clear hv hm HV0 hS HT0 hk HM0 eg1
  generalize itB q = T1 at *
  generalize q.fr.all (poUser s.boxes) = T2 at *
  generalize s.boxes.length = lb at *
  generalize s.subs.length = ls at *
  generalize s.queue.length = lq at *
  obtain ⟨qi, qf, qr, qb, qt, qd, qo⟩ := q
  dsimp only at *
  generalize qr.length = lr at *
  generalize s.nextValid = nv at *
  generalize s.nextItem = ni at *
  obtain ⟨R, HR⟩ : ∃ R, Hid (R = (T1 && decide (qi < ni) && T2)) := ⟨_, hide rfl⟩
  rw [← HR.out]
  cases T1 with
  | true =>
    by_cases h0 : qi < ni
    · skip
      cases T2 with
      | true =>
        have HF : Hid (R = true) := by show _ = _; rw [HR.out]; simp [h0]
        clear HR
        go_enter Tryz.func76, Tryz.ntmps76
        go_wp2_with (first | (go_at_call 77; refine (H1.out _ HB.out).mono ?_; rintro e w1 ⟨rfl, hb1⟩; replace HB := hide (HB.out.trans (hb1.mono HB.out.size)); clear hb1; have kk := HK.out.below HB.out HK.out.lt; have k0 := kk.cell 0; have k1 := kk.cell 1; have k2 := kk.cell 2; have k3 := kk.cell 3; have k4 := kk.cell 4; have k5 := kk.cell 5; have k6 := kk.cell 6; clear kk; have kk := HS.out.below HB.out HS.out.lt; have s0 := kk.cell 0; have s1 := kk.cell 1; have s2 := kk.cell 2; have s3 := kk.cell 3; have s4 := kk.cell 4; clear kk) | (go_at_call 78; refine (H2.out _ HB.out).mono ?_; rintro e w1 ⟨rfl, hb1⟩; replace HB := hide (HB.out.trans (hb1.mono HB.out.size)); clear hb1))
        exact bodyPost_ret (v := .bool true) (by simp [results, Tryz.results76, go_sem, h0] <;> omega) rfl ⟨by rw [HF.out], HB0.out.trans (HB.out.mono HB0.out.size)⟩
      | false =>
        have HF : Hid (R = false) := by show _ = _; rw [HR.out]; simp [h0]
        clear HR
        go_enter Tryz.func76, Tryz.ntmps76
        go_wp2_with (first | (go_at_call 77; refine (H1.out _ HB.out).mono ?_; rintro e w1 ⟨rfl, hb1⟩; replace HB := hide (HB.out.trans (hb1.mono HB.out.size)); clear hb1; have kk := HK.out.below HB.out HK.out.lt; have k0 := kk.cell 0; have k1 := kk.cell 1; have k2 := kk.cell 2; have k3 := kk.cell 3; have k4 := kk.cell 4; have k5 := kk.cell 5; have k6 := kk.cell 6; clear kk; have kk := HS.out.below HB.out HS.out.lt; have s0 := kk.cell 0; have s1 := kk.cell 1; have s2 := kk.cell 2; have s3 := kk.cell 3; have s4 := kk.cell 4; clear kk) | (go_at_call 78; refine (H2.out _ HB.out).mono ?_; rintro e w1 ⟨rfl, hb1⟩; replace HB := hide (HB.out.trans (hb1.mono HB.out.size)); clear hb1))
        exact bodyPost_ret (v := .bool false) (by simp [results, Tryz.results76, go_sem, h0] <;> omega) rfl ⟨by rw [HF.out], HB0.out.trans (HB.out.mono HB0.out.size)⟩
    · skip
      have HF : Hid (R = false) := by show _ = _; rw [HR.out]; simp [h0]
      clear HR
      go_enter Tryz.func76, Tryz.ntmps76
      go_wp2_with (first | (go_at_call 77; refine (H1.out _ HB.out).mono ?_; rintro e w1 ⟨rfl, hb1⟩; replace HB := hide (HB.out.trans (hb1.mono HB.out.size)); clear hb1; have kk := HK.out.below HB.out HK.out.lt; have k0 := kk.cell 0; have k1 := kk.cell 1; have k2 := kk.cell 2; have k3 := kk.cell 3; have k4 := kk.cell 4; have k5 := kk.cell 5; have k6 := kk.cell 6; clear kk; have kk := HS.out.below HB.out HS.out.lt; have s0 := kk.cell 0; have s1 := kk.cell 1; have s2 := kk.cell 2; have s3 := kk.cell 3; have s4 := kk.cell 4; clear kk) | (go_at_call 78; refine (H2.out _ HB.out).mono ?_; rintro e w1 ⟨rfl, hb1⟩; replace HB := hide (HB.out.trans (hb1.mono HB.out.size)); clear hb1))
      exact bodyPost_ret (v := .bool false) (by simp [results, Tryz.results76, go_sem, h0] <;> omega) rfl ⟨by rw [HF.out], HB0.out.trans (HB.out.mono HB0.out.size)⟩
  | false =>
    have HF : Hid (R = false) := by show _ = _; rw [HR.out]; simp []
    clear HR
    go_enter Tryz.func76, Tryz.ntmps76
    go_wp2_with (first | (go_at_call 77; refine (H1.out _ HB.out).mono ?_; rintro e w1 ⟨rfl, hb1⟩; replace HB := hide (HB.out.trans (hb1.mono HB.out.size)); clear hb1; have kk := HK.out.below HB.out HK.out.lt; have k0 := kk.cell 0; have k1 := kk.cell 1; have k2 := kk.cell 2; have k3 := kk.cell 3; have k4 := kk.cell 4; have k5 := kk.cell 5; have k6 := kk.cell 6; clear kk; have kk := HS.out.below HB.out HS.out.lt; have s0 := kk.cell 0; have s1 := kk.cell 1; have s2 := kk.cell 2; have s3 := kk.cell 3; have s4 := kk.cell 4; clear kk) | (go_at_call 78; refine (H2.out _ HB.out).mono ?_; rintro e w1 ⟨rfl, hb1⟩; replace HB := hide (HB.out.trans (hb1.mono HB.out.size)); clear hb1))
    exact bodyPost_ret (v := .bool false) (by simp [results, Tryz.results76, go_sem, ] <;> omega) rfl ⟨by rw [HF.out], HB0.out.trans (HB.out.mono HB0.out.size)⟩

set_option maxRecDepth 20000 in
set_option maxHeartbeats 8000000 in
theorem pareBoxes_any {v : Value} {w : World} {s : Stt} {ea : Addr} (hE : EN w ea) (hS : StR w v s) (hd : BdS s) :
    Calls Tryz.prog 41 #[v] w fun e w' => e = .returned (.bool (formBx s)) ∧ Below w.heap.size w w' := by
  have hv := hS
  obtain ⟨bv, sv, qv, rfl, hb, hs, hq⟩ := hS
  obtain ⟨Ab, cb, rfl⟩ := hb.form
  obtain ⟨As, cs, rfl⟩ := hs.form
  obtain ⟨Aq, cq, rfl⟩ := hq.form
  have HB0 : Hid (Below w.heap.size w (w.alloc (.cells #[.slice Ab s.boxes.length cb, .slice As s.subs.length cs, .slice Aq s.queue.length cq, .int .i64 s.nextValid, .int .i64 s.nextItem] 26))) := (Below.refl w.heap.size w).alloc (Nat.le_refl _) _
  have HB : Hid (Below (w.alloc (.cells #[.slice Ab s.boxes.length cb, .slice As s.subs.length cs, .slice Aq s.queue.length cq, .int .i64 s.nextValid, .int .i64 s.nextItem] 26)).heap.size (w.alloc (.cells #[.slice Ab s.boxes.length cb, .slice As s.subs.length cs, .slice Aq s.queue.length cq, .int .i64 s.nextValid, .int .i64 s.nextItem] 26)) (w.alloc (.cells #[.slice Ab s.boxes.length cb, .slice As s.subs.length cs, .slice Aq s.queue.length cq, .int .i64 s.nextValid, .int .i64 s.nextItem] 26))) := Below.refl _ _
  have HK := hide (Blk.new w #[.slice Ab s.boxes.length cb, .slice As s.subs.length cs, .slice Aq s.queue.length cq, .int .i64 s.nextValid, .int .i64 s.nextItem] 26)
  have HT0 := hide (hv.below HB0.out)
  have HX0 := hide (hb.below stb_bx HB0.out)
  have HE0 := hide (hE.below HB0.out)
  have eg1 : ∀ args w, (callFunc 62 args).run Tryz.prog w = .ok (.enter 62 args) w := enters_of Tryz.func62 (by kernel_rfl) rfl
  have eg2 : ∀ args w, (callFunc 65 args).run Tryz.prog w = .ok (.enter 65 args) w := enters_of Tryz.func65 (by kernel_rfl) rfl
  have H1 : Hid (∀ W, Below (w.alloc (.cells #[.slice Ab s.boxes.length cb, .slice As s.subs.length cs, .slice Aq s.queue.length cq, .int .i64 s.nextValid, .int .i64 s.nextItem] 26)).heap.size (w.alloc (.cells #[.slice Ab s.boxes.length cb, .slice As s.subs.length cs, .slice Aq s.queue.length cq, .int .i64 s.nextValid, .int .i64 s.nextItem] 26)) W → Calls Tryz.prog 61 #[.slice Ab s.boxes.length cb, .func (.func 62) #[] #[]] W fun e w' => e = .returned (.bool (risL bxLt s.boxes)) ∧ Below W.heap.size W w') := fun W hW =>
    prisesBox_any (HX0.out.below stb_bx hW) hd.boxes bxLt (fun x y => sbO x.user x.name y.user y.name) (fun x y => sbO_ge _ _ _ _) _ eg1 (fun x y u v W hu hv => by obtain ⟨_, rfl, _⟩ := hu; obtain ⟨_, rfl, _⟩ := hv; exact pboxOrder_any _ _ _ _ _ _ _ _ _ _ W)
  have H2 : Hid (∀ W, Below (w.alloc (.cells #[.slice Ab s.boxes.length cb, .slice As s.subs.length cs, .slice Aq s.queue.length cq, .int .i64 s.nextValid, .int .i64 s.nextItem] 26)).heap.size (w.alloc (.cells #[.slice Ab s.boxes.length cb, .slice As s.subs.length cs, .slice Aq s.queue.length cq, .int .i64 s.nextValid, .int .i64 s.nextItem] 26)) W → Calls Tryz.prog 63 #[.slice Ab s.boxes.length cb] W fun e w' => e = .returned (.bool (ownV (s.boxes.map Bx.valid))) ∧ Below W.heap.size W w') := fun W hW => pown_any (HX0.out.below stb_bx hW) hd.boxes
  have H3 : Hid (∀ W, Below (w.alloc (.cells #[.slice Ab s.boxes.length cb, .slice As s.subs.length cs, .slice Aq s.queue.length cq, .int .i64 s.nextValid, .int .i64 s.nextItem] 26)).heap.size (w.alloc (.cells #[.slice Ab s.boxes.length cb, .slice As s.subs.length cs, .slice Aq s.queue.length cq, .int .i64 s.nextValid, .int .i64 s.nextItem] 26)) W → Calls Tryz.prog 64 #[.slice Ab s.boxes.length cb, .func (.func 65) #[] #[.pointer (some ⟨w.heap.size, 0, none⟩)]] W fun e w' => e = .returned (.bool (s.boxes.all (fun b => bxB b && decide (b.valid < s.nextValid) && poUser s.boxes b.user))) ∧ Below W.heap.size W w') := fun W hW =>
    pallBox_any (HX0.out.below stb_bx hW) hd.boxes (fun b => bxB b && decide (b.valid < s.nextValid) && poUser s.boxes b.user) _ #[] #[.pointer (some ⟨w.heap.size, 0, none⟩)] eg2 (fun i hi v W' hW' hv => pareBoxes1_any ((HE0.out.below hW).below hW') hv (hd.bx _ (List.getElem_mem _)) ((HT0.out.below hW).below hW') ((HK.out.below hW HK.out.lt).below hW' (HK.out.below hW HK.out.lt).lt) hd.boxes)
  obtain ⟨R, HR⟩ : ∃ R, Hid (R = formBx s) := ⟨_, hide rfl⟩
  rw [← HR.out]
  replace HR : Hid (R = (decide (s.boxes.length ≤ 24) && risL bxLt s.boxes && ownV (s.boxes.map Bx.valid) && s.boxes.all (fun b => bxB b && decide (b.valid < s.nextValid) && poUser s.boxes b.user))) := HR
  clear hv hb hs hq HT0 HX0 eg1 eg2 hE HE0
  generalize risL bxLt s.boxes = T1 at *
  generalize ownV (s.boxes.map Bx.valid) = T2 at *
  generalize s.boxes.all (fun b => bxB b && decide (b.valid < s.nextValid) && poUser s.boxes b.user) = T3 at *
  clear hd
  generalize s.boxes.length = l0 at *
  generalize s.nextValid = nv at *
  generalize s.nextItem = ni at *
  generalize s.subs.length = ls at *
  generalize s.queue.length = lq at *
  by_cases h0 : l0 ≤ 24
  · skip
    cases T1 with
    | true =>
      cases T2 with
      | true =>
        cases T3 with
        | true =>
          have HF : Hid (R = true) := by show _ = _; rw [HR.out]; simp [h0]
          clear HR
          go_enter Tryz.func41, Tryz.ntmps41
          go_wp2_with (first | (go_at_call 61; refine (H1.out _ HB.out).mono ?_; rintro e w1 ⟨rfl, hb1⟩; replace HB := hide (HB.out.trans (hb1.mono HB.out.size)); clear hb1; have kk := HK.out.below HB.out HK.out.lt; have k0 := kk.cell 0; have k1 := kk.cell 1; have k2 := kk.cell 2; have k3 := kk.cell 3; have k4 := kk.cell 4; clear kk) | (go_at_call 63; refine (H2.out _ HB.out).mono ?_; rintro e w1 ⟨rfl, hb1⟩; replace HB := hide (HB.out.trans (hb1.mono HB.out.size)); clear hb1; have kk := HK.out.below HB.out HK.out.lt; have k0 := kk.cell 0; have k1 := kk.cell 1; have k2 := kk.cell 2; have k3 := kk.cell 3; have k4 := kk.cell 4; clear kk) | (go_at_call 64; refine (H3.out _ HB.out).mono ?_; rintro e w1 ⟨rfl, hb1⟩; replace HB := hide (HB.out.trans (hb1.mono HB.out.size)); clear hb1; have kk := HK.out.below HB.out HK.out.lt; have k0 := kk.cell 0; have k1 := kk.cell 1; have k2 := kk.cell 2; have k3 := kk.cell 3; have k4 := kk.cell 4; clear kk))
          exact bodyPost_ret (v := .bool true) (by simp [results, Tryz.results41, go_sem, h0] <;> omega) rfl ⟨by rw [HF.out], HB0.out.trans (HB.out.mono HB0.out.size)⟩
        | false =>
          have HF : Hid (R = false) := by show _ = _; rw [HR.out]; simp [h0]
          clear HR
          go_enter Tryz.func41, Tryz.ntmps41
          go_wp2_with (first | (go_at_call 61; refine (H1.out _ HB.out).mono ?_; rintro e w1 ⟨rfl, hb1⟩; replace HB := hide (HB.out.trans (hb1.mono HB.out.size)); clear hb1; have kk := HK.out.below HB.out HK.out.lt; have k0 := kk.cell 0; have k1 := kk.cell 1; have k2 := kk.cell 2; have k3 := kk.cell 3; have k4 := kk.cell 4; clear kk) | (go_at_call 63; refine (H2.out _ HB.out).mono ?_; rintro e w1 ⟨rfl, hb1⟩; replace HB := hide (HB.out.trans (hb1.mono HB.out.size)); clear hb1; have kk := HK.out.below HB.out HK.out.lt; have k0 := kk.cell 0; have k1 := kk.cell 1; have k2 := kk.cell 2; have k3 := kk.cell 3; have k4 := kk.cell 4; clear kk) | (go_at_call 64; refine (H3.out _ HB.out).mono ?_; rintro e w1 ⟨rfl, hb1⟩; replace HB := hide (HB.out.trans (hb1.mono HB.out.size)); clear hb1; have kk := HK.out.below HB.out HK.out.lt; have k0 := kk.cell 0; have k1 := kk.cell 1; have k2 := kk.cell 2; have k3 := kk.cell 3; have k4 := kk.cell 4; clear kk))
          exact bodyPost_ret (v := .bool false) (by simp [results, Tryz.results41, go_sem, h0] <;> omega) rfl ⟨by rw [HF.out], HB0.out.trans (HB.out.mono HB0.out.size)⟩
      | false =>
        have HF : Hid (R = false) := by show _ = _; rw [HR.out]; simp [h0]
        clear HR
        go_enter Tryz.func41, Tryz.ntmps41
        go_wp2_with (first | (go_at_call 61; refine (H1.out _ HB.out).mono ?_; rintro e w1 ⟨rfl, hb1⟩; replace HB := hide (HB.out.trans (hb1.mono HB.out.size)); clear hb1; have kk := HK.out.below HB.out HK.out.lt; have k0 := kk.cell 0; have k1 := kk.cell 1; have k2 := kk.cell 2; have k3 := kk.cell 3; have k4 := kk.cell 4; clear kk) | (go_at_call 63; refine (H2.out _ HB.out).mono ?_; rintro e w1 ⟨rfl, hb1⟩; replace HB := hide (HB.out.trans (hb1.mono HB.out.size)); clear hb1; have kk := HK.out.below HB.out HK.out.lt; have k0 := kk.cell 0; have k1 := kk.cell 1; have k2 := kk.cell 2; have k3 := kk.cell 3; have k4 := kk.cell 4; clear kk) | (go_at_call 64; refine (H3.out _ HB.out).mono ?_; rintro e w1 ⟨rfl, hb1⟩; replace HB := hide (HB.out.trans (hb1.mono HB.out.size)); clear hb1; have kk := HK.out.below HB.out HK.out.lt; have k0 := kk.cell 0; have k1 := kk.cell 1; have k2 := kk.cell 2; have k3 := kk.cell 3; have k4 := kk.cell 4; clear kk))
        exact bodyPost_ret (v := .bool false) (by simp [results, Tryz.results41, go_sem, h0] <;> omega) rfl ⟨by rw [HF.out], HB0.out.trans (HB.out.mono HB0.out.size)⟩
    | false =>
      have HF : Hid (R = false) := by show _ = _; rw [HR.out]; simp [h0]
      clear HR
      go_enter Tryz.func41, Tryz.ntmps41
      go_wp2_with (first | (go_at_call 61; refine (H1.out _ HB.out).mono ?_; rintro e w1 ⟨rfl, hb1⟩; replace HB := hide (HB.out.trans (hb1.mono HB.out.size)); clear hb1; have kk := HK.out.below HB.out HK.out.lt; have k0 := kk.cell 0; have k1 := kk.cell 1; have k2 := kk.cell 2; have k3 := kk.cell 3; have k4 := kk.cell 4; clear kk) | (go_at_call 63; refine (H2.out _ HB.out).mono ?_; rintro e w1 ⟨rfl, hb1⟩; replace HB := hide (HB.out.trans (hb1.mono HB.out.size)); clear hb1; have kk := HK.out.below HB.out HK.out.lt; have k0 := kk.cell 0; have k1 := kk.cell 1; have k2 := kk.cell 2; have k3 := kk.cell 3; have k4 := kk.cell 4; clear kk) | (go_at_call 64; refine (H3.out _ HB.out).mono ?_; rintro e w1 ⟨rfl, hb1⟩; replace HB := hide (HB.out.trans (hb1.mono HB.out.size)); clear hb1; have kk := HK.out.below HB.out HK.out.lt; have k0 := kk.cell 0; have k1 := kk.cell 1; have k2 := kk.cell 2; have k3 := kk.cell 3; have k4 := kk.cell 4; clear kk))
      exact bodyPost_ret (v := .bool false) (by simp [results, Tryz.results41, go_sem, h0] <;> omega) rfl ⟨by rw [HF.out], HB0.out.trans (HB.out.mono HB0.out.size)⟩
  · skip
    have HF : Hid (R = false) := by show _ = _; rw [HR.out]; simp [h0]
    clear HR
    go_enter Tryz.func41, Tryz.ntmps41
    go_wp2_with (first | (go_at_call 61; refine (H1.out _ HB.out).mono ?_; rintro e w1 ⟨rfl, hb1⟩; replace HB := hide (HB.out.trans (hb1.mono HB.out.size)); clear hb1; have kk := HK.out.below HB.out HK.out.lt; have k0 := kk.cell 0; have k1 := kk.cell 1; have k2 := kk.cell 2; have k3 := kk.cell 3; have k4 := kk.cell 4; clear kk) | (go_at_call 63; refine (H2.out _ HB.out).mono ?_; rintro e w1 ⟨rfl, hb1⟩; replace HB := hide (HB.out.trans (hb1.mono HB.out.size)); clear hb1; have kk := HK.out.below HB.out HK.out.lt; have k0 := kk.cell 0; have k1 := kk.cell 1; have k2 := kk.cell 2; have k3 := kk.cell 3; have k4 := kk.cell 4; clear kk) | (go_at_call 64; refine (H3.out _ HB.out).mono ?_; rintro e w1 ⟨rfl, hb1⟩; replace HB := hide (HB.out.trans (hb1.mono HB.out.size)); clear hb1; have kk := HK.out.below HB.out HK.out.lt; have k0 := kk.cell 0; have k1 := kk.cell 1; have k2 := kk.cell 2; have k3 := kk.cell 3; have k4 := kk.cell 4; clear kk))
    exact bodyPost_ret (v := .bool false) (by simp [results, Tryz.results41, go_sem, h0] <;> omega) rfl ⟨by rw [HF.out], HB0.out.trans (HB.out.mono HB0.out.size)⟩

set_option maxRecDepth 20000 in
set_option maxHeartbeats 8000000 in
theorem pareSubs_any {v : Value} {w : World} {s : Stt} {ea : Addr} (hE : EN w ea) (hS : StR w v s) (hd : BdS s) :
    Calls Tryz.prog 42 #[v] w fun e w' => e = .returned (.bool (formSb s)) ∧ Below w.heap.size w w' := by
  have hv := hS
  obtain ⟨bv, sv, qv, rfl, hb, hs, hq⟩ := hS
  obtain ⟨Ab, cb, rfl⟩ := hb.form
  obtain ⟨As, cs, rfl⟩ := hs.form
  obtain ⟨Aq, cq, rfl⟩ := hq.form
  have HB0 : Hid (Below w.heap.size w (w.alloc (.cells #[.slice Ab s.boxes.length cb, .slice As s.subs.length cs, .slice Aq s.queue.length cq, .int .i64 s.nextValid, .int .i64 s.nextItem] 26))) := (Below.refl w.heap.size w).alloc (Nat.le_refl _) _
  have HB : Hid (Below (w.alloc (.cells #[.slice Ab s.boxes.length cb, .slice As s.subs.length cs, .slice Aq s.queue.length cq, .int .i64 s.nextValid, .int .i64 s.nextItem] 26)).heap.size (w.alloc (.cells #[.slice Ab s.boxes.length cb, .slice As s.subs.length cs, .slice Aq s.queue.length cq, .int .i64 s.nextValid, .int .i64 s.nextItem] 26)) (w.alloc (.cells #[.slice Ab s.boxes.length cb, .slice As s.subs.length cs, .slice Aq s.queue.length cq, .int .i64 s.nextValid, .int .i64 s.nextItem] 26))) := Below.refl _ _
  have HK := hide (Blk.new w #[.slice Ab s.boxes.length cb, .slice As s.subs.length cs, .slice Aq s.queue.length cq, .int .i64 s.nextValid, .int .i64 s.nextItem] 26)
  have HT0 := hide (hv.below HB0.out)
  have HX0 := hide (hs.below stb_sb HB0.out)
  have HE0 := hide (hE.below HB0.out)
  have eg1 : ∀ args w, (callFunc 69 args).run Tryz.prog w = .ok (.enter 69 args) w := enters_of Tryz.func69 (by kernel_rfl) rfl
  have eg2 : ∀ args w, (callFunc 71 args).run Tryz.prog w = .ok (.enter 71 args) w := enters_of Tryz.func71 (by kernel_rfl) rfl
  have H1 : Hid (∀ W, Below (w.alloc (.cells #[.slice Ab s.boxes.length cb, .slice As s.subs.length cs, .slice Aq s.queue.length cq, .int .i64 s.nextValid, .int .i64 s.nextItem] 26)).heap.size (w.alloc (.cells #[.slice Ab s.boxes.length cb, .slice As s.subs.length cs, .slice Aq s.queue.length cq, .int .i64 s.nextValid, .int .i64 s.nextItem] 26)) W → Calls Tryz.prog 68 #[.slice As s.subs.length cs, .func (.func 69) #[] #[]] W fun e w' => e = .returned (.bool (risL sbLt s.subs)) ∧ Below W.heap.size W w') := fun W hW =>
    prisesSub_any (HX0.out.below stb_sb hW) hd.subs sbLt (fun x y => sbO x.user x.name y.user y.name) (fun x y => sbO_ge _ _ _ _) _ eg1 (fun x y u v W hu hv => by cases hu; cases hv; exact psubOrder_any _ _ _ _ W)
  have H3 : Hid (∀ W, Below (w.alloc (.cells #[.slice Ab s.boxes.length cb, .slice As s.subs.length cs, .slice Aq s.queue.length cq, .int .i64 s.nextValid, .int .i64 s.nextItem] 26)).heap.size (w.alloc (.cells #[.slice Ab s.boxes.length cb, .slice As s.subs.length cs, .slice Aq s.queue.length cq, .int .i64 s.nextValid, .int .i64 s.nextItem] 26)) W → Calls Tryz.prog 70 #[.slice As s.subs.length cs, .func (.func 71) #[] #[.pointer (some ⟨w.heap.size, 0, none⟩)]] W fun e w' => e = .returned (.bool (s.subs.all (fun x => poName x.name && poUser s.boxes x.user))) ∧ Below W.heap.size W w') := fun W hW =>
    pallSub_any (HX0.out.below stb_sb hW) hd.subs (fun x => poName x.name && poUser s.boxes x.user) _ #[] #[.pointer (some ⟨w.heap.size, 0, none⟩)] eg2 (fun i hi v W' hW' hv => pareSubs1_any ((HE0.out.below hW).below hW') hv (hd.sb _ (List.getElem_mem _)) ((HT0.out.below hW).below hW') ((HK.out.below hW HK.out.lt).below hW' (HK.out.below hW HK.out.lt).lt) hd.boxes)
  obtain ⟨R, HR⟩ : ∃ R, Hid (R = formSb s) := ⟨_, hide rfl⟩
  rw [← HR.out]
  replace HR : Hid (R = (decide (s.subs.length ≤ 24) && risL sbLt s.subs && s.subs.all (fun x => poName x.name && poUser s.boxes x.user))) := HR
  clear hv hb hs hq HT0 HX0 eg1 eg2 hE HE0
  generalize risL sbLt s.subs = T1 at *
  generalize s.subs.all (fun x => poName x.name && poUser s.boxes x.user) = T3 at *
  clear hd
  generalize s.subs.length = l0 at *
  generalize s.nextValid = nv at *
  generalize s.nextItem = ni at *
  generalize s.boxes.length = lb at *
  generalize s.queue.length = lq at *
  by_cases h0 : l0 ≤ 24
  · skip
    cases T1 with
    | true =>
      cases T3 with
      | true =>
        have HF : Hid (R = true) := by show _ = _; rw [HR.out]; simp [h0]
        clear HR
        go_enter Tryz.func42, Tryz.ntmps42
        go_wp2_with (first | (go_at_call 68; refine (H1.out _ HB.out).mono ?_; rintro e w1 ⟨rfl, hb1⟩; replace HB := hide (HB.out.trans (hb1.mono HB.out.size)); clear hb1; have kk := HK.out.below HB.out HK.out.lt; have k0 := kk.cell 0; have k1 := kk.cell 1; have k2 := kk.cell 2; have k3 := kk.cell 3; have k4 := kk.cell 4; clear kk) | (go_at_call 70; refine (H3.out _ HB.out).mono ?_; rintro e w1 ⟨rfl, hb1⟩; replace HB := hide (HB.out.trans (hb1.mono HB.out.size)); clear hb1; have kk := HK.out.below HB.out HK.out.lt; have k0 := kk.cell 0; have k1 := kk.cell 1; have k2 := kk.cell 2; have k3 := kk.cell 3; have k4 := kk.cell 4; clear kk))
        exact bodyPost_ret (v := .bool true) (by simp [results, Tryz.results42, go_sem, h0] <;> omega) rfl ⟨by rw [HF.out], HB0.out.trans (HB.out.mono HB0.out.size)⟩
      | false =>
        have HF : Hid (R = false) := by show _ = _; rw [HR.out]; simp [h0]
        clear HR
        go_enter Tryz.func42, Tryz.ntmps42
        go_wp2_with (first | (go_at_call 68; refine (H1.out _ HB.out).mono ?_; rintro e w1 ⟨rfl, hb1⟩; replace HB := hide (HB.out.trans (hb1.mono HB.out.size)); clear hb1; have kk := HK.out.below HB.out HK.out.lt; have k0 := kk.cell 0; have k1 := kk.cell 1; have k2 := kk.cell 2; have k3 := kk.cell 3; have k4 := kk.cell 4; clear kk) | (go_at_call 70; refine (H3.out _ HB.out).mono ?_; rintro e w1 ⟨rfl, hb1⟩; replace HB := hide (HB.out.trans (hb1.mono HB.out.size)); clear hb1; have kk := HK.out.below HB.out HK.out.lt; have k0 := kk.cell 0; have k1 := kk.cell 1; have k2 := kk.cell 2; have k3 := kk.cell 3; have k4 := kk.cell 4; clear kk))
        exact bodyPost_ret (v := .bool false) (by simp [results, Tryz.results42, go_sem, h0] <;> omega) rfl ⟨by rw [HF.out], HB0.out.trans (HB.out.mono HB0.out.size)⟩
    | false =>
      have HF : Hid (R = false) := by show _ = _; rw [HR.out]; simp [h0]
      clear HR
      go_enter Tryz.func42, Tryz.ntmps42
      go_wp2_with (first | (go_at_call 68; refine (H1.out _ HB.out).mono ?_; rintro e w1 ⟨rfl, hb1⟩; replace HB := hide (HB.out.trans (hb1.mono HB.out.size)); clear hb1; have kk := HK.out.below HB.out HK.out.lt; have k0 := kk.cell 0; have k1 := kk.cell 1; have k2 := kk.cell 2; have k3 := kk.cell 3; have k4 := kk.cell 4; clear kk) | (go_at_call 70; refine (H3.out _ HB.out).mono ?_; rintro e w1 ⟨rfl, hb1⟩; replace HB := hide (HB.out.trans (hb1.mono HB.out.size)); clear hb1; have kk := HK.out.below HB.out HK.out.lt; have k0 := kk.cell 0; have k1 := kk.cell 1; have k2 := kk.cell 2; have k3 := kk.cell 3; have k4 := kk.cell 4; clear kk))
      exact bodyPost_ret (v := .bool false) (by simp [results, Tryz.results42, go_sem, h0] <;> omega) rfl ⟨by rw [HF.out], HB0.out.trans (HB.out.mono HB0.out.size)⟩
  · skip
    have HF : Hid (R = false) := by show _ = _; rw [HR.out]; simp [h0]
    clear HR
    go_enter Tryz.func42, Tryz.ntmps42
    go_wp2_with (first | (go_at_call 68; refine (H1.out _ HB.out).mono ?_; rintro e w1 ⟨rfl, hb1⟩; replace HB := hide (HB.out.trans (hb1.mono HB.out.size)); clear hb1; have kk := HK.out.below HB.out HK.out.lt; have k0 := kk.cell 0; have k1 := kk.cell 1; have k2 := kk.cell 2; have k3 := kk.cell 3; have k4 := kk.cell 4; clear kk) | (go_at_call 70; refine (H3.out _ HB.out).mono ?_; rintro e w1 ⟨rfl, hb1⟩; replace HB := hide (HB.out.trans (hb1.mono HB.out.size)); clear hb1; have kk := HK.out.below HB.out HK.out.lt; have k0 := kk.cell 0; have k1 := kk.cell 1; have k2 := kk.cell 2; have k3 := kk.cell 3; have k4 := kk.cell 4; clear kk))
    exact bodyPost_ret (v := .bool false) (by simp [results, Tryz.results42, go_sem, h0] <;> omega) rfl ⟨by rw [HF.out], HB0.out.trans (HB.out.mono HB0.out.size)⟩

set_option maxRecDepth 20000 in
set_option maxHeartbeats 8000000 in
theorem pisQueue_any {v : Value} {w : World} {s : Stt} (hS : StR w v s) (hd : BdS s) :
    Calls Tryz.prog 43 #[v] w fun e w' => e = .returned (.bool (formIt s)) ∧ Below w.heap.size w w' := by
  have hv := hS
  obtain ⟨bv, sv, qv, rfl, hb, hs, hq⟩ := hS
  obtain ⟨Ab, cb, rfl⟩ := hb.form
  obtain ⟨As, cs, rfl⟩ := hs.form
  obtain ⟨Aq, cq, rfl⟩ := hq.form
  have HB0 : Hid (Below w.heap.size w (w.alloc (.cells #[.slice Ab s.boxes.length cb, .slice As s.subs.length cs, .slice Aq s.queue.length cq, .int .i64 s.nextValid, .int .i64 s.nextItem] 26))) := (Below.refl w.heap.size w).alloc (Nat.le_refl _) _
  have HB : Hid (Below (w.alloc (.cells #[.slice Ab s.boxes.length cb, .slice As s.subs.length cs, .slice Aq s.queue.length cq, .int .i64 s.nextValid, .int .i64 s.nextItem] 26)).heap.size (w.alloc (.cells #[.slice Ab s.boxes.length cb, .slice As s.subs.length cs, .slice Aq s.queue.length cq, .int .i64 s.nextValid, .int .i64 s.nextItem] 26)) (w.alloc (.cells #[.slice Ab s.boxes.length cb, .slice As s.subs.length cs, .slice Aq s.queue.length cq, .int .i64 s.nextValid, .int .i64 s.nextItem] 26))) := Below.refl _ _
  have HK := hide (Blk.new w #[.slice Ab s.boxes.length cb, .slice As s.subs.length cs, .slice Aq s.queue.length cq, .int .i64 s.nextValid, .int .i64 s.nextItem] 26)
  have HT0 := hide (hv.below HB0.out)
  have HX0 := hide (hq.below stb_it HB0.out)
  have eg1 : ∀ args w, (callFunc 74 args).run Tryz.prog w = .ok (.enter 74 args) w := enters_of Tryz.func74 (by kernel_rfl) rfl
  have eg2 : ∀ args w, (callFunc 76 args).run Tryz.prog w = .ok (.enter 76 args) w := enters_of Tryz.func76 (by kernel_rfl) rfl
  have H1 : Hid (∀ W, Below (w.alloc (.cells #[.slice Ab s.boxes.length cb, .slice As s.subs.length cs, .slice Aq s.queue.length cq, .int .i64 s.nextValid, .int .i64 s.nextItem] 26)).heap.size (w.alloc (.cells #[.slice Ab s.boxes.length cb, .slice As s.subs.length cs, .slice Aq s.queue.length cq, .int .i64 s.nextValid, .int .i64 s.nextItem] 26)) W → Calls Tryz.prog 73 #[.slice Aq s.queue.length cq, .func (.func 74) #[] #[]] W fun e w' => e = .returned (.bool (risL itLt s.queue)) ∧ Below W.heap.size W w') := fun W hW =>
    prisesItem_any (HX0.out.below stb_it hW) hd.queue itLt (fun x y => ciV x.id y.id) (fun x y => ciV_ge _ _) _ eg1 (fun x y u v W hu hv => by obtain ⟨_, rfl, _⟩ := hu; obtain ⟨_, rfl, _⟩ := hv; exact pitemOrder_any _ _ _ _ _ _ _ _ _ _ _ _ _ _ W)
  have H3 : Hid (∀ W, Below (w.alloc (.cells #[.slice Ab s.boxes.length cb, .slice As s.subs.length cs, .slice Aq s.queue.length cq, .int .i64 s.nextValid, .int .i64 s.nextItem] 26)).heap.size (w.alloc (.cells #[.slice Ab s.boxes.length cb, .slice As s.subs.length cs, .slice Aq s.queue.length cq, .int .i64 s.nextValid, .int .i64 s.nextItem] 26)) W → Calls Tryz.prog 75 #[.slice Aq s.queue.length cq, .func (.func 76) #[] #[.pointer (some ⟨w.heap.size, 0, none⟩)]] W fun e w' => e = .returned (.bool (s.queue.all (fun q => itB q && decide (q.id < s.nextItem) && q.fr.all (poUser s.boxes)))) ∧ Below W.heap.size W w') := fun W hW =>
    pallItem_any (HX0.out.below stb_it hW) hd.queue (fun q => itB q && decide (q.id < s.nextItem) && q.fr.all (poUser s.boxes)) _ #[] #[.pointer (some ⟨w.heap.size, 0, none⟩)] eg2 (fun i hi v W' hW' hv => pisQueue1_any hv (hd.qu _ (List.getElem_mem _)) ((HT0.out.below hW).below hW') ((HK.out.below hW HK.out.lt).below hW' (HK.out.below hW HK.out.lt).lt) hd.boxes)
  obtain ⟨R, HR⟩ : ∃ R, Hid (R = formIt s) := ⟨_, hide rfl⟩
  rw [← HR.out]
  replace HR : Hid (R = (decide (s.queue.length ≤ 24) && risL itLt s.queue && s.queue.all (fun q => itB q && decide (q.id < s.nextItem) && q.fr.all (poUser s.boxes)))) := HR
  clear hv hb hs hq HT0 HX0 eg1 eg2
  generalize risL itLt s.queue = T1 at *
  generalize s.queue.all (fun q => itB q && decide (q.id < s.nextItem) && q.fr.all (poUser s.boxes)) = T3 at *
  clear hd
  generalize s.queue.length = l0 at *
  generalize s.nextValid = nv at *
  generalize s.nextItem = ni at *
  generalize s.boxes.length = lb at *
  generalize s.subs.length = ls at *
  by_cases h0 : l0 ≤ 24
  · skip
    cases T1 with
    | true =>
      cases T3 with
      | true =>
        have HF : Hid (R = true) := by show _ = _; rw [HR.out]; simp [h0]
        clear HR
        go_enter Tryz.func43, Tryz.ntmps43
        go_wp2_with (first | (go_at_call 73; refine (H1.out _ HB.out).mono ?_; rintro e w1 ⟨rfl, hb1⟩; replace HB := hide (HB.out.trans (hb1.mono HB.out.size)); clear hb1; have kk := HK.out.below HB.out HK.out.lt; have k0 := kk.cell 0; have k1 := kk.cell 1; have k2 := kk.cell 2; have k3 := kk.cell 3; have k4 := kk.cell 4; clear kk) | (go_at_call 75; refine (H3.out _ HB.out).mono ?_; rintro e w1 ⟨rfl, hb1⟩; replace HB := hide (HB.out.trans (hb1.mono HB.out.size)); clear hb1; have kk := HK.out.below HB.out HK.out.lt; have k0 := kk.cell 0; have k1 := kk.cell 1; have k2 := kk.cell 2; have k3 := kk.cell 3; have k4 := kk.cell 4; clear kk))
        exact bodyPost_ret (v := .bool true) (by simp [results, Tryz.results43, go_sem, h0] <;> omega) rfl ⟨by rw [HF.out], HB0.out.trans (HB.out.mono HB0.out.size)⟩
      | false =>
        have HF : Hid (R = false) := by show _ = _; rw [HR.out]; simp [h0]
        clear HR
        go_enter Tryz.func43, Tryz.ntmps43
        go_wp2_with (first | (go_at_call 73; refine (H1.out _ HB.out).mono ?_; rintro e w1 ⟨rfl, hb1⟩; replace HB := hide (HB.out.trans (hb1.mono HB.out.size)); clear hb1; have kk := HK.out.below HB.out HK.out.lt; have k0 := kk.cell 0; have k1 := kk.cell 1; have k2 := kk.cell 2; have k3 := kk.cell 3; have k4 := kk.cell 4; clear kk) | (go_at_call 75; refine (H3.out _ HB.out).mono ?_; rintro e w1 ⟨rfl, hb1⟩; replace HB := hide (HB.out.trans (hb1.mono HB.out.size)); clear hb1; have kk := HK.out.below HB.out HK.out.lt; have k0 := kk.cell 0; have k1 := kk.cell 1; have k2 := kk.cell 2; have k3 := kk.cell 3; have k4 := kk.cell 4; clear kk))
        exact bodyPost_ret (v := .bool false) (by simp [results, Tryz.results43, go_sem, h0] <;> omega) rfl ⟨by rw [HF.out], HB0.out.trans (HB.out.mono HB0.out.size)⟩
    | false =>
      have HF : Hid (R = false) := by show _ = _; rw [HR.out]; simp [h0]
      clear HR
      go_enter Tryz.func43, Tryz.ntmps43
      go_wp2_with (first | (go_at_call 73; refine (H1.out _ HB.out).mono ?_; rintro e w1 ⟨rfl, hb1⟩; replace HB := hide (HB.out.trans (hb1.mono HB.out.size)); clear hb1; have kk := HK.out.below HB.out HK.out.lt; have k0 := kk.cell 0; have k1 := kk.cell 1; have k2 := kk.cell 2; have k3 := kk.cell 3; have k4 := kk.cell 4; clear kk) | (go_at_call 75; refine (H3.out _ HB.out).mono ?_; rintro e w1 ⟨rfl, hb1⟩; replace HB := hide (HB.out.trans (hb1.mono HB.out.size)); clear hb1; have kk := HK.out.below HB.out HK.out.lt; have k0 := kk.cell 0; have k1 := kk.cell 1; have k2 := kk.cell 2; have k3 := kk.cell 3; have k4 := kk.cell 4; clear kk))
      exact bodyPost_ret (v := .bool false) (by simp [results, Tryz.results43, go_sem, h0] <;> omega) rfl ⟨by rw [HF.out], HB0.out.trans (HB.out.mono HB0.out.size)⟩
  · skip
    have HF : Hid (R = false) := by show _ = _; rw [HR.out]; simp [h0]
    clear HR
    go_enter Tryz.func43, Tryz.ntmps43
    go_wp2_with (first | (go_at_call 73; refine (H1.out _ HB.out).mono ?_; rintro e w1 ⟨rfl, hb1⟩; replace HB := hide (HB.out.trans (hb1.mono HB.out.size)); clear hb1; have kk := HK.out.below HB.out HK.out.lt; have k0 := kk.cell 0; have k1 := kk.cell 1; have k2 := kk.cell 2; have k3 := kk.cell 3; have k4 := kk.cell 4; clear kk) | (go_at_call 75; refine (H3.out _ HB.out).mono ?_; rintro e w1 ⟨rfl, hb1⟩; replace HB := hide (HB.out.trans (hb1.mono HB.out.size)); clear hb1; have kk := HK.out.below HB.out HK.out.lt; have k0 := kk.cell 0; have k1 := kk.cell 1; have k2 := kk.cell 2; have k3 := kk.cell 3; have k4 := kk.cell 4; clear kk))
    exact bodyPost_ret (v := .bool false) (by simp [results, Tryz.results43, go_sem, h0] <;> omega) rfl ⟨by rw [HF.out], HB0.out.trans (HB.out.mono HB0.out.size)⟩

set_option maxRecDepth 20000 in
set_option maxHeartbeats 8000000 in
theorem pform_any {v : Value} {w : World} {s : Stt} {ea : Addr} (hE : EN w ea) (hS : StR w v s) (hd : BdS s) :
    Calls Tryz.prog 22 #[v] w fun e w' => e = .returned (.bool (poForm s)) ∧ Below w.heap.size w w' := by
  rw [← formP_eq]
  have hv := hS
  obtain ⟨bv, sv, qv, rfl, hb, hs, hq⟩ := hS
  obtain ⟨Ab, cb, rfl⟩ := hb.form
  obtain ⟨As, cs, rfl⟩ := hs.form
  obtain ⟨Aq, cq, rfl⟩ := hq.form
  have HB0 : Hid (Below w.heap.size w (w.alloc (.cells #[.slice Ab s.boxes.length cb, .slice As s.subs.length cs, .slice Aq s.queue.length cq, .int .i64 s.nextValid, .int .i64 s.nextItem] 26))) := (Below.refl w.heap.size w).alloc (Nat.le_refl _) _
  have HB : Hid (Below (w.alloc (.cells #[.slice Ab s.boxes.length cb, .slice As s.subs.length cs, .slice Aq s.queue.length cq, .int .i64 s.nextValid, .int .i64 s.nextItem] 26)).heap.size (w.alloc (.cells #[.slice Ab s.boxes.length cb, .slice As s.subs.length cs, .slice Aq s.queue.length cq, .int .i64 s.nextValid, .int .i64 s.nextItem] 26)) (w.alloc (.cells #[.slice Ab s.boxes.length cb, .slice As s.subs.length cs, .slice Aq s.queue.length cq, .int .i64 s.nextValid, .int .i64 s.nextItem] 26))) := Below.refl _ _
  have HK := hide (Blk.new w #[.slice Ab s.boxes.length cb, .slice As s.subs.length cs, .slice Aq s.queue.length cq, .int .i64 s.nextValid, .int .i64 s.nextItem] 26)
  have HT0 := hide (hv.below HB0.out)
  have HE0 := hide (hE.below HB0.out)
  have H0 := hide (fun n W => pnum_any n W)
  have H3 : Hid (∀ W, Below (w.alloc (.cells #[.slice Ab s.boxes.length cb, .slice As s.subs.length cs, .slice Aq s.queue.length cq, .int .i64 s.nextValid, .int .i64 s.nextItem] 26)).heap.size (w.alloc (.cells #[.slice Ab s.boxes.length cb, .slice As s.subs.length cs, .slice Aq s.queue.length cq, .int .i64 s.nextValid, .int .i64 s.nextItem] 26)) W → Calls Tryz.prog 41 #[.agg #[.slice Ab s.boxes.length cb, .slice As s.subs.length cs, .slice Aq s.queue.length cq, .int .i64 s.nextValid, .int .i64 s.nextItem]] W fun e w' => e = .returned (.bool (formBx s)) ∧ Below W.heap.size W w') := fun W hW => pareBoxes_any (HE0.out.below hW) (HT0.out.below hW) hd
  have H4 : Hid (∀ W, Below (w.alloc (.cells #[.slice Ab s.boxes.length cb, .slice As s.subs.length cs, .slice Aq s.queue.length cq, .int .i64 s.nextValid, .int .i64 s.nextItem] 26)).heap.size (w.alloc (.cells #[.slice Ab s.boxes.length cb, .slice As s.subs.length cs, .slice Aq s.queue.length cq, .int .i64 s.nextValid, .int .i64 s.nextItem] 26)) W → Calls Tryz.prog 42 #[.agg #[.slice Ab s.boxes.length cb, .slice As s.subs.length cs, .slice Aq s.queue.length cq, .int .i64 s.nextValid, .int .i64 s.nextItem]] W fun e w' => e = .returned (.bool (formSb s)) ∧ Below W.heap.size W w') := fun W hW => pareSubs_any (HE0.out.below hW) (HT0.out.below hW) hd
  have H5 : Hid (∀ W, Below (w.alloc (.cells #[.slice Ab s.boxes.length cb, .slice As s.subs.length cs, .slice Aq s.queue.length cq, .int .i64 s.nextValid, .int .i64 s.nextItem] 26)).heap.size (w.alloc (.cells #[.slice Ab s.boxes.length cb, .slice As s.subs.length cs, .slice Aq s.queue.length cq, .int .i64 s.nextValid, .int .i64 s.nextItem] 26)) W → Calls Tryz.prog 43 #[.agg #[.slice Ab s.boxes.length cb, .slice As s.subs.length cs, .slice Aq s.queue.length cq, .int .i64 s.nextValid, .int .i64 s.nextItem]] W fun e w' => e = .returned (.bool (formIt s)) ∧ Below W.heap.size W w') := fun W hW => pisQueue_any (HT0.out.below hW) hd
  obtain ⟨R, HR⟩ : ∃ R, Hid (R = formP s) := ⟨_, hide rfl⟩
  rw [← HR.out]
  replace HR : Hid (R = (poIn s.nextValid 1 2147483648 && poIn s.nextItem 1 2147483648 && formBx s && formSb s && formIt s)) := HR
  obtain ⟨T1, HT1⟩ : ∃ T, Hid (poIn s.nextValid 1 2147483648 = T) := ⟨_, hide rfl⟩
  obtain ⟨T2, HT2⟩ : ∃ T, Hid (poIn s.nextItem 1 2147483648 = T) := ⟨_, hide rfl⟩
  rw [HT1.out, HT2.out] at HR
  clear hv hb hs hq HT0 hE HE0 hd
  generalize formBx s = T3 at *
  generalize formSb s = T4 at *
  generalize formIt s = T5 at *
  generalize s.boxes.length = lb at *
  generalize s.subs.length = ls at *
  generalize s.queue.length = lq at *
  generalize s.nextValid = nv at *
  generalize s.nextItem = ni at *
  cases T1 with
  | true =>
    cases T2 with
    | true =>
      cases T3 with
      | true =>
        cases T4 with
        | true =>
          cases T5 with
          | true =>
            have HF : Hid (R = true) := by show _ = _; rw [HR.out]; simp []
            clear HR
            go_enter Tryz.func22, Tryz.ntmps22
            go_wp2_with (first | (go_at_call 40; refine (H0.out _ _).mono ?_; rintro e w1 ⟨rfl, rfl⟩; first | rw [HT1.out] | rw [HT2.out]) | (go_at_call 41; refine (H3.out _ HB.out).mono ?_; rintro e w1 ⟨rfl, hb1⟩; replace HB := hide (HB.out.trans (hb1.mono HB.out.size)); clear hb1; have kk := HK.out.below HB.out HK.out.lt; have k0 := kk.cell 0; have k1 := kk.cell 1; have k2 := kk.cell 2; have k3 := kk.cell 3; have k4 := kk.cell 4; clear kk) | (go_at_call 42; refine (H4.out _ HB.out).mono ?_; rintro e w1 ⟨rfl, hb1⟩; replace HB := hide (HB.out.trans (hb1.mono HB.out.size)); clear hb1; have kk := HK.out.below HB.out HK.out.lt; have k0 := kk.cell 0; have k1 := kk.cell 1; have k2 := kk.cell 2; have k3 := kk.cell 3; have k4 := kk.cell 4; clear kk) | (go_at_call 43; refine (H5.out _ HB.out).mono ?_; rintro e w1 ⟨rfl, hb1⟩; replace HB := hide (HB.out.trans (hb1.mono HB.out.size)); clear hb1; have kk := HK.out.below HB.out HK.out.lt; have k0 := kk.cell 0; have k1 := kk.cell 1; have k2 := kk.cell 2; have k3 := kk.cell 3; have k4 := kk.cell 4; clear kk))
            exact bodyPost_ret (v := .bool true) (by simp [results, Tryz.results22, go_sem, ] <;> omega) rfl ⟨by rw [HF.out], HB0.out.trans (HB.out.mono HB0.out.size)⟩
          | false =>
            have HF : Hid (R = false) := by show _ = _; rw [HR.out]; simp []
            clear HR
            go_enter Tryz.func22, Tryz.ntmps22
            go_wp2_with (first | (go_at_call 40; refine (H0.out _ _).mono ?_; rintro e w1 ⟨rfl, rfl⟩; first | rw [HT1.out] | rw [HT2.out]) | (go_at_call 41; refine (H3.out _ HB.out).mono ?_; rintro e w1 ⟨rfl, hb1⟩; replace HB := hide (HB.out.trans (hb1.mono HB.out.size)); clear hb1; have kk := HK.out.below HB.out HK.out.lt; have k0 := kk.cell 0; have k1 := kk.cell 1; have k2 := kk.cell 2; have k3 := kk.cell 3; have k4 := kk.cell 4; clear kk) | (go_at_call 42; refine (H4.out _ HB.out).mono ?_; rintro e w1 ⟨rfl, hb1⟩; replace HB := hide (HB.out.trans (hb1.mono HB.out.size)); clear hb1; have kk := HK.out.below HB.out HK.out.lt; have k0 := kk.cell 0; have k1 := kk.cell 1; have k2 := kk.cell 2; have k3 := kk.cell 3; have k4 := kk.cell 4; clear kk) | (go_at_call 43; refine (H5.out _ HB.out).mono ?_; rintro e w1 ⟨rfl, hb1⟩; replace HB := hide (HB.out.trans (hb1.mono HB.out.size)); clear hb1; have kk := HK.out.below HB.out HK.out.lt; have k0 := kk.cell 0; have k1 := kk.cell 1; have k2 := kk.cell 2; have k3 := kk.cell 3; have k4 := kk.cell 4; clear kk))
            exact bodyPost_ret (v := .bool false) (by simp [results, Tryz.results22, go_sem, ] <;> omega) rfl ⟨by rw [HF.out], HB0.out.trans (HB.out.mono HB0.out.size)⟩
        | false =>
          have HF : Hid (R = false) := by show _ = _; rw [HR.out]; simp []
          clear HR
          go_enter Tryz.func22, Tryz.ntmps22
          go_wp2_with (first | (go_at_call 40; refine (H0.out _ _).mono ?_; rintro e w1 ⟨rfl, rfl⟩; first | rw [HT1.out] | rw [HT2.out]) | (go_at_call 41; refine (H3.out _ HB.out).mono ?_; rintro e w1 ⟨rfl, hb1⟩; replace HB := hide (HB.out.trans (hb1.mono HB.out.size)); clear hb1; have kk := HK.out.below HB.out HK.out.lt; have k0 := kk.cell 0; have k1 := kk.cell 1; have k2 := kk.cell 2; have k3 := kk.cell 3; have k4 := kk.cell 4; clear kk) | (go_at_call 42; refine (H4.out _ HB.out).mono ?_; rintro e w1 ⟨rfl, hb1⟩; replace HB := hide (HB.out.trans (hb1.mono HB.out.size)); clear hb1; have kk := HK.out.below HB.out HK.out.lt; have k0 := kk.cell 0; have k1 := kk.cell 1; have k2 := kk.cell 2; have k3 := kk.cell 3; have k4 := kk.cell 4; clear kk) | (go_at_call 43; refine (H5.out _ HB.out).mono ?_; rintro e w1 ⟨rfl, hb1⟩; replace HB := hide (HB.out.trans (hb1.mono HB.out.size)); clear hb1; have kk := HK.out.below HB.out HK.out.lt; have k0 := kk.cell 0; have k1 := kk.cell 1; have k2 := kk.cell 2; have k3 := kk.cell 3; have k4 := kk.cell 4; clear kk))
          exact bodyPost_ret (v := .bool false) (by simp [results, Tryz.results22, go_sem, ] <;> omega) rfl ⟨by rw [HF.out], HB0.out.trans (HB.out.mono HB0.out.size)⟩
      | false =>
        have HF : Hid (R = false) := by show _ = _; rw [HR.out]; simp []
        clear HR
        go_enter Tryz.func22, Tryz.ntmps22
        go_wp2_with (first | (go_at_call 40; refine (H0.out _ _).mono ?_; rintro e w1 ⟨rfl, rfl⟩; first | rw [HT1.out] | rw [HT2.out]) | (go_at_call 41; refine (H3.out _ HB.out).mono ?_; rintro e w1 ⟨rfl, hb1⟩; replace HB := hide (HB.out.trans (hb1.mono HB.out.size)); clear hb1; have kk := HK.out.below HB.out HK.out.lt; have k0 := kk.cell 0; have k1 := kk.cell 1; have k2 := kk.cell 2; have k3 := kk.cell 3; have k4 := kk.cell 4; clear kk) | (go_at_call 42; refine (H4.out _ HB.out).mono ?_; rintro e w1 ⟨rfl, hb1⟩; replace HB := hide (HB.out.trans (hb1.mono HB.out.size)); clear hb1; have kk := HK.out.below HB.out HK.out.lt; have k0 := kk.cell 0; have k1 := kk.cell 1; have k2 := kk.cell 2; have k3 := kk.cell 3; have k4 := kk.cell 4; clear kk) | (go_at_call 43; refine (H5.out _ HB.out).mono ?_; rintro e w1 ⟨rfl, hb1⟩; replace HB := hide (HB.out.trans (hb1.mono HB.out.size)); clear hb1; have kk := HK.out.below HB.out HK.out.lt; have k0 := kk.cell 0; have k1 := kk.cell 1; have k2 := kk.cell 2; have k3 := kk.cell 3; have k4 := kk.cell 4; clear kk))
        exact bodyPost_ret (v := .bool false) (by simp [results, Tryz.results22, go_sem, ] <;> omega) rfl ⟨by rw [HF.out], HB0.out.trans (HB.out.mono HB0.out.size)⟩
    | false =>
      have HF : Hid (R = false) := by show _ = _; rw [HR.out]; simp []
      clear HR
      go_enter Tryz.func22, Tryz.ntmps22
      go_wp2_with (first | (go_at_call 40; refine (H0.out _ _).mono ?_; rintro e w1 ⟨rfl, rfl⟩; first | rw [HT1.out] | rw [HT2.out]) | (go_at_call 41; refine (H3.out _ HB.out).mono ?_; rintro e w1 ⟨rfl, hb1⟩; replace HB := hide (HB.out.trans (hb1.mono HB.out.size)); clear hb1; have kk := HK.out.below HB.out HK.out.lt; have k0 := kk.cell 0; have k1 := kk.cell 1; have k2 := kk.cell 2; have k3 := kk.cell 3; have k4 := kk.cell 4; clear kk) | (go_at_call 42; refine (H4.out _ HB.out).mono ?_; rintro e w1 ⟨rfl, hb1⟩; replace HB := hide (HB.out.trans (hb1.mono HB.out.size)); clear hb1; have kk := HK.out.below HB.out HK.out.lt; have k0 := kk.cell 0; have k1 := kk.cell 1; have k2 := kk.cell 2; have k3 := kk.cell 3; have k4 := kk.cell 4; clear kk) | (go_at_call 43; refine (H5.out _ HB.out).mono ?_; rintro e w1 ⟨rfl, hb1⟩; replace HB := hide (HB.out.trans (hb1.mono HB.out.size)); clear hb1; have kk := HK.out.below HB.out HK.out.lt; have k0 := kk.cell 0; have k1 := kk.cell 1; have k2 := kk.cell 2; have k3 := kk.cell 3; have k4 := kk.cell 4; clear kk))
      exact bodyPost_ret (v := .bool false) (by simp [results, Tryz.results22, go_sem, ] <;> omega) rfl ⟨by rw [HF.out], HB0.out.trans (HB.out.mono HB0.out.size)⟩
  | false =>
    have HF : Hid (R = false) := by show _ = _; rw [HR.out]; simp []
    clear HR
    go_enter Tryz.func22, Tryz.ntmps22
    go_wp2_with (first | (go_at_call 40; refine (H0.out _ _).mono ?_; rintro e w1 ⟨rfl, rfl⟩; first | rw [HT1.out] | rw [HT2.out]) | (go_at_call 41; refine (H3.out _ HB.out).mono ?_; rintro e w1 ⟨rfl, hb1⟩; replace HB := hide (HB.out.trans (hb1.mono HB.out.size)); clear hb1; have kk := HK.out.below HB.out HK.out.lt; have k0 := kk.cell 0; have k1 := kk.cell 1; have k2 := kk.cell 2; have k3 := kk.cell 3; have k4 := kk.cell 4; clear kk) | (go_at_call 42; refine (H4.out _ HB.out).mono ?_; rintro e w1 ⟨rfl, hb1⟩; replace HB := hide (HB.out.trans (hb1.mono HB.out.size)); clear hb1; have kk := HK.out.below HB.out HK.out.lt; have k0 := kk.cell 0; have k1 := kk.cell 1; have k2 := kk.cell 2; have k3 := kk.cell 3; have k4 := kk.cell 4; clear kk) | (go_at_call 43; refine (H5.out _ HB.out).mono ?_; rintro e w1 ⟨rfl, hb1⟩; replace HB := hide (HB.out.trans (hb1.mono HB.out.size)); clear hb1; have kk := HK.out.below HB.out HK.out.lt; have k0 := kk.cell 0; have k1 := kk.cell 1; have k2 := kk.cell 2; have k3 := kk.cell 3; have k4 := kk.cell 4; clear kk))
    exact bodyPost_ret (v := .bool false) (by simp [results, Tryz.results22, go_sem, ] <;> omega) rfl ⟨by rw [HF.out], HB0.out.trans (HB.out.mono HB0.out.size)⟩
end Go.Proofs.YtbfdbbpkpjgamaaGreatDoor
