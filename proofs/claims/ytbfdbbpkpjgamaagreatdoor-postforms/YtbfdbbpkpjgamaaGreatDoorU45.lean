/- The document's box of layer 15: whether a box is in form. (genpo3.py) -/
/- The document's item of layer 15: whether an item of the queue is in form. (genpo4.py) -/
/- A state in form, part by part. -/
import Derived.Test.YtbfdbbpkpjgamaaGreatDoorU44
import Derived.Test.YtbfdbbpkpjgamaaGreatDoorU21
section
set_option linter.unusedVariables false
set_option linter.unusedSimpArgs false
namespace Go.Proofs.YtbfdbbpkpjgamaaGreatDoor
open Go.RowKit Go.Shelf
theorem poMsgs_bad {nx last : Int} {m : Msg} {r : List Msg} (h : (decide (last < m.uid) && decide (m.uid < nx) && poIn m.flags 0 31 && poMom m.date && decide (m.body.length ≤ 100000)) = false) : poMsgs nx last (m :: r) = false := by
  unfold poMsgs
  rw [h]
  rfl
theorem poMsgs_good {nx last : Int} {m : Msg} {r : List Msg} (h : (decide (last < m.uid) && decide (m.uid < nx) && poIn m.flags 0 31 && poMom m.date && decide (m.body.length ≤ 100000)) = true) : poMsgs nx last (m :: r) = poMsgs nx m.uid r := by
  conv => lhs; unfold poMsgs
  rw [h]
  rfl
theorem poMsgs_body {nx : Int} : ∀ (last : Int) (ms : List Msg), poMsgs nx last ms = true → ∀ m ∈ ms, m.body.length ≤ 100000
  | _, [], _, m, hm => by cases hm
  | last, x :: r, h, m, hm => by
    unfold poMsgs at h
    simp only [Bool.and_eq_true, decide_eq_true_eq] at h
    rcases List.mem_cons.1 hm with rfl | hm
    · exact h.1.2
    · exact poMsgs_body x.uid r h.2 m hm
set_option maxRecDepth 20000 in
set_option maxHeartbeats 8000000 in
theorem rbox15_any {w : World} {v bv : Value} {s : Stt} {b : Bx} (h : StR w v s) (hb : BxV w bv b) (hl : s.boxes.length ≤ 1000000) (hml : b.msgs.length ≤ 1000000) (hnl : b.name.length ≤ 1000000) :
    Calls Tryz.prog 24 #[v, bv] w fun e w' => e = .returned (.bool (poBox s b)) ∧ Below w.heap.size w w' := by
  have HS := hide h
  have HBv := hide hb
  obtain ⟨sbv, ssv, sqv, rfl, h1, h2, h3⟩ := h
  obtain ⟨As, cs, rfl⟩ := h1.form
  obtain ⟨A2, c2, rfl⟩ := h2.form
  obtain ⟨A3, c3, rfl⟩ := h3.form
  obtain ⟨mv, rfl, hm⟩ := hb
  obtain ⟨A, c, rfl⟩ := hm.form
  have HX := hide hm
  clear h1 h2 h3 hm
  obtain ⟨O, HO⟩ : ∃ O, Hid (O = poBox s b) := ⟨_, hide rfl⟩
  rw [← HO.out]
  have HB : Hid (Below w.heap.size w ((w.alloc (.cells #[.slice As s.boxes.length cs, .slice A2 s.subs.length c2, .slice A3 s.queue.length c3, .int .i64 s.nextValid, .int .i64 s.nextItem] 26)).alloc (.cells #[.int .i64 b.user, .string ⟨b.name.toArray⟩, .int .i64 b.valid, .int .i64 b.next, .slice A b.msgs.length c] 39))) := ((Below.refl w.heap.size w).alloc (Nat.le_refl _) _).alloc (by simp) _
  have HK0 : Hid (Blk ((w.alloc (.cells #[.slice As s.boxes.length cs, .slice A2 s.subs.length c2, .slice A3 s.queue.length c3, .int .i64 s.nextValid, .int .i64 s.nextItem] 26)).alloc (.cells #[.int .i64 b.user, .string ⟨b.name.toArray⟩, .int .i64 b.valid, .int .i64 b.next, .slice A b.msgs.length c] 39)) w.heap.size #[.slice As s.boxes.length cs, .slice A2 s.subs.length c2, .slice A3 s.queue.length c3, .int .i64 s.nextValid, .int .i64 s.nextItem] 26) := (Blk.new w _ _).alloc _
  have HK1 : Hid (Blk ((w.alloc (.cells #[.slice As s.boxes.length cs, .slice A2 s.subs.length c2, .slice A3 s.queue.length c3, .int .i64 s.nextValid, .int .i64 s.nextItem] 26)).alloc (.cells #[.int .i64 b.user, .string ⟨b.name.toArray⟩, .int .i64 b.valid, .int .i64 b.next, .slice A b.msgs.length c] 39)) (w.heap.size + 1) #[.int .i64 b.user, .string ⟨b.name.toArray⟩, .int .i64 b.valid, .int .i64 b.next, .slice A b.msgs.length c] 39) := Blk.new1 w _ _ _
  have q10 : (((w.alloc (.cells #[.slice As s.boxes.length cs, .slice A2 s.subs.length c2, .slice A3 s.queue.length c3, .int .i64 s.nextValid, .int .i64 s.nextItem] 26)).alloc (.cells #[.int .i64 b.user, .string ⟨b.name.toArray⟩, .int .i64 b.valid, .int .i64 b.next, .slice A b.msgs.length c] 39))).cell? ⟨w.heap.size + 1, 0, none⟩ = some (.int .i64 b.user) := HK1.out.cell 0
  have q11 : (((w.alloc (.cells #[.slice As s.boxes.length cs, .slice A2 s.subs.length c2, .slice A3 s.queue.length c3, .int .i64 s.nextValid, .int .i64 s.nextItem] 26)).alloc (.cells #[.int .i64 b.user, .string ⟨b.name.toArray⟩, .int .i64 b.valid, .int .i64 b.next, .slice A b.msgs.length c] 39))).cell? ⟨w.heap.size + 1, 1, none⟩ = some (.string ⟨b.name.toArray⟩) := HK1.out.cell 1
  have HIn := hide (fun n a b W => rin15_any n a b W)
  have HMo := hide (fun t W => rmom15_any t W)
  have HNm := hide (fun W => rname15_any b.name W hnl)
  have HUs : Hid (∀ W, Below w.heap.size w W → Calls Tryz.prog 26 #[(.agg #[.slice As s.boxes.length cs, .slice A2 s.subs.length c2, .slice A3 s.queue.length c3, .int .i64 s.nextValid, .int .i64 s.nextItem]), .int .i64 b.user] W fun e w' => e = .returned (.bool (poUser s.boxes b.user)) ∧ Below W.heap.size W w') := fun W hW => ruser15_any (HS.out.below hW) b.user hl
  have HBy : Hid (∀ W, Below w.heap.size w W → (∀ m ∈ b.msgs, m.body.length ≤ 1000000) → Calls Tryz.prog 17 #[(.agg #[.int .i64 b.user, .string ⟨b.name.toArray⟩, .int .i64 b.valid, .int .i64 b.next, .slice A b.msgs.length c])] W fun e w' => e = .returned (.int .i64 ((poBytes b : Nat) : Int)) ∧ Below W.heap.size W w') := fun W hW hb => rbytes15_any (HBv.out.below hW) hml hb
  clear HS HBv
  cases g1 : poIn b.user 0 5 with
  | false =>
    have HF : Hid (O = false) := by show _ = _; rw [HO.out]; unfold poBox; simp [g1]
    clear HO HX HBy HMo
    go_enter Tryz.func24, Tryz.ntmps24
    go_wp2_with (first
      | (go_at_call 23; refine (HIn.out _ _ _ _).mono ?_; rintro e wq ⟨rfl, rfl⟩)
      | (go_at_call 25; refine (HNm.out _).mono ?_; rintro e wn ⟨rfl, hbn⟩
         replace HK0 := hide (HK0.out.below hbn HK0.out.lt)
         replace HK1 := hide (HK1.out.below hbn HK1.out.lt)
         replace HB := hide (HB.out.trans (hbn.mono HB.out.size))
         have qn := HK0.out.cell
         have qm := HK1.out.cell
         clear hbn)
      | (go_at_call 26; refine (HUs.out _ HB.out).mono ?_; rintro e wu ⟨rfl, hbu⟩
         replace HK0 := hide (HK0.out.below hbu HK0.out.lt)
         replace HK1 := hide (HK1.out.below hbu HK1.out.lt)
         replace HB := hide (HB.out.trans (hbu.mono HB.out.size))
         have qn2 := HK0.out.cell
         have qm2 := HK1.out.cell
         clear hbu))
    go_ret
    exact ⟨by rw [HF.out]; rfl, HB.out⟩
  | true =>
  cases g2 : poName b.name with
  | false =>
    have HF : Hid (O = false) := by show _ = _; rw [HO.out]; unfold poBox; simp [g1, g2]
    clear HO HX HBy HMo
    go_enter Tryz.func24, Tryz.ntmps24
    go_wp2_with (first
      | (go_at_call 23; refine (HIn.out _ _ _ _).mono ?_; rintro e wq ⟨rfl, rfl⟩)
      | (go_at_call 25; refine (HNm.out _).mono ?_; rintro e wn ⟨rfl, hbn⟩
         replace HK0 := hide (HK0.out.below hbn HK0.out.lt)
         replace HK1 := hide (HK1.out.below hbn HK1.out.lt)
         replace HB := hide (HB.out.trans (hbn.mono HB.out.size))
         have qn := HK0.out.cell
         have qm := HK1.out.cell
         clear hbn)
      | (go_at_call 26; refine (HUs.out _ HB.out).mono ?_; rintro e wu ⟨rfl, hbu⟩
         replace HK0 := hide (HK0.out.below hbu HK0.out.lt)
         replace HK1 := hide (HK1.out.below hbu HK1.out.lt)
         replace HB := hide (HB.out.trans (hbu.mono HB.out.size))
         have qn2 := HK0.out.cell
         have qm2 := HK1.out.cell
         clear hbu))
    go_ret
    exact ⟨by rw [HF.out]; rfl, HB.out⟩
  | true =>
  by_cases g3 : 1 ≤ b.valid
  case neg =>
    have HF : Hid (O = false) := by show _ = _; rw [HO.out]; unfold poBox; simp [g1, g2, g3]
    have hx : b.valid < 1 := by omega
    clear HO HX HBy HMo
    go_enter Tryz.func24, Tryz.ntmps24
    go_wp2_with (first
      | (go_at_call 23; refine (HIn.out _ _ _ _).mono ?_; rintro e wq ⟨rfl, rfl⟩)
      | (go_at_call 25; refine (HNm.out _).mono ?_; rintro e wn ⟨rfl, hbn⟩
         replace HK0 := hide (HK0.out.below hbn HK0.out.lt)
         replace HK1 := hide (HK1.out.below hbn HK1.out.lt)
         replace HB := hide (HB.out.trans (hbn.mono HB.out.size))
         have qn := HK0.out.cell
         have qm := HK1.out.cell
         clear hbn)
      | (go_at_call 26; refine (HUs.out _ HB.out).mono ?_; rintro e wu ⟨rfl, hbu⟩
         replace HK0 := hide (HK0.out.below hbu HK0.out.lt)
         replace HK1 := hide (HK1.out.below hbu HK1.out.lt)
         replace HB := hide (HB.out.trans (hbu.mono HB.out.size))
         have qn2 := HK0.out.cell
         have qm2 := HK1.out.cell
         clear hbu))
    go_ret
    exact ⟨by rw [HF.out]; rfl, HB.out⟩
  case pos =>
  have g3' : ¬ b.valid < 1 := by omega
  by_cases g4 : b.valid < s.nextValid
  case neg =>
    have HF : Hid (O = false) := by show _ = _; rw [HO.out]; unfold poBox; simp [g1, g2, g3, g4]
    have hx : s.nextValid ≤ b.valid := by omega
    clear HO HX HBy HMo
    go_enter Tryz.func24, Tryz.ntmps24
    go_wp2_with (first
      | (go_at_call 23; refine (HIn.out _ _ _ _).mono ?_; rintro e wq ⟨rfl, rfl⟩)
      | (go_at_call 25; refine (HNm.out _).mono ?_; rintro e wn ⟨rfl, hbn⟩
         replace HK0 := hide (HK0.out.below hbn HK0.out.lt)
         replace HK1 := hide (HK1.out.below hbn HK1.out.lt)
         replace HB := hide (HB.out.trans (hbn.mono HB.out.size))
         have qn := HK0.out.cell
         have qm := HK1.out.cell
         clear hbn)
      | (go_at_call 26; refine (HUs.out _ HB.out).mono ?_; rintro e wu ⟨rfl, hbu⟩
         replace HK0 := hide (HK0.out.below hbu HK0.out.lt)
         replace HK1 := hide (HK1.out.below hbu HK1.out.lt)
         replace HB := hide (HB.out.trans (hbu.mono HB.out.size))
         have qn2 := HK0.out.cell
         have qm2 := HK1.out.cell
         clear hbu))
    go_ret
    exact ⟨by rw [HF.out]; rfl, HB.out⟩
  case pos =>
  have g4' : ¬ s.nextValid ≤ b.valid := by omega
  cases g5 : poIn b.next 1 2147483648 with
  | false =>
    have HF : Hid (O = false) := by show _ = _; rw [HO.out]; unfold poBox; simp [g1, g2, g3, g4, g5]
    clear HO HX HBy HMo
    go_enter Tryz.func24, Tryz.ntmps24
    go_wp2_with (first
      | (go_at_call 23; refine (HIn.out _ _ _ _).mono ?_; rintro e wq ⟨rfl, rfl⟩)
      | (go_at_call 25; refine (HNm.out _).mono ?_; rintro e wn ⟨rfl, hbn⟩
         replace HK0 := hide (HK0.out.below hbn HK0.out.lt)
         replace HK1 := hide (HK1.out.below hbn HK1.out.lt)
         replace HB := hide (HB.out.trans (hbn.mono HB.out.size))
         have qn := HK0.out.cell
         have qm := HK1.out.cell
         clear hbn)
      | (go_at_call 26; refine (HUs.out _ HB.out).mono ?_; rintro e wu ⟨rfl, hbu⟩
         replace HK0 := hide (HK0.out.below hbu HK0.out.lt)
         replace HK1 := hide (HK1.out.below hbu HK1.out.lt)
         replace HB := hide (HB.out.trans (hbu.mono HB.out.size))
         have qn2 := HK0.out.cell
         have qm2 := HK1.out.cell
         clear hbu))
    go_ret
    exact ⟨by rw [HF.out]; rfl, HB.out⟩
  | true =>
  cases g6 : poUser s.boxes b.user with
  | false =>
    have HF : Hid (O = false) := by show _ = _; rw [HO.out]; unfold poBox; simp [g1, g2, g3, g4, g5, g6]
    clear HO HX HBy HMo
    go_enter Tryz.func24, Tryz.ntmps24
    go_wp2_with (first
      | (go_at_call 23; refine (HIn.out _ _ _ _).mono ?_; rintro e wq ⟨rfl, rfl⟩)
      | (go_at_call 25; refine (HNm.out _).mono ?_; rintro e wn ⟨rfl, hbn⟩
         replace HK0 := hide (HK0.out.below hbn HK0.out.lt)
         replace HK1 := hide (HK1.out.below hbn HK1.out.lt)
         replace HB := hide (HB.out.trans (hbn.mono HB.out.size))
         have qn := HK0.out.cell
         have qm := HK1.out.cell
         clear hbn)
      | (go_at_call 26; refine (HUs.out _ HB.out).mono ?_; rintro e wu ⟨rfl, hbu⟩
         replace HK0 := hide (HK0.out.below hbu HK0.out.lt)
         replace HK1 := hide (HK1.out.below hbu HK1.out.lt)
         replace HB := hide (HB.out.trans (hbu.mono HB.out.size))
         have qn2 := HK0.out.cell
         have qm2 := HK1.out.cell
         clear hbu))
    go_ret
    exact ⟨by rw [HF.out]; rfl, HB.out⟩
  | true =>
  by_cases g7 : b.msgs.length ≤ 100
  case neg =>
    have HF : Hid (O = false) := by show _ = _; rw [HO.out]; unfold poBox; simp [g1, g2, g3, g4, g5, g6, g7]
    have hx : (100 : Int) < b.msgs.length := by omega
    clear HO HX HBy HMo
    go_enter Tryz.func24, Tryz.ntmps24
    go_wp2_with (first
      | (go_at_call 23; refine (HIn.out _ _ _ _).mono ?_; rintro e wq ⟨rfl, rfl⟩)
      | (go_at_call 25; refine (HNm.out _).mono ?_; rintro e wn ⟨rfl, hbn⟩
         replace HK0 := hide (HK0.out.below hbn HK0.out.lt)
         replace HK1 := hide (HK1.out.below hbn HK1.out.lt)
         replace HB := hide (HB.out.trans (hbn.mono HB.out.size))
         have qn := HK0.out.cell
         have qm := HK1.out.cell
         clear hbn)
      | (go_at_call 26; refine (HUs.out _ HB.out).mono ?_; rintro e wu ⟨rfl, hbu⟩
         replace HK0 := hide (HK0.out.below hbu HK0.out.lt)
         replace HK1 := hide (HK1.out.below hbu HK1.out.lt)
         replace HB := hide (HB.out.trans (hbu.mono HB.out.size))
         have qn2 := HK0.out.cell
         have qm2 := HK1.out.cell
         clear hbu))
    go_ret
    exact ⟨by rw [HF.out]; rfl, HB.out⟩
  case pos =>
  have g7' : ¬ (100 : Int) < b.msgs.length := by omega
  have HOx : Hid (O = (poMsgs b.next 0 b.msgs && decide (poBytes b ≤ 200000))) := by show _ = _; rw [HO.out]; unfold poBox; simp [g1, g2, g3, g4, g5, g6, g7]
  clear HO
  go_enter Tryz.func24, Tryz.ntmps24
  go_wp2_with (first
    | (go_at_call 23; refine (HIn.out _ _ _ _).mono ?_; rintro e wq ⟨rfl, rfl⟩)
    | (go_at_call 25; refine (HNm.out _).mono ?_; rintro e wn ⟨rfl, hbn⟩
       replace HK0 := hide (HK0.out.below hbn HK0.out.lt)
       replace HK1 := hide (HK1.out.below hbn HK1.out.lt)
       replace HB := hide (HB.out.trans (hbn.mono HB.out.size))
       have qn := HK0.out.cell
       have qm := HK1.out.cell
       clear hbn)
    | (go_at_call 26; refine (HUs.out _ HB.out).mono ?_; rintro e wu ⟨rfl, hbu⟩
       replace HK0 := hide (HK0.out.below hbu HK0.out.lt)
       replace HK1 := hide (HK1.out.below hbu HK1.out.lt)
       replace HB := hide (HB.out.trans (hbu.mono HB.out.size))
       have qn2 := HK0.out.cell
       have qm2 := HK1.out.cell
       clear hbu))
  have HXr := hide (fun W (hW : Below w.heap.size w W) => HX.out.below stb_msg hW)
  clear HNm HUs HX
  go_loopw [5, 52] (fun v5 v52 wr => ∃ (k : Nat) (last : Int), v52 = .int .i64 k ∧ k ≤ b.msgs.length ∧ v5 = .int .i64 last ∧ Hid (Below w.heap.size w wr) ∧ Hid (Blk wr (w.heap.size + 1) #[.int .i64 b.user, .string ⟨b.name.toArray⟩, .int .i64 b.valid, .int .i64 b.next, .slice A b.msgs.length c] 39) ∧ Hid (poMsgs b.next 0 b.msgs = poMsgs b.next last (b.msgs.drop k))) (fun _ v52 _ => b.msgs.length - (intOf v52).toNat)
  case atStart => exact ⟨0, 0, rfl, Nat.zero_le _, rfl, HB.out, HK1.out, rfl⟩
  case round =>
    obtain ⟨k, last, rfl, hk, rfl, HBr, HK, HM⟩ := hrel
    clear HK0 HK1 HB
    by_cases hlt : k < b.msgs.length
    · have hlt' : (k : Int) < b.msgs.length := by omega
      obtain ⟨g, o, rfl, hg, q0, q1, q2, q3⟩ := (HXr.out wr HBr.out).at hlt
      have q0' : wr.cell? ⟨g, o + k * 4, none⟩ = some (.int .i64 b.msgs[k].uid) := q0
      have q1' : wr.cell? ⟨g, o + k * 4 + 1, none⟩ = some (.int .i64 b.msgs[k].flags) := q1
      have q2' : wr.cell? ⟨g, o + k * 4 + 2, none⟩ = some (.int .i64 b.msgs[k].date) := q2
      have q3' : wr.cell? ⟨g, o + k * 4 + 3, none⟩ = some (.string ⟨b.msgs[k].body.toArray⟩) := q3
      have hdr : b.msgs.drop k = b.msgs[k] :: b.msgs.drop (k + 1) := List.drop_eq_getElem_cons hlt
      have HD := hide hdr
      clear q0 q1 q2 q3 hdr
      generalize b.msgs[k] = m at *
      obtain ⟨mu, mf, md, mb⟩ := m
      dsimp only at *
      have hsz := size_lit mb
      have HBx := hide (fun h => poMsgs_bad (nx := b.next) (last := last) (m := ⟨mu, mf, md, mb⟩) (r := b.msgs.drop (k + 1)) h)
      have HGx := hide (fun h => poMsgs_good (nx := b.next) (last := last) (m := ⟨mu, mf, md, mb⟩) (r := b.msgs.drop (k + 1)) h)
      have qb : (wr.alloc (.cells #[.int .i64 mu, .int .i64 mf, .int .i64 md, .string ⟨mb.toArray⟩] 55)).cell? ⟨w.heap.size + 1, 3, none⟩ = some (.int .i64 b.next) := (HK.out.alloc _).cell 3
      by_cases m1 : last < mu
      case neg =>
        have HF : Hid (O = false) := by show _ = _; rw [HOx.out, HM.out, HD.out, HBx.out (by simp [m1])]; rfl
        have hx : mu ≤ last := by omega
        clear HOx HM HD HBx HGx
        go_wp2_with (first
          | (go_at_call 23; refine (HIn.out _ _ _ _).mono ?_; rintro e wq ⟨rfl, rfl⟩)
          | (go_at_call 44; refine (HMo.out _ _).mono ?_; rintro e wq ⟨rfl, rfl⟩))
        go_ret
        exact ⟨by rw [HF.out]; rfl, HBr.out.alloc HBr.out.size _⟩
      case pos =>
      have m1' : ¬ mu ≤ last := by omega
      by_cases m2 : mu < b.next
      case neg =>
        have HF : Hid (O = false) := by show _ = _; rw [HOx.out, HM.out, HD.out, HBx.out (by simp [m1, m2])]; rfl
        have hx : b.next ≤ mu := by omega
        clear HOx HM HD HBx HGx
        go_wp2_with (first
          | (go_at_call 23; refine (HIn.out _ _ _ _).mono ?_; rintro e wq ⟨rfl, rfl⟩)
          | (go_at_call 44; refine (HMo.out _ _).mono ?_; rintro e wq ⟨rfl, rfl⟩))
        go_ret
        exact ⟨by rw [HF.out]; rfl, HBr.out.alloc HBr.out.size _⟩
      case pos =>
      have m2' : ¬ b.next ≤ mu := by omega
      cases m3 : poIn mf 0 31 with
      | false =>
        have HF : Hid (O = false) := by show _ = _; rw [HOx.out, HM.out, HD.out, HBx.out (by simp [m1, m2, m3])]; rfl
        clear HOx HM HD HBx HGx
        go_wp2_with (first
          | (go_at_call 23; refine (HIn.out _ _ _ _).mono ?_; rintro e wq ⟨rfl, rfl⟩)
          | (go_at_call 44; refine (HMo.out _ _).mono ?_; rintro e wq ⟨rfl, rfl⟩))
        go_ret
        exact ⟨by rw [HF.out]; rfl, HBr.out.alloc HBr.out.size _⟩
      | true =>
      cases m4 : poMom md with
      | false =>
        have HF : Hid (O = false) := by show _ = _; rw [HOx.out, HM.out, HD.out, HBx.out (by simp [m1, m2, m3, m4])]; rfl
        clear HOx HM HD HBx HGx
        go_wp2_with (first
          | (go_at_call 23; refine (HIn.out _ _ _ _).mono ?_; rintro e wq ⟨rfl, rfl⟩)
          | (go_at_call 44; refine (HMo.out _ _).mono ?_; rintro e wq ⟨rfl, rfl⟩))
        go_ret
        exact ⟨by rw [HF.out]; rfl, HBr.out.alloc HBr.out.size _⟩
      | true =>
      by_cases m5 : mb.length ≤ 100000
      case neg =>
        have HF : Hid (O = false) := by show _ = _; rw [HOx.out, HM.out, HD.out, HBx.out (by simp [m1, m2, m3, m4, m5])]; rfl
        have hx : (100000 : Int) < mb.length := by omega
        clear HOx HM HD HBx HGx
        go_wp2_with (first
          | (go_at_call 23; refine (HIn.out _ _ _ _).mono ?_; rintro e wq ⟨rfl, rfl⟩)
          | (go_at_call 44; refine (HMo.out _ _).mono ?_; rintro e wq ⟨rfl, rfl⟩))
        go_ret
        exact ⟨by rw [HF.out]; rfl, HBr.out.alloc HBr.out.size _⟩
      case pos =>
      have m5' : ¬ (100000 : Int) < mb.length := by omega
      have HMn : Hid (poMsgs b.next 0 b.msgs = poMsgs b.next mu (b.msgs.drop (k + 1))) := by show _ = _; rw [HM.out, HD.out, HGx.out (by simp [m1, m2, m3, m4, m5])]
      have HBn := hide (HBr.out.alloc HBr.out.size (.cells #[.int .i64 mu, .int .i64 mf, .int .i64 md, .string ⟨mb.toArray⟩] 55))
      have HKn := hide (HK.out.alloc (.cells #[.int .i64 mu, .int .i64 mf, .int .i64 md, .string ⟨mb.toArray⟩] 55))
      clear HM HD HBx HGx
      go_wp2_with (first
        | (go_at_call 23; refine (HIn.out _ _ _ _).mono ?_; rintro e wq ⟨rfl, rfl⟩)
        | (go_at_call 44; refine (HMo.out _ _).mono ?_; rintro e wq ⟨rfl, rfl⟩))
      go_roundw
      case rel => exact ⟨k + 1, mu, by go_num, by omega, by first | rfl | trivial, HBn.out, HKn.out, HMn.out⟩
      case measure => simp [intOf] <;> omega
    · obtain rfl : k = b.msgs.length := by omega
      have hlt' : ¬ ((b.msgs.length : Nat) : Int) < b.msgs.length := by omega
      have HM1 : Hid (poMsgs b.next 0 b.msgs = true) := by show _ = _; rw [HM.out, List.drop_length]; rfl
      have hbd : ∀ m ∈ b.msgs, m.body.length ≤ 1000000 := fun m hm => by have := poMsgs_body 0 b.msgs HM1.out m hm; omega
      have HByr := hide (HBy.out wr HBr.out hbd)
      have HFin : Hid (O = decide (poBytes b ≤ 200000)) := by show _ = _; rw [HOx.out, HM1.out]; rfl
      have qk := HK.out.cell
      clear HBy HM HOx hbd
      generalize poBytes b = t at *
      by_cases ht : t ≤ 200000
      · have ht' : (t : Int) ≤ 200000 := by omega
        have HF : Hid (O = true) := by show _ = _; rw [HFin.out, decide_eq_true ht]
        clear HFin
        go_wp2_with (go_at_call 17; refine HByr.out.mono ?_; rintro e wq ⟨rfl, hbq⟩; replace hbq := hide hbq)
        go_ret
        exact ⟨by rw [HF.out]; simp <;> omega, HBr.out.trans (hbq.out.mono HBr.out.size)⟩
      · have ht' : ¬ (t : Int) ≤ 200000 := by omega
        have HF : Hid (O = false) := by show _ = _; rw [HFin.out, decide_eq_false ht]
        clear HFin
        go_wp2_with (go_at_call 17; refine HByr.out.mono ?_; rintro e wq ⟨rfl, hbq⟩; replace hbq := hide hbq)
        go_ret
        exact ⟨by rw [HF.out]; simp <;> omega, HBr.out.trans (hbq.out.mono HBr.out.size)⟩
end Go.Proofs.YtbfdbbpkpjgamaaGreatDoor

end
section
set_option linter.unusedVariables false
set_option linter.unusedSimpArgs false
namespace Go.Proofs.YtbfdbbpkpjgamaaGreatDoor
open Go.RowKit Go.Shelf
theorem poRise_iff : ∀ xs : List Int, poRise xs = true ↔ ∀ i (h : i + 1 < xs.length), xs[i]'(by omega) < xs[i + 1]
  | [] => by simp [poRise]
  | [x] => by simp [poRise]
  | x :: y :: r => by
    have ih := poRise_iff (y :: r)
    unfold poRise
    rw [Bool.and_eq_true, ih, decide_eq_true_eq]
    constructor
    · rintro ⟨h1, h2⟩ i hi
      cases i with
      | zero => exact h1
      | succ i => exact h2 i (by simpa using hi)
    · intro h
      exact ⟨h 0 (by simp), fun i hi => h (i + 1) (by simp at hi ⊢; omega)⟩
set_option maxRecDepth 20000 in
set_option maxHeartbeats 8000000 in
theorem ritem15_any {w : World} {v qv : Value} {s : Stt} {q : It} (h : StR w v s) (hq : ItV w qv q) (hl : s.boxes.length ≤ 1000000) (hfl : q.fr.length ≤ 1000000) :
    Calls Tryz.prog 27 #[v, qv] w fun e w' => e = .returned (.bool (poItem s q)) ∧ Below w.heap.size w w' := by
  have HS := hide h
  obtain ⟨sbv, ssv, sqv, rfl, h1, h2, h3⟩ := h
  obtain ⟨As, cs, rfl⟩ := h1.form
  obtain ⟨A2, c2, rfl⟩ := h2.form
  obtain ⟨A3, c3, rfl⟩ := h3.form
  obtain ⟨fv, rfl, hm⟩ := hq
  obtain ⟨A, c, rfl⟩ := hm.form
  have HX := hide hm
  clear h1 h2 h3 hm
  obtain ⟨O, HO⟩ : ∃ O, Hid (O = poItem s q) := ⟨_, hide rfl⟩
  rw [← HO.out]
  have hsf := size_lit q.frm
  have hsb := size_lit q.body
  have HB : Hid (Below w.heap.size w ((w.alloc (.cells #[.slice As s.boxes.length cs, .slice A2 s.subs.length c2, .slice A3 s.queue.length c3, .int .i64 s.nextValid, .int .i64 s.nextItem] 26)).alloc (.cells #[.int .i64 q.id, .string ⟨q.frm.toArray⟩, .slice A q.fr.length c, .int .i64 q.born, .int .i64 q.tries, .int .i64 q.due, .string ⟨q.body.toArray⟩] 62))) := ((Below.refl w.heap.size w).alloc (Nat.le_refl _) _).alloc (by simp) _
  have HK0 : Hid (Blk ((w.alloc (.cells #[.slice As s.boxes.length cs, .slice A2 s.subs.length c2, .slice A3 s.queue.length c3, .int .i64 s.nextValid, .int .i64 s.nextItem] 26)).alloc (.cells #[.int .i64 q.id, .string ⟨q.frm.toArray⟩, .slice A q.fr.length c, .int .i64 q.born, .int .i64 q.tries, .int .i64 q.due, .string ⟨q.body.toArray⟩] 62)) w.heap.size #[.slice As s.boxes.length cs, .slice A2 s.subs.length c2, .slice A3 s.queue.length c3, .int .i64 s.nextValid, .int .i64 s.nextItem] 26) := (Blk.new w _ _).alloc _
  have HK1 : Hid (Blk ((w.alloc (.cells #[.slice As s.boxes.length cs, .slice A2 s.subs.length c2, .slice A3 s.queue.length c3, .int .i64 s.nextValid, .int .i64 s.nextItem] 26)).alloc (.cells #[.int .i64 q.id, .string ⟨q.frm.toArray⟩, .slice A q.fr.length c, .int .i64 q.born, .int .i64 q.tries, .int .i64 q.due, .string ⟨q.body.toArray⟩] 62)) (w.heap.size + 1) #[.int .i64 q.id, .string ⟨q.frm.toArray⟩, .slice A q.fr.length c, .int .i64 q.born, .int .i64 q.tries, .int .i64 q.due, .string ⟨q.body.toArray⟩] 62) := Blk.new1 w _ _ _
  have q04 : (((w.alloc (.cells #[.slice As s.boxes.length cs, .slice A2 s.subs.length c2, .slice A3 s.queue.length c3, .int .i64 s.nextValid, .int .i64 s.nextItem] 26)).alloc (.cells #[.int .i64 q.id, .string ⟨q.frm.toArray⟩, .slice A q.fr.length c, .int .i64 q.born, .int .i64 q.tries, .int .i64 q.due, .string ⟨q.body.toArray⟩] 62))).cell? ⟨w.heap.size, 4, none⟩ = some (.int .i64 s.nextItem) := HK0.out.cell 4
  have qi := HK1.out.cell
  have HIn := hide (fun n a b W => rin15_any n a b W)
  have HMo := hide (fun t W => rmom15_any t W)
  have HUs : Hid (∀ u W, Below w.heap.size w W → Calls Tryz.prog 26 #[(.agg #[.slice As s.boxes.length cs, .slice A2 s.subs.length c2, .slice A3 s.queue.length c3, .int .i64 s.nextValid, .int .i64 s.nextItem]), .int .i64 u] W fun e w' => e = .returned (.bool (poUser s.boxes u)) ∧ Below W.heap.size W w') := fun u W hW => ruser15_any (HS.out.below hW) u hl
  clear HS
  by_cases g1 : 1 ≤ q.id
  case neg =>
    have HF : Hid (O = false) := by show _ = _; rw [HO.out]; unfold poItem; simp [g1]
    have hx : q.id < 1 := by omega
    clear HO HX HUs
    go_enter Tryz.func27, Tryz.ntmps27
    go_wp2_with (first
      | (go_at_call 23; refine (HIn.out _ _ _ _).mono ?_; rintro e wq ⟨rfl, rfl⟩)
      | (go_at_call 44; refine (HMo.out _ _).mono ?_; rintro e wq ⟨rfl, rfl⟩))
    go_ret
    exact ⟨by rw [HF.out]; rfl, HB.out⟩
  case pos =>
  have g1' : ¬ q.id < 1 := by omega
  by_cases g2 : q.id < s.nextItem
  case neg =>
    have HF : Hid (O = false) := by show _ = _; rw [HO.out]; unfold poItem; simp [g1, g2]
    have hx : s.nextItem ≤ q.id := by omega
    clear HO HX HUs
    go_enter Tryz.func27, Tryz.ntmps27
    go_wp2_with (first
      | (go_at_call 23; refine (HIn.out _ _ _ _).mono ?_; rintro e wq ⟨rfl, rfl⟩)
      | (go_at_call 44; refine (HMo.out _ _).mono ?_; rintro e wq ⟨rfl, rfl⟩))
    go_ret
    exact ⟨by rw [HF.out]; rfl, HB.out⟩
  case pos =>
  have g2' : ¬ s.nextItem ≤ q.id := by omega
  by_cases g3 : 0 < q.fr.length
  case neg =>
    have hnil : q.fr = [] := List.length_eq_zero_iff.1 (by omega)
    have HF : Hid (O = false) := by show _ = _; rw [HO.out]; unfold poItem; simp [g1, g2, hnil]
    have hx : ((q.fr.length : Int) == 0) = true := by rw [hnil]; rfl
    clear hnil
    clear HO HX HUs
    go_enter Tryz.func27, Tryz.ntmps27
    go_wp2_with (first
      | (go_at_call 23; refine (HIn.out _ _ _ _).mono ?_; rintro e wq ⟨rfl, rfl⟩)
      | (go_at_call 44; refine (HMo.out _ _).mono ?_; rintro e wq ⟨rfl, rfl⟩))
    go_ret
    exact ⟨by rw [HF.out]; rfl, HB.out⟩
  case pos =>
  have g3' : ((q.fr.length : Int) == 0) = false := by rw [beq_eq_false_iff_ne]; omega
  have g3n : q.fr.isEmpty = false := by cases hfr : q.fr with | nil => rw [hfr] at g3; simp at g3 | cons _ _ => rfl
  by_cases g4 : q.frm.length ≤ 200
  case neg =>
    have HF : Hid (O = false) := by show _ = _; rw [HO.out]; unfold poItem; simp [g1, g2, g3n, g4]
    have hx : (200 : Int) < q.frm.length := by omega
    clear HO HX HUs
    go_enter Tryz.func27, Tryz.ntmps27
    go_wp2_with (first
      | (go_at_call 23; refine (HIn.out _ _ _ _).mono ?_; rintro e wq ⟨rfl, rfl⟩)
      | (go_at_call 44; refine (HMo.out _ _).mono ?_; rintro e wq ⟨rfl, rfl⟩))
    go_ret
    exact ⟨by rw [HF.out]; rfl, HB.out⟩
  case pos =>
  have g4' : ¬ (200 : Int) < q.frm.length := by omega
  cases g5 : poMom q.born with
  | false =>
    have HF : Hid (O = false) := by show _ = _; rw [HO.out]; unfold poItem; simp [g1, g2, g3n, g4, g5]
    clear HO HX HUs
    go_enter Tryz.func27, Tryz.ntmps27
    go_wp2_with (first
      | (go_at_call 23; refine (HIn.out _ _ _ _).mono ?_; rintro e wq ⟨rfl, rfl⟩)
      | (go_at_call 44; refine (HMo.out _ _).mono ?_; rintro e wq ⟨rfl, rfl⟩))
    go_ret
    exact ⟨by rw [HF.out]; rfl, HB.out⟩
  | true =>
  cases g6 : poMom q.due with
  | false =>
    have HF : Hid (O = false) := by show _ = _; rw [HO.out]; unfold poItem; simp [g1, g2, g3n, g4, g5, g6]
    clear HO HX HUs
    go_enter Tryz.func27, Tryz.ntmps27
    go_wp2_with (first
      | (go_at_call 23; refine (HIn.out _ _ _ _).mono ?_; rintro e wq ⟨rfl, rfl⟩)
      | (go_at_call 44; refine (HMo.out _ _).mono ?_; rintro e wq ⟨rfl, rfl⟩))
    go_ret
    exact ⟨by rw [HF.out]; rfl, HB.out⟩
  | true =>
  cases g7 : poIn q.tries 0 5 with
  | false =>
    have HF : Hid (O = false) := by show _ = _; rw [HO.out]; unfold poItem; simp [g1, g2, g3n, g4, g5, g6, g7]
    clear HO HX HUs
    go_enter Tryz.func27, Tryz.ntmps27
    go_wp2_with (first
      | (go_at_call 23; refine (HIn.out _ _ _ _).mono ?_; rintro e wq ⟨rfl, rfl⟩)
      | (go_at_call 44; refine (HMo.out _ _).mono ?_; rintro e wq ⟨rfl, rfl⟩))
    go_ret
    exact ⟨by rw [HF.out]; rfl, HB.out⟩
  | true =>
  by_cases g8 : q.body.length ≤ 100000
  case neg =>
    have HF : Hid (O = false) := by show _ = _; rw [HO.out]; unfold poItem; simp [g1, g2, g3n, g4, g5, g6, g7, g8]
    have hx : (100000 : Int) < q.body.length := by omega
    clear HO HX HUs
    go_enter Tryz.func27, Tryz.ntmps27
    go_wp2_with (first
      | (go_at_call 23; refine (HIn.out _ _ _ _).mono ?_; rintro e wq ⟨rfl, rfl⟩)
      | (go_at_call 44; refine (HMo.out _ _).mono ?_; rintro e wq ⟨rfl, rfl⟩))
    go_ret
    exact ⟨by rw [HF.out]; rfl, HB.out⟩
  case pos =>
  have g8' : ¬ (100000 : Int) < q.body.length := by omega
  have HOx : Hid (O = (q.fr.all (poUser s.boxes) && poRise q.fr)) := by show _ = _; rw [HO.out]; unfold poItem; simp [g1, g2, g3n, g4, g5, g6, g7, g8]
  clear HO g3n
  go_enter Tryz.func27, Tryz.ntmps27
  go_wp2_with (first
    | (go_at_call 23; refine (HIn.out _ _ _ _).mono ?_; rintro e wq ⟨rfl, rfl⟩)
    | (go_at_call 44; refine (HMo.out _ _).mono ?_; rintro e wq ⟨rfl, rfl⟩))
  have HXr := hide (fun W (hW : Below w.heap.size w W) => HX.out.below stb_int hW)
  clear HX HIn HMo qi q04
  go_loopw [5, 6, 56] (fun _ _ v56 wr => ∃ k : Nat, v56 = .int .i64 k ∧ k ≤ q.fr.length ∧ Hid (Below w.heap.size w wr) ∧ Hid (Blk wr w.heap.size #[.slice As s.boxes.length cs, .slice A2 s.subs.length c2, .slice A3 s.queue.length c3, .int .i64 s.nextValid, .int .i64 s.nextItem] 26) ∧ Hid (Blk wr (w.heap.size + 1) #[.int .i64 q.id, .string ⟨q.frm.toArray⟩, .slice A q.fr.length c, .int .i64 q.born, .int .i64 q.tries, .int .i64 q.due, .string ⟨q.body.toArray⟩] 62) ∧ Hid (∀ j (hj : j < q.fr.length), j < k → poUser s.boxes q.fr[j] = true) ∧ Hid (∀ j (hj : j + 1 < q.fr.length), j + 1 < k → q.fr[j]'(by omega) < q.fr[j + 1])) (fun _ _ v56 _ => q.fr.length - (intOf v56).toNat)
  case atStart => exact ⟨0, rfl, Nat.zero_le _, HB.out, HK0.out, HK1.out, fun j hj h => by omega, fun j hj h => by omega⟩
  case round =>
    obtain ⟨k, rfl, hk, HBr, HKa, HKb, HU, HR⟩ := hrel
    clear HK0 HK1 HB
    by_cases hlt : k < q.fr.length
    · have hlt' : (k : Int) < q.fr.length := by omega
      obtain ⟨g, o, e0, hg, q0⟩ := (HXr.out wr HBr.out).at hlt
      subst e0
      have q0' : wr.cell? ⟨g, o + k, none⟩ = some (.int .i64 q.fr[k]) := by
        have q1 : wr.cell? ⟨g, o + k * 1, none⟩ = some (.int .i64 q.fr[k]) := q0
        rwa [Nat.mul_one] at q1
      have HUk := hide (HUs.out q.fr[k] wr HBr.out)
      have HBadU : Hid (poUser s.boxes q.fr[k] = false → O = false) := fun h => by
        rw [HOx.out]
        have : q.fr.all (poUser s.boxes) = false := by
          rw [List.all_eq_false]
          exact ⟨_, List.getElem_mem hlt, by rw [h]; simp⟩
        rw [this]
        rfl
      have HBadR : Hid (∀ L, k = L + 1 → (hL : L < q.fr.length) → ¬ q.fr[L] < q.fr[k] → O = false) := fun L e hL h => by
        subst e
        rw [HOx.out]
        have : poRise q.fr = false := by
          cases hp : poRise q.fr with
          | false => rfl
          | true => exact absurd ((poRise_iff q.fr).1 hp L hlt) h
        rw [this, Bool.and_false]
      have HUn : Hid (poUser s.boxes q.fr[k] = true → ∀ j (hj : j < q.fr.length), j < k + 1 → poUser s.boxes q.fr[j] = true) := fun h j hj hjk => by
        by_cases e : j = k
        · subst e; exact h
        · exact HU.out j hj (by omega)
      have HRn : Hid ((∀ L, k = L + 1 → (hL : L < q.fr.length) → q.fr[L] < q.fr[k]) → ∀ j (hj : j + 1 < q.fr.length), j + 1 < k + 1 → q.fr[j]'(by omega) < q.fr[j + 1]) := fun h j hj hjk => by
        by_cases e : j + 1 = k
        · subst e; exact h j rfl (by omega)
        · exact HR.out j hj (by omega)
      have qs := HKa.out.cell
      clear q0 HU HR HOx
      cases hu : poUser s.boxes q.fr[k] with
      | false =>
        have HF := hide (HBadU.out hu)
        rw [hu] at HUk
        clear HBadU HBadR HUn HRn hu
        generalize q.fr[k] = x at *
        go_wp2_with (go_at_call 26; refine HUk.out.mono ?_; rintro e wq ⟨rfl, hbq⟩; replace hbq := hide hbq)
        go_ret
        exact ⟨by rw [HF.out]; rfl, HBr.out.trans (hbq.out.mono HBr.out.size)⟩
      | true =>
        have HUx := hide (HUn.out hu)
        rw [hu] at HUk
        clear HBadU HUn hu
        rcases Nat.eq_zero_or_pos k with h0 | h0
        · subst h0
          have HRx := hide (HRn.out (fun L e => by omega))
          have q00 : wr.cell? ⟨g, o, none⟩ = some (.int .i64 q.fr[0]) := q0'
          clear HRn HBadR
          generalize q.fr[0] = x at *
          go_wp2_with (go_at_call 26; refine HUk.out.mono ?_; rintro e wq ⟨rfl, hbq⟩; replace hbq := hide hbq)
          go_roundw
          case rel => exact ⟨1, by go_num, by omega, HBr.out.trans (hbq.out.mono HBr.out.size), HKa.out.below hbq.out HKa.out.lt, HKb.out.below hbq.out HKb.out.lt, HUx.out, HRx.out⟩
          case measure => simp [intOf] <;> omega
        · obtain ⟨L, HL⟩ : ∃ L, Hid (k = L + 1) := ⟨k - 1, by show _ = _; omega⟩
          have hL1 : (k : Int) - 1 = L := by have := HL.out; omega
          have hLs : L < q.fr.length := by have := HL.out; omega
          have hLs' : (L : Int) < q.fr.length := by omega
          have hk0 : (0 : Int) < k := by omega
          have hk1 : ¬ k = 0 := by omega
          have HXL := hide (fun W (hW : Below w.heap.size w W) => (HXr.out W hW).at hLs)
          have qL : Hid (∀ W, Below w.heap.size w W → W.cell? ⟨g, o + L, none⟩ = some (.int .i64 q.fr[L])) := fun W hW => by
            obtain ⟨g', o', e', _, q1⟩ := HXL.out W hW
            cases e'
            have q2 : W.cell? ⟨g, o + L * 1, none⟩ = some (.int .i64 q.fr[L]) := q1
            rwa [Nat.mul_one] at q2
          clear HXL
          have HBadR' := hide (HBadR.out L HL.out hLs)
          have HRn' : Hid (q.fr[L] < q.fr[k] → ∀ j (hj : j + 1 < q.fr.length), j + 1 < k + 1 → q.fr[j]'(by omega) < q.fr[j + 1]) := fun h => HRn.out (fun L' e hL' => by
            have : L' = L := by have := HL.out; omega
            subst this
            exact h)
          clear HBadR HRn
          generalize q.fr[k] = x at *
          generalize q.fr[L] = y at *
          by_cases hxy : y < x
          · have hx2 : decide (x ≤ y) = false := decide_eq_false (by omega)
            have HRx := hide (HRn'.out hxy)
            clear HRn' HBadR'
            go_wp2_with (go_at_call 26; refine HUk.out.mono ?_; rintro e wq ⟨rfl, hbq⟩
                         have qy := qL.out wq (HBr.out.trans (hbq.mono HBr.out.size))
                         have qf := (HKb.out.below hbq HKb.out.lt).cell
                         replace hbq := hide hbq)
            go_roundw
            case rel => exact ⟨k + 1, by go_num, by omega, HBr.out.trans (hbq.out.mono HBr.out.size), HKa.out.below hbq.out HKa.out.lt, HKb.out.below hbq.out HKb.out.lt, HUx.out, HRx.out⟩
            case measure => simp [intOf] <;> omega
          · have hx' : x ≤ y := by omega
            have HF := hide (HBadR'.out hxy)
            clear HRn' HBadR' HUx
            go_wp2_with (go_at_call 26; refine HUk.out.mono ?_; rintro e wq ⟨rfl, hbq⟩
                         have qy := qL.out wq (HBr.out.trans (hbq.mono HBr.out.size))
                         have qf := (HKb.out.below hbq HKb.out.lt).cell
                         replace hbq := hide hbq)
            go_ret
            exact ⟨by rw [HF.out]; rfl, HBr.out.trans (hbq.out.mono HBr.out.size)⟩
    · obtain rfl : k = q.fr.length := by omega
      have hlt' : ¬ ((q.fr.length : Nat) : Int) < q.fr.length := by omega
      have HF : Hid (O = true) := by
        show _ = _
        rw [HOx.out, Bool.and_eq_true, List.all_eq_true]
        refine ⟨fun x hx => ?_, (poRise_iff q.fr).2 (fun i hi => HR.out i hi hi)⟩
        obtain ⟨i, hi, rfl⟩ := List.mem_iff_getElem.1 hx
        exact HU.out i hi hi
      clear HOx HU HR
      go_wp2
      go_ret
      exact ⟨by rw [HF.out]; rfl, HBr.out⟩
end Go.Proofs.YtbfdbbpkpjgamaaGreatDoor

end
section
set_option linter.unusedVariables false
namespace Go.Proofs.YtbfdbbpkpjgamaaGreatDoor
theorem poRise_all : ∀ xs : List Int, poRise xs = true ↔ ∀ i (h : i + 1 < xs.length), xs[i]'(by omega) < xs[i + 1]
  | [] => by simp [poRise]
  | x :: r => by
    have ih := poRise_all r
    unfold poRise
    rw [Bool.and_eq_true, ih]
    constructor
    · rintro ⟨h1, h2⟩ i h
      cases i with
      | zero =>
        cases r with
        | nil => simp at h
        | cons c t => exact of_decide_eq_true h1
      | succ i => exact h2 i (by simp only [List.length_cons] at h; omega)
    · intro h
      refine ⟨?_, fun i hi => ?_⟩
      · cases r with
        | nil => rfl
        | cons c t => exact decide_eq_true (h 0 (by simp))
      · exact h (i + 1) (by simp only [List.length_cons]; omega)
theorem all_at {α : Type} (p : α → Bool) (l : List α) : l.all p = true ↔ ∀ i (hi : i < l.length), p l[i] = true := by
  rw [List.all_eq_true]
  constructor
  · intro h i hi
    exact h _ (List.getElem_mem hi)
  · intro h x hx
    obtain ⟨i, hi, rfl⟩ := List.mem_iff_getElem.1 hx
    exact h i hi
theorem form_iff (s : Stt) : poForm s = true ↔ ((s.boxes.length ≤ 24 ∧ s.subs.length ≤ 24 ∧ s.queue.length ≤ 24 ∧ poIn s.nextValid 1 2147483648 = true ∧ poIn s.nextItem 1 2147483648 = true) ∧
    (∀ i (hi : i < s.boxes.length), poBox s s.boxes[i] = true) ∧
    ((∀ i j (hi : i < s.boxes.length) (hj : j < s.boxes.length), i < j → s.boxes[i].valid ≠ s.boxes[j].valid) ∧ (∀ i (h : i + 1 < s.boxes.length), poLt (s.boxes[i]'(by omega)).user (s.boxes[i]'(by omega)).name s.boxes[i + 1].user s.boxes[i + 1].name = true)) ∧
    ((∀ i (hi : i < s.subs.length), poName s.subs[i].name = true ∧ poUser s.boxes s.subs[i].user = true) ∧ (∀ i (h : i + 1 < s.subs.length), poLt (s.subs[i]'(by omega)).user (s.subs[i]'(by omega)).name s.subs[i + 1].user s.subs[i + 1].name = true)) ∧
    (∀ i (hi : i < s.queue.length), poItem s s.queue[i] = true) ∧ (∀ i (h : i + 1 < s.queue.length), (s.queue[i]'(by omega)).id < s.queue[i + 1].id)) := by
  unfold poForm
  simp only [Bool.and_eq_true, decide_eq_true_eq, poBoxes_iff, poSubs_iff, poRise_all, all_at, List.length_map, List.getElem_map]
  constructor
  · rintro ⟨⟨⟨⟨⟨⟨⟨⟨⟨h1, h2⟩, h3⟩, h4⟩, h5⟩, h6⟩, h7⟩, h8⟩, h9⟩, h10⟩
    exact ⟨⟨h1, h2, h3, h4, h5⟩, h6, h7, h8, h9, h10⟩
  · rintro ⟨⟨h1, h2, h3, h4, h5⟩, h6, h7, h8, h9, h10⟩
    exact ⟨⟨⟨⟨⟨⟨⟨⟨⟨h1, h2⟩, h3⟩, h4⟩, h5⟩, h6⟩, h7⟩, h8⟩, h9⟩, h10⟩
theorem form_not {s : Stt} (h : poForm s = true → False) : poForm s = false := by
  cases e : poForm s with
  | false => rfl
  | true => exact (h e).elim
/-- The first k boxes are in form. -/
structure FmA (s : Stt) (k : Nat) : Prop where
  bx : ∀ i (hi : i < s.boxes.length), i < k → poBox s s.boxes[i] = true
  va : ∀ i j (hi : i < s.boxes.length) (hj : j < s.boxes.length), i < j → j < k → s.boxes[i].valid ≠ s.boxes[j].valid
  lt : ∀ i (h : i + 1 < s.boxes.length), i + 1 < k → poLt (s.boxes[i]'(by omega)).user (s.boxes[i]'(by omega)).name s.boxes[i + 1].user s.boxes[i + 1].name = true
/-- Box k agrees with the first j ahead of it. -/
structure FmB (s : Stt) (k j : Nat) (hk : k < s.boxes.length) : Prop where
  va : ∀ i (hi : i < s.boxes.length), i < j → s.boxes[i].valid ≠ s.boxes[k].valid
  lt : ∀ i (hi : i < s.boxes.length), i < j → i + 1 = k → poLt s.boxes[i].user s.boxes[i].name s.boxes[k].user s.boxes[k].name = true
theorem FmA.zero (s : Stt) : FmA s 0 := ⟨fun i _ h => by omega, fun i j _ _ _ h => by omega, fun i _ h => by omega⟩
theorem FmB.zero (s : Stt) (k : Nat) (hk : k < s.boxes.length) : FmB s k 0 hk := ⟨fun i _ h => by omega, fun i _ h => by omega⟩
theorem FmB.next {s : Stt} {k j : Nat} {hk : k < s.boxes.length} (h : FmB s k j hk) (hj : j < s.boxes.length) (h1 : s.boxes[j].valid ≠ s.boxes[k].valid) (h2 : j + 1 = k → poLt s.boxes[j].user s.boxes[j].name s.boxes[k].user s.boxes[k].name = true) : FmB s k (j + 1) hk := by
  refine ⟨fun i hi hij => ?_, fun i hi hij e => ?_⟩
  · by_cases e : i = j
    · subst e; exact h1
    · exact h.va i hi (by omega)
  · by_cases e' : i = j
    · subst e'; exact h2 e
    · exact h.lt i hi (by omega) e
theorem FmA.next {s : Stt} {k : Nat} (h : FmA s k) (hk : k < s.boxes.length) (h1 : poBox s s.boxes[k] = true) (h2 : FmB s k k hk) : FmA s (k + 1) := by
  refine ⟨fun i hi hik => ?_, fun i j hi hj hij hjk => ?_, fun i hi hik => ?_⟩
  · by_cases e : i = k
    · subst e; exact h1
    · exact h.bx i hi (by omega)
  · by_cases e : j = k
    · subst e; exact h2.va i hi hij
    · exact h.va i j hi hj hij (by omega)
  · by_cases e : i + 1 = k
    · subst e; exact h2.lt i (by omega) (by omega) rfl
    · exact h.lt i hi (by omega)
/-- The first j subscriptions are in form. -/
structure FmS (s : Stt) (j : Nat) : Prop where
  sb : ∀ i (hi : i < s.subs.length), i < j → poName s.subs[i].name = true ∧ poUser s.boxes s.subs[i].user = true
  lt : ∀ i (h : i + 1 < s.subs.length), i + 1 < j → poLt (s.subs[i]'(by omega)).user (s.subs[i]'(by omega)).name s.subs[i + 1].user s.subs[i + 1].name = true
theorem FmS.zero (s : Stt) : FmS s 0 := ⟨fun i _ h => by omega, fun i _ h => by omega⟩
theorem FmS.next {s : Stt} {j : Nat} (h : FmS s j) (hj : j < s.subs.length) (h1 : poName s.subs[j].name = true) (h2 : poUser s.boxes s.subs[j].user = true) (h3 : ∀ L (e : j = L + 1) (hL : L < s.subs.length), poLt s.subs[L].user s.subs[L].name s.subs[j].user s.subs[j].name = true) : FmS s (j + 1) := by
  refine ⟨fun i hi hij => ?_, fun i hi hij => ?_⟩
  · by_cases e : i = j
    · subst e; exact ⟨h1, h2⟩
    · exact h.sb i hi (by omega)
  · by_cases e : i + 1 = j
    · subst e; exact h3 i rfl (by omega)
    · exact h.lt i hi (by omega)
/-- The first j items are in form. -/
structure FmQ (s : Stt) (j : Nat) : Prop where
  it : ∀ i (hi : i < s.queue.length), i < j → poItem s s.queue[i] = true
  lt : ∀ i (h : i + 1 < s.queue.length), i + 1 < j → (s.queue[i]'(by omega)).id < s.queue[i + 1].id
theorem FmQ.zero (s : Stt) : FmQ s 0 := ⟨fun i _ h => by omega, fun i _ h => by omega⟩
theorem FmQ.next {s : Stt} {j : Nat} (h : FmQ s j) (hj : j < s.queue.length) (h1 : poItem s s.queue[j] = true) (h3 : ∀ L (e : j = L + 1) (hL : L < s.queue.length), s.queue[L].id < s.queue[j].id) : FmQ s (j + 1) := by
  refine ⟨fun i hi hij => ?_, fun i hi hij => ?_⟩
  · by_cases e : i = j
    · subst e; exact h1
    · exact h.it i hi (by omega)
  · by_cases e : i + 1 = j
    · subst e; exact h3 i rfl (by omega)
    · exact h.lt i hi (by omega)
theorem form_yes {s : Stt} (h0 : s.boxes.length ≤ 24 ∧ s.subs.length ≤ 24 ∧ s.queue.length ≤ 24 ∧ poIn s.nextValid 1 2147483648 = true ∧ poIn s.nextItem 1 2147483648 = true) (h1 : FmA s s.boxes.length) (h2 : FmS s s.subs.length) (h3 : FmQ s s.queue.length) : poForm s = true :=
  (form_iff s).2 ⟨h0, fun i hi => h1.bx i hi hi, ⟨fun i j hi hj hij => h1.va i j hi hj hij hj, fun i h => h1.lt i h h⟩, ⟨fun i hi => h2.sb i hi hi, fun i h => h2.lt i h h⟩, fun i hi => h3.it i hi hi, fun i h => h3.lt i h h⟩
theorem form_noBox {s : Stt} {k : Nat} (hk : k < s.boxes.length) (h : poBox s s.boxes[k] = false) : poForm s = false := form_not fun e => by
  have := ((form_iff s).1 e).2.1 k hk
  rw [h] at this
  cases this
theorem form_noVal {s : Stt} {i k : Nat} (hk : k < s.boxes.length) (hi : i < s.boxes.length) (hik : i < k) (h : s.boxes[i].valid = s.boxes[k].valid) : poForm s = false := form_not fun e => ((form_iff s).1 e).2.2.1.1 i k hi hk hik h
theorem form_noLt {s : Stt} {i k : Nat} (hk : k < s.boxes.length) (hi : i < s.boxes.length) (hik : i + 1 = k) (h : poLt s.boxes[i].user s.boxes[i].name s.boxes[k].user s.boxes[k].name = false) : poForm s = false := form_not fun e => by
  subst hik
  have := ((form_iff s).1 e).2.2.1.2 i hk
  rw [h] at this
  cases this
theorem form_noName {s : Stt} {k : Nat} (hk : k < s.subs.length) (h : poName s.subs[k].name = false) : poForm s = false := form_not fun e => by
  have := (((form_iff s).1 e).2.2.2.1.1 k hk).1
  rw [h] at this
  cases this
theorem form_noUser {s : Stt} {k : Nat} (hk : k < s.subs.length) (h : poUser s.boxes s.subs[k].user = false) : poForm s = false := form_not fun e => by
  have := (((form_iff s).1 e).2.2.2.1.1 k hk).2
  rw [h] at this
  cases this
theorem form_noSlt {s : Stt} {i k : Nat} (hk : k < s.subs.length) (hi : i < s.subs.length) (hik : k = i + 1) (h : poLt s.subs[i].user s.subs[i].name s.subs[k].user s.subs[k].name = false) : poForm s = false := form_not fun e => by
  subst hik
  have := ((form_iff s).1 e).2.2.2.1.2 i hk
  rw [h] at this
  cases this
theorem form_noItem {s : Stt} {k : Nat} (hk : k < s.queue.length) (h : poItem s s.queue[k] = false) : poForm s = false := form_not fun e => by
  have := ((form_iff s).1 e).2.2.2.2.1 k hk
  rw [h] at this
  cases this
theorem form_noId {s : Stt} {i k : Nat} (hk : k < s.queue.length) (hi : i < s.queue.length) (hik : k = i + 1) (h : ¬ s.queue[i].id < s.queue[k].id) : poForm s = false := form_not fun e => by
  subst hik
  exact h (((form_iff s).1 e).2.2.2.2.2 i hk)
end Go.Proofs.YtbfdbbpkpjgamaaGreatDoor

end
