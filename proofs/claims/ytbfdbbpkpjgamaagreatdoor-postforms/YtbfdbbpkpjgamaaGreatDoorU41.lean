/- The document's small functions of layer 15: in, moment, has, Find, User. -/
/- The document's Big of layer 15: what isn't more than is asked lies within bounds. -/
import Derived.Test.YtbfdbbpkpjgamaaGreatDoorU03
import Derived.Test.YtbfdbbpkpjgamaaGreatDoorU04
import Derived.Test.YtbfdbbpkpjgamaaGreatDoorU06
section
set_option linter.unusedVariables false
set_option linter.unusedSimpArgs false
namespace Go.Proofs.YtbfdbbpkpjgamaaGreatDoor
open Go.RowKit Go.Shelf
set_option maxHeartbeats 1000000 in
theorem rin15_any (n a b : Int) (w : World) : Calls Tryz.prog 23 #[.int .i64 n, .int .i64 a, .int .i64 b] w fun e w' => e = .returned (.bool (poIn n a b)) ∧ w' = w := by
  unfold poIn
  by_cases h0 : a ≤ n
  · by_cases h1 : n ≤ b
    · rw [decide_eq_true h0, decide_eq_true h1]
      go_enter Tryz.func23, Tryz.ntmps23
      go_wp2
      go_ret
      exact ⟨rfl, rfl⟩
    · rw [decide_eq_true h0, decide_eq_false h1]
      go_enter Tryz.func23, Tryz.ntmps23
      go_wp2
      exact bodyPost_ret (v := .bool false) (by simp [results, Tryz.results23, go_sem] <;> omega) rfl ⟨rfl, rfl⟩
  · rw [decide_eq_false h0]
    go_enter Tryz.func23, Tryz.ntmps23
    go_wp2
    go_ret
    exact ⟨rfl, rfl⟩
set_option maxHeartbeats 1000000 in
theorem rmom15_any (t : Int) (w : World) : Calls Tryz.prog 44 #[.int .i64 t] w fun e w' => e = .returned (.bool (poMom t)) ∧ w' = w := by
  have H := hide (rin15_any t 0 4102444799 w)
  unfold poMom
  generalize poIn t 0 4102444799 = T at *
  go_enter Tryz.func44, Tryz.ntmps44
  go_wp2_with (go_at_call 23; refine H.out.mono ?_; rintro e w' ⟨rfl, rfl⟩)
  go_ret
  exact ⟨rfl, rfl⟩
/-- What Find answers. -/
def fiV (o : Option Nat) : Int := match o with
  | some i => (i : Int)
  | none => -1
theorem poFind_next {l : List Bx} {u : Int} {n : List UInt8} {k : Nat} (hk : k < l.length) (h : ∀ i (hi : i < l.length), i < k → (decide (l[i].user = u) && decide (l[i].name = n)) = false) :
    ((decide (l[k].user = u) && decide (l[k].name = n)) = true → poFind l u n = some k) := by
  intro ht
  unfold poFind
  rw [List.findIdx?_eq_some_iff_getElem]
  exact ⟨hk, ht, fun j hj => by simpa using h j (by omega) hj⟩
theorem poFind_none {l : List Bx} {u : Int} {n : List UInt8} (h : ∀ i (hi : i < l.length), (decide (l[i].user = u) && decide (l[i].name = n)) = false) : poFind l u n = none := by
  unfold poFind
  rw [List.findIdx?_eq_none_iff]
  intro x hx
  obtain ⟨i, hi, rfl⟩ := List.mem_iff_getElem.1 hx
  exact h i hi
set_option maxRecDepth 20000 in
set_option maxHeartbeats 4000000 in
theorem rfind15_any {w : World} {v : Value} {s : Stt} (h : StR w v s) (u : Int) (n : List UInt8) (hl : s.boxes.length ≤ 1000000) :
    Calls Tryz.prog 15 #[v, .int .i64 u, .string ⟨n.toArray⟩] w fun e w' => e = .returned (.int .i64 (fiV (poFind s.boxes u n))) ∧ Below w.heap.size w w' := by
  obtain ⟨bv, sv, qv, rfl, hb, hs, hq⟩ := h
  obtain ⟨A, c, rfl⟩ := hb.form
  obtain ⟨As, cs, rfl⟩ := hs.form
  obtain ⟨Aq, cq, rfl⟩ := hq.form
  have HX := hide hb
  obtain ⟨l, hl0⟩ : ∃ l, Hid (s.boxes = l) := ⟨_, hide rfl⟩
  rw [hl0.out] at HX hl ⊢
  clear hb hs hq
  generalize s.subs.length = ns at *
  generalize s.queue.length = nq at *
  obtain ⟨O, HO⟩ : ∃ O, Hid (O = poFind l u n) := ⟨_, hide rfl⟩
  rw [← HO.out]
  have HK := hide (Blk.new w #[.slice A l.length c, .slice As ns cs, .slice Aq nq cq, .int .i64 s.nextValid, .int .i64 s.nextItem] 26)
  have HB := hide ((Below.refl w.heap.size w).alloc (Nat.le_refl _) (.cells #[.slice A l.length c, .slice As ns cs, .slice Aq nq cq, .int .i64 s.nextValid, .int .i64 s.nextItem] 26))
  go_enter Tryz.func15, Tryz.ntmps15
  go_wp2
  obtain ⟨W0, HW0⟩ : ∃ W0, Hid (w.alloc (.cells #[.slice A l.length c, .slice As ns cs, .slice Aq nq cq, .int .i64 s.nextValid, .int .i64 s.nextItem] 26) = W0) := ⟨_, hide rfl⟩
  rw [HW0.out] at HB HK ⊢
  have HX0 := hide (HX.out.below stb_bx HB.out)
  go_loopw [7, 11] (fun _ v11 wr => ∃ k : Nat, v11 = .int .i64 k ∧ k ≤ l.length ∧ wr = W0 ∧ Hid (∀ i (hi : i < l.length), i < k → (decide (l[i].user = u) && decide (l[i].name = n)) = false)) (fun _ v11 _ => l.length - (intOf v11).toNat)
  case atStart => exact ⟨0, rfl, Nat.zero_le _, rfl, fun i hi h => by omega⟩
  case round =>
    obtain ⟨k, rfl, hk, rfl, HC⟩ := hrel
    have qb := HK.out.cell 0
    by_cases hlt : k < l.length
    · have hlt' : (k : Int) < l.length := by omega
      obtain ⟨g, o, rfl, hg, q0, q1, _⟩ := HX0.out.at hlt
      have q0' : wr.cell? ⟨g, o + k * 5, none⟩ = some (.int .i64 l[k].user) := q0
      have q1' : wr.cell? ⟨g, o + k * 5 + 1, none⟩ = some (.string ⟨l[k].name.toArray⟩) := q1
      have HN := hide (poFind_next hlt HC.out)
      have HS : Hid ((decide (l[k].user = u) && decide (l[k].name = n)) = false → ∀ i (hi : i < l.length), i < k + 1 → (decide (l[i].user = u) && decide (l[i].name = n)) = false) := fun h i hi hik => by
        by_cases e : i = k
        · subst e; exact h
        · exact HC.out i hi (by omega)
      clear q0 q1
      generalize l[k].user = x at *
      generalize l[k].name = m at *
      by_cases hx : x = u
      · by_cases hm : m = n
        · subst hx
          subst hm
          have HF : Hid (O = some k) := by show _ = _; rw [HO.out]; exact HN.out (by simp)
          clear HN HS
          go_wp2
          go_ret
          exact ⟨by rw [HF.out]; rfl, HB.out⟩
        · have hmb : (m == n) = false := beq_eq_false_iff_ne.2 hm
          have HF := hide (HS.out (by simp [hm]))
          clear HN HS
          subst hx
          go_wp2
          go_roundw
          case rel => exact ⟨k + 1, by go_num, by omega, by first | rfl | trivial, HF.out⟩
          case measure => simp [intOf] <;> omega
      · have hxb : (x == u) = false := beq_eq_false_iff_ne.2 hx
        have HF := hide (HS.out (by simp [hx]))
        clear HN HS
        go_wp2
        go_roundw
        case rel => exact ⟨k + 1, by go_num, by omega, by first | rfl | trivial, HF.out⟩
        case measure => simp [intOf] <;> omega
    · have HF : Hid (O = none) := by show _ = _; rw [HO.out]; exact poFind_none (fun i hi => HC.out i hi (by omega))
      have hlt' : ¬ (k : Int) < l.length := by omega
      go_wp2
      go_ret
      exact ⟨by rw [HF.out]; rfl, HB.out⟩
set_option maxHeartbeats 1000000 in
theorem ruser15_any {w : World} {v : Value} {s : Stt} (h : StR w v s) (u : Int) (hl : s.boxes.length ≤ 1000000) :
    Calls Tryz.prog 26 #[v, .int .i64 u] w fun e w' => e = .returned (.bool (poUser s.boxes u)) ∧ Below w.heap.size w w' := by
  have HX := hide h
  obtain ⟨bv, sv, qv, rfl, hb, hs, hq⟩ := h
  obtain ⟨A, c, rfl⟩ := hb.form
  obtain ⟨As, cs, rfl⟩ := hs.form
  obtain ⟨Aq, cq, rfl⟩ := hq.form
  clear hb hs hq
  have HB := hide ((Below.refl w.heap.size w).alloc (Nat.le_refl _) (.cells #[.slice A s.boxes.length c, .slice As s.subs.length cs, .slice Aq s.queue.length cq, .int .i64 s.nextValid, .int .i64 s.nextItem] 26))
  have HF := hide (rfind15_any (HX.out.below HB.out) u inboxU hl)
  have HV : Hid (poUser s.boxes u = decide (0 ≤ fiV (poFind s.boxes u inboxU))) := by
    show _ = _
    unfold poUser
    cases poFind s.boxes u inboxU with
    | none => rfl
    | some i => simp [fiV]
  generalize poUser s.boxes u = T at *
  generalize fiV (poFind s.boxes u inboxU) = f at *
  go_enter Tryz.func26, Tryz.ntmps26
  go_wp2_with (go_at_call 15; refine HF.out.mono ?_; rintro e w1 ⟨rfl, hb1⟩; replace hb1 := hide hb1)
  go_ret
  exact ⟨by rw [HV.out]; rfl, HB.out.trans (hb1.out.mono HB.out.size)⟩
end Go.Proofs.YtbfdbbpkpjgamaaGreatDoor

end
section
set_option linter.unusedVariables false
set_option linter.unusedSimpArgs false
namespace Go.Proofs.YtbfdbbpkpjgamaaGreatDoor
open Go.RowKit Go.Shelf
/-- No text, and no list, is longer than any may be. -/
structure SzS (s : Stt) : Prop where
  bx : ∀ b ∈ s.boxes, b.name.length ≤ 140737488351232 ∧ b.msgs.length ≤ 140737488355328 ∧ ∀ m ∈ b.msgs, m.body.length ≤ 140737488351232
  sb : ∀ x ∈ s.subs, x.name.length ≤ 140737488351232
  qu : ∀ q ∈ s.queue, q.fr.length ≤ 140737488355328 ∧ q.frm.length ≤ 140737488351232 ∧ q.body.length ≤ 140737488351232
theorem wrapB {x : Int} (h0 : 0 ≤ x) (h1 : x ≤ 4000000000000000000) : IntKind.i64.wrap x = x := by
  rw [IntKind.wrap_i64]
  omega
theorem quo15 (n k : Nat) : ((n : Int).tdiv (k : Int)) = ((n / k : Nat) : Int) := by
  rw [Int.tdiv_eq_ediv_of_nonneg (by omega)]
  rfl
/-- What Big answers: where it is false all lies within bounds. -/
def BgOut15 (s : Stt) (w : World) (e : Ending) (w' : World) : Prop := ∃ bl, e = .returned (.bool bl) ∧ (bl = false → BdS s) ∧ Below w.heap.size w w'
theorem bigYes {s : Stt} {w w' : World} (h : Below w.heap.size w w') : BgOut15 s w (.returned (.bool true)) w' := ⟨true, rfl, (by intro h; cases h), h⟩
set_option maxRecDepth 20000 in
set_option maxHeartbeats 8000000 in
theorem rbig15_any {w : World} {v : Value} {s : Stt} (h : StR w v s) (hz : SzS s) :
    Calls Tryz.prog 8 #[v] w fun e w' => BgOut15 s w e w' := by
  obtain ⟨sbv, ssv, sqv, rfl, h1, h2, h3⟩ := h
  obtain ⟨A1, c1, rfl⟩ := h1.form
  obtain ⟨A2, c2, rfl⟩ := h2.form
  obtain ⟨A3, c3, rfl⟩ := h3.form
  have HX1 := hide h1
  have HX2 := hide h2
  have HX3 := hide h3
  have HZ := hide hz
  clear h1 h2 h3 hz
  have HB0 : Hid (Below w.heap.size w (w.alloc (.cells #[.slice A1 s.boxes.length c1, .slice A2 s.subs.length c2, .slice A3 s.queue.length c3, .int .i64 s.nextValid, .int .i64 s.nextItem] 26))) := (Below.refl w.heap.size w).alloc (Nat.le_refl _) _
  have HK0 : Hid (Blk (w.alloc (.cells #[.slice A1 s.boxes.length c1, .slice A2 s.subs.length c2, .slice A3 s.queue.length c3, .int .i64 s.nextValid, .int .i64 s.nextItem] 26)) w.heap.size #[.slice A1 s.boxes.length c1, .slice A2 s.subs.length c2, .slice A3 s.queue.length c3, .int .i64 s.nextValid, .int .i64 s.nextItem] 26) := Blk.new w _ _
  have q0 := HK0.out.cell 0
  have q1 := HK0.out.cell 1
  have q2 := HK0.out.cell 2
  simp only [List.getElem?_toArray, List.getElem?_cons_zero, List.getElem?_cons_succ] at q0 q1 q2
  by_cases g1 : 500 < s.boxes.length
  · have g1' : (500 : Int) < s.boxes.length := by omega
    go_enter Tryz.func8, Tryz.ntmps8
    go_wp2
    exact bodyPost_ret (v := .bool true) (by simp [results, Tryz.results8, go_sem]) rfl (bigYes HB0.out)
  have g1' : ¬ (500 : Int) < s.boxes.length := by omega
  by_cases g2 : 500 < s.subs.length
  · have g2' : (500 : Int) < s.subs.length := by omega
    go_enter Tryz.func8, Tryz.ntmps8
    go_wp2
    exact bodyPost_ret (v := .bool true) (by simp [results, Tryz.results8, go_sem]) rfl (bigYes HB0.out)
  have g2' : ¬ (500 : Int) < s.subs.length := by omega
  by_cases g3 : 500 < s.queue.length
  · have g3' : (500 : Int) < s.queue.length := by omega
    go_enter Tryz.func8, Tryz.ntmps8
    go_wp2
    exact bodyPost_ret (v := .bool true) (by simp [results, Tryz.results8, go_sem]) rfl (bigYes HB0.out)
  have g3' : ¬ (500 : Int) < s.queue.length := by omega
  go_enter Tryz.func8, Tryz.ntmps8
  go_wp2
  obtain ⟨W0, HW0⟩ : ∃ W0, Hid (w.alloc (.cells #[.slice A1 s.boxes.length c1, .slice A2 s.subs.length c2, .slice A3 s.queue.length c3, .int .i64 s.nextValid, .int .i64 s.nextItem] 26) = W0) := ⟨_, hide rfl⟩
  rw [HW0.out] at HB0 HK0 q0 q1 q2 ⊢
  go_loopw [3, 31] (fun v3 v31 wr => ∃ (k : Nat) (z : Int), v31 = .int .i64 k ∧ v3 = .int .i64 z ∧ k ≤ s.boxes.length ∧ 0 ≤ z ∧ z ≤ k * 300000000000000 + 2000 ∧ Hid (Below w.heap.size w wr) ∧ Hid (Blk wr w.heap.size #[.slice A1 s.boxes.length c1, .slice A2 s.subs.length c2, .slice A3 s.queue.length c3, .int .i64 s.nextValid, .int .i64 s.nextItem] 26) ∧ Hid (z ≤ 2000 → ∀ i (hi : i < s.boxes.length), i < k → BdB s.boxes[i])) (fun _ v31 _ => s.boxes.length - (intOf v31).toNat)
  case atStart => exact ⟨0, 0, rfl, rfl, Nat.zero_le _, by omega, by omega, HB0.out, HK0.out, fun _ i _ h => by omega⟩
  case round =>
    obtain ⟨k, z, rfl, rfl, hk, hz0, hz1, HB, HK, HI⟩ := hrel
    clear HB0 HK0 q0 q1 q2
    by_cases hlt : k < s.boxes.length
    · have hlt' : (k : Int) < s.boxes.length := by omega
      obtain ⟨g, o, rfl, hg, p0, p1, p2, p3, mv, p4, hm⟩ := (HX1.out.below stb_bx HB.out).at hlt
      have hzb := HZ.out.bx _ (List.getElem_mem hlt)
      obtain ⟨b, hb⟩ : ∃ b, Hid (s.boxes[k] = b) := ⟨_, hide rfl⟩
      rw [hb.out] at p0 p1 p2 p3 hm hzb
      obtain ⟨Am, cm, rfl⟩ := hm.form
      have r0 : wr.cell? ⟨g, o + k * 5, none⟩ = some (.int .i64 b.user) := p0
      have r1 : wr.cell? ⟨g, o + k * 5 + 1, none⟩ = some (.string ⟨b.name.toArray⟩) := p1
      have r2 : wr.cell? ⟨g, o + k * 5 + 2, none⟩ = some (.int .i64 b.valid) := p2
      have r3 : wr.cell? ⟨g, o + k * 5 + 3, none⟩ = some (.int .i64 b.next) := p3
      clear p0 p1 p2 p3
      obtain ⟨bu, bn, bv, bx, bm⟩ := b
      dsimp only at r0 r1 r2 r3 p4 hm hzb
      obtain ⟨zn, zl, zb⟩ := hzb
      have HZb := hide zb
      have HM := hide (hm.below stb_msg ((Below.refl wr.heap.size wr).alloc (Nat.le_refl _) (.cells #[.int .i64 bu, .string ⟨bn.toArray⟩, .int .i64 bv, .int .i64 bx, .slice Am bm.length cm] 39)))
      clear zb hm
      have hsz := size_lit bn
      obtain ⟨lm, hlm⟩ : ∃ lm, Hid (bm.length = lm) := ⟨_, hide rfl⟩
      rw [hlm.out] at p4 zl HM
      obtain ⟨dn, hdn⟩ : ∃ dn, bn.length / 50 = dn := ⟨_, rfl⟩
      have hq : ((bn.length : Nat) : Int).tdiv 50 = (dn : Int) := by rw [← hdn]; exact quo15 bn.length 50
      have hw1 : IntKind.i64.wrap ((lm : Int) + dn) = (lm : Int) + dn := wrapB (by omega) (by omega)
      have hw2 : IntKind.i64.wrap (z + ((lm : Int) + dn)) = z + ((lm : Int) + dn) := wrapB (by omega) (by omega)
      have HB1 := hide (HB.out.alloc HB.out.size (.cells #[.int .i64 bu, .string ⟨bn.toArray⟩, .int .i64 bv, .int .i64 bx, .slice Am lm cm] 39))
      have HK1 := hide (HK.out.alloc (.cells #[.int .i64 bu, .string ⟨bn.toArray⟩, .int .i64 bv, .int .i64 bx, .slice Am lm cm] 39))
      go_wp2
      clear r0 r1 r2 r3 p4
      obtain ⟨W1, HW1⟩ : ∃ W1, Hid (wr.alloc (.cells #[.int .i64 bu, .string ⟨bn.toArray⟩, .int .i64 bv, .int .i64 bx, .slice Am lm cm] 39) = W1) := ⟨_, hide rfl⟩
      rw [HW1.out] at HM HB1 HK1 ⊢
      clear HW1 HB HK
      go_loopw [3, 48] (fun v3 v48 wq => ∃ (j : Nat) (y : Int), v48 = .int .i64 j ∧ v3 = .int .i64 y ∧ j ≤ lm ∧ (lm : Int) ≤ y ∧ y ≤ k * 300000000000000 + 150000000000000 ∧ Hid (Below W1.heap.size W1 wq) ∧ Hid (y ≤ 2000 → z ≤ 2000 ∧ bn.length ≤ 1000000 ∧ ∀ i (hi : i < bm.length), i < j → bm[i].body.length ≤ 1000000)) (fun _ v48 _ => lm - (intOf v48).toNat)
      case atStart => exact ⟨0, _, rfl, rfl, Nat.zero_le _, by omega, by omega, Below.refl _ _, fun h => ⟨by omega, by omega, fun i _ h => by omega⟩⟩
      case round =>
        obtain ⟨j, y, rfl, rfl, hj, hy0, hy1, HBq, HJ⟩ := hrel
        by_cases hjl : j < lm
        · have hjl' : (j : Int) < lm := by omega
          have hjm : j < bm.length := by rw [hlm.out]; exact hjl
          obtain ⟨g2, o2, rfl, hg2, p0, p1, p2, p3⟩ := ((show RdE 4 MsgAt W1 (.slice Am bm.length cm) bm from by rw [hlm.out]; exact HM.out).below stb_msg HBq.out).at hjm
          have hzm := HZb.out _ (List.getElem_mem hjm)
          obtain ⟨m, hm⟩ : ∃ m, Hid (bm[j] = m) := ⟨_, hide rfl⟩
          rw [hm.out] at p0 p1 p2 p3 hzm
          have r0 : wr.cell? ⟨g2, o2 + j * 4, none⟩ = some (.int .i64 m.uid) := p0
          have r1 : wr.cell? ⟨g2, o2 + j * 4 + 1, none⟩ = some (.int .i64 m.flags) := p1
          have r2 : wr.cell? ⟨g2, o2 + j * 4 + 2, none⟩ = some (.int .i64 m.date) := p2
          have r3 : wr.cell? ⟨g2, o2 + j * 4 + 3, none⟩ = some (.string ⟨m.body.toArray⟩) := p3
          clear p0 p1 p2 p3
          obtain ⟨mu, mf, md, mb⟩ := m
          dsimp only at r0 r1 r2 r3 hzm
          have hsm := size_lit mb
          obtain ⟨em, hem⟩ : ∃ em, mb.length / 500 = em := ⟨_, rfl⟩
          have hq2 : ((mb.length : Nat) : Int).tdiv 500 = (em : Int) := by rw [← hem]; exact quo15 mb.length 500
          have hw3 : IntKind.i64.wrap (y + (em : Int)) = y + (em : Int) := wrapB (by omega) (by omega)
          have HBq1 := hide (HBq.out.alloc HBq.out.size (.cells #[.int .i64 mu, .int .i64 mf, .int .i64 md, .string ⟨mb.toArray⟩] 55))
          by_cases hbig : 2000 < y + (em : Int)
          · go_wp2
            have HBf := hide (HB1.out.trans (HBq1.out.mono HB1.out.size))
            exact bodyPost_ret (v := .bool true) (by simp [results, Tryz.results8, go_sem]) rfl (bigYes HBf.out)
          · go_wp2
            go_roundw
            case rel =>
              refine ⟨j + 1, _, by go_num, rfl, by omega, by omega, by omega, HBq1.out, fun h => ?_⟩
              obtain ⟨h1, h2, h3⟩ := HJ.out (by omega)
              refine ⟨h1, h2, fun i hi hij => ?_⟩
              by_cases e : i = j
              · subst e
                rw [hm.out]
                show mb.length ≤ 1000000
                omega
              · exact h3 i hi (by omega)
            case measure => simp [intOf]; omega
        · obtain rfl : j = lm := by omega
          go_wp2
          have HBf := hide (HB1.out.trans (HBq.out.mono HB1.out.size))
          have HKf := hide (HK1.out.below HBq.out HK1.out.lt)
          go_roundw
          case rel =>
            refine ⟨k + 1, _, by go_num, rfl, by omega, by omega, by omega, HBf.out, HKf.out, fun h i hi hik => ?_⟩
            obtain ⟨h1, h2, h3⟩ := HJ.out h
            by_cases e : i = k
            · subst e
              rw [hb.out]
              exact ⟨h2, by show bm.length ≤ _; rw [hlm.out]; omega, fun m hm => by
                obtain ⟨i, hi, rfl⟩ := List.mem_iff_getElem.1 hm
                exact h3 i hi (by rw [← hlm.out]; exact hi)⟩
            · exact HI.out h1 i hi (by omega)
          case measure => simp [intOf]; omega
    · obtain rfl : k = s.boxes.length := by omega
      have HBx : Hid (z ≤ 2000 → ∀ b ∈ s.boxes, BdB b) := fun h b hb => by
        obtain ⟨i, hi, rfl⟩ := List.mem_iff_getElem.1 hb
        exact HI.out h i hi hi
      clear HI HX1
      have q0 := HK.out.cell 0
      have q1 := HK.out.cell 1
      have q2 := HK.out.cell 2
      simp only [List.getElem?_toArray, List.getElem?_cons_zero, List.getElem?_cons_succ] at q0 q1 q2
      go_wp2
      clear q0 q1 q2
      have hz2 : z ≤ 160000000000000000 := by omega
      obtain ⟨W1, HW1⟩ : ∃ W1, Hid (wr = W1) := ⟨_, hide rfl⟩
      rw [HW1.out] at HB HK ⊢
      clear HW1
      go_loopw [3, 65] (fun v3 v65 wq => ∃ (j : Nat) (y : Int), v65 = .int .i64 j ∧ v3 = .int .i64 y ∧ j ≤ s.subs.length ∧ z ≤ y ∧ y ≤ 160000000000000000 + j * 3000000000000 ∧ Hid (Below w.heap.size w wq) ∧ Hid (Blk wq w.heap.size #[.slice A1 s.boxes.length c1, .slice A2 s.subs.length c2, .slice A3 s.queue.length c3, .int .i64 s.nextValid, .int .i64 s.nextItem] 26) ∧ Hid (y ≤ 2000 → ∀ i (hi : i < s.subs.length), i < j → s.subs[i].name.length ≤ 1000000)) (fun _ v65 _ => s.subs.length - (intOf v65).toNat)
      case atStart => exact ⟨0, z, rfl, rfl, Nat.zero_le _, by omega, by omega, HB.out, HK.out, fun _ i _ h => by omega⟩
      case round =>
        obtain ⟨j, y, rfl, rfl, hj, hy0, hy1, HBq, HKq, HJ⟩ := hrel
        clear HB HK
        by_cases hjl : j < s.subs.length
        · have hjl' : (j : Int) < s.subs.length := by omega
          obtain ⟨g2, o2, rfl, hg2, p0, p1⟩ := (HX2.out.below stb_sb HBq.out).at hjl
          have hzm := HZ.out.sb _ (List.getElem_mem hjl)
          obtain ⟨m, hm⟩ : ∃ m, Hid (s.subs[j] = m) := ⟨_, hide rfl⟩
          rw [hm.out] at p0 p1 hzm
          have r0 : wr.cell? ⟨g2, o2 + j * 2, none⟩ = some (.int .i64 m.user) := p0
          have r1 : wr.cell? ⟨g2, o2 + j * 2 + 1, none⟩ = some (.string ⟨m.name.toArray⟩) := p1
          clear p0 p1
          obtain ⟨mu, mb⟩ := m
          dsimp only at r0 r1 hzm
          have hsm := size_lit mb
          obtain ⟨em, hem⟩ : ∃ em, mb.length / 50 = em := ⟨_, rfl⟩
          have hq2 : ((mb.length : Nat) : Int).tdiv 50 = (em : Int) := by rw [← hem]; exact quo15 mb.length 50
          have hw3 : IntKind.i64.wrap (y + (em : Int)) = y + (em : Int) := wrapB (by omega) (by omega)
          have HB1 := hide (HBq.out.alloc HBq.out.size (.cells #[.int .i64 mu, .string ⟨mb.toArray⟩] 69))
          have HK1 := hide (HKq.out.alloc (.cells #[.int .i64 mu, .string ⟨mb.toArray⟩] 69))
          go_wp2
          go_roundw
          case rel =>
            refine ⟨j + 1, _, by go_num, rfl, by omega, by omega, by omega, HB1.out, HK1.out, fun h i hi hij => ?_⟩
            have h3 := HJ.out (by omega)
            by_cases e : i = j
            · subst e
              rw [hm.out]
              show mb.length ≤ 1000000
              omega
            · exact h3 i hi (by omega)
          case measure => simp [intOf]; omega
        · obtain rfl : j = s.subs.length := by omega
          have HSb : Hid (y ≤ 2000 → ∀ b ∈ s.subs, b.name.length ≤ 1000000) := fun h b hb => by
            obtain ⟨i, hi, rfl⟩ := List.mem_iff_getElem.1 hb
            exact HJ.out h i hi hi
          clear HJ HX2
          have q0 := HKq.out.cell 0
          have q1 := HKq.out.cell 1
          have q2 := HKq.out.cell 2
          simp only [List.getElem?_toArray, List.getElem?_cons_zero, List.getElem?_cons_succ] at q0 q1 q2
          go_wp2
          clear q0 q1 q2
          have hy2 : y ≤ 170000000000000000 := by omega
          obtain ⟨W2, HW2⟩ : ∃ W2, Hid (wr = W2) := ⟨_, hide rfl⟩
          rw [HW2.out] at HBq HKq ⊢
          clear HW2
          go_loopw [3, 79] (fun v3 v79 wq => ∃ (i : Nat) (x : Int), v79 = .int .i64 i ∧ v3 = .int .i64 x ∧ i ≤ s.queue.length ∧ y ≤ x ∧ x ≤ 170000000000000000 ∧ Hid (Below w.heap.size w wq) ∧ Hid (x ≤ 2000 → ∀ a (ha : a < s.queue.length), a < i → s.queue[a].fr.length ≤ 1000000)) (fun _ v79 _ => s.queue.length - (intOf v79).toNat)
          case atStart => exact ⟨0, y, rfl, rfl, Nat.zero_le _, by omega, by omega, HBq.out, fun _ i _ h => by omega⟩
          case round =>
            obtain ⟨i, x, rfl, rfl, hi, hx0, hx1, HBx2, HQ⟩ := hrel
            clear HBq HKq
            by_cases hil : i < s.queue.length
            · have hil' : (i : Int) < s.queue.length := by omega
              obtain ⟨g3, o3, rfl, hg3, p0, p1, ⟨fv, p2, hf⟩, p3, p4, p5, p6⟩ := (HX3.out.below stb_it HBx2.out).at hil
              have hzm := HZ.out.qu _ (List.getElem_mem hil)
              obtain ⟨m, hm⟩ : ∃ m, Hid (s.queue[i] = m) := ⟨_, hide rfl⟩
              rw [hm.out] at p0 p1 hf p3 p4 p5 p6 hzm
              obtain ⟨Af, cf, rfl⟩ := hf.form
              clear hf
              have r0 : wr.cell? ⟨g3, o3 + i * 7, none⟩ = some (.int .i64 m.id) := p0
              have r1 : wr.cell? ⟨g3, o3 + i * 7 + 1, none⟩ = some (.string ⟨m.frm.toArray⟩) := p1
              have r3 : wr.cell? ⟨g3, o3 + i * 7 + 3, none⟩ = some (.int .i64 m.born) := p3
              have r4 : wr.cell? ⟨g3, o3 + i * 7 + 4, none⟩ = some (.int .i64 m.tries) := p4
              have r5 : wr.cell? ⟨g3, o3 + i * 7 + 5, none⟩ = some (.int .i64 m.due) := p5
              have r6 : wr.cell? ⟨g3, o3 + i * 7 + 6, none⟩ = some (.string ⟨m.body.toArray⟩) := p6
              clear p0 p1 p3 p4 p5 p6
              obtain ⟨md, mr, mf, mo, mt, mu, mb⟩ := m
              dsimp only at r0 r1 r3 r4 r5 r6 p2 hzm
              obtain ⟨zf, zr, zb⟩ := hzm
              have hsm := size_lit mb
              have hsr := size_lit mr
              obtain ⟨lf, hlf⟩ : ∃ lf, Hid (mf.length = lf) := ⟨_, hide rfl⟩
              rw [hlf.out] at p2 zf
              obtain ⟨em, hem⟩ : ∃ em, (mb.length + mr.length) / 500 = em := ⟨_, rfl⟩
              obtain ⟨en, hen⟩ : ∃ en, lf / 10 = en := ⟨_, rfl⟩
              have hw0 : IntKind.i64.wrap ((mb.length : Int) + mr.length) = (mb.length : Int) + mr.length := wrapB (by omega) (by omega)
              have hq2 : ((mb.length : Int) + mr.length).tdiv 500 = (em : Int) := by rw [← hem]; exact quo15 (mb.length + mr.length) 500
              have hq3 : ((lf : Nat) : Int).tdiv 10 = (en : Int) := by rw [← hen]; exact quo15 lf 10
              have hw2 : IntKind.i64.wrap ((en : Int) + em) = (en : Int) + em := wrapB (by omega) (by omega)
              have hw3 : IntKind.i64.wrap (x + ((en : Int) + em)) = x + ((en : Int) + em) := wrapB (by omega) (by omega)
              have HB1 := hide (HBx2.out.alloc HBx2.out.size (.cells #[.int .i64 md, .string ⟨mr.toArray⟩, .slice Af lf cf, .int .i64 mo, .int .i64 mt, .int .i64 mu, .string ⟨mb.toArray⟩] 62))
              by_cases hbig : 2000 < x + ((en : Int) + em)
              · go_wp2
                exact bodyPost_ret (v := .bool true) (by simp [results, Tryz.results8, go_sem]) rfl (bigYes HB1.out)
              · go_wp2
                go_roundw
                case rel =>
                  refine ⟨i + 1, _, by go_num, rfl, by omega, by omega, by omega, HB1.out, fun h a ha hai => ?_⟩
                  have h3 := HQ.out (by omega)
                  by_cases e : a = i
                  · subst e
                    rw [hm.out]
                    show mf.length ≤ 1000000
                    rw [hlf.out]
                    omega
                  · exact h3 a ha (by omega)
                case measure => simp [intOf]; omega
            · obtain rfl : i = s.queue.length := by omega
              have HF : Hid (BgOut15 s w (.returned (.bool (decide (2000 < x)))) wr) := by
                refine ⟨_, rfl, fun h => ?_, HBx2.out⟩
                have hx : x ≤ 2000 := by
                  have := of_decide_eq_false h
                  omega
                exact ⟨by omega, HBx.out (by omega), by omega, HSb.out (by omega), by omega, fun q hq => by
                  obtain ⟨a, ha, rfl⟩ := List.mem_iff_getElem.1 hq
                  exact HQ.out hx a ha ha⟩
              clear HQ HBx HSb HX3 HZ HBx2
              cases hd : decide (2000 < x) with
              | true =>
                rw [hd] at HF
                have hd' : 2000 < x := of_decide_eq_true hd
                go_wp2
                exact bodyPost_ret (v := .bool true) (by simp [results, Tryz.results8, go_sem, hd']) rfl HF.out
              | false =>
                rw [hd] at HF
                have hd' : ¬ 2000 < x := of_decide_eq_false hd
                go_wp2
                exact bodyPost_ret (v := .bool false) (by simp [results, Tryz.results8, go_sem, hd']) rfl HF.out
end Go.Proofs.YtbfdbbpkpjgamaaGreatDoor

end
