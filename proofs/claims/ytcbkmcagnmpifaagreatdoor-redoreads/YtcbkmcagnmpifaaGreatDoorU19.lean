/- Which names are right, by package redo's own word. -/
/- Operations of a change in memory; which of them are in form, by the program. -/
import Derived.Test.YtcbkmcagnmpifaaGreatDoorU05
import Derived.Test.YtcbkmcagnmpifaaGreatDoorU07
import Derived.Test.YtcbkmcagnmpifaaGreatDoorU02
import Derived.Shelf.GgClosure.Gives
section
namespace Go.Proofs.YtcbkmcagnmpifaaGreatDoor
open Go.RowKit
set_option maxRecDepth 20000 in
set_option maxHeartbeats 4000000 in
theorem oright_any (l : List UInt8) (w : World) (hs : l.length ≤ 1000000000) : Calls Tryz.prog 85 #[.string ⟨l.toArray⟩] w fun e w' => e = .returned (.bool (rightB l)) ∧ w' = w := by
  go_enter Tryz.func85, Tryz.ntmps85
  go_wp2
  go_loop [7] (fun k => ∃ i : Nat, k = .int .i64 i ∧ i ≤ l.length ∧ Hid ((l.drop i).all okC = l.all okC)) (fun k => l.length - (intOf k).toNat)
  case atStart => exact ⟨0, rfl, Nat.zero_le _, rfl⟩
  case round =>
    obtain ⟨i, rfl, hi, HK⟩ := hrel
    by_cases hlt : i < l.length
    · have hlt' : (i : Int) < l.length := by omega
      obtain ⟨c, hc, hcs⟩ := at_str l i hlt
      have hst := all_drop l i hlt
      rw [hc] at hst
      clear hc
      rcases okC_cases c with ⟨ho, hcase⟩ | ⟨ho, hcase⟩
      · have HS := hide (show (l.drop (i + 1)).all okC = l.all okC by rw [← HK.out, hst, ho]; simp)
        clear hst ho HK
        rcases hcase with hx | hx | hx | hx
        · have a0 : decide (97 ≤ (c.toNat : Int)) = true := by simp; omega
          have b0 : 97 ≤ (c.toNat : Int) := by omega
          have a1 : decide ((c.toNat : Int) ≤ 122) = true := by simp; omega
          have b1 : (c.toNat : Int) ≤ 122 := by omega
          clear hx
          go_wp2
          go_round
          case rel => exact ⟨i + 1, by go_num, by omega, HS⟩
          case measure => simp [intOf]; omega
        · have a0 : decide (97 ≤ (c.toNat : Int)) = false := by simp; omega
          have b0 : ¬ 97 ≤ (c.toNat : Int) := by omega
          have a2 : decide (48 ≤ (c.toNat : Int)) = true := by simp; omega
          have b2 : 48 ≤ (c.toNat : Int) := by omega
          have a3 : decide ((c.toNat : Int) ≤ 57) = true := by simp; omega
          have b3 : (c.toNat : Int) ≤ 57 := by omega
          clear hx
          go_wp2
          go_round
          case rel => exact ⟨i + 1, by go_num, by omega, HS⟩
          case measure => simp [intOf]; omega
        · have a0 : decide (97 ≤ (c.toNat : Int)) = false := by simp; omega
          have b0 : ¬ 97 ≤ (c.toNat : Int) := by omega
          have a2 : decide (48 ≤ (c.toNat : Int)) = false := by simp; omega
          have b2 : ¬ 48 ≤ (c.toNat : Int) := by omega
          have a4 : ((c.toNat : Int) == 45) = true := by simp; omega
          have b4 : (c.toNat : Int) = 45 := by omega
          clear hx
          go_wp2
          go_round
          case rel => exact ⟨i + 1, by go_num, by omega, HS⟩
          case measure => simp [intOf]; omega
        · have a0 : decide (97 ≤ (c.toNat : Int)) = false := by simp; omega
          have b0 : ¬ 97 ≤ (c.toNat : Int) := by omega
          have a2 : decide (48 ≤ (c.toNat : Int)) = false := by simp; omega
          have b2 : ¬ 48 ≤ (c.toNat : Int) := by omega
          have a4 : ((c.toNat : Int) == 45) = false := by simp; omega
          have b4 : ¬ (c.toNat : Int) = 45 := by omega
          have a5 : ((c.toNat : Int) == 46) = true := by simp; omega
          have b5 : (c.toNat : Int) = 46 := by omega
          clear hx
          go_wp2
          go_round
          case rel => exact ⟨i + 1, by go_num, by omega, HS⟩
          case measure => simp [intOf]; omega
      · have HN := hide (show rightB l = false by unfold rightB; rw [← HK.out, hst, ho]; simp)
        clear hst ho HK
        rcases hcase with hx | hx | hx
        · have a0 : decide (97 ≤ (c.toNat : Int)) = false := by simp; omega
          have b0 : ¬ 97 ≤ (c.toNat : Int) := by omega
          have a2 : decide (48 ≤ (c.toNat : Int)) = false := by simp; omega
          have b2 : ¬ 48 ≤ (c.toNat : Int) := by omega
          have a4 : ((c.toNat : Int) == 45) = false := by simp; omega
          have b4 : ¬ (c.toNat : Int) = 45 := by omega
          have a5 : ((c.toNat : Int) == 46) = false := by simp; omega
          have b5 : ¬ (c.toNat : Int) = 46 := by omega
          clear hx
          go_wp2
          go_ret
          exact ⟨by rw [HN.out]; rfl, rfl⟩
        · have a0 : decide (97 ≤ (c.toNat : Int)) = false := by simp; omega
          have b0 : ¬ 97 ≤ (c.toNat : Int) := by omega
          have a2 : decide (48 ≤ (c.toNat : Int)) = true := by simp; omega
          have b2 : 48 ≤ (c.toNat : Int) := by omega
          have a3 : decide ((c.toNat : Int) ≤ 57) = false := by simp; omega
          have b3 : ¬ (c.toNat : Int) ≤ 57 := by omega
          have a4 : ((c.toNat : Int) == 45) = false := by simp; omega
          have b4 : ¬ (c.toNat : Int) = 45 := by omega
          have a5 : ((c.toNat : Int) == 46) = false := by simp; omega
          have b5 : ¬ (c.toNat : Int) = 46 := by omega
          clear hx
          go_wp2
          go_ret
          exact ⟨by rw [HN.out]; rfl, rfl⟩
        · have a0 : decide (97 ≤ (c.toNat : Int)) = true := by simp; omega
          have b0 : 97 ≤ (c.toNat : Int) := by omega
          have a1 : decide ((c.toNat : Int) ≤ 122) = false := by simp; omega
          have b1 : ¬ (c.toNat : Int) ≤ 122 := by omega
          have a2 : decide (48 ≤ (c.toNat : Int)) = true := by simp; omega
          have b2 : 48 ≤ (c.toNat : Int) := by omega
          have a3 : decide ((c.toNat : Int) ≤ 57) = false := by simp; omega
          have b3 : ¬ (c.toNat : Int) ≤ 57 := by omega
          have a4 : ((c.toNat : Int) == 45) = false := by simp; omega
          have b4 : ¬ (c.toNat : Int) = 45 := by omega
          have a5 : ((c.toNat : Int) == 46) = false := by simp; omega
          have b5 : ¬ (c.toNat : Int) = 46 := by omega
          clear hx
          go_wp2
          go_ret
          exact ⟨by rw [HN.out]; rfl, rfl⟩
    · obtain rfl : i = l.length := by omega
      have hall := HK.out
      rw [List.drop_length, List.all_nil] at hall
      have HB : Hid (rightB l = (decide (1 ≤ l.length) && decide (l.length ≤ 24))) := by
        show rightB l = _
        unfold rightB
        rw [← hall]
        rfl
      clear hall HK
      by_cases h1 : 1 ≤ l.length
      · have g1 : decide (1 ≤ (l.length : Int)) = true := decide_eq_true (by omega)
        have g2 : 1 ≤ (l.length : Int) := by omega
        by_cases h2 : l.length ≤ 24
        · have g3 : decide ((l.length : Int) ≤ 24) = true := by simp; omega
          have g4 : (l.length : Int) ≤ 24 := by omega
          go_wp2
          go_ret
          exact ⟨by rw [HB.out, decide_eq_true h1, decide_eq_true h2]; rfl, rfl⟩
        · have g3 : decide ((l.length : Int) ≤ 24) = false := by simp; omega
          have g4 : ¬ (l.length : Int) ≤ 24 := by omega
          go_wp2
          go_ret
          exact ⟨by rw [HB.out, decide_eq_true h1, decide_eq_false h2]; rfl, rfl⟩
      · have g1 : decide (1 ≤ (l.length : Int)) = false := decide_eq_false (by omega)
        have g2 : ¬ 1 ≤ (l.length : Int) := by omega
        go_wp2
        go_ret
        exact ⟨by rw [HB.out, decide_eq_false h1]; rfl, rfl⟩

end Go.Proofs.YtcbkmcagnmpifaaGreatDoor

end
section
namespace Go.Proofs.YtcbkmcagnmpifaaGreatDoor
open Go.RowKit
structure OpA where
  kind : Int
  name : List UInt8
  at_ : Int
  val : Value
  bytes : List UInt8
def OpA.cells (o : OpA) : Array Value := #[.int .i64 o.kind, .string ⟨o.name.toArray⟩, .int .i64 o.at_, o.val]
/-- One operation's cells at a place. -/
def OpAt (w : World) (g o : Nat) (x : OpA) : Prop := w.cell? ⟨g, o, none⟩ = some (.int .i64 x.kind) ∧ w.cell? ⟨g, o + 1, none⟩ = some (.string ⟨x.name.toArray⟩) ∧ w.cell? ⟨g, o + 2, none⟩ = some (.int .i64 x.at_) ∧ w.cell? ⟨g, o + 3, none⟩ = some x.val ∧ BR w x.val x.bytes
/-- The slice v reads as the operations ops. -/
def OPs (w : World) (v : Value) (ops : List OpA) : Prop := ∃ A cap, v = .slice A ops.length cap ∧ ops.length ≤ cap ∧ cap ≤ maxLen ∧ (A = none → cap = 0) ∧
  (ops ≠ [] → ∃ g o, A = some ⟨g, o, none⟩ ∧ g < w.heap.size ∧ ∀ i (hi : i < ops.length), OpAt w g (o + i * 4) ops[i])
section
variable {w w' : World} {v : Value} {ops : List OpA}
theorem OpAt.below {g o : Nat} {x : OpA} (h : OpAt w g o x) (hg : g < w.heap.size) (hb : Below w.heap.size w w') : OpAt w' g o x := by
  obtain ⟨h0, h1, h2, h3, h4⟩ := h
  exact ⟨(hb.cell (p := ⟨g, o, none⟩) hg).trans h0, (hb.cell (p := ⟨g, o + 1, none⟩) hg).trans h1, (hb.cell (p := ⟨g, o + 2, none⟩) hg).trans h2, (hb.cell (p := ⟨g, o + 3, none⟩) hg).trans h3, h4.below hb⟩
theorem OPs.below (h : OPs w v ops) (hb : Below w.heap.size w w') : OPs w' v ops := by
  obtain ⟨A, cap, hv, h1, h2, h3, h4⟩ := h
  refine ⟨A, cap, hv, h1, h2, h3, fun hn => ?_⟩
  obtain ⟨g, o, hA, hg, h5⟩ := h4 hn
  exact ⟨g, o, hA, Nat.lt_of_lt_of_le hg hb.size, fun i hi => (h5 i hi).below hg hb⟩
theorem OPs.form (h : OPs w v ops) : ∃ A c, v = .slice A ops.length c ∧ ops.length ≤ c ∧ c ≤ maxLen := by
  obtain ⟨A, cap, hv, h1, h2, h3, h4⟩ := h
  exact ⟨A, cap, hv, h1, h2⟩
theorem OPs.at {A : Option Addr} {c : Nat} (h : OPs w (.slice A ops.length c) ops) {i : Nat} (hi : i < ops.length) : ∃ g o, A = some ⟨g, o, none⟩ ∧ g < w.heap.size ∧ ops.length ≤ c ∧ OpAt w g (o + i * 4) ops[i] := by
  obtain ⟨A', cap, hv, h1, h2, h3, h4⟩ := h
  simp only [Value.slice.injEq] at hv
  obtain ⟨rfl, _, rfl⟩ := hv
  obtain ⟨g, o, hA, hg, h5⟩ := h4 (fun e => by rw [e] at hi; simp at hi)
  exact ⟨g, o, hA, hg, h1, h5 i hi⟩
/-- The first k. -/
theorem OPs.to {A : Option Addr} {c : Nat} (h : OPs w (.slice A ops.length c) ops) (k : Nat) (hk : k ≤ ops.length) : OPs w (.slice A k c) (ops.take k) := by
  obtain ⟨A', cap, hv, h1, h2, h3, h4⟩ := h
  simp only [Value.slice.injEq] at hv
  obtain ⟨rfl, _, rfl⟩ := hv
  refine ⟨A, c, by rw [List.length_take, Nat.min_eq_left hk], by rw [List.length_take]; omega, h2, h3, fun hn => ?_⟩
  obtain ⟨g, o, hA, hg, h5⟩ := h4 (fun e => hn (by rw [e]; simp))
  refine ⟨g, o, hA, hg, fun i hi => ?_⟩
  rw [List.length_take] at hi
  rw [List.getElem_take]
  exact h5 i (by omega)
end
theorem any_drop {α : Type} (p : α → Bool) (l : List α) (i : Nat) (h : i < l.length) : (l.drop i).any p = (p l[i] || (l.drop (i + 1)).any p) := by
  rw [List.drop_eq_getElem_cons h, List.any_cons]
set_option maxRecDepth 8000 in
set_option maxHeartbeats 2000000 in
/-- slices.IndexFunc: at least 0, where there is such an operation. -/
theorem indexFunc_any (ops : List OpA) (v : Value) (w : World) (h : OPs w v ops) (p : OpA → Bool) (F : Nat) (fi ca : Array Value) (eg : ∀ args w, (callFunc F args).run Tryz.prog w = .ok (.enter F args) w)
    (hp : ∀ i (hi : i < ops.length) W, Below w.heap.size w W → Calls Tryz.prog F (fi ++ #[.agg ops[i].cells] ++ ca) W fun e w' => e = .returned (.bool (p ops[i])) ∧ Below W.heap.size W w') :
    Calls Tryz.prog 94 #[v, .func (.func F) fi ca] w fun e w' => ∃ r : Int, e = .returned (.int .i64 r) ∧ decide (0 ≤ r) = ops.any p ∧ Below w.heap.size w w' := by
  have HO := hide h
  obtain ⟨A, c, rfl, hl, hm⟩ := h.form
  have hmx : c ≤ 9223372036854775807 := by simp only [maxLen] at hm; omega
  replace hp := hide hp
  clear h hm
  go_enter Tryz.func94, Tryz.ntmps94
  go_wp2
  go_loopw [5, 8] (fun _ u wr => ∃ k : Nat, k ≤ ops.length ∧ u = .int .i64 k ∧ Hid (Below w.heap.size w wr) ∧ Hid (ops.any p = (ops.drop k).any p)) (fun _ u _ => ops.length - (intOf u).toNat)
  case atStart => exact ⟨0, Nat.zero_le _, rfl, Below.refl _ _, rfl⟩
  case round =>
    obtain ⟨k, hkl, rfl, hB, hA⟩ := hrel
    by_cases hlt : k < ops.length
    · have hltz : (k : Int) < (ops.length : Int) := by omega
      obtain ⟨g, o, rfl, hg, _, q0, q1, q2, q3, _⟩ := (HO.out.below hB.out).at hlt
      have HC := hide (hp.out k hlt wr hB.out)
      have HD := hide (any_drop p ops k hlt)
      unfold OpA.cells at HC
      generalize hx : ops[k] = x at q0 q1 q2 q3 HC HD
      clear hx
      obtain ⟨kd, nm, att, vl, bs⟩ := x
      simp only at q0 q1 q2 q3 HC
      cases hq : p ⟨kd, nm, att, vl, bs⟩ with
      | true =>
        rw [hq] at HC
        go_wp2_with (go_at_fn F; refine HC.out.mono ?_; rintro e w' ⟨rfl, hb'⟩; replace hb' := hide hb')
        go_ret
        refine ⟨_, rfl, ?_, hB.out.trans (hb'.out.mono hB.out.size)⟩
        rw [hA.out, HD.out, hq]
        simp
      | false =>
        rw [hq] at HC
        go_wp2_with (go_at_fn F; refine HC.out.mono ?_; rintro e w' ⟨rfl, hb'⟩; replace hb' := hide hb')
        go_round
        case rel =>
          refine ⟨k + 1, by omega, by go_num, hB.out.trans (hb'.out.mono hB.out.size), ?_⟩
          show _ = _
          rw [hA.out, HD.out, hq]
          rfl
        case measure => simp [intOf]; omega
    · have hltz : ¬ (k : Int) < (ops.length : Int) := by omega
      go_wp2
      go_ret
      refine ⟨_, rfl, ?_, hB.out⟩
      rw [hA.out, List.drop_eq_nil_of_le (by omega)]
      rfl
set_option maxRecDepth 8000 in
set_option maxHeartbeats 2000000 in
theorem containsFunc_any (ops : List OpA) (v : Value) (w : World) (h : OPs w v ops) (p : OpA → Bool) (F : Nat) (fi ca : Array Value) (eg : ∀ args w, (callFunc F args).run Tryz.prog w = .ok (.enter F args) w)
    (hp : ∀ i (hi : i < ops.length) W, Below w.heap.size w W → Calls Tryz.prog F (fi ++ #[.agg ops[i].cells] ++ ca) W fun e w' => e = .returned (.bool (p ops[i])) ∧ Below W.heap.size W w') :
    Calls Tryz.prog 65 #[v, .func (.func F) fi ca] w fun e w' => e = .returned (.bool (ops.any p)) ∧ Below w.heap.size w w' := by
  have HI := hide (indexFunc_any ops v w h p F fi ca eg hp)
  obtain ⟨A, c, rfl, hl, hm⟩ := h.form
  clear h hp hm
  go_enter Tryz.func65, Tryz.ntmps65
  go_wp2_with (go_at_call 94; refine HI.out.mono ?_; rintro e w' ⟨r, rfl, hr, hb⟩; replace hr := hide hr)
  go_ret
  exact ⟨by rw [hr.out]; rfl, hb⟩
end Go.Proofs.YtcbkmcagnmpifaaGreatDoor

end
