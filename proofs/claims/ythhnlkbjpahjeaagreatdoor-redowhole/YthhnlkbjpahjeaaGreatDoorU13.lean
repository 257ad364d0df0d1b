/- Which names are right, by package redo's own word. -/
/- Operations of a change in memory; which of them are in form, by the program. -/
/- Which changes are in form, by the program. -/
import Derived.Test.YthhnlkbjpahjeaaGreatDoorU03
import Derived.Test.YthhnlkbjpahjeaaGreatDoorU05
import Derived.Test.YthhnlkbjpahjeaaGreatDoorU01
import Derived.Shelf.GgClosure.Gives
section
namespace Go.Proofs.YthhnlkbjpahjeaaGreatDoor
open Go.RowKit
set_option maxRecDepth 20000 in
set_option maxHeartbeats 4000000 in
theorem oright_any (l : List UInt8) (w : World) (hs : l.length ≤ 1000000000) : Calls Tryz.prog 130 #[.string ⟨l.toArray⟩] w fun e w' => e = .returned (.bool (rightB l)) ∧ w' = w := by
  go_enter Tryz.func130, Tryz.ntmps130
  go_wp2
  go_loop [7] (fun k => ∃ i : Nat, k = .int .i64 i ∧ i ≤ l.length ∧ Hid ((l.drop i).all okC = l.all okC)) (fun k => l.length - (intOf k).toNat)
  case atStart => exact ⟨0, rfl, Nat.zero_le _, rfl⟩
  case round =>
    obtain ⟨i, rfl, hi, HK⟩ := hrel
    by_cases hlt : i < l.length
    · have hlt' : (i : Int) < l.length := by omega
      obtain ⟨c, hc, hcs⟩ := at_str l i hlt
      have hst := all_drop l i hlt
      rw [hc] at hst
      clear hc
      rcases okC_cases c with ⟨ho, hcase⟩ | ⟨ho, hcase⟩
      · have HS := hide (show (l.drop (i + 1)).all okC = l.all okC by rw [← HK.out, hst, ho]; simp)
        clear hst ho HK
        rcases hcase with hx | hx | hx | hx
        · have a0 : decide (97 ≤ (c.toNat : Int)) = true := by simp; omega
          have b0 : 97 ≤ (c.toNat : Int) := by omega
          have a1 : decide ((c.toNat : Int) ≤ 122) = true := by simp; omega
          have b1 : (c.toNat : Int) ≤ 122 := by omega
          clear hx
          go_wp2
          go_round
          case rel => exact ⟨i + 1, by go_num, by omega, HS⟩
          case measure => simp [intOf]; omega
        · have a0 : decide (97 ≤ (c.toNat : Int)) = false := by simp; omega
          have b0 : ¬ 97 ≤ (c.toNat : Int) := by omega
          have a2 : decide (48 ≤ (c.toNat : Int)) = true := by simp; omega
          have b2 : 48 ≤ (c.toNat : Int) := by omega
          have a3 : decide ((c.toNat : Int) ≤ 57) = true := by simp; omega
          have b3 : (c.toNat : Int) ≤ 57 := by omega
          clear hx
          go_wp2
          go_round
          case rel => exact ⟨i + 1, by go_num, by omega, HS⟩
          case measure => simp [intOf]; omega
        · have a0 : decide (97 ≤ (c.toNat : Int)) = false := by simp; omega
          have b0 : ¬ 97 ≤ (c.toNat : Int) := by omega
          have a2 : decide (48 ≤ (c.toNat : Int)) = false := by simp; omega
          have b2 : ¬ 48 ≤ (c.toNat : Int) := by omega
          have a4 : ((c.toNat : Int) == 45) = true := by simp; omega
          have b4 : (c.toNat : Int) = 45 := by omega
          clear hx
          go_wp2
          go_round
          case rel => exact ⟨i + 1, by go_num, by omega, HS⟩
          case measure => simp [intOf]; omega
        · have a0 : decide (97 ≤ (c.toNat : Int)) = false := by simp; omega
          have b0 : ¬ 97 ≤ (c.toNat : Int) := by omega
          have a2 : decide (48 ≤ (c.toNat : Int)) = false := by simp; omega
          have b2 : ¬ 48 ≤ (c.toNat : Int) := by omega
          have a4 : ((c.toNat : Int) == 45) = false := by simp; omega
          have b4 : ¬ (c.toNat : Int) = 45 := by omega
          have a5 : ((c.toNat : Int) == 46) = true := by simp; omega
          have b5 : (c.toNat : Int) = 46 := by omega
          clear hx
          go_wp2
          go_round
          case rel => exact ⟨i + 1, by go_num, by omega, HS⟩
          case measure => simp [intOf]; omega
      · have HN := hide (show rightB l = false by unfold rightB; rw [← HK.out, hst, ho]; simp)
        clear hst ho HK
        rcases hcase with hx | hx | hx
        · have a0 : decide (97 ≤ (c.toNat : Int)) = false := by simp; omega
          have b0 : ¬ 97 ≤ (c.toNat : Int) := by omega
          have a2 : decide (48 ≤ (c.toNat : Int)) = false := by simp; omega
          have b2 : ¬ 48 ≤ (c.toNat : Int) := by omega
          have a4 : ((c.toNat : Int) == 45) = false := by simp; omega
          have b4 : ¬ (c.toNat : Int) = 45 := by omega
          have a5 : ((c.toNat : Int) == 46) = false := by simp; omega
          have b5 : ¬ (c.toNat : Int) = 46 := by omega
          clear hx
          go_wp2
          go_ret
          exact ⟨by rw [HN.out]; rfl, rfl⟩
        · have a0 : decide (97 ≤ (c.toNat : Int)) = false := by simp; omega
          have b0 : ¬ 97 ≤ (c.toNat : Int) := by omega
          have a2 : decide (48 ≤ (c.toNat : Int)) = true := by simp; omega
          have b2 : 48 ≤ (c.toNat : Int) := by omega
          have a3 : decide ((c.toNat : Int) ≤ 57) = false := by simp; omega
          have b3 : ¬ (c.toNat : Int) ≤ 57 := by omega
          have a4 : ((c.toNat : Int) == 45) = false := by simp; omega
          have b4 : ¬ (c.toNat : Int) = 45 := by omega
          have a5 : ((c.toNat : Int) == 46) = false := by simp; omega
          have b5 : ¬ (c.toNat : Int) = 46 := by omega
          clear hx
          go_wp2
          go_ret
          exact ⟨by rw [HN.out]; rfl, rfl⟩
        · have a0 : decide (97 ≤ (c.toNat : Int)) = true := by simp; omega
          have b0 : 97 ≤ (c.toNat : Int) := by omega
          have a1 : decide ((c.toNat : Int) ≤ 122) = false := by simp; omega
          have b1 : ¬ (c.toNat : Int) ≤ 122 := by omega
          have a2 : decide (48 ≤ (c.toNat : Int)) = true := by simp; omega
          have b2 : 48 ≤ (c.toNat : Int) := by omega
          have a3 : decide ((c.toNat : Int) ≤ 57) = false := by simp; omega
          have b3 : ¬ (c.toNat : Int) ≤ 57 := by omega
          have a4 : ((c.toNat : Int) == 45) = false := by simp; omega
          have b4 : ¬ (c.toNat : Int) = 45 := by omega
          have a5 : ((c.toNat : Int) == 46) = false := by simp; omega
          have b5 : ¬ (c.toNat : Int) = 46 := by omega
          clear hx
          go_wp2
          go_ret
          exact ⟨by rw [HN.out]; rfl, rfl⟩
    · obtain rfl : i = l.length := by omega
      have hall := HK.out
      rw [List.drop_length, List.all_nil] at hall
      have HB : Hid (rightB l = (decide (1 ≤ l.length) && decide (l.length ≤ 24))) := by
        show rightB l = _
        unfold rightB
        rw [← hall]
        rfl
      clear hall HK
      by_cases h1 : 1 ≤ l.length
      · have g1 : decide (1 ≤ (l.length : Int)) = true := decide_eq_true (by omega)
        have g2 : 1 ≤ (l.length : Int) := by omega
        by_cases h2 : l.length ≤ 24
        · have g3 : decide ((l.length : Int) ≤ 24) = true := by simp; omega
          have g4 : (l.length : Int) ≤ 24 := by omega
          go_wp2
          go_ret
          exact ⟨by rw [HB.out, decide_eq_true h1, decide_eq_true h2]; rfl, rfl⟩
        · have g3 : decide ((l.length : Int) ≤ 24) = false := by simp; omega
          have g4 : ¬ (l.length : Int) ≤ 24 := by omega
          go_wp2
          go_ret
          exact ⟨by rw [HB.out, decide_eq_true h1, decide_eq_false h2]; rfl, rfl⟩
      · have g1 : decide (1 ≤ (l.length : Int)) = false := decide_eq_false (by omega)
        have g2 : ¬ 1 ≤ (l.length : Int) := by omega
        go_wp2
        go_ret
        exact ⟨by rw [HB.out, decide_eq_false h1]; rfl, rfl⟩

end Go.Proofs.YthhnlkbjpahjeaaGreatDoor

end
section
namespace Go.Proofs.YthhnlkbjpahjeaaGreatDoor
open Go.RowKit
structure OpA where
  kind : Int
  name : List UInt8
  at_ : Int
  val : Value
  bytes : List UInt8
def OpA.cells (o : OpA) : Array Value := #[.int .i64 o.kind, .string ⟨o.name.toArray⟩, .int .i64 o.at_, o.val]
/-- One operation's cells at a place. -/
def OpAt (w : World) (g o : Nat) (x : OpA) : Prop := w.cell? ⟨g, o, none⟩ = some (.int .i64 x.kind) ∧ w.cell? ⟨g, o + 1, none⟩ = some (.string ⟨x.name.toArray⟩) ∧ w.cell? ⟨g, o + 2, none⟩ = some (.int .i64 x.at_) ∧ w.cell? ⟨g, o + 3, none⟩ = some x.val ∧ BR w x.val x.bytes
/-- The slice v reads as the operations ops. -/
def OPs (w : World) (v : Value) (ops : List OpA) : Prop := ∃ A cap, v = .slice A ops.length cap ∧ ops.length ≤ cap ∧ cap ≤ maxLen ∧ (A = none → cap = 0) ∧
  (ops ≠ [] → ∃ g o, A = some ⟨g, o, none⟩ ∧ g < w.heap.size ∧ ∀ i (hi : i < ops.length), OpAt w g (o + i * 4) ops[i])
section
variable {w w' : World} {v : Value} {ops : List OpA}
theorem OpAt.below {g o : Nat} {x : OpA} (h : OpAt w g o x) (hg : g < w.heap.size) (hb : Below w.heap.size w w') : OpAt w' g o x := by
  obtain ⟨h0, h1, h2, h3, h4⟩ := h
  exact ⟨(hb.cell (p := ⟨g, o, none⟩) hg).trans h0, (hb.cell (p := ⟨g, o + 1, none⟩) hg).trans h1, (hb.cell (p := ⟨g, o + 2, none⟩) hg).trans h2, (hb.cell (p := ⟨g, o + 3, none⟩) hg).trans h3, h4.below hb⟩
theorem OPs.below (h : OPs w v ops) (hb : Below w.heap.size w w') : OPs w' v ops := by
  obtain ⟨A, cap, hv, h1, h2, h3, h4⟩ := h
  refine ⟨A, cap, hv, h1, h2, h3, fun hn => ?_⟩
  obtain ⟨g, o, hA, hg, h5⟩ := h4 hn
  exact ⟨g, o, hA, Nat.lt_of_lt_of_le hg hb.size, fun i hi => (h5 i hi).below hg hb⟩
theorem OPs.form (h : OPs w v ops) : ∃ A c, v = .slice A ops.length c ∧ ops.length ≤ c ∧ c ≤ maxLen := by
  obtain ⟨A, cap, hv, h1, h2, h3, h4⟩ := h
  exact ⟨A, cap, hv, h1, h2⟩
theorem OPs.at {A : Option Addr} {c : Nat} (h : OPs w (.slice A ops.length c) ops) {i : Nat} (hi : i < ops.length) : ∃ g o, A = some ⟨g, o, none⟩ ∧ g < w.heap.size ∧ ops.length ≤ c ∧ OpAt w g (o + i * 4) ops[i] := by
  obtain ⟨A', cap, hv, h1, h2, h3, h4⟩ := h
  simp only [Value.slice.injEq] at hv
  obtain ⟨rfl, _, rfl⟩ := hv
  obtain ⟨g, o, hA, hg, h5⟩ := h4 (fun e => by rw [e] at hi; simp at hi)
  exact ⟨g, o, hA, hg, h1, h5 i hi⟩
/-- The first k. -/
theorem OPs.to {A : Option Addr} {c : Nat} (h : OPs w (.slice A ops.length c) ops) (k : Nat) (hk : k ≤ ops.length) : OPs w (.slice A k c) (ops.take k) := by
  obtain ⟨A', cap, hv, h1, h2, h3, h4⟩ := h
  simp only [Value.slice.injEq] at hv
  obtain ⟨rfl, _, rfl⟩ := hv
  refine ⟨A, c, by rw [List.length_take, Nat.min_eq_left hk], by rw [List.length_take]; omega, h2, h3, fun hn => ?_⟩
  obtain ⟨g, o, hA, hg, h5⟩ := h4 (fun e => hn (by rw [e]; simp))
  refine ⟨g, o, hA, hg, fun i hi => ?_⟩
  rw [List.length_take] at hi
  rw [List.getElem_take]
  exact h5 i (by omega)
end
theorem any_drop {α : Type} (p : α → Bool) (l : List α) (i : Nat) (h : i < l.length) : (l.drop i).any p = (p l[i] || (l.drop (i + 1)).any p) := by
  rw [List.drop_eq_getElem_cons h, List.any_cons]
set_option maxRecDepth 8000 in
set_option maxHeartbeats 2000000 in
/-- slices.IndexFunc: at least 0, where there is such an operation. -/
theorem indexFunc_any (ops : List OpA) (v : Value) (w : World) (h : OPs w v ops) (p : OpA → Bool) (F : Nat) (fi ca : Array Value) (eg : ∀ args w, (callFunc F args).run Tryz.prog w = .ok (.enter F args) w)
    (hp : ∀ i (hi : i < ops.length) W, Below w.heap.size w W → Calls Tryz.prog F (fi ++ #[.agg ops[i].cells] ++ ca) W fun e w' => e = .returned (.bool (p ops[i])) ∧ Below W.heap.size W w') :
    Calls Tryz.prog 76 #[v, .func (.func F) fi ca] w fun e w' => ∃ r : Int, e = .returned (.int .i64 r) ∧ decide (0 ≤ r) = ops.any p ∧ Below w.heap.size w w' := by
  have HO := hide h
  obtain ⟨A, c, rfl, hl, hm⟩ := h.form
  have hmx : c ≤ 9223372036854775807 := by simp only [maxLen] at hm; omega
  replace hp := hide hp
  clear h hm
  go_enter Tryz.func76, Tryz.ntmps76
  go_wp2
  go_loopw [5, 8] (fun _ u wr => ∃ k : Nat, k ≤ ops.length ∧ u = .int .i64 k ∧ Hid (Below w.heap.size w wr) ∧ Hid (ops.any p = (ops.drop k).any p)) (fun _ u _ => ops.length - (intOf u).toNat)
  case atStart => exact ⟨0, Nat.zero_le _, rfl, Below.refl _ _, rfl⟩
  case round =>
    obtain ⟨k, hkl, rfl, hB, hA⟩ := hrel
    by_cases hlt : k < ops.length
    · have hltz : (k : Int) < (ops.length : Int) := by omega
      obtain ⟨g, o, rfl, hg, _, q0, q1, q2, q3, _⟩ := (HO.out.below hB.out).at hlt
      have HC := hide (hp.out k hlt wr hB.out)
      have HD := hide (any_drop p ops k hlt)
      unfold OpA.cells at HC
      generalize hx : ops[k] = x at q0 q1 q2 q3 HC HD
      clear hx
      obtain ⟨kd, nm, att, vl, bs⟩ := x
      simp only at q0 q1 q2 q3 HC
      cases hq : p ⟨kd, nm, att, vl, bs⟩ with
      | true =>
        rw [hq] at HC
        go_wp2_with (go_at_fn F; refine HC.out.mono ?_; rintro e w' ⟨rfl, hb'⟩; replace hb' := hide hb')
        go_ret
        refine ⟨_, rfl, ?_, hB.out.trans (hb'.out.mono hB.out.size)⟩
        rw [hA.out, HD.out, hq]
        simp
      | false =>
        rw [hq] at HC
        go_wp2_with (go_at_fn F; refine HC.out.mono ?_; rintro e w' ⟨rfl, hb'⟩; replace hb' := hide hb')
        go_round
        case rel =>
          refine ⟨k + 1, by omega, by go_num, hB.out.trans (hb'.out.mono hB.out.size), ?_⟩
          show _ = _
          rw [hA.out, HD.out, hq]
          rfl
        case measure => simp [intOf]; omega
    · have hltz : ¬ (k : Int) < (ops.length : Int) := by omega
      go_wp2
      go_ret
      refine ⟨_, rfl, ?_, hB.out⟩
      rw [hA.out, List.drop_eq_nil_of_le (by omega)]
      rfl
set_option maxRecDepth 8000 in
set_option maxHeartbeats 2000000 in
theorem containsFunc_any (ops : List OpA) (v : Value) (w : World) (h : OPs w v ops) (p : OpA → Bool) (F : Nat) (fi ca : Array Value) (eg : ∀ args w, (callFunc F args).run Tryz.prog w = .ok (.enter F args) w)
    (hp : ∀ i (hi : i < ops.length) W, Below w.heap.size w W → Calls Tryz.prog F (fi ++ #[.agg ops[i].cells] ++ ca) W fun e w' => e = .returned (.bool (p ops[i])) ∧ Below W.heap.size W w') :
    Calls Tryz.prog 43 #[v, .func (.func F) fi ca] w fun e w' => e = .returned (.bool (ops.any p)) ∧ Below w.heap.size w w' := by
  have HI := hide (indexFunc_any ops v w h p F fi ca eg hp)
  obtain ⟨A, c, rfl, hl, hm⟩ := h.form
  clear h hp hm
  go_enter Tryz.func43, Tryz.ntmps43
  go_wp2_with (go_at_call 76; refine HI.out.mono ?_; rintro e w' ⟨r, rfl, hr, hb⟩; replace hr := hide hr)
  go_ret
  exact ⟨by rw [hr.out]; rfl, hb⟩
end Go.Proofs.YthhnlkbjpahjeaaGreatDoor

end
section
namespace Go.Proofs.YthhnlkbjpahjeaaGreatDoor
open Go.RowKit
def redoN : List UInt8 := [114, 101, 100, 111]
def kindOk (x : OpA) : Bool := if x.kind = 1 then decide (0 ≤ x.at_) && decide (x.at_ ≤ 1073741824) else if x.kind = 2 then x.at_ == 0 else if x.kind = 3 then x.at_ == 0 && (x.bytes.length : Int) == 0 else false
def opForm (x : OpA) : Bool := rightB x.name && (!(x.name == redoN) && kindOk x)
def goodFrom : List OpA → List OpA → Bool
  | _, [] => true
  | pre, x :: r => (opForm x && !(pre.any fun y => y.name == x.name)) && goodFrom (pre ++ [x]) r
def opSize (x : OpA) : Nat := 10 + x.name.length + x.bytes.length
def sizeOps : List OpA → Nat
  | [] => 1
  | x :: r => opSize x + sizeOps r
def formB (ops : List OpA) : Bool := decide (1 ≤ ops.length) && (decide (ops.length ≤ 16) && (goodFrom [] ops && decide (sizeOps ops ≤ 400000)))
theorem sizeOps_pos (ops : List OpA) : 1 ≤ sizeOps ops := by
  cases ops with
  | nil => exact Nat.le_refl _
  | cons x r =>
    have : 1 ≤ sizeOps r := sizeOps_pos r
    show 1 ≤ opSize x + sizeOps r
    omega
theorem sizeOps_split (ops : List OpA) (k : Nat) (h : k < ops.length) : sizeOps (ops.drop k) = opSize ops[k] + sizeOps (ops.drop (k + 1)) := by
  rw [List.drop_eq_getElem_cons h]
  rfl
theorem sizeOps_le (ops : List OpA) (k : Nat) : sizeOps (ops.drop k) ≤ sizeOps ops := by
  induction k generalizing ops with
  | zero => simp
  | succ k ih =>
    cases ops with
    | nil => simp
    | cons x r =>
      have := ih r
      show sizeOps (r.drop k) ≤ opSize x + sizeOps r
      omega
theorem sizeOps_at (ops : List OpA) (k : Nat) (h : k < ops.length) : opSize ops[k] < sizeOps ops := by
  have h1 := sizeOps_split ops k h
  have h2 := sizeOps_le ops k
  have h3 := sizeOps_pos (ops.drop (k + 1))
  omega
theorem goodFrom_at (ops : List OpA) (k : Nat) (h : k < ops.length) : goodFrom (ops.take k) (ops.drop k) = ((opForm ops[k] && !((ops.take k).any fun y => y.name == ops[k].name)) && goodFrom (ops.take (k + 1)) (ops.drop (k + 1))) := by
  rw [List.drop_eq_getElem_cons h, List.take_succ_eq_append_getElem h]
  rfl
set_option maxRecDepth 8000 in
set_option maxHeartbeats 2000000 in
theorem hasClo (x : OpA) (name : List UInt8) (k : Nat) (w : World) (hk : Blk w k #[.string ⟨name.toArray⟩] 9) :
    Calls Tryz.prog 131 #[.agg x.cells, pv k] w fun e w' => e = .returned (.bool (x.name == name)) ∧ Below w.heap.size w w' := by
  have hc := hk.cell
  have hlt := hk.lt
  clear hk
  unfold OpA.cells pv
  go_enter Tryz.func131, Tryz.ntmps131
  go_wp2
  go_ret
  exact ⟨rfl, (Below.refl _ _).alloc (Nat.le_refl _) _⟩
set_option maxRecDepth 8000 in
set_option maxHeartbeats 2000000 in
theorem hasName_any (ops : List OpA) (v : Value) (w : World) (h : OPs w v ops) (name : List UInt8) :
    Calls Tryz.prog 105 #[v, .string ⟨name.toArray⟩] w fun e w' => e = .returned (.bool (ops.any fun y => y.name == name)) ∧ Below w.heap.size w w' := by
  obtain ⟨W, hW⟩ : ∃ W, W = w.alloc (.cells #[.string ⟨name.toArray⟩] 9) := ⟨_, rfl⟩
  have hb : Below w.heap.size w W := by rw [hW]; exact (Below.refl _ _).alloc (Nat.le_refl _) _
  have hk : Blk W w.heap.size #[.string ⟨name.toArray⟩] 9 := by rw [hW]; exact Blk.new _ _ _
  have HC := hide (containsFunc_any ops v W (h.below hb) (fun y => y.name == name) 131 #[] #[pv w.heap.size] (by intros; kernel_rfl) (fun i hi W' hb' => hasClo _ name w.heap.size W' (hk.below hb' hk.lt)))
  have HB := hide hb
  obtain ⟨A, c, rfl, hl, hm⟩ := h.form
  clear h hm hb hk
  unfold pv at HC
  go_enter Tryz.func105, Tryz.ntmps105
  go_wp2_with (first | (rw [← hW]; go_at_call 43; refine HC.out.mono ?_; rintro e w' ⟨rfl, hb'⟩; replace hb' := hide hb'))
  go_ret
  exact ⟨rfl, HB.out.trans (hb'.out.mono HB.out.size)⟩
set_option maxRecDepth 8000 in
set_option maxHeartbeats 4000000 in
theorem isOpInForm_any (x : OpA) (w : World) (A : Option Addr) (c : Nat) (hv : x.val = .slice A x.bytes.length c) (hn : x.name.length ≤ 1000000) :
    Calls Tryz.prog 104 #[.agg x.cells] w fun e w' => e = .returned (.bool (opForm x)) ∧ Below w.heap.size w w' := by
  have hb : Below w.heap.size w (w.alloc (.cells x.cells 48)) := (Below.refl _ _).alloc (Nat.le_refl _) _
  have HR := hide (oright_any x.name (w.alloc (.cells x.cells 48)) (by omega))
  obtain ⟨kd, nm, att, vl, bs⟩ := x
  simp only at hv hn
  subst hv
  unfold OpA.cells at hb HR ⊢
  simp only at hb HR ⊢
  have HB := hide hb
  clear hb
  obtain ⟨R, hR⟩ : ∃ R, Hid (R = opForm ⟨kd, nm, att, .slice A bs.length c, bs⟩) := ⟨_, rfl⟩
  rw [← hR.out]
  go_enter Tryz.func104, Tryz.ntmps104
  cases hr : rightB nm with
  | false =>
    rw [hr] at HR
    go_wp2_with (go_at_call 130; refine HR.out.mono ?_; rintro e w' ⟨rfl, rfl⟩)
    go_ret
    exact ⟨by rw [hR.out, opForm, hr]; rfl, HB.out⟩
  | true =>
    rw [hr] at HR
    cases hq : (nm == [114, 101, 100, 111]) with
    | true =>
      go_wp2_with (go_at_call 130; refine HR.out.mono ?_; rintro e w' ⟨rfl, rfl⟩)
      go_ret
      exact ⟨by rw [hR.out, opForm, hr, redoN]; simp only [hq]; rfl, HB.out⟩
    | false =>
      by_cases h1 : kd = 1
      · subst h1
        cases g2 : decide (0 ≤ att) with
        | true =>
          go_wp2_with (go_at_call 130; refine HR.out.mono ?_; rintro e w' ⟨rfl, rfl⟩)
          go_ret
          exact ⟨by rw [hR.out, opForm, hr, redoN]; simp only [hq, kindOk, g2]; rfl, HB.out⟩
        | false =>
          go_wp2_with (go_at_call 130; refine HR.out.mono ?_; rintro e w' ⟨rfl, rfl⟩)
          go_ret
          exact ⟨by rw [hR.out, opForm, hr, redoN]; simp only [hq, kindOk, g2]; rfl, HB.out⟩
      · by_cases h2 : kd = 2
        · subst h2
          go_wp2_with (go_at_call 130; refine HR.out.mono ?_; rintro e w' ⟨rfl, rfl⟩)
          go_ret
          exact ⟨by rw [hR.out, opForm, hr, redoN]; simp only [hq, kindOk]; rfl, HB.out⟩
        · by_cases h3 : kd = 3
          · subst h3
            cases h4 : (att == 0) with
            | true =>
              go_wp2_with (go_at_call 130; refine HR.out.mono ?_; rintro e w' ⟨rfl, rfl⟩)
              go_ret
              exact ⟨by rw [hR.out, opForm, hr, redoN]; simp only [hq, kindOk, h4]; rfl, HB.out⟩
            | false =>
              go_wp2_with (go_at_call 130; refine HR.out.mono ?_; rintro e w' ⟨rfl, rfl⟩)
              go_ret
              exact ⟨by rw [hR.out, opForm, hr, redoN]; simp only [hq, kindOk, h4]; rfl, HB.out⟩
          · have e1 : (kd == 1) = false := by simpa using h1
            have e2 : (kd == 2) = false := by simpa using h2
            have e3 : (kd == 3) = false := by simpa using h3
            have hk : Hid (kindOk ⟨kd, nm, att, .slice A bs.length c, bs⟩ = false) := by
              show _ = _
              unfold kindOk
              rw [if_neg h1, if_neg h2, if_neg h3]
            clear h1 h2 h3
            go_wp2_with (go_at_call 130; refine HR.out.mono ?_; rintro e w' ⟨rfl, rfl⟩)
            go_ret
            exact ⟨by rw [hR.out, opForm, hk.out, Bool.and_false, Bool.and_false]; rfl, HB.out⟩
set_option maxRecDepth 8000 in
set_option maxHeartbeats 4000000 in
theorem written_any (ops : List OpA) (v : Value) (w : World) (h : OPs w v ops) (hs : sizeOps ops ≤ 1000000000) :
    Calls Tryz.prog 72 #[v] w fun e w' => e = .returned (.int .i64 (sizeOps ops)) ∧ Below w.heap.size w w' := by
  have HO := hide h
  obtain ⟨A, c, rfl, hl, hm⟩ := h.form
  have hmx : c ≤ 9223372036854775807 := by simp only [maxLen] at hm; omega
  clear h hm
  go_enter Tryz.func72, Tryz.ntmps72
  go_wp2
  go_loopw [3, 5, 8] (fun n _ u wr => ∃ k m : Nat, k ≤ ops.length ∧ u = .int .i64 k ∧ n = .int .i64 m ∧ Hid (Below w.heap.size w wr) ∧ Hid (m + sizeOps (ops.drop k) = sizeOps ops + 1)) (fun _ _ u _ => ops.length - (intOf u).toNat)
  case atStart => exact ⟨0, 1, Nat.zero_le _, rfl, rfl, Below.refl _ _, Nat.add_comm _ _⟩
  case round =>
    obtain ⟨k, m, hkl, rfl, rfl, hB, hA⟩ := hrel
    by_cases hlt : k < ops.length
    · have hltz : (k : Int) < (ops.length : Int) := by omega
      obtain ⟨g, o, rfl, hg, _, q0, q1, q2, q3, q4⟩ := (HO.out.below hB.out).at hlt
      obtain ⟨Ab, cb, hvb, _⟩ := q4.form
      have HD := sizeOps_split ops k hlt
      have hA' := hA.out
      rw [HD] at hA'
      have hpos := sizeOps_pos (ops.drop (k + 1))
      unfold opSize at hA'
      generalize hx : ops[k] = x at q0 q1 q2 q3 hvb hA'
      clear hx q4 HD
      obtain ⟨kd, nm, att, vl, bs⟩ := x
      simp only at q0 q1 q2 q3 hvb hA'
      subst hvb
      go_wp2_with fail
      go_round
      case rel =>
        refine ⟨k + 1, m + (10 + nm.length + bs.length), by omega, by go_num, ?_, hB.out.trans (((Below.refl _ _).alloc (Nat.le_refl _) _).mono hB.out.size), ?_⟩
        · congr 1
          omega
        · show _ = _
          omega
      case measure => simp [intOf]; omega
    · have hltz : ¬ (k : Int) < (ops.length : Int) := by omega
      have hA' := hA.out
      rw [List.drop_eq_nil_of_le (by omega)] at hA'
      have hA2 : m = sizeOps ops := by
        have : sizeOps [] = 1 := rfl
        omega
      subst hA2
      go_wp2
      go_ret
      exact ⟨rfl, hB.out⟩
end Go.Proofs.YthhnlkbjpahjeaaGreatDoor

end
