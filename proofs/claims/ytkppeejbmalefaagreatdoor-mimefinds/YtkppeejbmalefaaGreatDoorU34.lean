/- Find of package mime. -/
import Derived.Test.YtkppeejbmalefaaGreatDoorU33
import Derived.Deep.Cut
set_option linter.unusedSimpArgs false
set_option linter.unusedVariables false
namespace Go.Proofs.YtkppeejbmalefaaGreatDoor
open Go.RowKit Go.Shelf
/-- The part at a path, kid by kid. -/
def findP : Part → List Int → Option Part
  | p, [] => some p
  | p, z :: r => if z < 1 ∨ (p.kids.length : Int) < z then none else match p.kids[(z - 1).toNat]? with
    | some k => findP k r
    | none => none
def fndP (p : Part) (path : List Int) : Option Part := if p.kids = [] ∧ path = [1] then some p else findP p path
def zeroH : PH := ⟨[], [], [], [], [], [], 0, 0, 0, 0⟩
def zeroP : Part := .mk zeroH []
/-- What Find answers. -/
def FdOut (n : Nat) (r : Option Part) (w : World) (e : Ending) (w' : World) : Prop := Below w.heap.size w w' ∧ ∃ v, e = .returned (.tuple #[v, .bool r.isSome]) ∧ PA (n + 1) (fun g => w.heap.size ≤ g) w' v (r.getD zeroP)
theorem fdYes {n : Nat} {r : Option Part} {q : Part} {v : Value} {w wc w' : World} (hq : r = some q) (hb : Below w.heap.size w wc) (hm : Mvs (fun k => k = w.heap.size + 1) wc w') (hp : PA n (fun g => w.heap.size + 2 ≤ g) wc v q) : FdOut n r w (.returned (.tuple #[v, .bool true])) w' := by
  subst hq
  refine ⟨below_mvs hb hm (fun k hk => by omega) (Nat.le_refl _), v, rfl, ?_⟩
  exact ((hp.keep hm (fun g hg => by omega)).mono (fun g _ hg => by omega)).succ
theorem zero_pa (n : Nat) (S : Nat → Prop) (w : World) : PA (n + 1) S w (.agg #[.string ⟨#[]⟩, .string ⟨#[]⟩, .slice none 0 0, .string ⟨#[]⟩, .string ⟨#[]⟩, .string ⟨#[]⟩, .int .i64 0, .int .i64 0, .int .i64 0, .int .i64 0, .slice none 0 0]) zeroP := PA.leaf (h := zeroH) (ReadS.nil _ _ _ _) n
def intF (z : Int) : List Value := [.int .i64 z]
theorem CntC.kids {h : PH} {ks : List Part} (k : CntC (.mk h ks)) : ∀ x ∈ ks, CntC x := by
  cases k with
  | mk _ _ _ _ c => exact c
theorem PA.kid {n : Nat} {S : Nat → Prop} {w : World} {Q : PH} {v : Value} {B2 : Option Addr} {m2 r2 : Nat} {q : Part} (h : PA n S w (.agg (phA Q v (.slice B2 m2 r2))) q) (j : Nat) (hj : j < q.kids.length) : ∃ g o C1 d1 C2 d2, B2 = some ⟨g, o, none⟩ ∧ g < w.heap.size ∧ (∀ i, i < 11 → w.cell? ⟨g, o + j * 11 + i, none⟩ = (phA q.kids[j].h (.slice C1 q.kids[j].h.params.length d1) (.slice C2 q.kids[j].kids.length d2))[i]?) ∧ PA n S w (.agg (phA q.kids[j].h (.slice C1 q.kids[j].h.params.length d1) (.slice C2 q.kids[j].kids.length d2))) q.kids[j] := by
  cases n with
  | zero => exact h.elim
  | succ n =>
    cases q with
    | mk ph ks =>
      obtain ⟨vp, A', c', e, _, hk⟩ := h
      obtain ⟨g, o, vs, e1, _, hg, hz, hc, hp⟩ := hk j hj
      obtain ⟨C1, d1, C2, d2, e2⟩ := hp.form
      have e10 := congrArg (fun v => match v with | .agg xs => xs[10]? | _ => none) e
      simp [phA] at e10
      injection e2 with e3
      subst e3
      exact ⟨g, o, C1, d1, C2, d2, by rw [e10.1]; exact e1, hg, hc, hp.succ⟩
theorem blk_set11 {w : World} {D : Nat} {h : PH} {v1 v2 : Value} (hk : Blk w D (phA h v1 v2) 28) (a0 a1 a2 a3 a4 a5 a6 a7 a8 a9 a10 : Value) : Blk (((((((((((w.setCell ⟨D, 0, none⟩ a0).setCell ⟨D, 1, none⟩ a1).setCell ⟨D, 2, none⟩ a2).setCell ⟨D, 3, none⟩ a3).setCell ⟨D, 4, none⟩ a4).setCell ⟨D, 5, none⟩ a5).setCell ⟨D, 6, none⟩ a6).setCell ⟨D, 7, none⟩ a7).setCell ⟨D, 8, none⟩ a8).setCell ⟨D, 9, none⟩ a9).setCell ⟨D, 10, none⟩ a10) D #[a0, a1, a2, a3, a4, a5, a6, a7, a8, a9, a10] 28 := by
  have q := ((((((((((hk.set 0 a0).set 1 a1).set 2 a2).set 3 a3).set 4 a4).set 5 a5).set 6 a6).set 7 a7).set 8 a8).set 9 a9).set 10 a10
  have e : ((((((((((((phA h v1 v2).setIfInBounds 0 a0).setIfInBounds 1 a1).setIfInBounds 2 a2).setIfInBounds 3 a3).setIfInBounds 4 a4).setIfInBounds 5 a5).setIfInBounds 6 a6).setIfInBounds 7 a7).setIfInBounds 8 a8).setIfInBounds 9 a9).setIfInBounds 10 a10) = #[a0, a1, a2, a3, a4, a5, a6, a7, a8, a9, a10] := by simp [phA]
  rw [e] at q
  exact q
theorem find_kid {q : Part} {z : Int} {r : List Int} {j : Nat} (hj : j < q.kids.length) (hz : z = (j : Int) + 1) : findP q (z :: r) = findP q.kids[j] r := by
  rw [findP, if_neg (by omega), show (z - 1).toNat = j by omega, List.getElem?_eq_getElem hj]
theorem find_no {q : Part} {z : Int} {r : List Int} (hz : z < 1 ∨ (q.kids.length : Int) < z) : findP q (z :: r) = none := by
  rw [findP, if_pos hz]
theorem cnt_kid {q : Part} (h : CntC q) {j : Nat} (hj : j < q.kids.length) : CntC q.kids[j] := by
  cases q with
  | mk _ ks => exact h.kids _ (List.getElem_mem hj)
theorem cnt_len {q : Part} (h : CntC q) : q.kids.length ≤ 140737488355328 := by
  cases h with
  | mk _ _ _ b _ => show _ ≤ _; simp only [Part.kids]; omega
theorem fdNo {n : Nat} {r : Option Part} {w wc w' : World} (hq : r = none) (hb : Below w.heap.size w wc) (hm : Mvs (fun k => k = w.heap.size + 1) wc w') : FdOut n r w (.returned (.tuple #[.agg #[.string ⟨#[]⟩, .string ⟨#[]⟩, .slice none 0 0, .string ⟨#[]⟩, .string ⟨#[]⟩, .string ⟨#[]⟩, .int .i64 0, .int .i64 0, .int .i64 0, .int .i64 0, .slice none 0 0], .bool false])) w' := by
  subst hq
  exact ⟨below_mvs hb hm (fun k hk => by omega) (Nat.le_refl _), _, rfl, zero_pa _ _ _⟩
set_option maxRecDepth 20000 in
set_option maxHeartbeats 4000000 in
theorem find_any (n : Nat) (p : Part) (v vp : Value) (path : List Int) (w : World) (hp : PA n (fun g => 0 ≤ g) w v p) (hc : CntC p) (hpath : ReadOf intF 1 w vp path) (hpl : path.length ≤ 1000000) :
    Calls Tryz.prog 10 #[v, vp] w (FdOut n (fndP p path) w) := by
  obtain ⟨A, cp, Ak, ck, rfl⟩ := hp.form
  obtain ⟨AI, cI, rfl, hI⟩ := hpath
  obtain ⟨n1, hn1⟩ : ∃ m, p.h.params.length = m := ⟨_, rfl⟩
  obtain ⟨n2, hn2⟩ : ∃ m, p.kids.length = m := ⟨_, rfl⟩
  obtain ⟨H, hH⟩ : ∃ H, p.h = H := ⟨_, rfl⟩
  rw [hn1, hn2, hH] at hp ⊢
  obtain ⟨np, hnp⟩ : ∃ np, path.length = np := ⟨_, rfl⟩
  have HNp := hide hnp
  rw [hnp] at hpl ⊢
  have hA1 := (Below.refl w.heap.size w).alloc (Nat.le_refl _) (.cells (phA H (.slice A n1 cp) (.slice Ak n2 ck)) 28)
  have hA2 := hA1.alloc hA1.size (.cells #[.string ⟨#[]⟩, .string ⟨#[]⟩, .slice none 0 0, .string ⟨#[]⟩, .string ⟨#[]⟩, .string ⟨#[]⟩, .int .i64 0, .int .i64 0, .int .i64 0, .int .i64 0, .slice none 0 0] 28)
  have hs1 : (w.alloc (.cells (phA H (.slice A n1 cp) (.slice Ak n2 ck)) 28)).heap.size = w.heap.size + 1 := World.size_alloc _ _
  have hK := (Blk.new w (phA H (.slice A n1 cp) (.slice Ak n2 ck)) 28).alloc (.cells #[.string ⟨#[]⟩, .string ⟨#[]⟩, .slice none 0 0, .string ⟨#[]⟩, .string ⟨#[]⟩, .string ⟨#[]⟩, .int .i64 0, .int .i64 0, .int .i64 0, .int .i64 0, .slice none 0 0] 28)
  have hR := Blk.new (w.alloc (.cells (phA H (.slice A n1 cp) (.slice Ak n2 ck)) 28)) #[.string ⟨#[]⟩, .string ⟨#[]⟩, .slice none 0 0, .string ⟨#[]⟩, .string ⟨#[]⟩, .string ⟨#[]⟩, .int .i64 0, .int .i64 0, .int .i64 0, .int .i64 0, .slice none 0 0] 28
  rw [hs1] at hR
  have hs2 : ((w.alloc (.cells (phA H (.slice A n1 cp) (.slice Ak n2 ck)) 28)).alloc (.cells #[.string ⟨#[]⟩, .string ⟨#[]⟩, .slice none 0 0, .string ⟨#[]⟩, .string ⟨#[]⟩, .string ⟨#[]⟩, .int .i64 0, .int .i64 0, .int .i64 0, .int .i64 0, .slice none 0 0] 28)).heap.size = w.heap.size + 1 + 1 := by rw [World.size_alloc, hs1]
  obtain ⟨W2, hW2⟩ : ∃ W2, (w.alloc (.cells (phA H (.slice A n1 cp) (.slice Ak n2 ck)) 28)).alloc (.cells #[.string ⟨#[]⟩, .string ⟨#[]⟩, .slice none 0 0, .string ⟨#[]⟩, .string ⟨#[]⟩, .string ⟨#[]⟩, .int .i64 0, .int .i64 0, .int .i64 0, .int .i64 0, .slice none 0 0] 28) = W2 := ⟨_, rfl⟩
  rw [hW2] at hA2 hK hR hs2
  have HPq := hide (hp.mono (S' := fun g => g < w.heap.size) (fun g hg _ => hg))
  have HCq := hide hc
  have HIr := hide hI
  have HFr : Hid (p.h.params.length = n1 ∧ p.kids.length = n2 ∧ p.h = H) := ⟨hn1, hn2, hH⟩
  obtain ⟨c0, c1, c2, c3, c4, c5, c6, c7, c8, c9, c10⟩ := blk11 hK
  have HK2 := hide hK
  have HRr := hide hR
  have HBw := hide hA2
  have HS2 := hide hs2
  unfold phA at hW2
  clear hp hc hI hn1 hn2 hH hnp hA1 hA2 hK hR hs1
  by_cases h1 : n2 = 0 ∧ path = [1]
  · obtain ⟨h0, hpa⟩ := h1
    subst h0
    subst hpa
    obtain ⟨g, o, rfl, hg, hc1⟩ := HIr.out 0 (by simp)
    have hnp1 : np = 1 := HNp.out.symm
    subst hnp1
    have ci : W2.cell? ⟨g, o, none⟩ = some (.int .i64 1) := (HBw.out.cell (p := ⟨g, o, none⟩) hg).trans (hc1 0 (by omega))
    have HFq : Hid (fndP p [1] = some p) := by
      show _ = _
      unfold fndP
      rw [if_pos ⟨List.length_eq_zero_iff.1 HFr.out.2.1, rfl⟩]
    have HCl := hide (clone_any n p _ W2 ((HPq.out.mono (S' := fun g => 0 ≤ g) (fun g _ _ => Nat.zero_le _)).below HBw.out) HCq.out)
    unfold phA at HCl
    clear hc1
    go_enter Tryz.func10, Tryz.ntmps10
    unfold phA
    go_wp2_with fail
    clear hW2 c0 c1 c2 c3 c4 c5 c6 c7 c8 c9 c10
    refine HCl.out.mono ?_
    rintro e w7 ⟨v7, rfl, hpa7, hb7⟩
    obtain ⟨B1, r1, B2, r2, rfl⟩ := hpa7.form
    rw [HFr.out.1, HFr.out.2.1, HFr.out.2.2] at hpa7
    rw [HFr.out.1, HFr.out.2.1, HFr.out.2.2]
    have HPA7 := hide hpa7
    have HRx := hide (HRr.out.below hb7 HRr.out.lt)
    have HB7 := hide (HBw.out.trans (hb7.mono HBw.out.size))
    have hs7 := HS2.out
    have hcR := HRx.out.cell
    have hfR := HRx.out.frozen
    have hlR := HRx.out.lt
    clear hpa7 hb7 HCl
    unfold phA
    go_wp2
    have h9 := (((((((((((HRx.out.set 0 (.string ⟨H.type.toArray⟩)).set 1 (.string ⟨H.sub.toArray⟩)).set 2 (.slice B1 n1 r1)).set 3 (.string ⟨H.id.toArray⟩)).set 4 (.string ⟨H.desc.toArray⟩)).set 5 (.string ⟨H.enc.toArray⟩)).set 6 (.int .i64 H.at')).set 7 (.int .i64 H.body)).set 8 (.int .i64 H.end')).set 9 (.int .i64 H.lines)).set 10 (.slice B2 0 r2)).cell
    refine bodyPost_ret (v := .tuple #[.agg #[.string ⟨H.type.toArray⟩, .string ⟨H.sub.toArray⟩, .slice B1 n1 r1, .string ⟨H.id.toArray⟩, .string ⟨H.desc.toArray⟩, .string ⟨H.enc.toArray⟩, .int .i64 H.at', .int .i64 H.body, .int .i64 H.end', .int .i64 H.lines, .slice B2 0 r2], .bool true]) (by simp [results, Tryz.results10, go_sem, h9]) rfl ?_
    exact fdYes HFq.out HB7.out (Mvs11 w7 (w.heap.size + 1) (.string ⟨H.type.toArray⟩) (.string ⟨H.sub.toArray⟩) (.slice B1 n1 r1) (.string ⟨H.id.toArray⟩) (.string ⟨H.desc.toArray⟩) (.string ⟨H.enc.toArray⟩) (.int .i64 H.at') (.int .i64 H.body) (.int .i64 H.end') (.int .i64 H.lines) (.slice B2 0 r2)) (HPA7.out.mono (fun g _ hg => by omega))
  · go_enter Tryz.func10, Tryz.ntmps10
    unfold phA
    go_upto_region 1 with fail
    clear hW2
    go_cut [22] from 8 (fun v22 wq => W2 = wq ∧ v22 = .bool false)
    case first =>
      by_cases h2 : n2 = 0
      · subst h2
        by_cases h3 : np = 1
        · subst h3
          obtain ⟨z, hz⟩ : ∃ z, path = [z] := by
            match path, HNp.out with
            | [z], _ => exact ⟨z, rfl⟩
          subst hz
          have hz1 : ¬ z = 1 := fun e => h1 ⟨rfl, by rw [e]⟩
          obtain ⟨g, o, rfl, hg, hc1⟩ := HIr.out 0 (by simp)
          have ci : W2.cell? ⟨g, o, none⟩ = some (.int .i64 z) := (HBw.out.cell (p := ⟨g, o, none⟩) hg).trans (hc1 0 (by omega))
          have hzb : (z == 1) = false := by rw [beq_eq_false_iff_ne]; exact hz1
          clear hc1 hz1
          go_wp2
          go_meet
          case rel => exact ⟨rfl, rfl⟩
        · have h3' : ¬ ((np : Int) = 1) := by omega
          go_wp2
          go_meet
          case rel => exact ⟨rfl, rfl⟩
      · have h2' : ¬ ((n2 : Int) = 0) := by omega
        go_wp2
        go_meet
        case rel => exact ⟨rfl, rfl⟩
    case rest =>
      obtain ⟨rfl, rfl⟩ := hcut
      have HF0 : Hid (findP p (path.drop 0) = fndP p path) := by
        show _ = _
        unfold fndP
        rw [if_neg, List.drop_zero]
        rintro ⟨e1, e2⟩
        refine h1 ⟨?_, e2⟩
        have := HFr.out.2.1
        rw [e1] at this
        exact this.symm
      clear c0 c1 c2 c3 c4 c5 c6 c7 c8 c9 c10 h1
      go_wp2
      go_loopw [27] (fun v27 wx => ∃ (k : Nat) (q : Part) (Q : PH) (B1 B2 : Option Addr) (m1 r1 m2 r2 : Nat), v27 = .int .i64 k ∧ k ≤ np ∧ Hid (findP q (path.drop k) = fndP p path) ∧ Hid (PA n (fun g => g < w.heap.size) w (.agg (phA Q (.slice B1 m1 r1) (.slice B2 m2 r2))) q) ∧ Hid (q.h.params.length = m1 ∧ q.kids.length = m2 ∧ q.h = Q) ∧ Hid (CntC q) ∧ Hid (Blk wx w.heap.size (phA Q (.slice B1 m1 r1) (.slice B2 m2 r2)) 28) ∧ Hid (Mvs (fun g => g = w.heap.size) W2 wx)) (fun v27 _ => np - (intOf v27).toNat)
      case atStart => exact ⟨0, p, H, A, Ak, n1, cp, n2, ck, rfl, Nat.zero_le _, HF0, HPq, HFr, HCq, HK2, Mvs.refl _ _⟩
      case round =>
        clear HF0 HPq HFr HCq HK2
        obtain ⟨k, q, Q, B1, B2, m1, r1, m2, r2, rfl, hkn, HF, HPq, HFr, HCq, HKx, HM⟩ := hrel
        have hsx := HM.out.size
        have hs2 := HS2.out
        have HBx := hide (HBw.out.trans (HM.out.below (B := w.heap.size) (fun g hg e => by omega) (by omega)))
        have HRx := hide (HM.out.blk HRr.out (by omega))
        obtain ⟨c0, c1, c2, c3, c4, c5, c6, c7, c8, c9, c10⟩ := blk11 HKx.out
        have fD := HKx.out.frozen
        have lD := HKx.out.lt
        by_cases hlt : k < np
        · have hlt' : (k : Int) < np := by omega
          have hkp : k < path.length := by rw [HNp.out]; exact hlt
          obtain ⟨g, o, rfl, hg, hc1⟩ := HIr.out k hkp
          have HDr := hide (List.drop_eq_getElem_cons hkp)
          have ci : wr.cell? ⟨g, o + k, none⟩ = some (.int .i64 path[k]) := (HBx.out.cell (p := ⟨g, o + k, none⟩) hg).trans (by have := hc1 0 (by omega); rw [Nat.mul_one, Nat.add_zero] at this; exact this)
          generalize path[k] = z at *
          clear hc1
          by_cases hz : 1 ≤ z ∧ z ≤ m2
          · obtain ⟨j, hzj⟩ : ∃ j : Nat, z = (j : Int) + 1 := ⟨(z - 1).toNat, by omega⟩
            have hjk : j < q.kids.length := by rw [HFr.out.2.1]; omega
            have HF2 : Hid (findP q.kids[j] (path.drop (k + 1)) = fndP p path) := by
              show _ = _
              rw [← HF.out, HDr.out, find_kid hjk hzj]
            obtain ⟨g2, o2, C1, d1, C2, d2, rfl, hg2, hc2, hp2⟩ := HPq.out.kid j hjk
            have HC2 := hide (cnt_kid HCq.out hjk)
            generalize q.kids[j] = kid at *
            obtain ⟨k1, hk1⟩ : ∃ m, kid.h.params.length = m := ⟨_, rfl⟩
            obtain ⟨k2, hk2⟩ : ∃ m, kid.kids.length = m := ⟨_, rfl⟩
            obtain ⟨K2, hK2⟩ : ∃ K2, kid.h = K2 := ⟨_, rfl⟩
            rw [hk1, hk2, hK2] at hc2 hp2
            have HFr2 : Hid (kid.h.params.length = k1 ∧ kid.kids.length = k2 ∧ kid.h = K2) := ⟨hk1, hk2, hK2⟩
            have HP2 := hide hp2
            obtain ⟨e0, e1, e2, e3, e4, e5, e6, e7, e8, e9, e10⟩ := row11 (fun i hi => (HBx.out.cell (p := ⟨g2, o2 + j * 11 + i, none⟩) hg2).trans (hc2 i hi))
            have HK3 := hide (blk_set11 HKx.out (.string ⟨K2.type.toArray⟩) (.string ⟨K2.sub.toArray⟩) (.slice C1 k1 d1) (.string ⟨K2.id.toArray⟩) (.string ⟨K2.desc.toArray⟩) (.string ⟨K2.enc.toArray⟩) (.int .i64 K2.at') (.int .i64 K2.body) (.int .i64 K2.end') (.int .i64 K2.lines) (.slice C2 k2 d2))
            have HM3 := hide (HM.out.trans (Mvs11 wr w.heap.size (.string ⟨K2.type.toArray⟩) (.string ⟨K2.sub.toArray⟩) (.slice C1 k1 d1) (.string ⟨K2.id.toArray⟩) (.string ⟨K2.desc.toArray⟩) (.string ⟨K2.enc.toArray⟩) (.int .i64 K2.at') (.int .i64 K2.body) (.int .i64 K2.end') (.int .i64 K2.lines) (.slice C2 k2 d2)))
            subst hzj
            have z1 : ¬ ((j : Int) + 1 < 1) := by omega
            have z2 : ¬ ((j : Int) + 1 > m2) := by omega
            have hmx : m2 ≤ 1000000000000000 := by have := cnt_len HCq.out; rw [HFr.out.2.1] at this; omega
            have z3 : (j : Int) + 1 - 1 = j := by omega
            have z4 : (j : Int) < m2 := by omega
            clear hk1 hk2 hK2 hc2 hp2 hz
            go_wp2
            go_roundw
            case rel => exact ⟨k + 1, kid, K2, C1, C2, k1, d1, k2, d2, by go_num, by omega, HF2, HP2, HFr2, HC2, HK3, HM3⟩
            case measure => simp [intOf]; omega
          · have HNo : Hid (fndP p path = none) := by
              show _ = _
              rw [← HF.out, HDr.out]
              exact find_no (by rw [HFr.out.2.1]; omega)
            by_cases hz1 : z < 1
            · clear hz
              have hcR := HRx.out.cell
              have hfR := HRx.out.frozen
              have hlR := HRx.out.lt
              go_wp2
              have h9 := (((((((((((HRx.out.set 0 (.string ⟨#[]⟩)).set 1 (.string ⟨#[]⟩)).set 2 (.slice none 0 0)).set 3 (.string ⟨#[]⟩)).set 4 (.string ⟨#[]⟩)).set 5 (.string ⟨#[]⟩)).set 6 (.int .i64 0)).set 7 (.int .i64 0)).set 8 (.int .i64 0)).set 9 (.int .i64 0)).set 10 (.slice none 0 0)).cell
              refine bodyPost_ret (v := .tuple #[.agg #[.string ⟨#[]⟩, .string ⟨#[]⟩, .slice none 0 0, .string ⟨#[]⟩, .string ⟨#[]⟩, .string ⟨#[]⟩, .int .i64 0, .int .i64 0, .int .i64 0, .int .i64 0, .slice none 0 0], .bool false]) (by simp [results, Tryz.results10, go_sem, h9]) rfl ?_
              exact fdNo HNo.out HBx.out (Mvs11 wr (w.heap.size + 1) (.string ⟨#[]⟩) (.string ⟨#[]⟩) (.slice none 0 0) (.string ⟨#[]⟩) (.string ⟨#[]⟩) (.string ⟨#[]⟩) (.int .i64 0) (.int .i64 0) (.int .i64 0) (.int .i64 0) (.slice none 0 0))
            · have hz2 : z > m2 := by omega
              clear hz
              have hcR := HRx.out.cell
              have hfR := HRx.out.frozen
              have hlR := HRx.out.lt
              go_wp2
              have h9 := (((((((((((HRx.out.set 0 (.string ⟨#[]⟩)).set 1 (.string ⟨#[]⟩)).set 2 (.slice none 0 0)).set 3 (.string ⟨#[]⟩)).set 4 (.string ⟨#[]⟩)).set 5 (.string ⟨#[]⟩)).set 6 (.int .i64 0)).set 7 (.int .i64 0)).set 8 (.int .i64 0)).set 9 (.int .i64 0)).set 10 (.slice none 0 0)).cell
              refine bodyPost_ret (v := .tuple #[.agg #[.string ⟨#[]⟩, .string ⟨#[]⟩, .slice none 0 0, .string ⟨#[]⟩, .string ⟨#[]⟩, .string ⟨#[]⟩, .int .i64 0, .int .i64 0, .int .i64 0, .int .i64 0, .slice none 0 0], .bool false]) (by simp [results, Tryz.results10, go_sem, h9]) rfl ?_
              exact fdNo HNo.out HBx.out (Mvs11 wr (w.heap.size + 1) (.string ⟨#[]⟩) (.string ⟨#[]⟩) (.slice none 0 0) (.string ⟨#[]⟩) (.string ⟨#[]⟩) (.string ⟨#[]⟩) (.int .i64 0) (.int .i64 0) (.int .i64 0) (.int .i64 0) (.slice none 0 0))
        · obtain rfl : np = k := by omega
          have HFq : Hid (fndP p path = some q) := by
            show _ = _
            rw [← HF.out, List.drop_eq_nil_of_le (by rw [HNp.out]; exact Nat.le_refl _)]
            cases q
            rfl
          have HCl := hide (clone_any n q _ wr ((HPq.out.mono (S' := fun g => 0 ≤ g) (fun g _ _ => Nat.zero_le _)).below HBx.out) HCq.out)
          unfold phA at HCl
          go_wp2_with fail
          clear c0 c1 c2 c3 c4 c5 c6 c7 c8 c9 c10 fD
          refine HCl.out.mono ?_
          rintro e w7 ⟨v7, rfl, hpa7, hb7⟩
          obtain ⟨D1, s1, D2, s2, rfl⟩ := hpa7.form
          rw [HFr.out.1, HFr.out.2.1, HFr.out.2.2] at hpa7
          rw [HFr.out.1, HFr.out.2.1, HFr.out.2.2]
          have HPA7 := hide hpa7
          have HRy := hide (HRx.out.below hb7 HRx.out.lt)
          have HB7 := hide (HBx.out.trans (hb7.mono HBx.out.size))
          have hs7 := HS2.out
          have hcR := HRy.out.cell
          have hfR := HRy.out.frozen
          have hlR := HRy.out.lt
          clear hpa7 hb7 HCl
          unfold phA
          go_wp2
          have h9 := (((((((((((HRy.out.set 0 (.string ⟨Q.type.toArray⟩)).set 1 (.string ⟨Q.sub.toArray⟩)).set 2 (.slice D1 m1 s1)).set 3 (.string ⟨Q.id.toArray⟩)).set 4 (.string ⟨Q.desc.toArray⟩)).set 5 (.string ⟨Q.enc.toArray⟩)).set 6 (.int .i64 Q.at')).set 7 (.int .i64 Q.body)).set 8 (.int .i64 Q.end')).set 9 (.int .i64 Q.lines)).set 10 (.slice D2 m2 s2)).cell
          refine bodyPost_ret (v := .tuple #[.agg #[.string ⟨Q.type.toArray⟩, .string ⟨Q.sub.toArray⟩, .slice D1 m1 s1, .string ⟨Q.id.toArray⟩, .string ⟨Q.desc.toArray⟩, .string ⟨Q.enc.toArray⟩, .int .i64 Q.at', .int .i64 Q.body, .int .i64 Q.end', .int .i64 Q.lines, .slice D2 m2 s2], .bool true]) (by simp [results, Tryz.results10, go_sem, h9]) rfl ?_
          exact fdYes HFq.out HB7.out (Mvs11 w7 (w.heap.size + 1) (.string ⟨Q.type.toArray⟩) (.string ⟨Q.sub.toArray⟩) (.slice D1 m1 s1) (.string ⟨Q.id.toArray⟩) (.string ⟨Q.desc.toArray⟩) (.string ⟨Q.enc.toArray⟩) (.int .i64 Q.at') (.int .i64 Q.body) (.int .i64 Q.end') (.int .i64 Q.lines) (.slice D2 m2 s2)) (HPA7.out.mono (fun g _ hg => by omega))
end Go.Proofs.YtkppeejbmalefaaGreatDoor
