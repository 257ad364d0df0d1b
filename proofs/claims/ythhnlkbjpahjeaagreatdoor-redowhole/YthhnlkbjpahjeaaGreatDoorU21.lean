/- A disk's names: List. Texts in a slice; whether one is among them. -/
/- The document's Same: two rows of files. -/
/- A disk: Remove. -/
import Derived.Test.YthhnlkbjpahjeaaGreatDoorU20
import Derived.Test.YthhnlkbjpahjeaaGreatDoorIter
import Derived.BigQuiet
import Derived.Deep.QuietTactic
import Derived.Test.YthhnlkbjpahjeaaGreatDoorU12
section
namespace Go.Proofs.YthhnlkbjpahjeaaGreatDoor
open Go.RowKit Go.Maps Go.Sort
/-- The slice v reads as the texts ns. -/
abbrev TR (w : World) (v : Value) (ns : List (List UInt8)) : Prop := AR w v (ns.map encStr)
theorem ar_of_owns {w : World} {base : Nat} {e : TypeId} {v : Value} {n : Nat} {xs : List Value} (h : w.ownsRow base e 1 v n xs) : AR w v xs := by
  have hR := Rw.of_owns h
  have hl : xs.length = n := by rw [hR.1]; simp
  rcases hR.2 with ⟨rfl, h0, _⟩ | ⟨g, o, cap, _, rfl, h1, h2, h3, h4, _⟩
  · have : xs = [] := List.length_eq_zero_iff.1 (by omega)
    subst this
    exact ⟨none, 0, rfl, Nat.le_refl _, Nat.zero_le _, fun _ => rfl, fun h => absurd rfl h⟩
  · exact ⟨_, cap, by rw [hl], by omega, h2, (fun e => by cases e), fun _ => ⟨g, o, rfl, h3, h4⟩⟩
section
variable (w0 w : World) (d : Nat) (ρ : Nat → Option Role) (s : St)
set_option maxRecDepth 8000 in
set_option maxHeartbeats 2000000 in
theorem list_any (h : DK w0 w d ρ s) (hoff : s.off = false) (hN : s.N ≤ 1000000) :
    Calls Tryz.prog 55 #[pv d] w fun e w' => ∃ (v : Value) (ss : List (List UInt8)), e = .returned (.tuple #[v, .nilIface]) ∧ ss.Perm (strKeys s.D) ∧ TR w' v (ss.mergeSort (fun x y => decide (x ≤ y))) ∧ Below w.heap.size w w' ∧ ∀ A n c, v = .slice (some A) n c → w.heap.size ≤ A.block := by
  obtain ⟨bn, bs, bc, vs, vl, Gs, Gl, cs, h⟩ := h
  have hc := h.blk.cell
  rw [hoff] at hc
  have hsz := h.names.size_le
  have HK := hide (callsIn_wide.1 (Tryz.maps_Keys_94 (some bn) w))
  have HS := hide (callsIn_wide.1 (Tryz.slices_Sorted_keys_93_94 bn s.N s.D ptrElem w h.names (by simp only [maxLen]; omega) (by omega)))
  clear h
  unfold pv
  go_enter Tryz.func55, Tryz.ntmps55
  go_wp2_with (first | (go_at_call 94; refine HK.out.mono ?_; rintro e w' ⟨rfl, rfl⟩) | (go_at_call 93; refine HS.out.mono ?_; rintro e w' ⟨v, ss, rfl, hS, hrow, hnil, hb⟩; replace hS := hide hS; replace hrow := hide hrow; replace hb := hide hb; clear hnil))
  go_ret2
  refine ⟨v, ss, rfl, hS.out, ar_of_owns hrow.out, ((Below.refl _ w).alloc (Nat.le_refl _) _).trans (hb.out.mono (by simp)), ?_⟩
  rintro A n c rfl
  rcases hrow.out.2 with ⟨h, _⟩ | ⟨g, cap, cur, hv, hg, _⟩
  · cases h
  · cases hv
    simp at hg
    show w.heap.size ≤ g
    omega
end
set_option maxRecDepth 8000 in
set_option maxHeartbeats 2000000 in
theorem indexS_any (ns : List (List UInt8)) (v : Value) (w : World) (h : TR w v ns) (x : List UInt8) :
    Calls Tryz.prog 109 #[v, .string ⟨x.toArray⟩] w fun e w' => ∃ r : Int, e = .returned (.int .i64 r) ∧ decide (0 ≤ r) = ns.contains x ∧ w' = w := by
  have HO := hide h
  obtain ⟨A, c, rfl, hl, hm, _⟩ := h
  rw [List.length_map] at *
  have hmx : c ≤ 9223372036854775807 := by simp only [maxLen] at hm; omega
  clear hm
  obtain ⟨R, hR⟩ : ∃ R, Hid (R = ns.contains x) := ⟨_, rfl⟩
  rw [← hR.out]
  go_enter Tryz.func109, Tryz.ntmps109
  go_wp2
  go_loop [5, 8] (fun _ u => ∃ k : Nat, k ≤ ns.length ∧ u = .int .i64 k ∧ Hid (ns.contains x = (ns.drop k).contains x)) (fun _ u => ns.length - (intOf u).toNat)
  case atStart => exact ⟨0, Nat.zero_le _, rfl, rfl⟩
  case round =>
    obtain ⟨k, hkl, rfl, hA⟩ := hrel
    by_cases hlt : k < ns.length
    · have hltz : (k : Int) < (ns.length : Int) := by omega
      obtain ⟨g, o, rfl, hcell⟩ : ∃ g o, A = some ⟨g, o, none⟩ ∧ w.cell? ⟨g, o + k, none⟩ = some (.string ⟨ns[k].toArray⟩) := by
        obtain ⟨A', c', hv, _, _, _, h5⟩ := HO.out
        simp only [Value.slice.injEq] at hv
        obtain ⟨rfl, _, rfl⟩ := hv
        obtain ⟨g, o, rfl, _, h6⟩ := h5 (fun e => by
          have : ns = [] := by simpa using e
          rw [this] at hlt
          simp at hlt)
        exact ⟨g, o, rfl, h6 k _ (by rw [List.getElem?_map, List.getElem?_eq_getElem hlt]; rfl)⟩
      have HD := List.drop_eq_getElem_cons hlt
      generalize ns[k] = y at hcell HD
      cases hq : (x == y) with
      | true =>
        have e : Hid (ns.contains x = true) := by
          show _ = _
          rw [hA.out, HD, List.contains_cons, hq]
          rfl
        clear HD
        go_wp2
        go_ret
        exact ⟨_, rfl, by have h9 := hR.out.trans e.out; subst h9; simp, rfl⟩
      | false =>
        have e : Hid (ns.contains x = (ns.drop (k + 1)).contains x) := by
          show _ = _
          rw [hA.out, HD, List.contains_cons, hq]
          rfl
        clear HD
        go_wp2
        go_round
        case rel => exact ⟨k + 1, by omega, by go_num, e⟩
        case measure => simp [intOf]; omega
    · have hltz : ¬ (k : Int) < (ns.length : Int) := by omega
      have e : Hid (ns.contains x = false) := by
        show _ = _
        rw [hA.out, List.drop_eq_nil_of_le (by omega)]
        rfl
      go_wp2
      go_ret
      exact ⟨_, rfl, by have h9 := hR.out.trans e.out; subst h9; simp, rfl⟩
set_option maxRecDepth 8000 in
set_option maxHeartbeats 2000000 in
theorem containsS_any (ns : List (List UInt8)) (v : Value) (w : World) (h : TR w v ns) (x : List UInt8) :
    Calls Tryz.prog 78 #[v, .string ⟨x.toArray⟩] w fun e w' => e = .returned (.bool (ns.contains x)) ∧ w' = w := by
  have HI := hide (indexS_any ns v w h x)
  clear h
  go_enter Tryz.func78, Tryz.ntmps78
  go_wp2_with (go_at_call 109; refine HI.out.mono ?_; rintro e w' ⟨r, rfl, hr, rfl⟩; replace hr := hide hr)
  go_ret
  exact ⟨by rw [← hr.out]; rfl, rfl⟩
end Go.Proofs.YthhnlkbjpahjeaaGreatDoor

end
section
namespace Go.Proofs.YthhnlkbjpahjeaaGreatDoor
open Go.RowKit Go.Maps Go.Sort
theorem TR.form {w : World} {v : Value} {ns : List (List UInt8)} (h : TR w v ns) : ∃ A c, v = .slice A ns.length c ∧ ns.length ≤ c ∧ c ≤ maxLen := by
  obtain ⟨A, c, h1, h2, h3, _⟩ := h
  rw [List.length_map] at h1 h2
  exact ⟨A, c, h1, h2, h3⟩
theorem TR.at {w : World} {A : Option Addr} {c : Nat} {ns : List (List UInt8)} (h : TR w (.slice A ns.length c) ns) (h0 : ns ≠ []) : ∃ g o, A = some ⟨g, o, none⟩ ∧ g < w.heap.size ∧ ∀ i (hi : i < ns.length), w.cell? ⟨g, o + i, none⟩ = some (.string ⟨ns[i].toArray⟩) := by
  obtain ⟨A', c', hv, h2, h3, h4, h5⟩ := h
  simp only [Value.slice.injEq] at hv
  obtain ⟨rfl, _, rfl⟩ := hv
  obtain ⟨g, o, rfl, hg, h6⟩ := h5 (by simpa using h0)
  exact ⟨g, o, rfl, hg, fun i hi => h6 i _ (by simp [List.getElem?_eq_getElem hi, encStr])⟩
def eqFrom (ns bs ns' bs' : List (List UInt8)) (i : Nat) : Bool := decide (ns.drop i = ns'.drop i ∧ bs.drop i = bs'.drop i)
theorem eqFrom_next {ns bs ns' bs' : List (List UInt8)} {i : Nat} (h1 : i < ns.length) (h2 : i < bs.length) (h3 : i < ns'.length) (h4 : i < bs'.length) : eqFrom ns bs ns' bs' i = (decide (ns[i] = ns'[i] ∧ bs[i] = bs'[i]) && eqFrom ns bs ns' bs' (i + 1)) := by
  unfold eqFrom
  rw [List.drop_eq_getElem_cons h1, List.drop_eq_getElem_cons h2, List.drop_eq_getElem_cons h3, List.drop_eq_getElem_cons h4, Bool.eq_iff_iff]
  simp only [List.cons.injEq, Bool.and_eq_true, decide_eq_true_eq]
  constructor
  · rintro ⟨⟨a, b⟩, c, d⟩
    exact ⟨⟨a, c⟩, b, d⟩
  · rintro ⟨⟨a, c⟩, b, d⟩
    exact ⟨⟨a, b⟩, c, d⟩
set_option maxRecDepth 8000 in
set_option maxHeartbeats 4000000 in
theorem same_no (w : World) (vn vb vn' vb' : Value) (ns ns' : List (List UInt8)) (h1 : TR w vn ns) (h3 : TR w vn' ns') (hb : ∃ A n c, vb = .slice A n c) (hb' : ∃ A n c, vb' = .slice A n c) (hne : ns.length ≠ ns'.length) :
    Calls Tryz.prog 10 #[.agg #[vn, vb], .agg #[vn', vb']] w fun e w' => e = .returned (.bool false) ∧ Below w.heap.size w w' := by
  obtain ⟨A1, c1, rfl, l1, m1⟩ := h1.form
  obtain ⟨A3, c3, rfl, l3, m3⟩ := h3.form
  obtain ⟨A2, n2, c2, rfl⟩ := hb
  obtain ⟨A4, n4, c4, rfl⟩ := hb'
  have hne' : ((ns.length : Int) != (ns'.length : Int)) = true := by simp; omega
  have hne2 : ¬ (ns.length : Int) = (ns'.length : Int) := by omega
  clear h1 h3
  go_enter Tryz.func10, Tryz.ntmps10
  go_wp2
  go_ret
  exact ⟨rfl, ((Below.refl _ _).alloc (Nat.le_refl _) _).alloc (by simp) _⟩
set_option maxRecDepth 8000 in
set_option maxHeartbeats 8000000 in
theorem same_len (w : World) (vn vb vn' vb' : Value) (ns bs ns' bs' : List (List UInt8)) (h1 : TR w vn ns) (h2 : TR w vb bs) (h3 : TR w vn' ns') (h4 : TR w vb' bs') (e1 : bs.length = ns.length) (e2 : bs'.length = ns'.length) (hlen : ns.length = ns'.length) (hsm : ns.length ≤ 1000000) :
    Calls Tryz.prog 10 #[.agg #[vn, vb], .agg #[vn', vb']] w fun e w' => e = .returned (.bool (eqFrom ns bs ns' bs' 0)) ∧ Below w.heap.size w w' := by
  obtain ⟨N, hN⟩ : ∃ N, N = ns.length := ⟨_, rfl⟩
  obtain ⟨A1, c1, rfl, l1, m1⟩ := h1.form
  obtain ⟨A2, c2, rfl, l2, m2⟩ := h2.form
  obtain ⟨A3, c3, rfl, l3, m3⟩ := h3.form
  obtain ⟨A4, c4, rfl, l4, m4⟩ := h4.form
  have H1 := hide h1
  have H2 := hide h2
  have H3 := hide h3
  have H4 := hide h4
  have E1 : Hid (bs.length = N) := by show _ = _; omega
  have E2 : Hid (bs'.length = N) := by show _ = _; omega
  have E0 : Hid (ns.length = N) := hN.symm
  have E3 : Hid (ns'.length = N) := by show _ = _; omega
  rw [E0.out, E1.out, E2.out, E3.out]
  obtain ⟨W, hW⟩ : ∃ W, Hid (W = (w.alloc (.cells #[.slice A1 N c1, .slice A2 N c2] 37)).alloc (.cells #[.slice A3 N c3, .slice A4 N c4] 37)) := ⟨_, rfl⟩
  have hbW : Below w.heap.size w W := by rw [hW.out]; exact ((Below.refl _ _).alloc (Nat.le_refl _) _).alloc (by simp) _
  have kA : Blk W w.heap.size #[.slice A1 N c1, .slice A2 N c2] 37 := by rw [hW.out]; exact (Blk.new _ _ _).alloc _
  have kB : Blk W (w.heap.size + 1) #[.slice A3 N c3, .slice A4 N c4] 37 := by rw [hW.out]; exact Blk.new1 _ _ _ _
  have hsN : N ≤ 1000000 := by omega
  have HB := hide hbW
  have KA := hide kA
  have KB := hide kB
  have hneq : ((N : Int) != (N : Int)) = false := by simp
  have cA := kA.cell
  have cB := kB.cell
  clear h1 h2 h3 h4 e1 e2 hlen hN hbW hsm m1 m2 m3 m4 l1 l2 l3 l4 kA kB
  go_enter Tryz.func10, Tryz.ntmps10
  go_wp2_with fail
  rw [← hW.out]
  go_wp2
  go_loopw [16] (fun u wr => ∃ i n : Nat, u = .int .i64 i ∧ i ≤ N ∧ wr = W.drewN n ∧ Hid (eqFrom ns bs ns' bs' i = eqFrom ns bs ns' bs' 0)) (fun u _ => N - (intOf u).toNat)
  case atStart => exact ⟨0, 0, rfl, Nat.zero_le _, rfl, rfl⟩
  case round =>
    obtain ⟨i, n, rfl, hi, rfl, HK⟩ := hrel
    by_cases hlt : i < N
    · have hltz : (i : Int) < (N : Int) := by omega
      have z1 : i < ns.length := by rw [E0.out]; exact hlt
      have z2 : i < bs.length := by rw [E1.out]; exact hlt
      have z3 : i < ns'.length := by rw [E3.out]; exact hlt
      have z4 : i < bs'.length := by rw [E2.out]; exact hlt
      obtain ⟨g1, o1, rfl, k1, r1⟩ := H1.out.at (List.ne_nil_of_length_pos (by omega))
      obtain ⟨g2, o2, rfl, k2, r2⟩ := H2.out.at (List.ne_nil_of_length_pos (by omega))
      obtain ⟨g3, o3, rfl, k3, r3⟩ := H3.out.at (List.ne_nil_of_length_pos (by omega))
      obtain ⟨g4, o4, rfl, k4, r4⟩ := H4.out.at (List.ne_nil_of_length_pos (by omega))
      have q1 : W.cell? ⟨g1, o1 + i, none⟩ = some (.string ⟨ns[i].toArray⟩) := (HB.out.cell (p := ⟨g1, o1 + i, none⟩) k1).trans (r1 i z1)
      have q2 : W.cell? ⟨g2, o2 + i, none⟩ = some (.string ⟨bs[i].toArray⟩) := (HB.out.cell (p := ⟨g2, o2 + i, none⟩) k2).trans (r2 i z2)
      have q3 : W.cell? ⟨g3, o3 + i, none⟩ = some (.string ⟨ns'[i].toArray⟩) := (HB.out.cell (p := ⟨g3, o3 + i, none⟩) k3).trans (r3 i z3)
      have q4 : W.cell? ⟨g4, o4 + i, none⟩ = some (.string ⟨bs'[i].toArray⟩) := (HB.out.cell (p := ⟨g4, o4 + i, none⟩) k4).trans (r4 i z4)
      have HX := hide (eqFrom_next z1 z2 z3 z4)
      generalize ns[i] = x1 at *
      generalize bs[i] = x2 at *
      generalize ns'[i] = y1 at *
      generalize bs'[i] = y2 at *
      clear r1 r2 r3 r4 k1 k2 k3 k4 z1 z2 z3 z4 H1 H2 H3 H4
      by_cases e1 : x1 = y1
      · subst e1
        by_cases e2 : x2 = y2
        · subst e2
          have HS : Hid (eqFrom ns bs ns' bs' (i + 1) = eqFrom ns bs ns' bs' 0) := by show _ = _; rw [← HK.out, HX.out]; simp
          clear HX HK
          go_wp2
          go_quiet (fail)
          go_wp2
          go_roundw
          case rel => exact ⟨i + 1, _, by go_num, by omega, rfl, HS⟩
          case measure => simp [intOf]; omega
        · have e3 : (x2 == y2) = false := by rw [beq_eq_false_iff_ne]; exact e2
          have HN : Hid (eqFrom ns bs ns' bs' 0 = false) := by show _ = _; rw [← HK.out, HX.out]; simp [e2]
          clear HX HK
          go_wp2
          go_quiet (fail)
          go_wp2
          go_ret
          exact ⟨by rw [HN.out]; rfl, (HB.out.trans ((below_drewN W n).mono HB.out.size)).trans ((below_drewN (W.drewN n) nq).mono HB.out.size)⟩
      · have e3 : (x1 == y1) = false := by rw [beq_eq_false_iff_ne]; exact e1
        have HN : Hid (eqFrom ns bs ns' bs' 0 = false) := by show _ = _; rw [← HK.out, HX.out]; simp [e1]
        clear HX HK
        go_wp2
        go_quiet (fail)
        go_wp2
        go_ret
        exact ⟨by rw [HN.out]; rfl, (HB.out.trans ((below_drewN W n).mono HB.out.size)).trans ((below_drewN (W.drewN n) nq).mono HB.out.size)⟩
    · have hltz : ¬ (i : Int) < (N : Int) := by omega
      have HN : Hid (eqFrom ns bs ns' bs' 0 = true) := by
        show _ = _
        rw [← HK.out]
        unfold eqFrom
        have h1 := E0.out
        have h2 := E1.out
        have h3 := E2.out
        have h4 := E3.out
        rw [List.drop_eq_nil_of_le (by omega), List.drop_eq_nil_of_le (by omega), List.drop_eq_nil_of_le (by omega), List.drop_eq_nil_of_le (by omega)]
        simp
      clear HK H1 H2 H3 H4
      go_wp2
      go_ret
      exact ⟨by rw [HN.out]; rfl, HB.out.trans ((below_drewN W n).mono HB.out.size)⟩
/-- The document's Same. -/
theorem rsame_any (w : World) (vn vb vn' vb' : Value) (ns bs ns' bs' : List (List UInt8)) (h1 : TR w vn ns) (h2 : TR w vb bs) (h3 : TR w vn' ns') (h4 : TR w vb' bs') (e1 : bs.length = ns.length) (e2 : bs'.length = ns'.length) (hsm : ns.length ≤ 1000000) :
    Calls Tryz.prog 10 #[.agg #[vn, vb], .agg #[vn', vb']] w fun e w' => e = .returned (.bool (decide (ns = ns' ∧ bs = bs'))) ∧ Below w.heap.size w w' := by
  by_cases hl : ns.length = ns'.length
  · exact same_len w vn vb vn' vb' ns bs ns' bs' h1 h2 h3 h4 e1 e2 hl hsm
  · have : decide (ns = ns' ∧ bs = bs') = false := decide_eq_false (fun h => hl (by rw [h.1]))
    rw [this]
    obtain ⟨A2, c2, r2, _⟩ := h2.form
    obtain ⟨A4, c4, r4, _⟩ := h4.form
    exact same_no w vn vb vn' vb' ns ns' h1 h3 ⟨_, _, _, r2⟩ ⟨_, _, _, r4⟩ hl
end Go.Proofs.YthhnlkbjpahjeaaGreatDoor

end
section
namespace Go.Proofs.YthhnlkbjpahjeaaGreatDoor
open Go.RowKit Go.Maps
theorem entries_del {D : DataW Unit} {k : Lit} (h : IsMap D) (he : ∀ p ∈ entriesOf D, ∃ b, p.2 = pd b) : ∀ p ∈ entriesOf (D.del k), ∃ b, p.2 = pd b := by
  obtain ⟨es, rfl⟩ := h
  intro p hp
  exact he p (List.mem_filter.1 (show p ∈ List.filter _ es from hp)).1
theorem there_del {D : DataW Unit} {k : Lit} {P : Nat → Prop} (hv : ∀ kl b, D.atKey kl .nil = pd b → P b) : ∀ kl b, (D.del k).atKey kl .nil = pd b → P b := by
  intro kl b hb
  by_cases e : kl = k
  · subst e
    rw [atKey_del_same] at hb
    cases hb
  · rw [atKey_del_other e] at hb
    exact hv kl b hb
def rmV (cn : Nat) : Value := .func (.func 132) #[] #[pv cn]
set_option maxHeartbeats 1000000 in
theorem removeClo (w : World) (bn n : Nat) (D : DataW Unit) (name : List UInt8) (cn : Nat) (hl : name.length ≤ 1000000) (hN : w.ownsMap Tryz.prog 9 ptrElem bn n D) (hcn : Blk w cn #[.string ⟨name.toArray⟩] 9) :
    Calls Tryz.prog 132 #[.map (some bn), pv cn] w fun e w' => e = .returned (.tuple #[]) ∧ w'.ownsMap Tryz.prog 9 ptrElem bn n (D.del (.string name)) ∧ Mvs (fun k => k = bn) w w' := by
  have h2 := hcn.cell
  have HN := hide hN
  have HK := hide (keyStr name (by omega))
  clear hcn hN
  unfold pv at *
  go_enter Tryz.func132, Tryz.ntmps132
  go_wp2_with (at_delete; refine wpList_delete_own _ rfl _ _ 51 9 rfl 72 strKeyed Tryz.underlying51 ptrElem bn n D rfl HN.out _ (.string name) rfl HK.out ?_)
  intro w1 hown1 hg1
  have HO := hide hown1
  have HG := hide hg1
  clear hown1 hg1
  go_wp2
  go_end0
  exact ⟨rfl, HO.out, Mvs.of_turned HG.out⟩
set_option maxRecDepth 8000 in
set_option maxHeartbeats 2000000 in
theorem changeNames_removeG (w0 w : World) (d : Nat) (ρ : Nat → Option Role) (s : St) (name : List UInt8) (cn : Nat) (h : DK w0 w d ρ s) (ha : s.armed ≠ 0) (ha1 : s.armed ≤ 9223372036854775807) (hs0 : 0 ≤ s.steps) (hs1 : s.steps ≤ 1000000) (ho0 : 0 ≤ s.opened) (ho1 : s.opened ≤ 1000000) (hns : s.ns ≤ 1000000)
    (hl : name.length ≤ 1000000) (hcn : Blk w cn #[.string ⟨name.toArray⟩] 9) (hrn : ρ cn = some .cap) :
    Calls Tryz.prog 66 #[pv d, rmV cn] w fun e w' => e = .returned .nilIface ∧ ∃ ρ', DK w0 w' d ρ' { s with D := s.D.del (.string name), N := s.N + 1, ns := s.ns + 1, nl := s.nl ++ [.rm name], opened := s.opened + 1, steps := s.steps + 1, armed := dec s.armed } ∧ Turn w w' ρ ρ' ∧ Keeps ρ ρ' := by
  obtain ⟨bn, bs, bc, vs, vl, Gs, Gl, cs, h⟩ := h
  obtain ⟨i0, hi, hz0, hz1, hz2⟩ := info_parts funInfo
  have hne := h.ne
  have HD := hide h
  have hnn : cn ≠ d := fun e => by rw [e, h.rd] at hrn; cases hrn
  clear h
  unfold rmV pv
  go_enter Tryz.func66, Tryz.ntmps66
  go_wp2_with fail
  refine (takeStep_ok _ d _ _ _ _ _ _ _ _ _ _ _ HD.out.blk ha ha1 hs0 (by omega)).mono ?_
  rintro e w1 ⟨rfl, hm1, hk0⟩
  have H1 := hide (HD.out.ints hm1 s.created s.opened (s.steps + 1) (dec s.armed) s.off s.quota hk0)
  have HM1 := hide hm1
  have hcn1 := hide (hm1.blk hcn hnn)
  clear hk0 hm1 hcn
  obtain ⟨As, cc, rfl⟩ := H1.out.row.form
  have hk1 : Blk w1 d #[.map (some bn), .map (some bs), .slice As s.ns cc, .map (some bc), vl, .int .i64 s.created, .int .i64 s.opened, .int .i64 (s.steps + 1), (.int .i64 (dec s.armed)), .bool s.off, .int .i64 s.quota] 56 := H1.out.blk
  have hc1 := hk1.cell
  go_wp2_with fail
  refine (removeClo w1 bn s.N s.D name cn hl H1.out.names hcn1.out).mono ?_
  rintro e w2 ⟨rfl, hN2, hm2⟩
  have H2 := hide (H1.out.nam hm2 _ (hN2.mono (Nat.le_succ _)) (there_del HD.out.vD) (entries_del H1.out.names.isMap HD.out.eD))
  have HM2 := hide hm2
  have hk2 := hide (hm2.blk hk1 (fun e => hne.1 e.symm))
  have hcn2 := hide (hm2.blk hcn1.out (fun e => by have := HD.out.rn; rw [← e, hrn] at this; cases this))
  clear hc1 hN2 hm2 hcn1 hk1
  have hc2 := hk2.out.cell
  have hrow : Hid (Rw w2 1 (.slice As s.ns cc) s.ns cs Gs) := H2.out.row
  go_wp2_with (at_builtin; refine wpList_append_rw rfl _ _ 53 53 rfl 94 i0 .nilFunc 1 8 Tryz.underlying53 hi hz0 hz1 hz2 rfl rfl (hrow.out.keep (S := fun _ => False) ((Mvs.refl _ _).alloc _) (fun _ _ c => c)) _ 1 [rmV cn] rfl (src_one Tryz.underlying53 (rmV cn) rfl) (by simp only [maxLen]; omega) (by omega) ?_)
  intro v3 w3 G3 hr3 hm3 hg3
  obtain ⟨A3, c3, rfl⟩ := hr3.form
  have hm23 : Mvs (fun k => some k = Gs) w2 w3 := (((Mvs.refl (fun k => some k = Gs) w2).alloc _).trans hm3)
  have hG3 : G3 = Gs ∨ ∃ g, G3 = some g ∧ w2.heap.size ≤ g := hg3.imp id fun e => ⟨_, e, by simp⟩
  have hk3 := hide (hm23.blk hk2.out (fun e => by have := HD.out.rsteps d e.symm; rw [HD.out.rd] at this; cases this))
  have hc3 := hk3.out.cell
  have hf3 := hk3.out.frozen
  have HR3 := hide hr3
  have HM3 := hide hm23
  have HG3 := hide hG3
  have hlt3 := hide hr3.lt
  clear hr3 hm3 hg3 hm23 hG3 hk2 hc2 hrow hi hz0 hz1 hz2
  go_wp2
  go_ret
  have hkk := (hk3.out.set 2 (.slice A3 (s.ns + 1) c3)).set 6 (.int .i64 (s.opened + 1))
  have hmm : Mvs (fun k => k = d) w3 ((w3.setCell ⟨d, 2, none⟩ (.slice A3 (s.ns + 1) c3)).setCell ⟨d, 6, none⟩ (.int .i64 (s.opened + 1))) := ((Mvs.refl (fun k => k = d) w3).setCell ⟨d, 2, none⟩ _ (fun _ => rfl)).setCell ⟨d, 6, none⟩ _ (fun _ => rfl)
  have hmA : Mvs (fun k => some k = Gs ∨ k = d) w2 ((w3.setCell ⟨d, 2, none⟩ (.slice A3 (s.ns + 1) c3)).setCell ⟨d, 6, none⟩ (.int .i64 (s.opened + 1))) := (HM3.out.mono fun _ _ e => .inl e).trans (hmm.mono fun _ _ e => .inr e)
  have hGd : ∀ g, G3 = some g → ¬ g = d := fun g hg e => by
    subst e
    rcases HG3.out with e | ⟨g', e, hle⟩
    · have := HD.out.rsteps g (e ▸ hg)
      rw [HD.out.rd] at this
      cases this
    · rw [e] at hg
      cases hg
      have := H2.out.lt H2.out.rd
      omega
  have hnc : ∀ k, ρ k = some .cap → ¬ (some k = Gs ∨ k = d) := fun k hk e => by
    rcases e with e | e
    · rw [HD.out.rsteps k e.symm] at hk
      cases hk
    · rw [e, HD.out.rd] at hk
      cases hk
  have hcnA := hmA.blk hcn2.out (hnc cn hrn)
  obtain ⟨hD, hkeep⟩ := H2.out.grow hmA (HR3.out.keep hmm hGd) HG3.out (s.opened + 1) (nl' := s.nl ++ [NA.rm name]) (fun ρ' hk => NsR.snoc (x := .rm name) ⟨cn, rfl, hcnA, hk _ _ hrn⟩ _ _ (NsR.keep hmA hnc (fun k h => hk k _ h) _ _ H2.out.nsr)) hkk
  refine ⟨rfl, _, ⟨_, _, _, _, _, _, _, _, hD⟩, ⟨?_, fun k r hr hlt => ?_⟩, hkeep⟩
  · refine (((HM1.out.mono (S' := fun k => ∃ r, ρ k = some r) fun i _ e => by subst e; exact ⟨_, HD.out.rd⟩).trans (HM2.out.mono fun i _ e => by subst e; exact ⟨_, HD.out.rn⟩)).trans (hmA.mono fun i _ e => ?_))
    rcases e with e | rfl
    · exact ⟨_, HD.out.rsteps i e.symm⟩
    · exact ⟨_, HD.out.rd⟩
  · unfold putRole at hr
    split at hr
    · rename_i e
      rcases HG3.out with e1 | ⟨g, e1, hle⟩
      · exact ⟨_, HD.out.rsteps k (e1 ▸ e.symm)⟩
      · rw [e1] at e
        cases e
        have := HM1.out.size
        have := HM2.out.size
        omega
    · exact ⟨r, hr⟩
def St.removedG (s : St) (name : List UInt8) : St := { s with D := s.D.del (.string name), N := s.N + 1, ns := s.ns + 1, nl := s.nl ++ [.rm name], opened := s.opened + 1, steps := s.steps + 1, armed := dec s.armed }
set_option maxRecDepth 8000 in
set_option maxHeartbeats 2000000 in
theorem remove_okG (w0 w : World) (d : Nat) (ρ : Nat → Option Role) (s : St) (h : DK w0 w d ρ s) (hs : s.SmallG) (hns : s.ns ≤ 1000000) (name : List UInt8) (hr : rightB name = true) (b : Nat) (hat : s.D.atKey (.string name) .nil = pd b) :
    Calls Tryz.prog 112 #[pv d, .string ⟨name.toArray⟩] w fun e w' => e = .returned .nilIface ∧ ∃ ρ', DK w0 w' d ρ' (s.removedG name) ∧ Turn w w' ρ ρ' ∧ Keeps ρ ρ' := by
  have hn : name.length ≤ 24 := by
    unfold rightB at hr
    simp at hr
    exact hr.2.2
  have hb1 : Below w.heap.size w (w.alloc (.cells #[.string ⟨name.toArray⟩] 9)) := (Below.refl _ _).alloc (Nat.le_refl _) _
  have HF := hide (find_there w0 _ d ρ s (h.then hb1) hs.off name hr b hat)
  have hD1 := h.then hb1
  have hfr : ρ w.heap.size = none := by
    obtain ⟨bn, bs, bc, vs, vl, Gs, Gl, cs, h⟩ := h
    exact h.off (Nat.le_refl _)
  have hw0 := h.below.size
  obtain ⟨bn, bs, bc, vs, vl, Gs, Gl, cs, hD⟩ := hD1
  obtain ⟨hadd, hkp⟩ := hD.caps [w.heap.size] (fun k hk => by
    cases List.mem_singleton.1 hk
    exact ⟨hfr, hw0, by simp⟩)
  have HC := hide (changeNames_removeG w0 _ d _ s name w.heap.size ⟨_, _, _, _, _, _, _, _, hadd⟩ hs.armed hs.armed1 hs.s0 hs.s1 hs.o0 hs.o1 hns (by omega) (Blk.new w _ _) (putRoles_in (by simp)))
  have HB := hide hb1
  replace hkp := hide hkp
  clear hadd hD h hat hb1
  unfold rmV pv at *
  go_enter Tryz.func112, Tryz.ntmps112
  go_wp2_with (go_at_call 63; refine HF.out.mono ?_; rintro e w' ⟨rfl, rfl⟩)
  refine HC.out.mono ?_
  rintro e w3 ⟨rfl, ρ3, hD3, ht3, hk3⟩
  have HD3 := hide hD3
  have HT := hide ht3
  have HK := hide hk3
  clear hD3 ht3 hk3 HC HF
  go_wp2
  go_ret
  refine ⟨rfl, ρ3, HD3.out, ⟨?_, fun k r hr hlt => ?_⟩, fun k r hr => HK.out k r (hkp.out k r hr)⟩
  · refine (Mvs.of_below HB.out).trans' HT.out.1 (fun i hi ⟨r, hr⟩ => ?_)
    rcases putRoles_cases hr with ⟨e, _⟩ | hr
    · have := List.mem_singleton.1 e
      omega
    · exact ⟨r, hr⟩
  · obtain ⟨r', hr'⟩ := HT.out.2 k r hr (Nat.lt_of_lt_of_le hlt HB.out.size)
    rcases putRoles_cases hr' with ⟨e, _⟩ | hr'
    · have := List.mem_singleton.1 e
      omega
    · exact ⟨r', hr'⟩
set_option maxRecDepth 20000 in
set_option maxHeartbeats 2000000 in
theorem remove_gone (w0 w : World) (d : Nat) (ρ : Nat → Option Role) (s : St) (a : Nat → Addr) (hE : Errs w0 a) (h : DK w0 w d ρ s) (hoff : s.off = false) (ha : s.armed = 0) (name : List UInt8) (hr : rightB name = true) (b : Nat) (hat : s.D.atKey (.string name) .nil = pd b) :
    Calls Tryz.prog 112 #[pv d, .string ⟨name.toArray⟩] w fun e w' => e = .returned (errV a 7) ∧ DK w0 w' d ρ s.gone ∧ Turn w w' ρ ρ := by
  have hb1 : Below w.heap.size w (w.alloc (.cells #[.string ⟨name.toArray⟩] 9)) := (Below.refl _ _).alloc (Nat.le_refl _) _
  have HF := hide (find_there w0 _ d ρ s (h.then hb1) hoff name hr b hat)
  have hD2 := h.then hb1
  have HC := hide (fun v => changeNames_gone w0 _ d ρ s a hE hD2 ha v)
  have HG := hide hD2.gone_set
  have HB := hide hb1
  clear h hE hb1 hat hD2
  unfold pv errV at *
  go_enter Tryz.func112, Tryz.ntmps112
  go_wp2_with (go_at_call 63; refine HF.out.mono ?_; rintro e w' ⟨rfl, rfl⟩)
  refine (HC.out _).mono ?_
  rintro e w3 ⟨rfl, hw3⟩
  have hG3 := HG.out
  rw [← hw3] at hG3
  have HG3 := hide hG3
  clear hG3 hw3 HG HC HF
  go_wp2
  go_ret
  exact ⟨rfl, HG3.out.1, Turn.trans ⟨Mvs.of_below HB.out, fun k r hr _ => ⟨r, hr⟩⟩ HG3.out.2⟩
end Go.Proofs.YthhnlkbjpahjeaaGreatDoor

end
