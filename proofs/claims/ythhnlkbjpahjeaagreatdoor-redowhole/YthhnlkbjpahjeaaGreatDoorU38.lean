/- A log's files, read by the law. -/
import Derived.Test.YthhnlkbjpahjeaaGreatDoorU37
namespace Go.Proofs.YthhnlkbjpahjeaaGreatDoor
open Go.RowKit Go.Maps Go.Sort
theorem vac {b : Bool} {p : Prop} (h : b = true) : b = false → p := fun h' => by rw [h] at h'; cases h'
theorem Blk.drw {w : World} {b : Nat} {vs : Array Value} {t : TypeId} (h : Blk w b vs t) : Blk w.drew b vs t := h
set_option maxRecDepth 8000 in
set_option maxHeartbeats 2000000 in
theorem logRead_new (w0 w : World) (l d : Nat) (dead : Bool) (ρ : Nat → Option Role) (s : St) (h : LG w0 w l d dead ρ s) (hoff : s.off = false) (name : List UInt8) (hr : rightB name = true) (hn : (name == redoN) = false) (b : Nat) (fa : FA) (hat : s.D.atKey (.string name) .nil = pd b) (hφ : s.φ b = some fa) (hlen : fa.bytes.length ≤ 1000000) :
    Calls Tryz.prog 17 #[pv l, .string ⟨name.toArray⟩] w fun e w' => ∃ v, e = .returned (.tuple #[v, .bool true]) ∧ Bts w w' v fa.bytes := by
  have HR := hide (read_new w0 w d ρ s h.dk hoff name hr b fa hat hφ hlen)
  have hcl := h.lb.cell
  clear h hat
  unfold pv redoN at *
  go_enter Tryz.func17, Tryz.ntmps17
  go_wp2_with fail
  refine HR.out.mono ?_
  rintro e w1 ⟨v, rfl, hv⟩
  have HV := hide hv
  clear hv HR hcl
  go_wp2_with fail
  go_quiet (fail)
  go_wp2
  go_ret2
  exact ⟨_, rfl, HV.out.then (below_drewN _ _)⟩
section
variable {w0 w : World} {l d : Nat} {dead : Bool} {ρ : Nat → Option Role} {s : St} {p : PD} {Al : List Nm} {B : Nm → Nat} {k j : Nat}
theorem OK.vals (h : OK w0 w d ρ s p Al B k j) (hl : Lim Al B) {W : Nm → Option (List UInt8)} {x : List UInt8} (hC : Calm W redoN x p) {n : Nm} (hn : (W n).isSome = true) (hr : n ≠ redoN) :
    rightB n = true ∧ (n == redoN) = false ∧ ∃ b fa, s.D.atKey (.string n) .nil = pd b ∧ s.φ b = some fa ∧ fa.bytes.length ≤ 1000000 ∧ fa.bytes = (W n).getD [] := by
  have hv := hC.view hr
  unfold PD.view at hv
  cases hb : p.nm n with
  | none =>
    rw [hb] at hv
    rw [← hv] at hn
    cases hn
  | some b =>
    obtain ⟨hat, fa, hφ, hby⟩ := h.at hb
    refine ⟨hl.nm n (h.names hb), by simpa using hr, b, fa, hat, hφ, ?_, ?_⟩
    · have := (h.bd.fn b fa hφ).2.2
      omega
    · rw [hb] at hv
      rw [← hv, ← hby]
      rfl
set_option linter.unusedSimpArgs false in
set_option linter.unusedVariables false in
set_option maxRecDepth 8000 in
set_option maxHeartbeats 40000000 in
theorem files_lo (hl : Lim Al B) (h : LO w0 w l d dead ρ s p Al B k j) (hoff : s.off = false) (hk : k ≤ 10000) {W : Nm → Option (List UInt8)} {x : List UInt8} (hC : Calm W redoN x p) (hW : W redoN = none) :
    Calls Tryz.prog 11 #[pv l] w fun e w' => ∃ vn vb ns bs, e = .returned (.agg #[vn, vb]) ∧ TR w' vn ns ∧ TR w' vb bs ∧ Rep W ns bs ∧ ns.length ≤ 60 ∧ Below w.heap.size w w' := by
  obtain ⟨i0, hi, hz0, hz1, hz2⟩ := info_parts strInfo
  obtain ⟨hkN, hkm⟩ := h.ok.keys
  have hsz := (h.ok.used hl).2
  have hsl : (strKeys s.D).length ≤ 60 := by
    obtain ⟨es, hes⟩ := h.ok.rel.isD
    rw [hes] at hsz ⊢
    show (es.map _).length ≤ 60
    rw [List.length_map]
    exact hsz
  have hne : strKeys s.D ≠ [] := by
    obtain ⟨r, h1, h2, _⟩ := hC.nmr
    intro e
    have := (hkm redoN).2 (by rw [h2]; rfl)
    rw [e] at this
    cases this
  have HL := hide (fun w1 (hb : Below w.heap.size w w1) => logList_ok (h.then hb).lg hoff (by have := h.ok.bd.N; omega) hne (by omega))
  have HR := hide (fun w1 (hb : Below w.heap.size w w1) n (hn : (W n).isSome = true) (hr : n ≠ redoN) => by
    obtain ⟨q1, q2, b, fa, q3, q4, q5, q6⟩ := h.ok.vals hl hC hn hr
    have := logRead_new w0 w1 l d dead ρ s (h.then hb).lg hoff n q1 q2 b fa q3 q4 q5
    rw [q6] at this
    exact this)
  have HP := hide (fun ss hp => h.ok.rep hC hW (ss := ss) hp)
  have HZ := hide hsl
  clear h hC hkN hkm hsz hne hsl
  unfold pv at *
  go_enter Tryz.func11, Tryz.ntmps11
  go_wp2_with fail
  refine (HL.out _ (by (repeat (first | exact Below.refl _ _ | exact below_drewN _ _ | (refine Below.alloc ?_ (by simp) _) | (refine Below.drew ?_))))).mono ?_
  rintro e w1 ⟨v, ss, rfl, hs, ht, hb1, hA⟩
  obtain ⟨hR1, hR2⟩ := HP.out ss hs
  have hS0 : ((ss.mergeSort leB).filter (fun x => !(x == redoN))).length ≤ 60 := Nat.le_trans (List.length_filter_le _ _) (by rw [List.length_mergeSort, hs.length_eq]; exact HZ.out)
  have hS1 : ∀ n ∈ (ss.mergeSort leB).filter (fun x => !(x == redoN)), n ≠ redoN := fun n hn e => by
    have := (List.mem_filter.1 hn).2
    rw [e] at this
    simp at this
  generalize (ss.mergeSort leB).filter (fun x => !(x == redoN)) = S at *
  obtain ⟨A, c, rfl, hc1, hc2⟩ := ht.form
  have HT := hide ht
  obtain ⟨N, hN⟩ : ∃ N, Hid (N = S.length) := ⟨_, rfl⟩
  rw [← hN.out] at hc1 hS0 ⊢
  have HR1 := hide hR1
  have HR2 := hide hR2
  have HS1 := hide hS1
  have HA := hide hA
  have HM0 : Hid (FM w1 w1 (w.heap.size + 1) (.slice none 0 0) (.slice none 0 0) (.slice none 0 0) (.slice none 0 0) 0 0 [] [] none none) := FM.new (Mvs.refl _ _) ((Blk.new1 _ _ _ _).below hb1 (by simp))
  have hr0 := hide ((Blk.alloc (Blk.new w _ _) _).below hb1 (by simp; omega))
  have HB1 : Hid (Below w.heap.size w w1) := Below.trans (by (repeat (first | exact Below.refl _ _ | exact below_drewN _ _ | (refine Below.alloc ?_ (by simp) _) | (refine Below.drew ?_)))) (hb1.mono (by simp; omega))
  clear hs ht hb1 hR1 hR2 hS1 HP HL hA
  go_wp2_with fail
  go_loopw [12] (fun u wr => ∃ (i : Nat) (vn vb : Value) (G1 G2 : Option Nat), u = .int .i64 i ∧ i ≤ N ∧ Hid (FM w1 wr (w.heap.size + 1) vn vb vn vb i i (S.take i) ((S.take i).map (fun n => (W n).getD [])) G1 G2)) (fun u _ => N - (intOf u).toNat)
  case atStart => exact ⟨0, _, _, none, none, rfl, Nat.zero_le _, HM0⟩
  case round =>
    obtain ⟨i, vn, vb, G1, G2, rfl, hiN, HM⟩ := hrel
    by_cases hlt : i < N
    · have hltz : (i : Int) < (N : Int) := by omega
      have z1 : i < S.length := by rw [← hN.out]; exact hlt
      obtain ⟨g1, o1, rfl, k1, r1⟩ := HT.out.at (List.ne_nil_of_length_pos (by omega))
      have q1 : wr.cell? ⟨g1, o1 + i, none⟩ = some (.string ⟨S[i].toArray⟩) := (HM.out.bl.cell (a := ⟨g1, o1 + i, none⟩) k1 (fun e => by
        have := HA.out _ _ _ rfl
        have e' : g1 = w.heap.size + 1 := e
        simp at this
        omega)).trans (r1 i z1)
      have HRD := HR.out wr (HB1.out.trans (HM.out.bl.below (fun k hk e => by omega) HB1.out.size)) S[i] ((HR2.out _).1 (List.getElem_mem z1)) (HS1.out _ (List.getElem_mem z1))
      have HTK : Hid (S.take (i + 1) = S.take i ++ [S[i]]) := by show _ = _; rw [List.take_append_getElem z1]
      generalize S[i] = y at *
      go_wp2_with (go_at_call 17; refine HRD.mono ?_; rintro e w2 ⟨v2, rfl, hbt⟩; replace hbt := hide hbt)
      have HM2 := hide (HM.out.then hbt.out.1)
      have HLT := hide HM2.out.lts
      have HH := hide (HM.out.hold hbt.out)
      obtain ⟨A1, c1, rfl⟩ := HM.out.rn.form
      obtain ⟨A2, c2, rfl⟩ := HM.out.rb.form
      generalize hz : (W y).getD [] = z at *
      have HZ0 := hide hz
      clear hz
      clear HRD HM q1 r1 z1 hbt
      refine regionL 12 (fun W => W.cell? ⟨w.heap.size + 1, 0, none⟩ = some (.slice A1 i c1) ∧ W.cell? ⟨w.heap.size + 1, 1, none⟩ = some (.slice A2 i c2) ∧ (convert 46 9 v2).run Tryz.prog W = .ok (.string ⟨z.toArray⟩) W) (by kernel_rfl) ?_
      have HT0 := HH.out w2.drew (Mvs.refl _ _).drew
      refine takeW (i := 0) (v := (.pointer (some ⟨w.heap.size + 1, 0, none⟩))) rfl (by kernel_rfl) (by kernel_rfl) (by kernel_rfl) rfl (fun _ _ _ h => h) (fun _ => HT0) (Or.inl ⟨by rfl, fun W _ => by go_simp⟩) ?_
      simp only [Act.put, List.getElem_toArray, List.getElem_cons_succ, List.getElem_cons_zero, List.setIfInBounds_toArray, List.set_cons_zero, List.set_cons_succ]
      refine takeL (i := 1) (v := (.slice A1 i c1)) rfl (by kernel_rfl) (by kernel_rfl) (by kernel_rfl) (by kernel_rfl) (by kernel_rfl) (fun _ _ _ h => h) HT0 (Or.inl ⟨by rfl, fun W hW => by obtain ⟨t0, t1, t2⟩ := hW; go_simp⟩) ?_
      simp only [Act.put, List.getElem_toArray, List.getElem_cons_succ, List.getElem_cons_zero, List.setIfInBounds_toArray, List.set_cons_zero, List.set_cons_succ]
      refine takeW (i := 2) (v := (.string ⟨y.toArray⟩)) rfl (by kernel_rfl) (by kernel_rfl) (by kernel_rfl) rfl (fun _ _ _ h => h) (fun _ => HT0) (Or.inl ⟨by rfl, fun W _ => by go_simp⟩) ?_
      simp only [Act.put, List.getElem_toArray, List.getElem_cons_succ, List.getElem_cons_zero, List.setIfInBounds_toArray, List.set_cons_zero, List.set_cons_succ]
      refine takeW (i := 5) (v := (.pointer (some ⟨w.heap.size + 1, 1, none⟩))) rfl (by kernel_rfl) (by kernel_rfl) (by kernel_rfl) rfl (fun _ _ _ h => h) (fun _ => HT0) (Or.inl ⟨by rfl, fun W _ => by go_simp⟩) ?_
      simp only [Act.put, List.getElem_toArray, List.getElem_cons_succ, List.getElem_cons_zero, List.setIfInBounds_toArray, List.set_cons_zero, List.set_cons_succ]
      refine takeL (i := 6) (v := (.slice A2 i c2)) rfl (by kernel_rfl) (by kernel_rfl) (by kernel_rfl) (by kernel_rfl) (by kernel_rfl) (fun _ _ _ h => h) HT0 (Or.inl ⟨by rfl, fun W hW => by obtain ⟨t0, t1, t2⟩ := hW; go_simp⟩) ?_
      simp only [Act.put, List.getElem_toArray, List.getElem_cons_succ, List.getElem_cons_zero, List.setIfInBounds_toArray, List.set_cons_zero, List.set_cons_succ]
      refine takeW (i := 7) (v := v2) rfl (by kernel_rfl) (by kernel_rfl) (by kernel_rfl) rfl (fun _ _ _ h => h) (fun _ => HT0) (Or.inl ⟨by rfl, fun W _ => by go_simp⟩) ?_
      simp only [Act.put, List.getElem_toArray, List.getElem_cons_succ, List.getElem_cons_zero, List.setIfInBounds_toArray, List.set_cons_zero, List.set_cons_succ]
      refine readyL (rs := [3, 8]) (by kernel_rfl) (by simp) ?_
      refine AllL.cons rfl (fun K hK => ?_) (AllL.cons rfl (fun K hK => ?_) AllL.nil)
      · skip
        try simp only [List.getElem_toArray, List.getElem_cons_succ, List.getElem_cons_zero]
        go_simp
        refine hK.out _ _ (fun _ => HH.out _ (by ((repeat (first | exact Mvs.refl _ _ | assumption | (refine Mvs.alloc ?_ _) | (refine Mvs.drew ?_) | (refine Mvs.drewN ?_ _))); done))) (fun HTn => ?_)
        clear HT0
        have HT0 := HTn (by kernel_rfl)
        clear HTn
        clear hK K
        refine readyL (rs := [4, 8]) (by kernel_rfl) (by simp) ?_
        refine AllL.cons rfl (fun K hK => ?_) (AllL.cons rfl (fun K hK => ?_) AllL.nil)
        · skip
          refine step_append_rw (by rfl) (.tmp 24) (.tmp 26) 35 35 (by rfl) 9 i0 (.string ByteArray.empty) 1 16 Tryz.underlying35 hi hz0 hz1 hz2 (by rfl) (by simp [Act.eval, Act.put]) (HM2.out.then (by (repeat (first | exact Below.refl _ _ | exact below_drewN _ _ | (refine Below.alloc ?_ (by simp) _) | (refine Below.drew ?_))))).rn (.slice (some ⟨w2.heap.size, 0, none⟩) 1 1) 1 [encStr y] (by simp [Act.eval, Act.put]) (src_txt (by (first | (simp; done) | (exact ((Blk.new w2 _ _).alloc _).drw.cell 0) | (exact (Blk.new1 w2 _ _ _).drw.cell 0) | (exact ((Blk.new w2 _ _).alloc _).cell 0) | (exact (Blk.new1 w2 _ _ _).cell 0))) (by (first | (simp; done) | (simp; omega) | (simp at hs4 ⊢; omega)))) (by simp only [maxLen]; omega) (by omega) ?_
          intro v4 w4 G4 hr4 hm4 hg4
          obtain ⟨A4, c4, rfl⟩ := hr4.form
          have HM4 := hide ((HM2.out.then (by (repeat (first | exact Below.refl _ _ | exact below_drewN _ _ | (refine Below.alloc ?_ (by simp) _) | (refine Below.drew ?_))))).names hr4 hm4 hg4)
          have HV4 := hide hm4
          have hv4 : Mvs (fun k => some k = G1 ∨ some k = G2) w2 w4 := Mvs.trans (by ((repeat (first | exact Mvs.refl _ _ | assumption | (refine Mvs.alloc ?_ _) | (refine Mvs.drew ?_) | (refine Mvs.drewN ?_ _))); done)) (hm4.mono (fun _ _ e => Or.inl e))
          have hs4 := hm4.size
          clear hr4 hm4 hg4
          refine hK.out _ _ (fun _ => HH.out _ (by ((repeat (first | exact Mvs.refl _ _ | assumption | (refine Mvs.alloc ?_ _) | (refine Mvs.drew ?_) | (refine Mvs.drewN ?_ _))); done))) (fun HTn => ?_)
          clear hK K HT0
          have HT0 := HTn (by kernel_rfl)
          clear HTn
          simp only [Act.put, List.getElem_toArray, List.getElem_cons_succ, List.getElem_cons_zero, List.setIfInBounds_toArray, List.set_cons_zero, List.set_cons_succ]
          refine takeW (i := 11) (v := (.pointer (some ⟨w.heap.size + 1, 0, none⟩))) rfl (by kernel_rfl) (by kernel_rfl) (by kernel_rfl) rfl (fun _ _ _ h => h) (fun _ => HT0) (Or.inl ⟨by rfl, fun W _ => by go_simp⟩) ?_
          simp only [Act.put, List.getElem_toArray, List.getElem_cons_succ, List.getElem_cons_zero, List.setIfInBounds_toArray, List.set_cons_zero, List.set_cons_succ]
          refine readyL (rs := [8]) (by kernel_rfl) (by simp) ?_
          refine AllL.cons rfl (fun K hK => ?_) AllL.nil
          obtain ⟨s0, s1, s2⟩ := id HT0
          try simp only [List.getElem_toArray, List.getElem_cons_succ, List.getElem_cons_zero]
          go_simp
          refine hK.out _ _ (fun _ => HH.out _ (by ((repeat (first | exact Mvs.refl _ _ | assumption | (refine Mvs.alloc ?_ _) | (refine Mvs.drew ?_) | (refine Mvs.drewN ?_ _))); done))) (fun HTn => ?_)
          clear HT0
          have HT0 := HTn (by kernel_rfl)
          clear HTn
          clear hK K s0 s1 s2
          refine readyL (rs := [9]) (by kernel_rfl) (by simp) ?_
          refine AllL.cons rfl (fun K hK => ?_) AllL.nil
          try simp only [List.getElem_toArray, List.getElem_cons_succ, List.getElem_cons_zero]
          go_simp
          refine hK.out _ _ (fun _ => HH.out _ (by ((repeat (first | exact Mvs.refl _ _ | assumption | (refine Mvs.alloc ?_ _) | (refine Mvs.drew ?_) | (refine Mvs.drewN ?_ _))); done))) (fun HTn => ?_)
          clear HT0
          have HT0 := HTn (by kernel_rfl)
          clear HTn
          clear hK K
          refine readyL (rs := [10]) (by kernel_rfl) (by simp) ?_
          refine AllL.cons rfl (fun K hK => ?_) AllL.nil
          refine step_append_rw (by rfl) (.tmp 29) (.tmp 32) 35 35 (by rfl) 9 i0 (.string ByteArray.empty) 1 16 Tryz.underlying35 hi hz0 hz1 hz2 (by rfl) (by simp [Act.eval, Act.put]) (HM4.out.then (by (repeat (first | exact Below.refl _ _ | exact below_drewN _ _ | (refine Below.alloc ?_ (by simp) _) | (refine Below.drew ?_))))).rb (.slice (some ⟨w4.heap.size, 0, none⟩) 1 1) 1 [encStr z] (by simp [Act.eval, Act.put]) (src_txt (by (first | (simp; done) | (exact (Blk.new w4 _ _).drw.cell 0) | (exact (Blk.new w4 _ _).cell 0))) (by (first | (simp; done) | (simp; omega) | (simp at hs4 ⊢; omega)))) (by simp only [maxLen]; omega) (by omega) ?_
          intro v5 w5 G5 hr5 hm5 hg5
          obtain ⟨A5, c5, rfl⟩ := hr5.form
          have HM5 := hide ((HM4.out.then (by (repeat (first | exact Below.refl _ _ | exact below_drewN _ _ | (refine Below.alloc ?_ (by simp) _) | (refine Below.drew ?_))))).texts hr5 hm5 hg5)
          have hcb := HM5.out.blk.cell
          have hfb := HM5.out.blk.frozen
          have hv5 : Mvs (fun k => some k = G1 ∨ some k = G2) w2 w5 := hv4.trans (Mvs.trans (by ((repeat (first | exact Mvs.refl _ _ | assumption | (refine Mvs.alloc ?_ _) | (refine Mvs.drew ?_) | (refine Mvs.drewN ?_ _))); done)) (hm5.mono (fun _ _ e => Or.inr e)))
          clear hr5 hm5 hg5
          refine hK.out _ _ (fun _ => HH.out _ (by ((repeat (first | exact Mvs.refl _ _ | assumption | (refine Mvs.alloc ?_ _) | (refine Mvs.drew ?_) | (refine Mvs.drewN ?_ _))); done))) (fun HTn => ?_)
          clear hK K HT0
          have HT0 := HTn (by kernel_rfl)
          clear HTn
          simp only [Act.put, List.getElem_toArray, List.getElem_cons_succ, List.getElem_cons_zero, List.setIfInBounds_toArray, List.set_cons_zero, List.set_cons_succ]
          refine readyL (rs := [12]) (by kernel_rfl) (by simp) ?_
          refine AllL.cons rfl (fun K hK => ?_) AllL.nil
          try simp only [List.getElem_toArray, List.getElem_cons_succ, List.getElem_cons_zero]
          go_simp
          refine hK.out _ _ (vac (by kernel_rfl)) (fun _ => ?_)
          clear hK K
          refine readyL (rs := [13]) (by kernel_rfl) (by simp) ?_
          refine AllL.cons rfl (fun K hK => ?_) AllL.nil
          try simp only [List.getElem_toArray, List.getElem_cons_succ, List.getElem_cons_zero]
          go_simp
          refine hK.out _ _ (vac (by kernel_rfl)) (fun _ => ?_)
          clear hK K
          refine readyL (rs := [14]) (by kernel_rfl) (by simp) ?_
          refine AllL.cons rfl (fun K hK => ?_) AllL.nil
          try simp only [List.getElem_toArray, List.getElem_cons_succ, List.getElem_cons_zero]
          go_simp
          refine hK.out _ _ (vac (by kernel_rfl)) (fun _ => ?_)
          clear hK K
          refine doneL (by kernel_rfl) ?_ _
          have HE := hide HM5.out.stored
          clear HM4 HM5 HM2 HH hcb hfb hv4 hv5 HV4 hs4 HT0
          go_wp2
          go_roundw
          case measure => simp [intOf]; omega
          case rel => exact ⟨i + 1, _, _, G4, G5, by go_num, by omega, by rw [HTK.out, List.map_append, List.map_cons, List.map_nil, HZ0.out]; exact HE⟩
        · skip
          obtain ⟨s0, s1, s2⟩ := id HT0
          try simp only [List.getElem_toArray, List.getElem_cons_succ, List.getElem_cons_zero]
          go_simp
          refine hK.out _ _ (fun _ => HH.out _ (by ((repeat (first | exact Mvs.refl _ _ | assumption | (refine Mvs.alloc ?_ _) | (refine Mvs.drew ?_) | (refine Mvs.drewN ?_ _))); done))) (fun HTn => ?_)
          clear HT0
          have HT0 := HTn (by kernel_rfl)
          clear HTn
          clear hK K s0 s1 s2
          refine readyL (rs := [4, 9]) (by kernel_rfl) (by simp) ?_
          refine AllL.cons rfl (fun K hK => ?_) (AllL.cons rfl (fun K hK => ?_) AllL.nil)
          · skip
            refine step_append_rw (by rfl) (.tmp 24) (.tmp 26) 35 35 (by rfl) 9 i0 (.string ByteArray.empty) 1 16 Tryz.underlying35 hi hz0 hz1 hz2 (by rfl) (by simp [Act.eval, Act.put]) (HM2.out.then (by (repeat (first | exact Below.refl _ _ | exact below_drewN _ _ | (refine Below.alloc ?_ (by simp) _) | (refine Below.drew ?_))))).rn (.slice (some ⟨w2.heap.size, 0, none⟩) 1 1) 1 [encStr y] (by simp [Act.eval, Act.put]) (src_txt (by (first | (simp; done) | (exact ((Blk.new w2 _ _).alloc _).drw.cell 0) | (exact (Blk.new1 w2 _ _ _).drw.cell 0) | (exact ((Blk.new w2 _ _).alloc _).cell 0) | (exact (Blk.new1 w2 _ _ _).cell 0))) (by (first | (simp; done) | (simp; omega) | (simp at hs4 ⊢; omega)))) (by simp only [maxLen]; omega) (by omega) ?_
            intro v4 w4 G4 hr4 hm4 hg4
            obtain ⟨A4, c4, rfl⟩ := hr4.form
            have HM4 := hide ((HM2.out.then (by (repeat (first | exact Below.refl _ _ | exact below_drewN _ _ | (refine Below.alloc ?_ (by simp) _) | (refine Below.drew ?_))))).names hr4 hm4 hg4)
            have HV4 := hide hm4
            have hv4 : Mvs (fun k => some k = G1 ∨ some k = G2) w2 w4 := Mvs.trans (by ((repeat (first | exact Mvs.refl _ _ | assumption | (refine Mvs.alloc ?_ _) | (refine Mvs.drew ?_) | (refine Mvs.drewN ?_ _))); done)) (hm4.mono (fun _ _ e => Or.inl e))
            have hs4 := hm4.size
            clear hr4 hm4 hg4
            refine hK.out _ _ (fun _ => HH.out _ (by ((repeat (first | exact Mvs.refl _ _ | assumption | (refine Mvs.alloc ?_ _) | (refine Mvs.drew ?_) | (refine Mvs.drewN ?_ _))); done))) (fun HTn => ?_)
            clear hK K HT0
            have HT0 := HTn (by kernel_rfl)
            clear HTn
            simp only [Act.put, List.getElem_toArray, List.getElem_cons_succ, List.getElem_cons_zero, List.setIfInBounds_toArray, List.set_cons_zero, List.set_cons_succ]
            refine takeW (i := 11) (v := (.pointer (some ⟨w.heap.size + 1, 0, none⟩))) rfl (by kernel_rfl) (by kernel_rfl) (by kernel_rfl) rfl (fun _ _ _ h => h) (fun _ => HT0) (Or.inl ⟨by rfl, fun W _ => by go_simp⟩) ?_
            simp only [Act.put, List.getElem_toArray, List.getElem_cons_succ, List.getElem_cons_zero, List.setIfInBounds_toArray, List.set_cons_zero, List.set_cons_succ]
            refine readyL (rs := [9]) (by kernel_rfl) (by simp) ?_
            refine AllL.cons rfl (fun K hK => ?_) AllL.nil
            try simp only [List.getElem_toArray, List.getElem_cons_succ, List.getElem_cons_zero]
            go_simp
            refine hK.out _ _ (fun _ => HH.out _ (by ((repeat (first | exact Mvs.refl _ _ | assumption | (refine Mvs.alloc ?_ _) | (refine Mvs.drew ?_) | (refine Mvs.drewN ?_ _))); done))) (fun HTn => ?_)
            clear HT0
            have HT0 := HTn (by kernel_rfl)
            clear HTn
            clear hK K
            refine readyL (rs := [10]) (by kernel_rfl) (by simp) ?_
            refine AllL.cons rfl (fun K hK => ?_) AllL.nil
            refine step_append_rw (by rfl) (.tmp 29) (.tmp 32) 35 35 (by rfl) 9 i0 (.string ByteArray.empty) 1 16 Tryz.underlying35 hi hz0 hz1 hz2 (by rfl) (by simp [Act.eval, Act.put]) (HM4.out.then (by (repeat (first | exact Below.refl _ _ | exact below_drewN _ _ | (refine Below.alloc ?_ (by simp) _) | (refine Below.drew ?_))))).rb (.slice (some ⟨w4.heap.size, 0, none⟩) 1 1) 1 [encStr z] (by simp [Act.eval, Act.put]) (src_txt (by (first | (simp; done) | (exact (Blk.new w4 _ _).drw.cell 0) | (exact (Blk.new w4 _ _).cell 0))) (by (first | (simp; done) | (simp; omega) | (simp at hs4 ⊢; omega)))) (by simp only [maxLen]; omega) (by omega) ?_
            intro v5 w5 G5 hr5 hm5 hg5
            obtain ⟨A5, c5, rfl⟩ := hr5.form
            have HM5 := hide ((HM4.out.then (by (repeat (first | exact Below.refl _ _ | exact below_drewN _ _ | (refine Below.alloc ?_ (by simp) _) | (refine Below.drew ?_))))).texts hr5 hm5 hg5)
            have hcb := HM5.out.blk.cell
            have hfb := HM5.out.blk.frozen
            have hv5 : Mvs (fun k => some k = G1 ∨ some k = G2) w2 w5 := hv4.trans (Mvs.trans (by ((repeat (first | exact Mvs.refl _ _ | assumption | (refine Mvs.alloc ?_ _) | (refine Mvs.drew ?_) | (refine Mvs.drewN ?_ _))); done)) (hm5.mono (fun _ _ e => Or.inr e)))
            clear hr5 hm5 hg5
            refine hK.out _ _ (fun _ => HH.out _ (by ((repeat (first | exact Mvs.refl _ _ | assumption | (refine Mvs.alloc ?_ _) | (refine Mvs.drew ?_) | (refine Mvs.drewN ?_ _))); done))) (fun HTn => ?_)
            clear hK K HT0
            have HT0 := HTn (by kernel_rfl)
            clear HTn
            simp only [Act.put, List.getElem_toArray, List.getElem_cons_succ, List.getElem_cons_zero, List.setIfInBounds_toArray, List.set_cons_zero, List.set_cons_succ]
            refine readyL (rs := [12]) (by kernel_rfl) (by simp) ?_
            refine AllL.cons rfl (fun K hK => ?_) AllL.nil
            try simp only [List.getElem_toArray, List.getElem_cons_succ, List.getElem_cons_zero]
            go_simp
            refine hK.out _ _ (vac (by kernel_rfl)) (fun _ => ?_)
            clear hK K
            refine readyL (rs := [13]) (by kernel_rfl) (by simp) ?_
            refine AllL.cons rfl (fun K hK => ?_) AllL.nil
            try simp only [List.getElem_toArray, List.getElem_cons_succ, List.getElem_cons_zero]
            go_simp
            refine hK.out _ _ (vac (by kernel_rfl)) (fun _ => ?_)
            clear hK K
            refine readyL (rs := [14]) (by kernel_rfl) (by simp) ?_
            refine AllL.cons rfl (fun K hK => ?_) AllL.nil
            try simp only [List.getElem_toArray, List.getElem_cons_succ, List.getElem_cons_zero]
            go_simp
            refine hK.out _ _ (vac (by kernel_rfl)) (fun _ => ?_)
            clear hK K
            refine doneL (by kernel_rfl) ?_ _
            have HE := hide HM5.out.stored
            clear HM4 HM5 HM2 HH hcb hfb hv4 hv5 HV4 hs4 HT0
            go_wp2
            go_roundw
            case measure => simp [intOf]; omega
            case rel => exact ⟨i + 1, _, _, G4, G5, by go_num, by omega, by rw [HTK.out, List.map_append, List.map_cons, List.map_nil, HZ0.out]; exact HE⟩
          · skip
            try simp only [List.getElem_toArray, List.getElem_cons_succ, List.getElem_cons_zero]
            go_simp
            refine hK.out _ _ (fun _ => HH.out _ (by ((repeat (first | exact Mvs.refl _ _ | assumption | (refine Mvs.alloc ?_ _) | (refine Mvs.drew ?_) | (refine Mvs.drewN ?_ _))); done))) (fun HTn => ?_)
            clear HT0
            have HT0 := HTn (by kernel_rfl)
            clear HTn
            clear hK K
            refine readyL (rs := [4]) (by kernel_rfl) (by simp) ?_
            refine AllL.cons rfl (fun K hK => ?_) AllL.nil
            refine step_append_rw (by rfl) (.tmp 24) (.tmp 26) 35 35 (by rfl) 9 i0 (.string ByteArray.empty) 1 16 Tryz.underlying35 hi hz0 hz1 hz2 (by rfl) (by simp [Act.eval, Act.put]) (HM2.out.then (by (repeat (first | exact Below.refl _ _ | exact below_drewN _ _ | (refine Below.alloc ?_ (by simp) _) | (refine Below.drew ?_))))).rn (.slice (some ⟨w2.heap.size, 0, none⟩) 1 1) 1 [encStr y] (by simp [Act.eval, Act.put]) (src_txt (by (first | (simp; done) | (exact ((Blk.new w2 _ _).alloc _).drw.cell 0) | (exact (Blk.new1 w2 _ _ _).drw.cell 0) | (exact ((Blk.new w2 _ _).alloc _).cell 0) | (exact (Blk.new1 w2 _ _ _).cell 0))) (by (first | (simp; done) | (simp; omega) | (simp at hs4 ⊢; omega)))) (by simp only [maxLen]; omega) (by omega) ?_
            intro v4 w4 G4 hr4 hm4 hg4
            obtain ⟨A4, c4, rfl⟩ := hr4.form
            have HM4 := hide ((HM2.out.then (by (repeat (first | exact Below.refl _ _ | exact below_drewN _ _ | (refine Below.alloc ?_ (by simp) _) | (refine Below.drew ?_))))).names hr4 hm4 hg4)
            have HV4 := hide hm4
            have hv4 : Mvs (fun k => some k = G1 ∨ some k = G2) w2 w4 := Mvs.trans (by ((repeat (first | exact Mvs.refl _ _ | assumption | (refine Mvs.alloc ?_ _) | (refine Mvs.drew ?_) | (refine Mvs.drewN ?_ _))); done)) (hm4.mono (fun _ _ e => Or.inl e))
            have hs4 := hm4.size
            clear hr4 hm4 hg4
            refine hK.out _ _ (fun _ => HH.out _ (by ((repeat (first | exact Mvs.refl _ _ | assumption | (refine Mvs.alloc ?_ _) | (refine Mvs.drew ?_) | (refine Mvs.drewN ?_ _))); done))) (fun HTn => ?_)
            clear hK K HT0
            have HT0 := HTn (by kernel_rfl)
            clear HTn
            simp only [Act.put, List.getElem_toArray, List.getElem_cons_succ, List.getElem_cons_zero, List.setIfInBounds_toArray, List.set_cons_zero, List.set_cons_succ]
            refine takeW (i := 11) (v := (.pointer (some ⟨w.heap.size + 1, 0, none⟩))) rfl (by kernel_rfl) (by kernel_rfl) (by kernel_rfl) rfl (fun _ _ _ h => h) (fun _ => HT0) (Or.inl ⟨by rfl, fun W _ => by go_simp⟩) ?_
            simp only [Act.put, List.getElem_toArray, List.getElem_cons_succ, List.getElem_cons_zero, List.setIfInBounds_toArray, List.set_cons_zero, List.set_cons_succ]
            refine readyL (rs := [10]) (by kernel_rfl) (by simp) ?_
            refine AllL.cons rfl (fun K hK => ?_) AllL.nil
            refine step_append_rw (by rfl) (.tmp 29) (.tmp 32) 35 35 (by rfl) 9 i0 (.string ByteArray.empty) 1 16 Tryz.underlying35 hi hz0 hz1 hz2 (by rfl) (by simp [Act.eval, Act.put]) (HM4.out.then (by (repeat (first | exact Below.refl _ _ | exact below_drewN _ _ | (refine Below.alloc ?_ (by simp) _) | (refine Below.drew ?_))))).rb (.slice (some ⟨(w2.heap.size + 1), 0, none⟩) 1 1) 1 [encStr z] (by simp [Act.eval, Act.put]) (src_txt (by (exact (HV4.out.cell (a := ⟨(w2.heap.size + 1), 0, none⟩) (by first | (simp; done) | (simp; omega)) (by intro e; have h2 : (w2.heap.size + 1) < w2.heap.size := HLT.out _ (Or.inl e.symm); omega)).trans (by (first | (simp; done) | (exact ((Blk.new w2 _ _).alloc _).drw.cell 0) | (exact (Blk.new1 w2 _ _ _).drw.cell 0) | (exact ((Blk.new w2 _ _).alloc _).cell 0) | (exact (Blk.new1 w2 _ _ _).cell 0))))) (by (first | (simp; done) | (simp; omega) | (simp at hs4 ⊢; omega)))) (by simp only [maxLen]; omega) (by omega) ?_
            intro v5 w5 G5 hr5 hm5 hg5
            obtain ⟨A5, c5, rfl⟩ := hr5.form
            have HM5 := hide ((HM4.out.then (by (repeat (first | exact Below.refl _ _ | exact below_drewN _ _ | (refine Below.alloc ?_ (by simp) _) | (refine Below.drew ?_))))).texts hr5 hm5 hg5)
            have hcb := HM5.out.blk.cell
            have hfb := HM5.out.blk.frozen
            have hv5 : Mvs (fun k => some k = G1 ∨ some k = G2) w2 w5 := hv4.trans (Mvs.trans (by ((repeat (first | exact Mvs.refl _ _ | assumption | (refine Mvs.alloc ?_ _) | (refine Mvs.drew ?_) | (refine Mvs.drewN ?_ _))); done)) (hm5.mono (fun _ _ e => Or.inr e)))
            clear hr5 hm5 hg5
            refine hK.out _ _ (fun _ => HH.out _ (by ((repeat (first | exact Mvs.refl _ _ | assumption | (refine Mvs.alloc ?_ _) | (refine Mvs.drew ?_) | (refine Mvs.drewN ?_ _))); done))) (fun HTn => ?_)
            clear hK K HT0
            have HT0 := HTn (by kernel_rfl)
            clear HTn
            simp only [Act.put, List.getElem_toArray, List.getElem_cons_succ, List.getElem_cons_zero, List.setIfInBounds_toArray, List.set_cons_zero, List.set_cons_succ]
            refine readyL (rs := [12]) (by kernel_rfl) (by simp) ?_
            refine AllL.cons rfl (fun K hK => ?_) AllL.nil
            try simp only [List.getElem_toArray, List.getElem_cons_succ, List.getElem_cons_zero]
            go_simp
            refine hK.out _ _ (vac (by kernel_rfl)) (fun _ => ?_)
            clear hK K
            refine readyL (rs := [13]) (by kernel_rfl) (by simp) ?_
            refine AllL.cons rfl (fun K hK => ?_) AllL.nil
            try simp only [List.getElem_toArray, List.getElem_cons_succ, List.getElem_cons_zero]
            go_simp
            refine hK.out _ _ (vac (by kernel_rfl)) (fun _ => ?_)
            clear hK K
            refine readyL (rs := [14]) (by kernel_rfl) (by simp) ?_
            refine AllL.cons rfl (fun K hK => ?_) AllL.nil
            try simp only [List.getElem_toArray, List.getElem_cons_succ, List.getElem_cons_zero]
            go_simp
            refine hK.out _ _ (vac (by kernel_rfl)) (fun _ => ?_)
            clear hK K
            refine doneL (by kernel_rfl) ?_ _
            have HE := hide HM5.out.stored
            clear HM4 HM5 HM2 HH hcb hfb hv4 hv5 HV4 hs4 HT0
            go_wp2
            go_roundw
            case measure => simp [intOf]; omega
            case rel => exact ⟨i + 1, _, _, G4, G5, by go_num, by omega, by rw [HTK.out, List.map_append, List.map_cons, List.map_nil, HZ0.out]; exact HE⟩
      · skip
        obtain ⟨s0, s1, s2⟩ := id HT0
        try simp only [List.getElem_toArray, List.getElem_cons_succ, List.getElem_cons_zero]
        go_simp
        refine hK.out _ _ (fun _ => HH.out _ (by ((repeat (first | exact Mvs.refl _ _ | assumption | (refine Mvs.alloc ?_ _) | (refine Mvs.drew ?_) | (refine Mvs.drewN ?_ _))); done))) (fun HTn => ?_)
        clear HT0
        have HT0 := HTn (by kernel_rfl)
        clear HTn
        clear hK K s0 s1 s2
        refine readyL (rs := [3, 9]) (by kernel_rfl) (by simp) ?_
        refine AllL.cons rfl (fun K hK => ?_) (AllL.cons rfl (fun K hK => ?_) AllL.nil)
        · skip
          try simp only [List.getElem_toArray, List.getElem_cons_succ, List.getElem_cons_zero]
          go_simp
          refine hK.out _ _ (fun _ => HH.out _ (by ((repeat (first | exact Mvs.refl _ _ | assumption | (refine Mvs.alloc ?_ _) | (refine Mvs.drew ?_) | (refine Mvs.drewN ?_ _))); done))) (fun HTn => ?_)
          clear HT0
          have HT0 := HTn (by kernel_rfl)
          clear HTn
          clear hK K
          refine readyL (rs := [4, 9]) (by kernel_rfl) (by simp) ?_
          refine AllL.cons rfl (fun K hK => ?_) (AllL.cons rfl (fun K hK => ?_) AllL.nil)
          · skip
            refine step_append_rw (by rfl) (.tmp 24) (.tmp 26) 35 35 (by rfl) 9 i0 (.string ByteArray.empty) 1 16 Tryz.underlying35 hi hz0 hz1 hz2 (by rfl) (by simp [Act.eval, Act.put]) (HM2.out.then (by (repeat (first | exact Below.refl _ _ | exact below_drewN _ _ | (refine Below.alloc ?_ (by simp) _) | (refine Below.drew ?_))))).rn (.slice (some ⟨w2.heap.size, 0, none⟩) 1 1) 1 [encStr y] (by simp [Act.eval, Act.put]) (src_txt (by (first | (simp; done) | (exact ((Blk.new w2 _ _).alloc _).drw.cell 0) | (exact (Blk.new1 w2 _ _ _).drw.cell 0) | (exact ((Blk.new w2 _ _).alloc _).cell 0) | (exact (Blk.new1 w2 _ _ _).cell 0))) (by (first | (simp; done) | (simp; omega) | (simp at hs4 ⊢; omega)))) (by simp only [maxLen]; omega) (by omega) ?_
            intro v4 w4 G4 hr4 hm4 hg4
            obtain ⟨A4, c4, rfl⟩ := hr4.form
            have HM4 := hide ((HM2.out.then (by (repeat (first | exact Below.refl _ _ | exact below_drewN _ _ | (refine Below.alloc ?_ (by simp) _) | (refine Below.drew ?_))))).names hr4 hm4 hg4)
            have HV4 := hide hm4
            have hv4 : Mvs (fun k => some k = G1 ∨ some k = G2) w2 w4 := Mvs.trans (by ((repeat (first | exact Mvs.refl _ _ | assumption | (refine Mvs.alloc ?_ _) | (refine Mvs.drew ?_) | (refine Mvs.drewN ?_ _))); done)) (hm4.mono (fun _ _ e => Or.inl e))
            have hs4 := hm4.size
            clear hr4 hm4 hg4
            refine hK.out _ _ (fun _ => HH.out _ (by ((repeat (first | exact Mvs.refl _ _ | assumption | (refine Mvs.alloc ?_ _) | (refine Mvs.drew ?_) | (refine Mvs.drewN ?_ _))); done))) (fun HTn => ?_)
            clear hK K HT0
            have HT0 := HTn (by kernel_rfl)
            clear HTn
            simp only [Act.put, List.getElem_toArray, List.getElem_cons_succ, List.getElem_cons_zero, List.setIfInBounds_toArray, List.set_cons_zero, List.set_cons_succ]
            refine takeW (i := 11) (v := (.pointer (some ⟨w.heap.size + 1, 0, none⟩))) rfl (by kernel_rfl) (by kernel_rfl) (by kernel_rfl) rfl (fun _ _ _ h => h) (fun _ => HT0) (Or.inl ⟨by rfl, fun W _ => by go_simp⟩) ?_
            simp only [Act.put, List.getElem_toArray, List.getElem_cons_succ, List.getElem_cons_zero, List.setIfInBounds_toArray, List.set_cons_zero, List.set_cons_succ]
            refine readyL (rs := [9]) (by kernel_rfl) (by simp) ?_
            refine AllL.cons rfl (fun K hK => ?_) AllL.nil
            try simp only [List.getElem_toArray, List.getElem_cons_succ, List.getElem_cons_zero]
            go_simp
            refine hK.out _ _ (fun _ => HH.out _ (by ((repeat (first | exact Mvs.refl _ _ | assumption | (refine Mvs.alloc ?_ _) | (refine Mvs.drew ?_) | (refine Mvs.drewN ?_ _))); done))) (fun HTn => ?_)
            clear HT0
            have HT0 := HTn (by kernel_rfl)
            clear HTn
            clear hK K
            refine readyL (rs := [10]) (by kernel_rfl) (by simp) ?_
            refine AllL.cons rfl (fun K hK => ?_) AllL.nil
            refine step_append_rw (by rfl) (.tmp 29) (.tmp 32) 35 35 (by rfl) 9 i0 (.string ByteArray.empty) 1 16 Tryz.underlying35 hi hz0 hz1 hz2 (by rfl) (by simp [Act.eval, Act.put]) (HM4.out.then (by (repeat (first | exact Below.refl _ _ | exact below_drewN _ _ | (refine Below.alloc ?_ (by simp) _) | (refine Below.drew ?_))))).rb (.slice (some ⟨w4.heap.size, 0, none⟩) 1 1) 1 [encStr z] (by simp [Act.eval, Act.put]) (src_txt (by (first | (simp; done) | (exact (Blk.new w4 _ _).drw.cell 0) | (exact (Blk.new w4 _ _).cell 0))) (by (first | (simp; done) | (simp; omega) | (simp at hs4 ⊢; omega)))) (by simp only [maxLen]; omega) (by omega) ?_
            intro v5 w5 G5 hr5 hm5 hg5
            obtain ⟨A5, c5, rfl⟩ := hr5.form
            have HM5 := hide ((HM4.out.then (by (repeat (first | exact Below.refl _ _ | exact below_drewN _ _ | (refine Below.alloc ?_ (by simp) _) | (refine Below.drew ?_))))).texts hr5 hm5 hg5)
            have hcb := HM5.out.blk.cell
            have hfb := HM5.out.blk.frozen
            have hv5 : Mvs (fun k => some k = G1 ∨ some k = G2) w2 w5 := hv4.trans (Mvs.trans (by ((repeat (first | exact Mvs.refl _ _ | assumption | (refine Mvs.alloc ?_ _) | (refine Mvs.drew ?_) | (refine Mvs.drewN ?_ _))); done)) (hm5.mono (fun _ _ e => Or.inr e)))
            clear hr5 hm5 hg5
            refine hK.out _ _ (fun _ => HH.out _ (by ((repeat (first | exact Mvs.refl _ _ | assumption | (refine Mvs.alloc ?_ _) | (refine Mvs.drew ?_) | (refine Mvs.drewN ?_ _))); done))) (fun HTn => ?_)
            clear hK K HT0
            have HT0 := HTn (by kernel_rfl)
            clear HTn
            simp only [Act.put, List.getElem_toArray, List.getElem_cons_succ, List.getElem_cons_zero, List.setIfInBounds_toArray, List.set_cons_zero, List.set_cons_succ]
            refine readyL (rs := [12]) (by kernel_rfl) (by simp) ?_
            refine AllL.cons rfl (fun K hK => ?_) AllL.nil
            try simp only [List.getElem_toArray, List.getElem_cons_succ, List.getElem_cons_zero]
            go_simp
            refine hK.out _ _ (vac (by kernel_rfl)) (fun _ => ?_)
            clear hK K
            refine readyL (rs := [13]) (by kernel_rfl) (by simp) ?_
            refine AllL.cons rfl (fun K hK => ?_) AllL.nil
            try simp only [List.getElem_toArray, List.getElem_cons_succ, List.getElem_cons_zero]
            go_simp
            refine hK.out _ _ (vac (by kernel_rfl)) (fun _ => ?_)
            clear hK K
            refine readyL (rs := [14]) (by kernel_rfl) (by simp) ?_
            refine AllL.cons rfl (fun K hK => ?_) AllL.nil
            try simp only [List.getElem_toArray, List.getElem_cons_succ, List.getElem_cons_zero]
            go_simp
            refine hK.out _ _ (vac (by kernel_rfl)) (fun _ => ?_)
            clear hK K
            refine doneL (by kernel_rfl) ?_ _
            have HE := hide HM5.out.stored
            clear HM4 HM5 HM2 HH hcb hfb hv4 hv5 HV4 hs4 HT0
            go_wp2
            go_roundw
            case measure => simp [intOf]; omega
            case rel => exact ⟨i + 1, _, _, G4, G5, by go_num, by omega, by rw [HTK.out, List.map_append, List.map_cons, List.map_nil, HZ0.out]; exact HE⟩
          · skip
            try simp only [List.getElem_toArray, List.getElem_cons_succ, List.getElem_cons_zero]
            go_simp
            refine hK.out _ _ (fun _ => HH.out _ (by ((repeat (first | exact Mvs.refl _ _ | assumption | (refine Mvs.alloc ?_ _) | (refine Mvs.drew ?_) | (refine Mvs.drewN ?_ _))); done))) (fun HTn => ?_)
            clear HT0
            have HT0 := HTn (by kernel_rfl)
            clear HTn
            clear hK K
            refine readyL (rs := [4]) (by kernel_rfl) (by simp) ?_
            refine AllL.cons rfl (fun K hK => ?_) AllL.nil
            refine step_append_rw (by rfl) (.tmp 24) (.tmp 26) 35 35 (by rfl) 9 i0 (.string ByteArray.empty) 1 16 Tryz.underlying35 hi hz0 hz1 hz2 (by rfl) (by simp [Act.eval, Act.put]) (HM2.out.then (by (repeat (first | exact Below.refl _ _ | exact below_drewN _ _ | (refine Below.alloc ?_ (by simp) _) | (refine Below.drew ?_))))).rn (.slice (some ⟨w2.heap.size, 0, none⟩) 1 1) 1 [encStr y] (by simp [Act.eval, Act.put]) (src_txt (by (first | (simp; done) | (exact ((Blk.new w2 _ _).alloc _).drw.cell 0) | (exact (Blk.new1 w2 _ _ _).drw.cell 0) | (exact ((Blk.new w2 _ _).alloc _).cell 0) | (exact (Blk.new1 w2 _ _ _).cell 0))) (by (first | (simp; done) | (simp; omega) | (simp at hs4 ⊢; omega)))) (by simp only [maxLen]; omega) (by omega) ?_
            intro v4 w4 G4 hr4 hm4 hg4
            obtain ⟨A4, c4, rfl⟩ := hr4.form
            have HM4 := hide ((HM2.out.then (by (repeat (first | exact Below.refl _ _ | exact below_drewN _ _ | (refine Below.alloc ?_ (by simp) _) | (refine Below.drew ?_))))).names hr4 hm4 hg4)
            have HV4 := hide hm4
            have hv4 : Mvs (fun k => some k = G1 ∨ some k = G2) w2 w4 := Mvs.trans (by ((repeat (first | exact Mvs.refl _ _ | assumption | (refine Mvs.alloc ?_ _) | (refine Mvs.drew ?_) | (refine Mvs.drewN ?_ _))); done)) (hm4.mono (fun _ _ e => Or.inl e))
            have hs4 := hm4.size
            clear hr4 hm4 hg4
            refine hK.out _ _ (fun _ => HH.out _ (by ((repeat (first | exact Mvs.refl _ _ | assumption | (refine Mvs.alloc ?_ _) | (refine Mvs.drew ?_) | (refine Mvs.drewN ?_ _))); done))) (fun HTn => ?_)
            clear hK K HT0
            have HT0 := HTn (by kernel_rfl)
            clear HTn
            simp only [Act.put, List.getElem_toArray, List.getElem_cons_succ, List.getElem_cons_zero, List.setIfInBounds_toArray, List.set_cons_zero, List.set_cons_succ]
            refine takeW (i := 11) (v := (.pointer (some ⟨w.heap.size + 1, 0, none⟩))) rfl (by kernel_rfl) (by kernel_rfl) (by kernel_rfl) rfl (fun _ _ _ h => h) (fun _ => HT0) (Or.inl ⟨by rfl, fun W _ => by go_simp⟩) ?_
            simp only [Act.put, List.getElem_toArray, List.getElem_cons_succ, List.getElem_cons_zero, List.setIfInBounds_toArray, List.set_cons_zero, List.set_cons_succ]
            refine readyL (rs := [10]) (by kernel_rfl) (by simp) ?_
            refine AllL.cons rfl (fun K hK => ?_) AllL.nil
            refine step_append_rw (by rfl) (.tmp 29) (.tmp 32) 35 35 (by rfl) 9 i0 (.string ByteArray.empty) 1 16 Tryz.underlying35 hi hz0 hz1 hz2 (by rfl) (by simp [Act.eval, Act.put]) (HM4.out.then (by (repeat (first | exact Below.refl _ _ | exact below_drewN _ _ | (refine Below.alloc ?_ (by simp) _) | (refine Below.drew ?_))))).rb (.slice (some ⟨(w2.heap.size + 1), 0, none⟩) 1 1) 1 [encStr z] (by simp [Act.eval, Act.put]) (src_txt (by (exact (HV4.out.cell (a := ⟨(w2.heap.size + 1), 0, none⟩) (by first | (simp; done) | (simp; omega)) (by intro e; have h2 : (w2.heap.size + 1) < w2.heap.size := HLT.out _ (Or.inl e.symm); omega)).trans (by (first | (simp; done) | (exact ((Blk.new w2 _ _).alloc _).drw.cell 0) | (exact (Blk.new1 w2 _ _ _).drw.cell 0) | (exact ((Blk.new w2 _ _).alloc _).cell 0) | (exact (Blk.new1 w2 _ _ _).cell 0))))) (by (first | (simp; done) | (simp; omega) | (simp at hs4 ⊢; omega)))) (by simp only [maxLen]; omega) (by omega) ?_
            intro v5 w5 G5 hr5 hm5 hg5
            obtain ⟨A5, c5, rfl⟩ := hr5.form
            have HM5 := hide ((HM4.out.then (by (repeat (first | exact Below.refl _ _ | exact below_drewN _ _ | (refine Below.alloc ?_ (by simp) _) | (refine Below.drew ?_))))).texts hr5 hm5 hg5)
            have hcb := HM5.out.blk.cell
            have hfb := HM5.out.blk.frozen
            have hv5 : Mvs (fun k => some k = G1 ∨ some k = G2) w2 w5 := hv4.trans (Mvs.trans (by ((repeat (first | exact Mvs.refl _ _ | assumption | (refine Mvs.alloc ?_ _) | (refine Mvs.drew ?_) | (refine Mvs.drewN ?_ _))); done)) (hm5.mono (fun _ _ e => Or.inr e)))
            clear hr5 hm5 hg5
            refine hK.out _ _ (fun _ => HH.out _ (by ((repeat (first | exact Mvs.refl _ _ | assumption | (refine Mvs.alloc ?_ _) | (refine Mvs.drew ?_) | (refine Mvs.drewN ?_ _))); done))) (fun HTn => ?_)
            clear hK K HT0
            have HT0 := HTn (by kernel_rfl)
            clear HTn
            simp only [Act.put, List.getElem_toArray, List.getElem_cons_succ, List.getElem_cons_zero, List.setIfInBounds_toArray, List.set_cons_zero, List.set_cons_succ]
            refine readyL (rs := [12]) (by kernel_rfl) (by simp) ?_
            refine AllL.cons rfl (fun K hK => ?_) AllL.nil
            try simp only [List.getElem_toArray, List.getElem_cons_succ, List.getElem_cons_zero]
            go_simp
            refine hK.out _ _ (vac (by kernel_rfl)) (fun _ => ?_)
            clear hK K
            refine readyL (rs := [13]) (by kernel_rfl) (by simp) ?_
            refine AllL.cons rfl (fun K hK => ?_) AllL.nil
            try simp only [List.getElem_toArray, List.getElem_cons_succ, List.getElem_cons_zero]
            go_simp
            refine hK.out _ _ (vac (by kernel_rfl)) (fun _ => ?_)
            clear hK K
            refine readyL (rs := [14]) (by kernel_rfl) (by simp) ?_
            refine AllL.cons rfl (fun K hK => ?_) AllL.nil
            try simp only [List.getElem_toArray, List.getElem_cons_succ, List.getElem_cons_zero]
            go_simp
            refine hK.out _ _ (vac (by kernel_rfl)) (fun _ => ?_)
            clear hK K
            refine doneL (by kernel_rfl) ?_ _
            have HE := hide HM5.out.stored
            clear HM4 HM5 HM2 HH hcb hfb hv4 hv5 HV4 hs4 HT0
            go_wp2
            go_roundw
            case measure => simp [intOf]; omega
            case rel => exact ⟨i + 1, _, _, G4, G5, by go_num, by omega, by rw [HTK.out, List.map_append, List.map_cons, List.map_nil, HZ0.out]; exact HE⟩
        · skip
          try simp only [List.getElem_toArray, List.getElem_cons_succ, List.getElem_cons_zero]
          go_simp
          refine hK.out _ _ (fun _ => HH.out _ (by ((repeat (first | exact Mvs.refl _ _ | assumption | (refine Mvs.alloc ?_ _) | (refine Mvs.drew ?_) | (refine Mvs.drewN ?_ _))); done))) (fun HTn => ?_)
          clear HT0
          have HT0 := HTn (by kernel_rfl)
          clear HTn
          clear hK K
          refine readyL (rs := [3]) (by kernel_rfl) (by simp) ?_
          refine AllL.cons rfl (fun K hK => ?_) AllL.nil
          try simp only [List.getElem_toArray, List.getElem_cons_succ, List.getElem_cons_zero]
          go_simp
          refine hK.out _ _ (fun _ => HH.out _ (by ((repeat (first | exact Mvs.refl _ _ | assumption | (refine Mvs.alloc ?_ _) | (refine Mvs.drew ?_) | (refine Mvs.drewN ?_ _))); done))) (fun HTn => ?_)
          clear HT0
          have HT0 := HTn (by kernel_rfl)
          clear HTn
          clear hK K
          refine readyL (rs := [4]) (by kernel_rfl) (by simp) ?_
          refine AllL.cons rfl (fun K hK => ?_) AllL.nil
          refine step_append_rw (by rfl) (.tmp 24) (.tmp 26) 35 35 (by rfl) 9 i0 (.string ByteArray.empty) 1 16 Tryz.underlying35 hi hz0 hz1 hz2 (by rfl) (by simp [Act.eval, Act.put]) (HM2.out.then (by (repeat (first | exact Below.refl _ _ | exact below_drewN _ _ | (refine Below.alloc ?_ (by simp) _) | (refine Below.drew ?_))))).rn (.slice (some ⟨(w2.heap.size + 1), 0, none⟩) 1 1) 1 [encStr y] (by simp [Act.eval, Act.put]) (src_txt (by (first | (simp; done) | (exact ((Blk.new w2 _ _).alloc _).drw.cell 0) | (exact (Blk.new1 w2 _ _ _).drw.cell 0) | (exact ((Blk.new w2 _ _).alloc _).cell 0) | (exact (Blk.new1 w2 _ _ _).cell 0))) (by (first | (simp; done) | (simp; omega) | (simp at hs4 ⊢; omega)))) (by simp only [maxLen]; omega) (by omega) ?_
          intro v4 w4 G4 hr4 hm4 hg4
          obtain ⟨A4, c4, rfl⟩ := hr4.form
          have HM4 := hide ((HM2.out.then (by (repeat (first | exact Below.refl _ _ | exact below_drewN _ _ | (refine Below.alloc ?_ (by simp) _) | (refine Below.drew ?_))))).names hr4 hm4 hg4)
          have HV4 := hide hm4
          have hv4 : Mvs (fun k => some k = G1 ∨ some k = G2) w2 w4 := Mvs.trans (by ((repeat (first | exact Mvs.refl _ _ | assumption | (refine Mvs.alloc ?_ _) | (refine Mvs.drew ?_) | (refine Mvs.drewN ?_ _))); done)) (hm4.mono (fun _ _ e => Or.inl e))
          have hs4 := hm4.size
          clear hr4 hm4 hg4
          refine hK.out _ _ (fun _ => HH.out _ (by ((repeat (first | exact Mvs.refl _ _ | assumption | (refine Mvs.alloc ?_ _) | (refine Mvs.drew ?_) | (refine Mvs.drewN ?_ _))); done))) (fun HTn => ?_)
          clear hK K HT0
          have HT0 := HTn (by kernel_rfl)
          clear HTn
          simp only [Act.put, List.getElem_toArray, List.getElem_cons_succ, List.getElem_cons_zero, List.setIfInBounds_toArray, List.set_cons_zero, List.set_cons_succ]
          refine takeW (i := 11) (v := (.pointer (some ⟨w.heap.size + 1, 0, none⟩))) rfl (by kernel_rfl) (by kernel_rfl) (by kernel_rfl) rfl (fun _ _ _ h => h) (fun _ => HT0) (Or.inl ⟨by rfl, fun W _ => by go_simp⟩) ?_
          simp only [Act.put, List.getElem_toArray, List.getElem_cons_succ, List.getElem_cons_zero, List.setIfInBounds_toArray, List.set_cons_zero, List.set_cons_succ]
          refine readyL (rs := [10]) (by kernel_rfl) (by simp) ?_
          refine AllL.cons rfl (fun K hK => ?_) AllL.nil
          refine step_append_rw (by rfl) (.tmp 29) (.tmp 32) 35 35 (by rfl) 9 i0 (.string ByteArray.empty) 1 16 Tryz.underlying35 hi hz0 hz1 hz2 (by rfl) (by simp [Act.eval, Act.put]) (HM4.out.then (by (repeat (first | exact Below.refl _ _ | exact below_drewN _ _ | (refine Below.alloc ?_ (by simp) _) | (refine Below.drew ?_))))).rb (.slice (some ⟨w2.heap.size, 0, none⟩) 1 1) 1 [encStr z] (by simp [Act.eval, Act.put]) (src_txt (by (exact (HV4.out.cell (a := ⟨w2.heap.size, 0, none⟩) (by first | (simp; done) | (simp; omega)) (by intro e; have h2 : w2.heap.size < w2.heap.size := HLT.out _ (Or.inl e.symm); omega)).trans (by (first | (simp; done) | (exact ((Blk.new w2 _ _).alloc _).drw.cell 0) | (exact (Blk.new1 w2 _ _ _).drw.cell 0) | (exact ((Blk.new w2 _ _).alloc _).cell 0) | (exact (Blk.new1 w2 _ _ _).cell 0))))) (by (first | (simp; done) | (simp; omega) | (simp at hs4 ⊢; omega)))) (by simp only [maxLen]; omega) (by omega) ?_
          intro v5 w5 G5 hr5 hm5 hg5
          obtain ⟨A5, c5, rfl⟩ := hr5.form
          have HM5 := hide ((HM4.out.then (by (repeat (first | exact Below.refl _ _ | exact below_drewN _ _ | (refine Below.alloc ?_ (by simp) _) | (refine Below.drew ?_))))).texts hr5 hm5 hg5)
          have hcb := HM5.out.blk.cell
          have hfb := HM5.out.blk.frozen
          have hv5 : Mvs (fun k => some k = G1 ∨ some k = G2) w2 w5 := hv4.trans (Mvs.trans (by ((repeat (first | exact Mvs.refl _ _ | assumption | (refine Mvs.alloc ?_ _) | (refine Mvs.drew ?_) | (refine Mvs.drewN ?_ _))); done)) (hm5.mono (fun _ _ e => Or.inr e)))
          clear hr5 hm5 hg5
          refine hK.out _ _ (fun _ => HH.out _ (by ((repeat (first | exact Mvs.refl _ _ | assumption | (refine Mvs.alloc ?_ _) | (refine Mvs.drew ?_) | (refine Mvs.drewN ?_ _))); done))) (fun HTn => ?_)
          clear hK K HT0
          have HT0 := HTn (by kernel_rfl)
          clear HTn
          simp only [Act.put, List.getElem_toArray, List.getElem_cons_succ, List.getElem_cons_zero, List.setIfInBounds_toArray, List.set_cons_zero, List.set_cons_succ]
          refine readyL (rs := [12]) (by kernel_rfl) (by simp) ?_
          refine AllL.cons rfl (fun K hK => ?_) AllL.nil
          try simp only [List.getElem_toArray, List.getElem_cons_succ, List.getElem_cons_zero]
          go_simp
          refine hK.out _ _ (vac (by kernel_rfl)) (fun _ => ?_)
          clear hK K
          refine readyL (rs := [13]) (by kernel_rfl) (by simp) ?_
          refine AllL.cons rfl (fun K hK => ?_) AllL.nil
          try simp only [List.getElem_toArray, List.getElem_cons_succ, List.getElem_cons_zero]
          go_simp
          refine hK.out _ _ (vac (by kernel_rfl)) (fun _ => ?_)
          clear hK K
          refine readyL (rs := [14]) (by kernel_rfl) (by simp) ?_
          refine AllL.cons rfl (fun K hK => ?_) AllL.nil
          try simp only [List.getElem_toArray, List.getElem_cons_succ, List.getElem_cons_zero]
          go_simp
          refine hK.out _ _ (vac (by kernel_rfl)) (fun _ => ?_)
          clear hK K
          refine doneL (by kernel_rfl) ?_ _
          have HE := hide HM5.out.stored
          clear HM4 HM5 HM2 HH hcb hfb hv4 hv5 HV4 hs4 HT0
          go_wp2
          go_roundw
          case measure => simp [intOf]; omega
          case rel => exact ⟨i + 1, _, _, G4, G5, by go_num, by omega, by rw [HTK.out, List.map_append, List.map_cons, List.map_nil, HZ0.out]; exact HE⟩
    · have hltz : ¬ (i : Int) < (N : Int) := by omega
      obtain rfl : i = N := by omega
      have hk1 := HM.out.blk
      have hk2 := HM.out.bl.blk hr0.out (by omega)
      have c1 := hk1.cell
      have c2 := hk2.cell
      have f2 := hk2.frozen
      obtain ⟨A1, c1', rfl⟩ := HM.out.rn.form
      obtain ⟨A2, c2', rfl⟩ := HM.out.rb.form
      have H3 := hide hk2
      clear hk1 hk2
      go_wp2
      have hR := ((H3.out.set 0 (.slice A1 i c1')).set 1 (.slice A2 i c2')).cell
      have hm : Mvs (fun k => k = w.heap.size) wr ((wr.setCell ⟨w.heap.size, 0, none⟩ (.slice A1 i c1')).setCell ⟨w.heap.size, 1, none⟩ (.slice A2 i c2')) := ((Mvs.refl (fun k => k = w.heap.size) wr).setCell ⟨w.heap.size, 0, none⟩ _ (fun _ => rfl)).setCell ⟨w.heap.size, 1, none⟩ _ (fun _ => rfl)
      refine bodyPost_ret (v := .agg #[.slice A1 i c1', .slice A2 i c2']) (by simp [results, Tryz.results11, go_sem, hR]) rfl ?_
      have hSt : S.take i = S := List.take_of_length_le (by rw [← hN.out]; exact Nat.le_refl _)
      have ht := HM.out.tr
      have hof := HM.out.off
      have hlt0 : w.heap.size < w1.heap.size := hr0.out.lt
      rw [hSt] at ht
      have hsB := HB1.out.size
      have hsM := HM.out.bl.size
      exact ⟨_, _, rfl, S, ht.1.keep hm (fun A n c e hk => by have := hof.1 A n c e; omega), _, ht.2.keep hm (fun A n c e hk => by have := hof.2 A n c e; omega), ⟨HR1.out, HR2.out, rfl⟩, by rw [← hN.out]; exact hS0, (HB1.out.trans (HM.out.bl.below (fun k hk e => by omega) hsB)).trans (hm.below (fun k hk e => by omega) (by omega))⟩
end
end Go.Proofs.YthhnlkbjpahjeaaGreatDoor
