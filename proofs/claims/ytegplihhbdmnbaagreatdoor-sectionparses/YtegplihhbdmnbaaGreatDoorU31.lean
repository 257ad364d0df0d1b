/- All and Get of package header; the document's Get; rows of texts that are the same. -/
import Derived.Test.YtegplihhbdmnbaaGreatDoorU29
import Derived.Test.YtegplihhbdmnbaaGreatDoorU30
namespace Go.Proofs.YtegplihhbdmnbaaGreatDoor
open Go.RowKit Go.Shelf
/-- A field that came in: its numbers are any. -/
structure FI where
  name : List UInt8
  value : List UInt8
  a : Int
  e : Int
/-- A slice that reads as these fields. -/
def FA (w : World) (v : Value) (xs : List FI) : Prop := ∃ A cap, v = .slice A xs.length cap ∧ ∀ i (hi : i < xs.length), ∃ g o, A = some ⟨g, o, none⟩ ∧ g < w.heap.size ∧
  w.cell? ⟨g, o + i * 4, none⟩ = some (.string ⟨xs[i].name.toArray⟩) ∧ w.cell? ⟨g, o + i * 4 + 1, none⟩ = some (.string ⟨xs[i].value.toArray⟩) ∧ w.cell? ⟨g, o + i * 4 + 2, none⟩ = some (.int .i64 xs[i].a) ∧ w.cell? ⟨g, o + i * 4 + 3, none⟩ = some (.int .i64 xs[i].e)
theorem FA.below {w w' : World} {v : Value} {xs : List FI} (h : FA w v xs) (hb : Below w.heap.size w w') : FA w' v xs := by
  obtain ⟨A, c, rfl, h⟩ := h
  refine ⟨A, c, rfl, fun i hi => ?_⟩
  obtain ⟨g, o, e, hg, c0, c1, c2, c3⟩ := h i hi
  exact ⟨g, o, e, Nat.lt_of_lt_of_le hg hb.size, (hb.cell (p := ⟨g, _, none⟩) hg).trans c0, (hb.cell (p := ⟨g, _, none⟩) hg).trans c1, (hb.cell (p := ⟨g, _, none⟩) hg).trans c2, (hb.cell (p := ⟨g, _, none⟩) hg).trans c3⟩
/-- The values of a name. -/
def valsOf (n : List UInt8) (xs : List FI) : List (List UInt8) := (xs.filter fun x => sameT x.name n).map FI.value
theorem vals_yes {n : List UInt8} {xs : List FI} {i : Nat} (hi : i < xs.length) (h : sameT xs[i].name n = true) : valsOf n (xs.take (i + 1)) = valsOf n (xs.take i) ++ [xs[i].value] := by
  unfold valsOf
  rw [List.take_succ_eq_append_getElem hi, List.filter_append, List.map_append]
  simp [h]
theorem vals_no {n : List UInt8} {xs : List FI} {i : Nat} (hi : i < xs.length) (h : sameT xs[i].name n = false) : valsOf n (xs.take (i + 1)) = valsOf n (xs.take i) := by
  unfold valsOf
  rw [List.take_succ_eq_append_getElem hi, List.filter_append, List.map_append]
  simp [h]
theorem vals_len (n : List UInt8) (xs : List FI) (i : Nat) : (valsOf n (xs.take i)).length ≤ xs.length := by
  unfold valsOf
  rw [List.length_map]
  refine Nat.le_trans (List.length_filter_le _ _) ?_
  rw [List.length_take]
  omega
set_option maxRecDepth 20000 in
set_option maxHeartbeats 1000000 in
theorem get_any (n : List UInt8) (v : Value) (xs : List FI) (w : World) (hv : FA w v xs) (hl : xs.length ≤ 1000) (hn : n.length ≤ 1000000) (hx : ∀ x ∈ xs, x.name.length ≤ 1000000) :
    Calls Tryz.prog 112 #[v, .string ⟨n.toArray⟩] w fun e w' => e = .returned (.tuple #[.string ⟨((valsOf n xs).head?.getD []).toArray⟩, .bool (!(valsOf n xs).isEmpty)]) ∧ Below w.heap.size w w' := by
  obtain ⟨A, c, rfl, hr⟩ := hv
  have HR := hide hr
  have HX := hide hx
  clear hr hx
  go_enter Tryz.func112, Tryz.ntmps112
  go_wp2
  go_loopw [10] (fun v10 wr => ∃ k : Nat, k ≤ xs.length ∧ v10 = .int .i64 k ∧ Hid (valsOf n (xs.take k) = []) ∧ Hid (Below w.heap.size w wr)) (fun v10 _ => xs.length - (intOf v10).toNat)
  case atStart => exact ⟨0, Nat.zero_le _, rfl, rfl, Below.refl _ _⟩
  case round =>
    obtain ⟨k, hk, rfl, HT, HB⟩ := hrel
    have hbs := HB.out.size
    by_cases hlt : k < xs.length
    · obtain ⟨g, o, rfl, hgl, q0, q1, q2, q3⟩ := HR.out k hlt
      have hlt' : (k : Int) < xs.length := by omega
      have hnl := HX.out _ (List.getElem_mem hlt)
      replace q0 := (HB.out.cell (p := ⟨g, o + k * 4, none⟩) hgl).trans q0
      replace q1 := (HB.out.cell (p := ⟨g, o + k * 4 + 1, none⟩) hgl).trans q1
      replace q2 := (HB.out.cell (p := ⟨g, o + k * 4 + 2, none⟩) hgl).trans q2
      replace q3 := (HB.out.cell (p := ⟨g, o + k * 4 + 3, none⟩) hgl).trans q3
      have HS := hide (fun w => hsame_any xs[k].name n w (by omega) (by omega))
      cases hs : sameT xs[k].name n with
      | true =>
        have HV : Hid ((valsOf n xs).head?.getD [] = xs[k].value ∧ (valsOf n xs).isEmpty = false) := by
          have h1 := vals_yes hlt hs
          rw [HT.out] at h1
          have h2 : valsOf n xs = valsOf n (xs.take (k + 1)) ++ valsOf n (xs.drop (k + 1)) := by
            unfold valsOf
            rw [← List.map_append, ← List.filter_append, List.take_append_drop]
          rw [h2, h1]
          exact ⟨rfl, rfl⟩
        rw [hs] at HS
        generalize xs[k] = p at *
        obtain ⟨pn, pv, pa, pe⟩ := p
        dsimp only at *
        clear hs HT
        go_wp2_with (first
          | (go_at_call 42; refine (HS.out _).mono ?_; rintro e w2 ⟨rfl, hb2⟩
             have hq2 := ((Blk.new wr #[.string ⟨pn.toArray⟩, .string ⟨pv.toArray⟩, .int .i64 pa, .int .i64 pe] 180).below hb2 (by simp)).cell 1
             have HB2 := hide (HB.out.trans ((((Below.refl wr.heap.size wr).alloc (Nat.le_refl _) _).trans (hb2.mono (by simp))).mono HB.out.size))
             clear hb2))
        exact bodyPost_ret (v := .tuple #[.string ⟨pv.toArray⟩, .bool true]) (by simp [results, Tryz.results112, go_sem]) rfl ⟨by rw [HV.out.1, HV.out.2]; rfl, HB2.out⟩
      | false =>
        have HV : Hid (valsOf n (xs.take (k + 1)) = []) := by
          show _ = _
          rw [vals_no hlt hs, HT.out]
        rw [hs] at HS
        generalize xs[k] = p at *
        obtain ⟨pn, pv, pa, pe⟩ := p
        dsimp only at *
        clear hs HT
        go_wp2_with (first
          | (go_at_call 42; refine (HS.out _).mono ?_; rintro e w2 ⟨rfl, hb2⟩
             have HB2 := hide (HB.out.trans ((((Below.refl wr.heap.size wr).alloc (Nat.le_refl _) _).trans (hb2.mono (by simp))).mono HB.out.size))
             clear hb2))
        go_roundw
        case rel => exact ⟨k + 1, by omega, by go_num, HV, HB2⟩
        case measure => simp [intOf]; omega
    · obtain rfl : k = xs.length := by omega
      have HV : Hid (valsOf n xs = []) := by
        have := HT.out
        rw [List.take_length] at this
        exact this
      go_wp2
      exact bodyPost_ret (v := .tuple #[.string ⟨#[]⟩, .bool false]) (by simp [results, Tryz.results112, go_sem]) rfl ⟨by rw [HV.out]; rfl, HB.out⟩
/-- A slice that reads as these texts. -/
def TX (w : World) (v : Value) (xs : List (List UInt8)) : Prop := ∃ A cap, v = .slice A xs.length cap ∧ ∀ i (hi : i < xs.length), ∃ g o, A = some ⟨g, o, none⟩ ∧ g < w.heap.size ∧ w.cell? ⟨g, o + i, none⟩ = some (.string ⟨xs[i].toArray⟩)
theorem TX.below {w w' : World} {v : Value} {xs : List (List UInt8)} (h : TX w v xs) (hb : Below w.heap.size w w') : TX w' v xs := by
  obtain ⟨A, c, rfl, h⟩ := h
  refine ⟨A, c, rfl, fun i hi => ?_⟩
  obtain ⟨g, o, e, hg, c0⟩ := h i hi
  exact ⟨g, o, e, Nat.lt_of_lt_of_le hg hb.size, (hb.cell (p := ⟨g, _, none⟩) hg).trans c0⟩
theorem Texts.tx {w wr : World} {v : Value} {xs : List (List UInt8)} (h : Texts w wr v xs) : TX wr v xs := by
  obtain ⟨_, G, hr, _⟩ := h
  obtain ⟨A, c, rfl⟩ := hr.form
  refine ⟨A, c, rfl, fun i hi => ?_⟩
  rcases hr.2 with ⟨_, h0, _⟩ | ⟨g, o, cap, _, e, _, _, h3, h4, _⟩
  · omega
  · exact ⟨g, o, by cases e; rfl, h3, h4 i _ (by rw [List.getElem?_map, List.getElem?_eq_getElem hi]; rfl)⟩
set_option maxHeartbeats 1000000 in
theorem tsame_yes {v1 v2 : Value} {xs : List (List UInt8)} (w : World) (h1 : TX w v1 xs) (h2 : TX w v2 xs) (hl : xs.length ≤ 1000000) :
    Calls Tryz.prog 28 #[v1, v2] w fun e w' => e = .returned (.bool true) ∧ ∃ n, w' = w.drewN n := by
  obtain ⟨A1, c1, rfl, k1⟩ := h1
  obtain ⟨A2, c2, rfl, k2⟩ := h2
  have H1 := hide k1
  have H2 := hide k2
  clear k1 k2
  go_enter Tryz.func28, Tryz.ntmps28
  go_wp2
  go_loopw [13] (fun i wr => ∃ k : Nat, k ≤ xs.length ∧ i = .int .i64 k ∧ ∃ n, wr = w.drewN n) (fun i _ => xs.length - (intOf i).toNat)
  case atStart => exact ⟨0, Nat.zero_le _, rfl, 0, rfl⟩
  case round =>
    obtain ⟨k, hk, rfl, n, rfl⟩ := hrel
    by_cases hlt : k < xs.length
    · obtain ⟨g, o, rfl, _, q1⟩ := H1.out k hlt
      obtain ⟨g2, o2, rfl, _, r1⟩ := H2.out k hlt
      have hlt' : (k : Int) < xs.length := by omega
      generalize xs[k] = p at *
      go_wp2
      go_quiet (fail)
      go_wp2
      go_roundw
      case rel => exact ⟨k + 1, by omega, by go_num, n + nq, by simp⟩
      case measure => simp [intOf]; omega
    · obtain rfl : k = xs.length := by omega
      go_wp2
      go_ret
      exact ⟨rfl, n, rfl⟩
end Go.Proofs.YtegplihhbdmnbaaGreatDoor
