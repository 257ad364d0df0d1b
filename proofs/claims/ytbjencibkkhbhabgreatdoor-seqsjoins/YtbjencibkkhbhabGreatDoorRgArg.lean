/- A slice of ranges that came in, opened. -/
import Derived.Test.YtbjencibkkhbhabGreatDoorSq6
import Derived.ProofKit
import Derived.OpenShut
import Derived.Deep.Strs
namespace Go.Proofs.YtbjencibkkhbhabGreatDoor
open Go.RowKit
theorem list_ofR {α : Type} : ∀ (n : Nat) (p : Nat → α → Prop), (∀ i, i < n → ∃ x, p i x) → ∃ l : List α, l.length = n ∧ ∀ i (h : i < l.length), p i l[i]
  | 0, _, _ => ⟨[], rfl, fun i h => by simp at h⟩
  | n + 1, p, hp => by
    obtain ⟨l, hl, h⟩ := list_ofR n p (fun i hi => hp i (by omega))
    obtain ⟨x, hx⟩ := hp n (by omega)
    refine ⟨l ++ [x], by simp [hl], fun i hi => ?_⟩
    by_cases hlt : i < l.length
    · rw [List.getElem_append_left hlt]
      exact h i hlt
    · have hi' : i = n := by simp at hi; omega
      subst hi'
      rw [List.getElem_append_right (by omega)]
      simpa using hx
theorem one_cellR {cs : List Value} {i : Nat} {v : Value} (h : (cs.drop i).take 1 = [v]) : cs[i]? = some v := by
  have := congrArg (·[0]?) h
  simpa using this
section
variable {H : Type} {enc : TypeId × Value → H} {P : Program} {W : World}
theorem open_rangesP {t e ti : TypeId} {f0 f1 : Field} (ht : P.underlying t = some (.slice e)) (he : P.underlying e = some (.struct #[f0, f1])) (hi : P.underlying ti = some (.int .i64))
    (ce : P.cellsOf e = 2) (ci : P.cellsOf ti = 1) (t0 : f0.type = ti) (o0 : f0.offset = 0) (t1 : f1.type = ti) (o1 : f1.offset = 1) {base : Nat} {v : Value} {d : DataW H} {p : List MemPlace}
    (hval : Value.okWide P W .any base t v) (h : DataW.Trod enc P W 0 (fun _ => true) true t v d p) (hlt : ∀ x ∈ p, x.block < W.heap.size) : ∃ xs : List (Int × Int), RA W v xs ∧ ∃ A cap, v = .slice A xs.length cap ∧ xs.length ≤ cap ∧ cap ≤ maxLen := by
  obtain ⟨a1, len, cap, rfl⟩ := Go.WideShapes.okWide_slice ht hval
  obtain ⟨fuel, hf⟩ := h
  rcases Go.Deep.open_slice ht hf with ⟨hcs, hx⟩ | ⟨a, len', cap', m, n, D, Pl, hcs, _, hl, hm, hmm, hx, hel⟩
  · simp [Value.cells] at hcs
    obtain ⟨rfl, rfl, rfl⟩ := hcs
    exact ⟨[], ⟨none, 0, rfl, fun i hi => by simp at hi⟩, none, 0, rfl, Nat.le_refl _, Nat.zero_le _⟩
  · simp [Value.cells] at hcs
    obtain ⟨rfl, rfl, rfl⟩ := hcs
    simp only [Prod.mk.injEq] at hx
    obtain ⟨rfl, rfl⟩ := hx
    simp only [if_true] at hmm
    subst hmm
    rw [ce] at hel hlt
    obtain ⟨ss, hsl, hss⟩ := list_ofR (α := Int × Int) len (fun i st => W.cell? ((a.add (i * 2)).add 0) = some (.int .i64 st.1) ∧ W.cell? ((a.add (i * 2)).add 1) = some (.int .i64 st.2)) (fun i hi' => by
      obtain ⟨cs', h1, h2⟩ := hel i (by omega)
      obtain ⟨_, hlen, hcell⟩ := World.cells?_some h1
      obtain ⟨ys, n', _, hD, _, hyl, hfs⟩ := DataW.trod_struct he h2
      obtain ⟨y0, y1, rfl⟩ : ∃ y0 y1, ys = [y0, y1] := by
        match ys, hyl with
        | [y0, y1], _ => exact ⟨y0, y1, rfl⟩
      have k0 := hfs 0 f0 rfl
      have k1 := hfs 1 f1 rfl
      rw [t0, o0, ci] at k0
      rw [t1, o1, ci] at k1
      obtain ⟨z0, e0, _, _⟩ := DataW.trod_int hi k0
      obtain ⟨z1, e1, _, _⟩ := DataW.trod_int hi k1
      exact ⟨(z0, z1), (hcell 0 (by omega)).trans (one_cellR e0), (hcell 1 (by omega)).trans (one_cellR e1)⟩)
    subst hsl
    refine ⟨ss, ⟨some a, _, rfl, fun i hi' => ?_⟩, some a, _, rfl, hl, hm⟩
    obtain ⟨ab, ao, spot⟩ := a
    have hspot : spot = none := by simpa [Addr.add] using World.cell?_spot (hss 0 (by omega)).1
    subst hspot
    have := hss i hi'
    simp only [Go.WideShapes.add_plain, Nat.add_zero] at this
    exact ⟨ab, ao, rfl, hlt (.cell ab ao) (List.mem_append_left _ (MemPlace.mem_row.2 ⟨0, by omega, by simp⟩)), this⟩
end
theorem rgCells : Tryz.prog.cellsOf 33 = 2 := by kernel_rfl
theorem rgInt : Tryz.prog.cellsOf 3 = 1 := by kernel_rfl
set_option maxRecDepth 100000 in
theorem open_ranges {H : Type} {enc : TypeId × Value → H} {W : World} {base : Nat} {v : Value} {d : DataW H} {p : List MemPlace} (hval : Value.okWide Tryz.prog W .any base 34 v) (h : DataW.Trod enc Tryz.prog W 0 (fun _ => true) true 34 v d p) (hlt : ∀ x ∈ p, x.block < W.heap.size) : ∃ xs : List (Int × Int), RA W v xs ∧ ∃ A cap, v = .slice A xs.length cap ∧ xs.length ≤ cap ∧ cap ≤ maxLen :=
  open_rangesP Tryz.underlying34 Tryz.underlying33 Tryz.underlying3 rgCells rgInt rfl rfl rfl rfl hval h hlt
theorem flat_one (rs : List (Int × Int)) : ∀ u ∈ rs.flatMap rgF, u.oneCell' = true := by
  intro u hu
  obtain ⟨r, _, h⟩ := List.mem_flatMap.1 hu
  simp [rgF] at h
  rcases h with rfl | rfl <;> rfl
/-- Ranges that are read, as what is appended. -/
theorem RA.src {w : World} {v : Value} {rs : List (Int × Int)} (h : RA w v rs) : Src Tryz.prog 2 34 v rs.length (rs.flatMap rgF) w := by
  obtain ⟨A, cap, rfl, hc⟩ := h
  by_cases h0 : rs = []
  · subst h0
    cases A with
    | none => exact Src.ofNil w Tryz.underlying34 cap
    | some a => exact Src.ofSlice w Tryz.underlying34 a 0 cap [] rfl (fun j u hu => by cases hu) (fun u hu => by cases hu)
  · have hpos : 0 < rs.length := List.length_pos_iff.2 h0
    obtain ⟨g, o, rfl, _, _, _⟩ := hc 0 hpos
    refine Src.ofSlice w Tryz.underlying34 ⟨g, o, none⟩ rs.length cap _ (flat_len rgF_len rs) (fun j u hu => ?_) (flat_one rs)
    rw [Go.WideShapes.add_plain]
    have hj := (List.getElem?_eq_some_iff.1 hu).1
    rw [flat_len rgF_len] at hj
    have hi : j / 2 < rs.length := by omega
    obtain ⟨g', o', e, _, c0, c1⟩ := hc (j / 2) hi
    cases e
    have ha := flat_at rgF_len rs (j / 2) hi (j % 2) (by omega)
    rw [show j / 2 * 2 + j % 2 = j from by omega, hu] at ha
    rcases Nat.mod_two_eq_zero_or_one j with hm | hm
    · rw [hm] at ha
      have hu' : u = .int .i64 rs[j / 2].1 := Option.some.inj ha
      rw [hu', show o + j = o + j / 2 * 2 from by omega]
      exact c0
    · rw [hm] at ha
      have hu' : u = .int .i64 rs[j / 2].2 := Option.some.inj ha
      rw [hu', show o + j = o + j / 2 * 2 + 1 from by omega]
      exact c1
end Go.Proofs.YtbjencibkkhbhabGreatDoor
