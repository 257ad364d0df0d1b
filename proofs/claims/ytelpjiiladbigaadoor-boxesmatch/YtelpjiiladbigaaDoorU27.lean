/- Names of mailboxes, in plain lists: as the program asks for them (pieces between slashes), as the document does (byte by byte). The document's table of what a pattern fits. -/
/- The document's Fits: its table, made from the end on. -/
import Derived.Test.YtelpjiiladbigaaDoorU09
import Derived.Test.YtelpjiiladbigaaDoorU25
section
namespace Go.Proofs.YtelpjiiladbigaaDoor
theorem pln_both (c : UInt8) : plnB false c = (plnB true c && !starB c) := by simp [plnB]
theorem all_both (s : List UInt8) : s.all (plnB false) = (s.all (plnB true) && !s.any starB) := by
  induction s with
  | nil => rfl
  | cons c s ih =>
    rw [List.all_cons, List.all_cons, List.any_cons, ih, pln_both]
    cases plnB true c <;> cases starB c <;> simp
theorem spc_nonE : ∀ s : List UInt8, apartB true s = (spc 47 s).all (fun p => !p.isEmpty) ∧ apartB false s = ((spc 47 s).drop 1).all (fun p => !p.isEmpty)
  | [] => by simp [apartB, spc]
  | c :: r => by
    obtain ⟨h1, h2⟩ := spc_nonE r
    unfold apartB spc
    by_cases hc : c = 47
    · simp [hc, h1]
    · rw [if_neg hc, if_neg hc, if_neg hc, h2]
      cases hs : spc 47 r with
      | nil => exact absurd hs (spc_ne 47 r)
      | cons p ps => simp
theorem apart_spc (s : List UInt8) : apartB true s = (spc 47 s).all (fun p => !p.isEmpty) := (spc_nonE s).1
/-- What the program asks of a name. -/
theorem box_prog (s : List UInt8) (hl : s.length ≤ 60) : boxB s = (s.all (plnB true) && !s.any starB && (spc 47 s).all (fun p => !p.isEmpty)) := by
  unfold boxB
  rw [all_both, apart_spc]
  cases s with
  | nil => simp [spc]
  | cons c s =>
    rw [decide_eq_true ⟨by simp, hl⟩, Bool.true_and]
theorem apart_iff : ∀ (s : List UInt8) (b : Bool), apartB b s = true ↔ (b = true → s ≠ [] ∧ s[0]? ≠ some 47) ∧ ∀ i, s[i]? = some 47 → i + 1 < s.length ∧ s[i + 1]? ≠ some 47
  | [], b => by cases b <;> simp [apartB]
  | c :: r, b => by
    unfold apartB
    by_cases hc : c = 47
    · rw [if_pos hc, Bool.and_eq_true, apart_iff r true]
      constructor
      · rintro ⟨h1, h2, h3⟩
        refine ⟨fun hb => by simp [hb] at h1, fun i hi => ?_⟩
        cases i with
        | zero =>
          obtain ⟨k1, k2⟩ := h2 rfl
          refine ⟨?_, by simpa using k2⟩
          cases r with
          | nil => exact absurd rfl k1
          | cons d r => simp
        | succ i =>
          obtain ⟨k1, k2⟩ := h3 i (by simpa using hi)
          exact ⟨by simp; omega, by simpa using k2⟩
      · rintro ⟨h1, h2⟩
        refine ⟨?_, fun _ => ?_, fun i hi => ?_⟩
        · cases b with
          | false => rfl
          | true => exact absurd (by simp [hc]) (h1 rfl).2
        · obtain ⟨k1, k2⟩ := h2 0 (by simp [hc])
          refine ⟨fun e => by simp [e] at k1, by simpa using k2⟩
        · obtain ⟨k1, k2⟩ := h2 (i + 1) (by simpa using hi)
          exact ⟨by simp at k1; omega, by simpa using k2⟩
    · rw [if_neg hc, apart_iff r false]
      constructor
      · rintro ⟨_, h3⟩
        refine ⟨fun _ => ⟨by simp, by simpa using hc⟩, fun i hi => ?_⟩
        cases i with
        | zero => exact absurd (by simpa using hi) hc
        | succ i =>
          obtain ⟨k1, k2⟩ := h3 i (by simpa using hi)
          exact ⟨by simp; omega, by simpa using k2⟩
      · rintro ⟨_, h2⟩
        refine ⟨(fun h => by cases h), fun i hi => ?_⟩
        obtain ⟨k1, k2⟩ := h2 (i + 1) (by simpa using hi)
        exact ⟨by simp at k1; omega, by simpa using k2⟩
/-- What the document asks at a place of a name. -/
def atB (s : List UInt8) (i : Nat) : Prop := ∃ c, s[i]? = some c ∧ plnB false c = true ∧ (c = 47 → s[i - 1]? ≠ some 47)
theorem box_doc_yes {s : List UInt8} (h1 : 1 ≤ s.length) (h2 : s.length ≤ 60) (h3 : s[0]? ≠ some 47) (h4 : s[s.length - 1]? ≠ some 47) (h5 : ∀ i, i < s.length → atB s i) : boxB s = true := by
  unfold boxB
  rw [decide_eq_true ⟨h1, h2⟩, Bool.true_and, Bool.and_eq_true]
  refine ⟨List.all_eq_true.2 fun c hc => ?_, (apart_iff s true).2 ⟨fun _ => ⟨fun e => by simp [e] at h1, h3⟩, fun i hi => ?_⟩⟩
  · obtain ⟨i, hi, rfl⟩ := List.mem_iff_getElem.1 hc
    obtain ⟨c, k1, k2, _⟩ := h5 i hi
    rw [List.getElem?_eq_getElem hi] at k1
    cases k1
    exact k2
  · have hil := (List.getElem?_eq_some_iff.1 hi).1
    have hne : i ≠ s.length - 1 := fun e => h4 (e ▸ hi)
    refine ⟨by omega, fun e => ?_⟩
    obtain ⟨c, k1, _, k3⟩ := h5 (i + 1) (by omega)
    rw [e] at k1
    cases k1
    exact k3 rfl hi
theorem box_doc_no {s : List UInt8} {i : Nat} (hi : i < s.length) (h3 : s[0]? ≠ some 47) (h : ¬ atB s i) : boxB s = false := by
  cases hb : boxB s with
  | false => rfl
  | true =>
    exfalso
    unfold boxB at hb
    simp only [Bool.and_eq_true] at hb
    obtain ⟨⟨_, ha⟩, hp⟩ := hb
    refine h ⟨s[i], List.getElem?_eq_getElem hi, List.all_eq_true.1 ha _ (List.getElem_mem _), fun e he => ?_⟩
    have h2 := ((apart_iff s true).1 hp).2 (i - 1) he
    by_cases h0 : i = 0
    · subst h0
      exact h3 he
    · rw [show i - 1 + 1 = i from by omega, List.getElem?_eq_getElem hi, e] at h2
      exact h2.2 rfl
theorem box_short {s : List UInt8} (h : s.length < 1 ∨ 60 < s.length) : boxB s = false := by
  unfold boxB
  rw [decide_eq_false (by omega)]
  rfl
theorem box_first {s : List UInt8} (h : s[0]? = some 47) : boxB s = false := by
  cases hb : boxB s with
  | false => rfl
  | true =>
    unfold boxB at hb
    simp only [Bool.and_eq_true] at hb
    exact absurd h (((apart_iff s true).1 hb.2).1 rfl).2
theorem box_end {s : List UInt8} (h0 : 1 ≤ s.length) (h : s[s.length - 1]? = some 47) : boxB s = false := by
  cases hb : boxB s with
  | false => rfl
  | true =>
    unfold boxB at hb
    simp only [Bool.and_eq_true] at hb
    have := (((apart_iff s true).1 hb.2).2 _ h).1
    omega
/-- The document's table, of which the entries from k on are made. -/
def fitE (inb : Bool) (P N : List UInt8) (j : Nat) : Bool := fit inb (P.drop (j / (N.length + 1))) (N.drop (j % (N.length + 1)))
def tabL (inb : Bool) (P N : List UInt8) (k : Nat) : List Bool := (List.range ((P.length + 1) * (N.length + 1))).map fun j => decide (k ≤ j) && fitE inb P N j
theorem tabL_len (inb : Bool) (P N : List UInt8) (k : Nat) : (tabL inb P N k).length = (P.length + 1) * (N.length + 1) := by simp [tabL]
theorem tabL_at {inb : Bool} {P N : List UInt8} {k j : Nat} (hj : j < (P.length + 1) * (N.length + 1)) (hk : k ≤ j) : (tabL inb P N k)[j]? = some (fitE inb P N j) := by
  simp [tabL, hj, hk]
theorem tabL_all (inb : Bool) (P N : List UInt8) : tabL inb P N ((P.length + 1) * (N.length + 1)) = List.replicate ((P.length + 1) * (N.length + 1)) false := by
  refine List.ext_getElem (by simp [tabL]) fun i h1 h2 => ?_
  simp [tabL] at h1 ⊢
  intro h
  omega
theorem tabL_set {inb : Bool} {P N : List UInt8} {k : Nat} : (tabL inb P N (k + 1)).set k (fitE inb P N k) = tabL inb P N k := by
  refine List.ext_getElem (by simp [tabL]) fun i h1 h2 => ?_
  rw [List.getElem_set]
  split
  · rename_i h
    subst h
    simp [tabL]
  · rename_i h
    simp only [tabL, List.getElem_map, List.getElem_range]
    congr 1
    rw [decide_eq_decide]
    omega
theorem fitE_at (inb : Bool) (P N : List UInt8) (p n : Nat) (hn : n ≤ N.length) : fitE inb P N (p * (N.length + 1) + n) = fit inb (P.drop p) (N.drop n) := by
  unfold fitE
  have h1 : (p * (N.length + 1) + n) / (N.length + 1) = p := by
    rw [Nat.mul_comm, Nat.mul_add_div (by omega), Nat.div_eq_of_lt (by omega), Nat.add_zero]
  have h2 : (p * (N.length + 1) + n) % (N.length + 1) = n := by
    rw [Nat.mul_comm, Nat.mul_add_mod, Nat.mod_eq_of_lt (by omega)]
  rw [h1, h2]
end Go.Proofs.YtelpjiiladbigaaDoor

end
section
set_option linter.unusedSimpArgs false
set_option linter.unusedVariables false
namespace Go.Proofs.YtelpjiiladbigaaDoor
open Go.RowKit Go.Shelf
theorem tab_in {q m W R : Nat} (hq : q + 1 < R) (hm : m < W) : (q + 1) * W + m < R * W := by
  have h1 : (q + 2) * W ≤ R * W := Nat.mul_le_mul_right _ (by omega)
  have h2 : (q + 2) * W = (q + 1) * W + W := by rw [show q + 2 = (q + 1) + 1 from rfl, Nat.add_mul (q + 1) 1 W, Nat.one_mul]
  omega
theorem tab_in0 {q m W R : Nat} (hq : q < R) (hm : m < W) : q * W + m < R * W := by
  have h1 : (q + 1) * W ≤ R * W := Nat.mul_le_mul_right _ (by omega)
  have h2 : (q + 1) * W = q * W + W := by rw [Nat.add_mul, Nat.one_mul]
  omega
theorem tab_max {W R : Nat} (hr : R ≤ 201) (hw : W ≤ 201) : R * W ≤ 40401 := by
  have := Nat.mul_le_mul hr hw
  omega
/-- The table under way. -/
def Tb (w wr : World) (b : Nat) (inb : Bool) (P N : List UInt8) (k : Nat) : Prop :=
  w.heap.size ≤ b ∧ Below w.heap.size w wr ∧ Rw wr 1 (.slice (some ⟨b, 0, none⟩) ((P.length + 1) * (N.length + 1)) ((P.length + 1) * (N.length + 1))) ((P.length + 1) * (N.length + 1)) ((tabL inb P N k).map Value.bool) (some b)
theorem Rw.at0 {w : World} {g n c : Nat} {cs : List Value} (h : Rw w 1 (.slice (some ⟨g, 0, none⟩) n c) n cs (some g)) : (∀ j u, cs[j]? = some u → w.cell? ⟨g, j, none⟩ = some u) ∧ ∀ j, j < n → w.frozen? ⟨g, j, none⟩ = false := by
  rcases h.2 with ⟨h, _⟩ | ⟨g', o', cap', k1, k2, h1, h2, h3, h4, h5⟩
  · cases h
  · cases k1
    cases k2
    refine ⟨fun j u hu => ?_, fun j hj => ?_⟩
    · have := h4 j u hu
      rwa [Nat.zero_add] at this
    · have := (h5 j (by omega)).2
      rwa [Nat.zero_add] at this
theorem Tb.at {w wr : World} {b : Nat} {inb : Bool} {P N : List UInt8} {k j : Nat} (h : Tb w wr b inb P N k) (hj : j < (P.length + 1) * (N.length + 1)) (hk : k ≤ j) : wr.cell? ⟨b, j, none⟩ = some (.bool (fitE inb P N j)) :=
  (Rw.at0 h.2.2).1 j (.bool (fitE inb P N j)) (by rw [List.getElem?_map, tabL_at hj hk]; rfl)
theorem Tb.here {w wr : World} {b : Nat} {inb : Bool} {P N : List UInt8} {k j : Nat} (h : Tb w wr b inb P N k) (hj : j < (P.length + 1) * (N.length + 1)) : ∃ u, wr.cell? ⟨b, j, none⟩ = some u ∧ wr.frozen? ⟨b, j, none⟩ = false :=
  have hl : j < ((tabL inb P N k).map Value.bool).length := by rw [List.length_map, tabL_len]; exact hj
  ⟨_, (Rw.at0 h.2.2).1 j _ (List.getElem?_eq_getElem hl), (Rw.at0 h.2.2).2 j hj⟩
theorem Tb.below {w wr wq : World} {b : Nat} {inb : Bool} {P N : List UInt8} {k : Nat} (h : Tb w wr b inb P N k) (hb : Below wr.heap.size wr wq) : Tb w wq b inb P N k := by
  have := h.2.2.lt b rfl
  exact ⟨h.1, h.2.1.trans (hb.mono h.2.1.size), h.2.2.keep (S := fun _ => False) (Mvs.of_below hb) (fun _ _ c => c)⟩
theorem Tb.put {w wr : World} {b : Nat} {inb : Bool} {P N : List UInt8} {k : Nat} (h : Tb w wr b inb P N (k + 1)) (hk : k < (P.length + 1) * (N.length + 1)) {t : Bool} (ht : t = fitE inb P N k) : Tb w (wr.setCell ⟨b, k, none⟩ (.bool t)) b inb P N k := by
  refine ⟨h.1, h.2.1.setCell (p := ⟨b, k, none⟩) h.1 _, ?_⟩
  have := h.2.2.put1 k hk (.bool t)
  rw [Nat.zero_add, ← List.map_set, ht, tabL_set] at this
  rw [ht]
  exact this
theorem slice_one (s : List UInt8) (b : Nat) (h2 : b < s.length) (w : World) : (Instr.slice 9 (.string ⟨s.toArray⟩) (some (.int .i64 (b : Int))) (some (.int .i64 ((b : Int) + 1))) none).run Tryd.prog w = .ok (.string ⟨#[s[b]]⟩) w := by
  have := run_slice_string (P := Tryd.prog) w 9 ⟨s.toArray⟩ .i64 .i64 (b : Int) ((b : Int) + 1) Tryd.underlying9 (by omega) (by omega) (by rw [size_lit]; omega)
  rw [this]
  rw [show ((b : Int)).toNat = b from by omega, show ((b : Int) + 1).toNat = b + 1 from by omega]
  have e : (⟨s.toArray⟩ : ByteArray).extract b (b + 1) = ⟨[s[b]].toArray⟩ := by
    apply ByteArray.ext
    simp only [ByteArray.data_extract]
    apply Array.ext'
    simp only [Array.toList_extract, List.extract_eq_take_drop]
    rw [show b + 1 - b = 1 from by omega, List.drop_eq_getElem_cons h2]
    rfl
  rw [e]
end Go.Proofs.YtelpjiiladbigaaDoor

end
