/- Rows of entries: plain lists of lines. -/
/- Spans in memory; holdsMessage of package mbox. -/
import Derived.Test.YtcmhaihoeecjoaaGreatDoorU06
import Derived.Test.YtcmhaihoeecjoaaGreatDoorU05
section
namespace Go.Proofs.YtcmhaihoeecjoaaGreatDoor
/-- Entries one behind the other: each one's separator line and message. -/
def rowsT (es : List (List UInt8 × List UInt8)) : List UInt8 := (es.map fun e => e.1 ++ encL e.2).flatten
def rowsG (es : List (List UInt8 × List UInt8)) : List (List UInt8 × List (List UInt8)) := es.map fun e => (e.1, splitS (encL e.2))
def rowsL (es : List (List UInt8 × List UInt8)) : List (List UInt8) := (es.map fun e => e.1 :: splitS (encL e.2)).flatten
theorem enc_terms (m : List UInt8) : ∀ x ∈ splitS (encL m), Term x ∧ sepB x = false := by
  rw [enc_lines]
  intro x hx
  obtain ⟨y, hy, rfl⟩ := List.mem_map.1 hx
  exact ⟨(term_split m.length m (Nat.le_refl _) y hy).quote, sep_quote y⟩
theorem rowsL_flat (es : List (List UInt8 × List UInt8)) : (rowsL es).flatten = rowsT es := by
  unfold rowsL rowsT
  induction es with
  | nil => rfl
  | cons e es ih =>
    simp only [List.map_cons, List.flatten_cons, List.flatten_append]
    rw [ih, splitS_flat]
theorem rowsL_terms : ∀ (es : List (List UInt8 × List UInt8)), (∀ e ∈ es, Term e.1) → ∀ x ∈ rowsL es, Term x := by
  intro es h x hx
  unfold rowsL at hx
  obtain ⟨l, hl, hxl⟩ := List.mem_flatten.1 hx
  obtain ⟨e, he, rfl⟩ := List.mem_map.1 hl
  rcases List.mem_cons.1 hxl with rfl | hxl
  · exact h e he
  · exact (enc_terms e.2 x hxl).1
theorem rows_split {es : List (List UInt8 × List UInt8)} (h : ∀ e ∈ es, Term e.1) : splitS (rowsT es) = rowsL es := by
  rw [← rowsL_flat]
  exact (LOK.of_terms (rowsL_terms es h)).split
theorem rows_grp : ∀ (es : List (List UInt8 × List UInt8)), (∀ e ∈ es, sepB e.1 = true) → grp (rowsL es) = ([], rowsG es)
  | [], _ => rfl
  | e :: es, h => by
    have ih := rows_grp es fun x hx => h x (by simp [hx])
    have e1 : rowsL (e :: es) = e.1 :: (splitS (encL e.2) ++ rowsL es) := by simp [rowsL]
    rw [e1, grp_sep (h e (by simp)), grp_run _ _ (fun x hx => (enc_terms e.2 x hx).2), ih]
    simp [rowsG]
theorem rows_ok (es : List (List UInt8 × List UInt8)) : okG (rowsG es) = true := by
  unfold okG rowsG
  rw [List.all_eq_true]
  intro g hg
  obtain ⟨e, _, rfl⟩ := List.mem_map.1 hg
  show ((splitS (encL e.2)).flatten.getLast? == some 10) = true
  rw [splitS_flat]
  obtain ⟨m, hm⟩ := enc_end e.2
  rw [hm]
  simp
theorem rows_scan {es : List (List UInt8 × List UInt8)} (h : ∀ e ∈ es, Term e.1 ∧ sepB e.1 = true) : scanV (rowsT es) = some (spans 0 (rowsG es)) := by
  unfold scanV restV
  rw [rows_split fun e he => (h e he).1, rows_grp es fun e he => (h e he).2]
  rw [if_pos ⟨rfl, rows_ok es⟩]
theorem rows_lead {es : List (List UInt8 × List UInt8)} (h : ∀ e ∈ es, Term e.1 ∧ sepB e.1 = true) : grp (splitS (rowsT es)) = ([], rowsG es) := by
  rw [rows_split fun e he => (h e he).1, rows_grp es fun e he => (h e he).2]
theorem rows_cut {es : List (List UInt8 × List UInt8)} (h : ∀ e ∈ es, Term e.1 ∧ sepB e.1 = true) : (spans 0 (rowsG es)).map (cutB (rowsT es)) = es.map fun e => encL e.2 := by
  have := scan_cut (s := rowsT es) (by rw [rows_lead h])
  rw [rows_lead h] at this
  rw [this]
  unfold rowsG
  rw [List.map_map]
  exact List.map_congr_left fun e _ => splitS_flat _
theorem rows_head {es : List (List UInt8 × List UInt8)} (h : ∀ e ∈ es, Term e.1 ∧ sepB e.1 = true) : (spans 0 (rowsG es)).map (cutH (rowsT es)) = es.map fun e => e.1 ++ encL e.2 := by
  have := scan_head (s := rowsT es) (by rw [rows_lead h])
  rw [rows_lead h] at this
  rw [this]
  unfold rowsG
  rw [List.map_map]
  exact List.map_congr_left fun e _ => by show e.1 ++ (splitS (encL e.2)).flatten = _; rw [splitS_flat]
theorem rows_in {es : List (List UInt8 × List UInt8)} (h : ∀ e ∈ es, Term e.1 ∧ sepB e.1 = true) : ∀ p ∈ spans 0 (rowsG es), p.h ≤ p.b ∧ p.b ≤ p.e ∧ p.e ≤ (rowsT es).length := by
  have := scan_in (s := rowsT es) (by rw [rows_lead h])
  rwa [rows_lead h] at this
theorem rowsT_snoc (es : List (List UInt8 × List UInt8)) (e : List UInt8 × List UInt8) : rowsT (es ++ [e]) = rowsT es ++ (e.1 ++ encL e.2) := by simp [rowsT]
end Go.Proofs.YtcmhaihoeecjoaaGreatDoor

end
section
namespace Go.Proofs.YtcmhaihoeecjoaaGreatDoor
open Go.RowKit Go.Shelf
/-- A span's three cells. -/
def Sp.cs (p : Sp) : List Value := [.int .i64 p.h, .int .i64 p.b, .int .i64 p.e]
def spC (xs : List Sp) : List Value := xs.flatMap Sp.cs
theorem spC_len (xs : List Sp) : (spC xs).length = xs.length * 3 := by
  unfold spC
  induction xs with
  | nil => rfl
  | cons x xs ih =>
    rw [List.flatMap_cons, List.length_append, ih, List.length_cons]
    show 3 + _ = _
    omega
theorem spC_snoc (xs : List Sp) (p : Sp) : spC (xs ++ [p]) = spC xs ++ p.cs := by simp [spC]
theorem spC_app (xs ys : List Sp) : spC (xs ++ ys) = spC xs ++ spC ys := by simp [spC]
theorem spC_at (xs : List Sp) (i : Nat) (hi : i < xs.length) (j : Nat) (hj : j < 3) : (spC xs)[i * 3 + j]? = xs[i].cs[j]? := by
  have e : xs = xs.take i ++ (xs[i] :: xs.drop (i + 1)) := by rw [← List.drop_eq_getElem_cons hi, List.take_append_drop]
  have h : spC xs = spC (xs.take i) ++ (xs[i].cs ++ spC (xs.drop (i + 1))) := by
    conv => lhs; rw [e]
    rw [spC_app]
    rfl
  rw [h, List.getElem?_append_right (by rw [spC_len, List.length_take]; omega), spC_len, List.length_take, Nat.min_eq_left (by omega), Nat.add_sub_cancel_left, List.getElem?_append_left (by show j < 3; exact hj)]
/-- Spans in a row of this call's own. -/
def Sps (B : Nat) (w : World) (v : Value) (xs : List Sp) : Prop := ∃ G, Rw w 3 v xs.length (spC xs) G ∧ ∀ g, G = some g → B ≤ g
theorem Sps.nil (B : Nat) (w : World) : Sps B w (.slice none 0 0) [] := ⟨none, Rw.nil w 3, fun _ h => by cases h⟩
theorem Sps.keep {B : Nat} {w w' : World} {v : Value} {xs : List Sp} {S : Nat → Prop} (h : Sps B w v xs) (hm : Mvs S w w') (hs : ∀ k, B ≤ k → ¬ S k) : Sps B w' v xs := by
  obtain ⟨G, hr, hg⟩ := h
  exact ⟨G, hr.keep hm fun g e => hs g (hg g e), hg⟩
theorem Sps.below {B : Nat} {w w' : World} {v : Value} {xs : List Sp} (h : Sps B w v xs) (hb : Below w.heap.size w w') : Sps B w' v xs := h.keep (S := fun _ => False) (Mvs.of_below hb) (fun _ _ c => c)
theorem Sps.mono {B B' : Nat} {w : World} {v : Value} {xs : List Sp} (h : Sps B w v xs) (hb : B' ≤ B) : Sps B' w v xs := by
  obtain ⟨G, hr, hg⟩ := h
  exact ⟨G, hr, fun g e => Nat.le_trans hb (hg g e)⟩
/-- A slice of spans, to be read. -/
theorem Sps.read {B : Nat} {w : World} {v : Value} {xs : List Sp} (h : Sps B w v xs) (i : Nat) (hi : i < xs.length) : ∃ g o cap, v = .slice (some ⟨g, o, none⟩) xs.length cap ∧ xs.length ≤ cap ∧ cap ≤ maxLen ∧ B ≤ g ∧ g < w.heap.size ∧
    w.cell? ⟨g, o + i * 3, none⟩ = some (.int .i64 xs[i].h) ∧ w.cell? ⟨g, o + i * 3 + 1, none⟩ = some (.int .i64 xs[i].b) ∧ w.cell? ⟨g, o + i * 3 + 2, none⟩ = some (.int .i64 xs[i].e) ∧ ∀ j, j < 3 → w.frozen? ⟨g, o + i * 3 + j, none⟩ = false := by
  obtain ⟨G, hr, hg⟩ := h
  rcases hr.2 with ⟨_, h0, _⟩ | ⟨g, o, cap, rfl, rfl, h1, h2, h3, h4, h5⟩
  · omega
  · have hc : ∀ j u, j < 3 → xs[i].cs[j]? = some u → w.cell? ⟨g, o + i * 3 + j, none⟩ = some u := fun j u hj hu => by
      rw [Nat.add_assoc]
      exact h4 _ _ ((spC_at xs i hi j hj).trans hu)
    refine ⟨g, o, cap, rfl, h1, h2, hg g rfl, h3, hc 0 _ (by decide) rfl, hc 1 _ (by decide) rfl, hc 2 _ (by decide) rfl, fun j hj => ?_⟩
    rw [Nat.add_assoc]
    exact (h5 (i * 3 + j) (by omega)).2
theorem spC_setLast (xs : List Sp) (p : Sp) (e : Nat) (j : Nat) (u : Value) (h : (spC (xs ++ [⟨p.h, p.b, e⟩]))[j]? = some u) : (j = xs.length * 3 + 2 ∧ u = .int .i64 e) ∨ (j ≠ xs.length * 3 + 2 ∧ (spC (xs ++ [p]))[j]? = some u) := by
  rw [spC_snoc] at h
  rw [spC_snoc]
  by_cases hj : j < (spC xs).length
  · rw [List.getElem?_append_left hj] at h
    rw [spC_len] at hj
    exact .inr ⟨by omega, by rw [List.getElem?_append_left (by rw [spC_len]; omega)]; exact h⟩
  · rw [List.getElem?_append_right (by omega), spC_len] at h
    rw [spC_len] at hj
    rw [List.getElem?_append_right (by rw [spC_len]; omega), spC_len]
    generalize hk : j - xs.length * 3 = k at h
    match k with
    | 0 => exact .inr ⟨by omega, h⟩
    | 1 => exact .inr ⟨by omega, h⟩
    | 2 => exact .inl ⟨by omega, by simpa [Sp.cs] using h.symm⟩
    | k + 3 => simp [Sp.cs] at h
/-- The last span's End is written over. -/
theorem Sps.setEnd {B : Nat} {w : World} {v : Value} {xs : List Sp} {p : Sp} (h : Sps B w v (xs ++ [p])) (e : Nat) : ∃ g o cap, v = .slice (some ⟨g, o, none⟩) (xs.length + 1) cap ∧ xs.length + 1 ≤ cap ∧ cap ≤ maxLen ∧ B ≤ g ∧ g < w.heap.size ∧
    (∃ u, w.cell? ⟨g, o + xs.length * 3 + 2, none⟩ = some u) ∧ w.frozen? ⟨g, o + xs.length * 3 + 2, none⟩ = false ∧ Sps B (w.setCell ⟨g, o + xs.length * 3 + 2, none⟩ (.int .i64 e)) v (xs ++ [⟨p.h, p.b, e⟩]) := by
  obtain ⟨G, hr, hg⟩ := h
  rcases hr.2 with ⟨_, h0, _⟩ | ⟨g, o, cap, rfl, rfl, h1, h2, h3, h4, h5⟩
  · simp at h0
  · simp only [List.length_append, List.length_singleton] at h1 h5 ⊢
    refine ⟨g, o, cap, rfl, h1, h2, hg g rfl, h3, ?_, ?_, some g, ⟨?_, .inr ⟨g, o, cap, rfl, by simp, by simpa using h1, h2, by simpa [World.setCell] using h3, fun j u hu => ?_, fun j hj => ?_⟩⟩, fun g' e' => by cases e'; exact hg g rfl⟩
    · have := (h5 (xs.length * 3 + 2) (by omega)).1
      rw [← Nat.add_assoc] at this
      exact Option.isSome_iff_exists.1 this
    · have := (h5 (xs.length * 3 + 2) (by omega)).2
      rwa [← Nat.add_assoc] at this
    · rw [spC_len]
    · rcases spC_setLast xs p e j u hu with ⟨rfl, rfl⟩ | ⟨hne, hu'⟩
      · rw [← Nat.add_assoc]
        have := (h5 (xs.length * 3 + 2) (by omega)).1
        rw [← Nat.add_assoc] at this
        obtain ⟨u0, hu0⟩ := Option.isSome_iff_exists.1 this
        exact World.cell?_setCell_same _ _ _ hu0
      · rw [World.cell?_setCell_other _ _ _ _ (by intro e; have := congrArg Addr.off e; dsimp only at this; omega)]
        exact h4 j u hu'
    · rw [World.frozen?_setCell]
      refine ⟨?_, (h5 j hj).2⟩
      by_cases hje : o + j = o + xs.length * 3 + 2
      · rw [hje]
        have := (h5 j hj).1
        rw [hje] at this
        obtain ⟨u0, hu0⟩ := Option.isSome_iff_exists.1 this
        rw [World.cell?_setCell_same _ _ _ hu0]
        rfl
      · rw [World.cell?_setCell_other _ _ _ _ (by intro e; have := congrArg Addr.off e; dsimp only at this; omega)]
        exact (h5 j hj).1
theorem slice_str (s : List UInt8) (b e : Nat) (h1 : b ≤ e) (h2 : e ≤ s.length) (w : World) : (Instr.slice 9 (.string ⟨s.toArray⟩) (some (.int .i64 b)) (some (.int .i64 e)) none).run Tryz.prog w = .ok (.string ⟨((s.drop b).take (e - b)).toArray⟩) w := by
  have := run_slice_string (P := Tryz.prog) w 9 ⟨s.toArray⟩ .i64 .i64 (b : Int) (e : Int) Tryz.underlying9 (by omega) (by omega) (by rw [size_lit]; omega)
  rw [this]
  have e1 := ext_mid s b e
  rw [← e1]
  rfl
/-- Does what stands from Body to End end with a byte 10? -/
def holdsB (s : List UInt8) (p : Sp) : Bool := decide ((cutB s p).getLast? = some 10)
set_option maxHeartbeats 1000000 in
theorem holds_any (s : List UInt8) (p : Sp) (w : World) (hs : s.length ≤ 1000000) (h1 : p.b ≤ p.e) (h2 : p.e ≤ s.length) :
    Calls Tryz.prog 53 #[.string ⟨s.toArray⟩, .agg #[.int .i64 p.h, .int .i64 p.b, .int .i64 p.e]] w fun e w' => e = .returned (.bool (holdsB s p)) ∧ Below w.heap.size w w' := by
  obtain ⟨h, b, e⟩ := p
  dsimp only at h1 h2 ⊢
  have hsl := fun w => slice_str s b e h1 h2 w
  have hc : (cutB s ⟨h, b, e⟩).length ≤ 1000000 := by unfold cutB; rw [List.length_take, List.length_drop]; omega
  have HS := hide (fun w => suf_calls (s := cutB s ⟨h, b, e⟩) (b := holdsB s ⟨h, b, e⟩) hc (by unfold holdsB; rw [Bool.eq_iff_iff, suf_iff]; simp) w)
  have HC : Hid (cutB s ⟨h, b, e⟩ = (s.drop b).take (e - b)) := rfl
  rw [HC.out] at HS
  clear hc HC
  generalize holdsB s ⟨h, b, e⟩ = R at *
  generalize (s.drop b).take (e - b) = x at *
  go_enter Tryz.func53, Tryz.ntmps53
  go_wp2_with (first
    | (go_at_call 54; refine (HS.out _).mono ?_; rintro e w1 ⟨rfl, rfl⟩))
  go_ret
  exact ⟨rfl, (Below.refl _ _).alloc (Nat.le_refl _) _⟩
end Go.Proofs.YtcmhaihoeecjoaaGreatDoor

end
