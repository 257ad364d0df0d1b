/- The search of package boxes in plain lists: a pattern cut at stars, slashes and percent signs, each run taken as far ahead as it fits, fits just what the pattern fits. -/
import Derived.Lib.IndexMore
import Derived.Lib.IndexLaws
import Derived.Test.YtbjencibkkhbhaaGreatDoorBoMath
namespace Go.Proofs.YtbjencibkkhbhaaGreatDoor
/-- A pattern fits a text, letters standing for themselves. -/
def Fi (P a : List UInt8) : Prop := fit false P a = true
theorem same0 (c d : UInt8) : sameI false c d = (c == d) := by simp [sameI]
theorem Fi_nil {a : List UInt8} : Fi [] a ↔ a = [] := by
  unfold Fi; rw [fit_nil]; cases a <;> simp
theorem Fi_lit {c : UInt8} (h : starB c = false) {P a : List UInt8} : Fi (c :: P) a ↔ ∃ r, a = c :: r ∧ Fi P r := by
  unfold Fi
  cases a with
  | nil => rw [fit_end, h]; simp
  | cons d n =>
    rw [fit_char h, same0]
    constructor
    · intro hh
      simp only [Bool.and_eq_true, beq_iff_eq] at hh
      exact ⟨n, by rw [hh.1], hh.2⟩
    · rintro ⟨r, hr, hf⟩
      injection hr with h1 h2
      subst h1; subst h2
      simp [hf]
theorem Fi_star {c : UInt8} (h : starB c = true) {P : List UInt8} : ∀ {a : List UInt8}, Fi (c :: P) a ↔ ∃ u v, a = u ++ v ∧ (c = 42 ∨ (47 : UInt8) ∉ u) ∧ Fi P v
  | [] => by
    unfold Fi
    rw [fit_end, h, Bool.true_and]
    constructor
    · intro hh; exact ⟨[], [], rfl, .inr (by simp), hh⟩
    · rintro ⟨u, v, hh, _, hf⟩
      have := List.append_eq_nil_iff.1 hh.symm
      rw [this.2] at hf; exact hf
  | d :: n => by
    have ih := Fi_star h (P := P) (a := n)
    unfold Fi at ih ⊢
    rw [fit_star h, Bool.or_eq_true, Bool.and_eq_true, ih]
    constructor
    · rintro (hh | ⟨hd, u, v, hn, hu, hf⟩)
      · exact ⟨[], d :: n, rfl, .inr (by simp), hh⟩
      · refine ⟨d :: u, v, by rw [hn]; rfl, ?_, hf⟩
        simp only [Bool.or_eq_true, beq_iff_eq, bne_iff_ne] at hd
        rcases hd with hd | hd
        · exact .inl hd
        · rcases hu with hu | hu
          · exact .inl hu
          · exact .inr (by simp only [List.mem_cons, not_or]; exact ⟨fun e => hd e.symm, hu⟩)
    · rintro ⟨u, v, hn, hu, hf⟩
      cases u with
      | nil => exact .inl (by rw [List.nil_append] at hn; rw [hn]; exact hf)
      | cons x u =>
        rw [List.cons_append] at hn
        injection hn with h1 h2
        subst h1
        refine .inr ⟨?_, u, v, h2, ?_, hf⟩
        · rcases hu with hu | hu
          · simp [hu]
          · have : d ≠ 47 := fun e => hu (by simp [e])
            simp [this]
        · exact hu.imp id (fun h hm => h (by simp [hm]))
theorem Fi_app : ∀ {P Q a : List UInt8}, Fi (P ++ Q) a ↔ ∃ u v, a = u ++ v ∧ Fi P u ∧ Fi Q v
  | [], Q, a => by
    constructor
    · intro h; exact ⟨[], a, rfl, Fi_nil.2 rfl, h⟩
    · rintro ⟨u, v, h, hu, hv⟩
      rw [Fi_nil.1 hu] at h
      rw [List.nil_append] at h ⊢
      rw [h]; exact hv
  | c :: P, Q, a => by
    rw [List.cons_append]
    cases hc : starB c with
    | true =>
      rw [Fi_star hc]
      constructor
      · rintro ⟨u, v, rfl, hu, hv⟩
        obtain ⟨x, y, rfl, hx, hy⟩ := Fi_app.1 hv
        exact ⟨u ++ x, y, by simp, (Fi_star hc).2 ⟨u, x, rfl, hu, hx⟩, hy⟩
      · rintro ⟨u, v, rfl, hu, hv⟩
        obtain ⟨x, y, rfl, hx, hy⟩ := (Fi_star hc).1 hu
        exact ⟨x, y ++ v, by simp, hx, Fi_app.2 ⟨y, v, rfl, hy, hv⟩⟩
    | false =>
      rw [Fi_lit hc]
      constructor
      · rintro ⟨r, rfl, hr⟩
        obtain ⟨x, y, rfl, hx, hy⟩ := Fi_app.1 hr
        exact ⟨c :: x, y, by simp, (Fi_lit hc).2 ⟨x, rfl, hx⟩, hy⟩
      · rintro ⟨u, v, rfl, hu, hv⟩
        obtain ⟨r, rfl, hr⟩ := (Fi_lit hc).1 hu
        exact ⟨r ++ v, rfl, Fi_app.2 ⟨r, v, rfl, hr, hv⟩⟩
theorem Fi_word : ∀ {p a : List UInt8}, (∀ c ∈ p, starB c = false) → (Fi p a ↔ a = p)
  | [], a, _ => Fi_nil
  | c :: p, a, h => by
    rw [Fi_lit (h c (by simp))]
    constructor
    · rintro ⟨r, rfl, hr⟩
      rw [(Fi_word (fun x hx => h x (by simp [hx]))).1 hr]
    · rintro rfl
      exact ⟨p, rfl, (Fi_word (fun x hx => h x (by simp [hx]))).2 rfl⟩
theorem Fi_flat : ∀ {G a : List UInt8}, (∀ c ∈ G, c ≠ 42 ∧ c ≠ 47) → Fi G a → (47 : UInt8) ∉ a
  | [], a, _, h => by rw [Fi_nil.1 h]; simp
  | c :: G, a, hG, h => by
    have hc := hG c (by simp)
    cases hs : starB c with
    | true =>
      obtain ⟨u, v, rfl, hu, hv⟩ := (Fi_star hs).1 h
      have h1 := hu.resolve_left hc.1
      have h2 := Fi_flat (fun x hx => hG x (by simp [hx])) hv
      simp [h1, h2]
    | false =>
      obtain ⟨r, rfl, hr⟩ := (Fi_lit hs).1 h
      have h2 := Fi_flat (fun x hx => hG x (by simp [hx])) hr
      simp only [List.mem_cons, not_or]
      exact ⟨fun e => hc.2 e.symm, h2⟩
theorem Fi_congr {k P Q : List UInt8} (h : ∀ a, Fi P a ↔ Fi Q a) (a : List UInt8) : Fi (k ++ P) a ↔ Fi (k ++ Q) a := by
  rw [Fi_app, Fi_app]
  constructor
  · rintro ⟨u, v, h1, h2, h3⟩; exact ⟨u, v, h1, h2, (h v).1 h3⟩
  · rintro ⟨u, v, h1, h2, h3⟩; exact ⟨u, v, h1, h2, (h v).2 h3⟩
/-- Two signs side by side. -/
theorem Fi_two {c d e : UInt8} (hc : starB c = true) (hd : starB d = true) (he : e = if c = 42 ∨ d = 42 then 42 else 37) (P a : List UInt8) : Fi (c :: d :: P) a ↔ Fi (e :: P) a := by
  have hs : starB e = true := by rw [he]; split <;> rfl
  rw [Fi_star hc, Fi_star hs]
  constructor
  · rintro ⟨u, v, rfl, hu, hv⟩
    obtain ⟨x, y, rfl, hx, hy⟩ := (Fi_star hd).1 hv
    refine ⟨u ++ x, y, by simp, ?_, hy⟩
    rw [he]
    by_cases h : c = 42 ∨ d = 42
    · exact .inl (if_pos h)
    · rw [not_or] at h
      exact .inr (by simp [hu.resolve_left h.1, hx.resolve_left h.2])
  · rintro ⟨u, v, rfl, hu, hv⟩
    rw [he] at hu
    by_cases h1 : c = 42
    · exact ⟨u, v, rfl, .inl h1, (Fi_star hd).2 ⟨[], v, rfl, .inr (by simp), hv⟩⟩
    · by_cases h2 : d = 42
      · exact ⟨[], u ++ v, rfl, .inr (by simp), (Fi_star hd).2 ⟨u, v, rfl, .inl h2, hv⟩⟩
      · rw [if_neg (by simp [h1, h2])] at hu
        exact ⟨u, v, rfl, .inr (hu.resolve_left (by decide)), (Fi_star hd).2 ⟨[], v, rfl, .inr (by simp), hv⟩⟩
/-- What package boxes keeps of a pattern: no two signs side by side. -/
def simS (k : List UInt8) (c : UInt8) : List UInt8 :=
  match k.getLast? with
  | none => k ++ [c]
  | some d => if starB c && starB d then (if c = 42 then k.dropLast ++ [42] else k) else k ++ [c]
def simL (P : List UInt8) : List UInt8 := P.foldl simS []
theorem simS_len (k : List UInt8) (c : UInt8) : (simS k c).length ≤ k.length + 1 := by
  unfold simS
  split
  · simp
  · split
    · split
      · simp
      · omega
    · simp
theorem simS_fi (k : List UInt8) (c : UInt8) (Q a : List UInt8) : Fi (simS k c ++ Q) a ↔ Fi (k ++ c :: Q) a := by
  unfold simS
  split
  · simp
  · rename_i d hd
    obtain ⟨k', rfl⟩ : ∃ k', k = k' ++ [d] := by
      rw [List.getLast?_eq_some_iff] at hd; exact hd
    split
    · rename_i hs
      rw [Bool.and_eq_true] at hs
      rw [List.dropLast_concat]
      have key : ∀ e, e = (if d = 42 ∨ c = 42 then (42 : UInt8) else 37) → (Fi (k' ++ e :: Q) a ↔ Fi (k' ++ [d] ++ c :: Q) a) := fun e he => by
        rw [List.append_assoc]
        exact Fi_congr (fun a => (Fi_two hs.2 hs.1 he Q a).symm) a
      split
      · rename_i h
        rw [List.append_assoc]
        exact key 42 (by rw [if_pos (.inr h)])
      · rename_i h
        rw [show k' ++ [d] ++ Q = k' ++ d :: Q from by simp]
        refine key d ?_
        by_cases h1 : d = 42
        · rw [if_pos (.inl h1), h1]
        · rw [if_neg (by simp [h, h1])]
          have := hs.2
          simp [starB, h1] at this
          exact this
    · simp
theorem simF_fi : ∀ (P k a : List UInt8), Fi (P.foldl simS k) a ↔ Fi (k ++ P) a
  | [], k, a => by simp
  | c :: P, k, a => by rw [List.foldl_cons, simF_fi P (simS k c) a, simS_fi k c P a]
theorem simL_fi (P a : List UInt8) : Fi (simL P) a ↔ Fi P a := simF_fi P [] a
theorem simF_len : ∀ (P k : List UInt8), (P.foldl simS k).length ≤ k.length + P.length
  | [], k => by simp
  | c :: P, k => by
    have h1 := simF_len P (simS k c)
    have h2 := simS_len k c
    rw [List.foldl_cons]
    simp only [List.length_cons]
    omega
/-- Texts with a byte between them; a text cut at a byte. -/
def jn (c : UInt8) : List (List UInt8) → List UInt8
  | [] => []
  | [p] => p
  | p :: q :: r => p ++ c :: jn c (q :: r)
theorem jn_cons {c : UInt8} {p : List UInt8} {r : List (List UInt8)} (h : r ≠ []) : jn c (p :: r) = p ++ c :: jn c r := by
  cases r with
  | nil => exact absurd rfl h
  | cons q r => rfl
def spc (c : UInt8) : List UInt8 → List (List UInt8)
  | [] => [[]]
  | x :: r => if x = c then [] :: spc c r else match spc c r with
    | [] => [[x]]
    | p :: ps => (x :: p) :: ps
theorem spc_ne (c : UInt8) (l : List UInt8) : spc c l ≠ [] := by
  cases l with
  | nil => simp [spc]
  | cons x l =>
    unfold spc
    split
    · simp
    · split <;> simp
theorem spc_end {c : UInt8} : ∀ {p : List UInt8}, c ∉ p → spc c p = [p]
  | [], _ => rfl
  | x :: p, h => by
    have h1 := spc_end (c := c) (p := p) (fun hp => h (List.mem_cons_of_mem _ hp))
    have hc : x ≠ c := fun e => h (by simp [e])
    rw [spc, if_neg hc, h1]
theorem spc_mid {c : UInt8} : ∀ {p : List UInt8} (r : List UInt8), c ∉ p → spc c (p ++ c :: r) = p :: spc c r
  | [], r, _ => by simp [spc]
  | x :: p, r, h => by
    have h1 := spc_mid (c := c) (p := p) r (fun hp => h (List.mem_cons_of_mem _ hp))
    have hc : x ≠ c := fun e => h (by simp [e])
    rw [List.cons_append, spc, if_neg hc, h1]
theorem spc_in {c : UInt8} : ∀ (l : List UInt8), ∀ x ∈ spc c l, c ∉ x ∧ ∀ y ∈ x, y ∈ l
  | [], x, h => by
    simp [spc] at h
    simp [h]
  | b :: l, x, h => by
    have h1 := spc_in (c := c) l
    by_cases hc : b = c
    · rw [spc, if_pos hc] at h
      rcases List.mem_cons.1 h with rfl | h
      · simp
      · exact ⟨(h1 x h).1, fun y hy => List.mem_cons_of_mem _ ((h1 x h).2 y hy)⟩
    · rw [spc, if_neg hc] at h
      split at h
      · rename_i e; exact absurd e (spc_ne c l)
      · rename_i p ps e
        rw [e] at h1
        rcases List.mem_cons.1 h with rfl | h
        · have := h1 p (by simp)
          refine ⟨?_, fun y hy => ?_⟩
          · simp only [List.mem_cons, not_or]; exact ⟨fun e => hc e.symm, this.1⟩
          · rcases List.mem_cons.1 hy with rfl | hy
            · simp
            · exact List.mem_cons_of_mem _ (this.2 y hy)
        · have := h1 x (by simp [h])
          exact ⟨this.1, fun y hy => List.mem_cons_of_mem _ (this.2 y hy)⟩
theorem jn_spc (c : UInt8) : ∀ (l : List UInt8), jn c (spc c l) = l
  | [] => rfl
  | x :: l => by
    have ih := jn_spc c l
    unfold spc
    split
    · rename_i h
      rw [jn_cons (spc_ne c l), ih, h]; rfl
    · split
      · rename_i e; exact absurd e (spc_ne c l)
      · rename_i p ps e
        rw [e] at ih
        cases ps with
        | nil => rw [← ih]; rfl
        | cons q r => rw [← ih]; rfl
theorem spc_len (c : UInt8) : ∀ (l : List UInt8), (spc c l).length ≤ l.length + 1
  | [] => by simp [spc]
  | x :: l => by
    have ih := spc_len c l
    unfold spc
    split
    · simp; omega
    · split
      · simp
      · rename_i p ps e
        rw [e] at ih
        simp at ih ⊢; omega
theorem spc_size {c : UInt8} : ∀ (l : List UInt8), ∀ x ∈ spc c l, x.length ≤ l.length
  | [], x, h => by
    simp [spc] at h
    simp [h]
  | b :: l, x, h => by
    have h1 := spc_size (c := c) l
    by_cases hc : b = c
    · rw [spc, if_pos hc] at h
      rcases List.mem_cons.1 h with rfl | h
      · simp
      · have := h1 x h; simp; omega
    · rw [spc, if_neg hc] at h
      split at h
      · rename_i e; exact absurd e (spc_ne c l)
      · rename_i p ps e
        rw [e] at h1
        rcases List.mem_cons.1 h with rfl | h
        · have := h1 p (by simp); simp; omega
        · have := h1 x (by simp [h]); simp; omega
end Go.Proofs.YtbjencibkkhbhaaGreatDoor
