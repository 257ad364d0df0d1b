/- Separator lines are lines; rows of entries of one sender. -/
import Derived.Test.YtcmhaihoeecjoaaGreatDoorM5
import Derived.Test.YtcmhaihoeecjoaaGreatDoorArgs
namespace Go.Proofs.YtcmhaihoeecjoaaGreatDoor
open Go.RowKit Go.Shelf
theorem two32_10 : ∀ n, n < 100 → ∀ c ∈ Da.two n 32, c ≠ 10 := by decide +kernel
theorem two48_10 : ∀ n, n < 100 → ∀ c ∈ Da.two n 48, c ≠ 10 := by decide +kernel
theorem year_10 : ∀ n, n < 130 → ∀ c ∈ Da.year (1970 + n), c ≠ 10 := by decide +kernel
theorem mon_10 : ∀ n, n < 13 → ∀ c ∈ Da.mon (n : Nat), c ≠ 10 := by decide +kernel
theorem wkd_10 : ∀ n, n < 7 → ∀ c ∈ Da.wkd (n : Nat), c ≠ 10 := by decide +kernel
theorem boxT_10 (t : Int) (h0 : 0 ≤ t) (h1 : t ≤ 4102444799) : (10 : UInt8) ∉ boxT t := by
  obtain ⟨y1, y2, m1, m2, d1, d2, a2, b2, c2, k2⟩ := dt_of t h0 h1
  unfold boxT
  revert y1 y2 m1 m2 d1 d2 a2 b2 c2 k2
  generalize (Da.Cal.cy (t / 86400)).toNat = y
  generalize (Da.Cal.cm (t / 86400)).toNat = m
  generalize (Da.Cal.cd (t / 86400)).toNat = d
  generalize (t % 86400 / 3600).toNat = h
  generalize (t % 3600 / 60).toNat = mi
  generalize (t % 60).toNat = s
  generalize ((4 + t / 86400) % 7).toNat = wk
  intro y1 y2 m1 m2 d1 d2 a2 b2 c2 k2 hc
  have key : ∀ c ∈ Da.boxL y m d h mi s wk, c ≠ 10 := by
    intro c hc
    unfold Da.boxL Da.clk at hc
    simp only [List.mem_append, List.mem_singleton] at hc
    have hy := year_10 (y - 1970) (by omega)
    rw [show 1970 + (y - 1970) = y by omega] at hy
    rcases hc with ((((((((hc | hc) | hc) | hc) | hc) | hc) | ((((hc | hc) | hc) | hc) | hc)) | hc) | hc)
    · exact wkd_10 wk (by omega) c hc
    · rw [hc]; decide
    · exact mon_10 m (by omega) c hc
    · rw [hc]; decide
    · exact two32_10 d (by omega) c hc
    · rw [hc]; decide
    · exact two48_10 h (by omega) c hc
    · rw [hc]; decide
    · exact two48_10 mi (by omega) c hc
    · rw [hc]; decide
    · exact two48_10 s (by omega) c hc
    · rw [hc]; decide
    · exact hy c hc
  exact key 10 hc rfl
theorem sepT_term {s : List UInt8} {t : Int} (hs : rightS s = true) (h0 : 0 ≤ t) (h1 : t ≤ 4102444799) : Term (sepT s t) ∧ sepB (sepT s t) = true := by
  refine ⟨⟨[70, 114, 111, 109, 32] ++ s ++ [32] ++ boxT t, rfl, ?_⟩, ?_⟩
  · intro h
    simp only [List.mem_append] at h
    rcases h with ((h | h) | h) | h
    · revert h; decide
    · have := right_all hs 10 h
      revert this; decide
    · revert h; decide
    · exact boxT_10 t h0 h1 h
  · unfold sepT sepB fromS
    simp [List.isPrefixOf]
theorem enc_bound (m : List UInt8) : (encL m).length ≤ 2 * m.length + 1 := by
  rw [enc_len]
  have h1 := List.length_filter_le nm (splitS m)
  have h2 := splitS_len m
  omega
theorem rowsT_bound : ∀ (es : List (List UInt8 × List UInt8)), (∀ e ∈ es, e.1.length ≤ 307 ∧ e.2.length ≤ 2000) → (rowsT es).length ≤ es.length * 4308
  | [], _ => by simp [rowsT]
  | e :: es, h => by
    have ih := rowsT_bound es fun x hx => h x (by simp [hx])
    have h1 := h e (by simp)
    have h2 := enc_bound e.2
    have e1 : rowsT (e :: es) = (e.1 ++ encL e.2) ++ rowsT es := by simp [rowsT]
    rw [e1, List.length_append, List.length_append, List.length_cons]
    omega
/-- A slice that came in: its elements. -/
theorem AR.at {α : Type} {f : α → Value} {w : World} {v : Value} {xs : List α} (h : AR w v (xs.map f)) (hne : xs ≠ []) : ∃ g o cap, v = .slice (some ⟨g, o, none⟩) xs.length cap ∧ xs.length ≤ cap ∧ cap ≤ maxLen ∧ g < w.heap.size ∧ ∀ j (hj : j < xs.length), w.cell? ⟨g, o + j, none⟩ = some (f xs[j]) := by
  obtain ⟨A, cap, rfl, h1, h2, h3, h4⟩ := h
  obtain ⟨g, o, rfl, hg, h5⟩ := h4 (by simpa using hne)
  rw [List.length_map] at h1 ⊢
  exact ⟨g, o, cap, rfl, h1, h2, hg, fun j hj => h5 j _ (by rw [List.getElem?_map, List.getElem?_eq_getElem hj]; rfl)⟩
theorem AR.len {α : Type} {f : α → Value} {w : World} {v : Value} {xs : List α} (h : AR w v (xs.map f)) : ∃ A cap, v = .slice A xs.length cap ∧ xs.length ≤ maxLen := by
  obtain ⟨A, cap, rfl, h1, h2, h3, h4⟩ := h
  rw [List.length_map] at h1 ⊢
  exact ⟨A, cap, rfl, by omega⟩
end Go.Proofs.YtcmhaihoeecjoaaGreatDoor
