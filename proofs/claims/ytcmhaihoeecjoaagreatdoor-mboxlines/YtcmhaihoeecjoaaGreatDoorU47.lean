/- The document's Separator: what it reads back. -/
import Derived.Test.YtcmhaihoeecjoaaGreatDoorU35
import Derived.Test.YtcmhaihoeecjoaaGreatDoorU46
namespace Go.Proofs.YtcmhaihoeecjoaaGreatDoor
open Go.RowKit Go.Shelf
/-- The parts, laid for the document's reading: the day without its blank. -/
def dayD (C : List UInt8) : List UInt8 := if C.head? = some 32 then C.drop 1 else C
def laidM (q : List UInt8) : List UInt8 := dayD ((q.drop 8).take 2) ++ 32 :: ((q.drop 4).take 3 ++ 32 :: (q.drop 20 ++ 32 :: ((q.drop 11).take 8 ++ [32, 43, 48, 48, 48, 48])))
theorem blks1 : Da.Blks [32] := by
  intro c hc
  simp at hc
  subst hc
  decide
theorem blks0 : Da.Blks [] := fun c hc => by cases hc
theorem dayD_box {d : Nat} (h1 : 1 ≤ d) (h2 : d ≤ 31) : ((dayD (Da.two d 32)).length = 1 ∨ (dayD (Da.two d 32)).length = 2) ∧ Da.Digs (dayD (Da.two d 32)) ∧ Da.valL (dayD (Da.two d 32)) 0 = d := by
  by_cases h10 : d < 10
  · obtain ⟨e1, e2, e3⟩ := two32_lo d h10
    have e : dayD (Da.two d 32) = [UInt8.ofNat (48 + d)] := by rw [e1]; rfl
    rw [e]
    refine ⟨.inl rfl, fun c hc => ?_, e3⟩
    rw [List.mem_singleton.1 hc]
    exact e2
  · obtain ⟨e1, e2, e3, e4, e4', e5⟩ := two32_hi d (by omega) (by omega)
    have e : dayD (Da.two d 32) = Da.two d 32 := by
      unfold dayD
      rw [if_neg]
      rw [e1]
      simpa using e4'
    rw [e]
    refine ⟨.inr (by rw [e1]; rfl), fun c hc => ?_, e5⟩
    rw [e1] at hc
    rcases List.mem_cons.1 hc with h | h
    · rw [h]; exact e2
    · rw [List.mem_singleton.1 h]; exact e3
theorem rread_back (t : Int) (h0 : 0 ≤ t) (h1 : t ≤ 4102444799) : Da.docR ((Da.pmailF (Da.σz (laidM (boxT t)))).bind Da.endF) = .tuple #[.int .i64 t, .int .i64 0] := by
  obtain ⟨y, m, d, h, mi, s, wk, hd, hr, hm, hb⟩ := box_parts t h0 h1
  have hd' := hd
  obtain ⟨y1, y2, m1, m2, d1, d2, a2, b2, c2, k2⟩ := hd'
  have hy := year_d (y - 1970) (by omega)
  rw [show 1970 + (y - 1970) = y by omega] at hy
  have hmn := mon_d (m - 1) (by omega)
  rw [show m - 1 + 1 = m by omega] at hmn
  obtain ⟨p1, p2, p3⟩ := two48_d h (by omega)
  obtain ⟨q1, q2, q3⟩ := two48_d mi (by omega)
  obtain ⟨r1, r2, r3⟩ := two48_d s (by omega)
  obtain ⟨e1, e2, e3⟩ := dayD_box d1 d2
  obtain ⟨c1, c2', c3, c4⟩ := (boxP_of hd).cuts
  have hsh : Da.ShM (laidM (boxT t)) [] [] (dayD (Da.two d 32)) [32] (m - 1) [32] (Da.year y) [32] (Da.two h 48) (Da.two mi 48) (58 :: Da.two s 48) s [32] 43 [48, 48] [48, 48] [] := by
    refine ⟨?_, blks0, .inl rfl, e1, e2, by simp, blks1, by omega, by simp, blks1, hy.1, digs_of hy.2.1, by simp, blks1, p1, digs_of p2, q1, digs_of q2, .inr ⟨_, rfl, r1, digs_of r2, r3.symm⟩, by simp, blks1, .inl rfl, rfl, digs00, rfl, digs00, by decide, by decide, blks0⟩
    unfold laidM
    rw [hb, c1, c2', c3, c4, ← hmn.1]
    unfold Da.clk
    simp
  have hp := Da.pmail_fwd hsh
  rw [hy.2.2, p3, q3, e3] at hp
  rw [hp]
  have ez : Da.sgn 43 * ((Da.valL [48, 48] 0 : Int) * 3600 + (Da.valL [48, 48] 0 : Int) * 60) = 0 := by decide
  rw [ez]
  unfold Da.docR Da.madeV
  dsimp only
  have em : ((m - 1 : Nat) : Int) + 1 = m := by omega
  rw [em, hm, if_pos ⟨hr, by omega, by omega⟩]
  simp
theorem docR_cases (r : Option Da.RS) : (∃ T : Int, 0 ≤ T ∧ T ≤ 4102444799 ∧ Da.docR r = .tuple #[.int .i64 T, .int .i64 0]) ∨ ∃ n : Int, n ≠ 0 ∧ Da.docR r = .tuple #[.int .i64 0, .int .i64 n] := by
  unfold Da.docR
  cases r with
  | none => exact .inr ⟨2, by decide, rfl⟩
  | some σ =>
    unfold Da.madeV
    dsimp only
    split
    · rename_i hc
      exact .inl ⟨_, hc.2.1, hc.2.2, rfl⟩
    · exact .inr ⟨1, by decide, rfl⟩
end Go.Proofs.YtcmhaihoeecjoaaGreatDoor
