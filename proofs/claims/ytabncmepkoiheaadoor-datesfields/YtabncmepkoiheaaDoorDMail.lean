/- A date field's words: what the document asks of them. -/
import Derived.Test.YtabncmepkoiheaaDoorRf8
namespace Go.Proofs.YtabncmepkoiheaaDoor
open Go.RowKit
theorem like_t5 (a : List UInt8) : likeB a [48, 48, 58, 48, 48] = true ↔ ∃ hs ms, a = hs ++ 58 :: ms ∧ hs.length = 2 ∧ ms.length = 2 ∧ Digs hs ∧ Digs ms := by
  have key : ∀ (hs : List UInt8) (c : UInt8) (ms : List UInt8), hs.length = 2 → ms.length = 2 → (likeB (hs ++ c :: ms) [48, 48, 58, 48, 48] = true ↔ Digs hs ∧ c = 58 ∧ Digs ms) := by
    intro hs c ms h1 h2
    have e1 := likeB_app hs (List.replicate 2 48) (c :: ms) (58 :: List.replicate 2 48) (by simp [h1])
    have e2 := likeB_app [c] [58] ms (List.replicate 2 48) rfl
    have hall : likeB (hs ++ c :: ms) [48, 48, 58, 48, 48] = (likeB hs (List.replicate 2 48) && (likeB [c] [58] && likeB ms (List.replicate 2 48))) := by
      rw [← e2]
      exact e1
    rw [hall]
    simp only [Bool.and_eq_true]
    rw [likeB_one c 58 (by decide), rep_like 2 hs h1, rep_like 2 ms h2]
  constructor
  · intro h
    have hl := likeB_len h
    match a, hl with
    | [a0, a1, a2, a3, a4], _ =>
      obtain ⟨d1, rfl, d2⟩ := (key [a0, a1] a2 [a3, a4] rfl rfl).1 h
      exact ⟨[a0, a1], [a3, a4], rfl, rfl, rfl, d1, d2⟩
  · rintro ⟨hs, ms, rfl, h1, h2, d1, d2⟩
    exact (key hs 58 ms h1 h2).2 ⟨d1, rfl, d2⟩
theorem like_t8 (a : List UInt8) : likeB a [48, 48, 58, 48, 48, 58, 48, 48] = true ↔ ∃ hs ms ss, a = hs ++ 58 :: (ms ++ 58 :: ss) ∧ hs.length = 2 ∧ ms.length = 2 ∧ ss.length = 2 ∧ Digs hs ∧ Digs ms ∧ Digs ss := by
  have key : ∀ (hs : List UInt8) (c : UInt8) (ms : List UInt8) (d : UInt8) (ss : List UInt8), hs.length = 2 → ms.length = 2 → ss.length = 2 → (likeB (hs ++ c :: (ms ++ d :: ss)) [48, 48, 58, 48, 48, 58, 48, 48] = true ↔ Digs hs ∧ c = 58 ∧ Digs ms ∧ d = 58 ∧ Digs ss) := by
    intro hs c ms d ss h1 h2 h3
    have e1 := likeB_app hs (List.replicate 2 48) (c :: (ms ++ d :: ss)) (58 :: (List.replicate 2 48 ++ 58 :: List.replicate 2 48)) (by simp [h1])
    have e2 := likeB_app [c] [58] (ms ++ d :: ss) (List.replicate 2 48 ++ 58 :: List.replicate 2 48) rfl
    have e3 := likeB_app ms (List.replicate 2 48) (d :: ss) (58 :: List.replicate 2 48) (by simp [h2])
    have e4 := likeB_app [d] [58] ss (List.replicate 2 48) rfl
    have hall : likeB (hs ++ c :: (ms ++ d :: ss)) [48, 48, 58, 48, 48, 58, 48, 48] = (likeB hs (List.replicate 2 48) && (likeB [c] [58] && (likeB ms (List.replicate 2 48) && (likeB [d] [58] && likeB ss (List.replicate 2 48))))) := by
      rw [← e4]
      erw [← e3, ← e2]
      exact e1
    rw [hall]
    simp only [Bool.and_eq_true]
    rw [likeB_one c 58 (by decide), likeB_one d 58 (by decide), rep_like 2 hs h1, rep_like 2 ms h2, rep_like 2 ss h3]
  constructor
  · intro h
    have hl := likeB_len h
    match a, hl with
    | [a0, a1, a2, a3, a4, a5, a6, a7], _ =>
      obtain ⟨d1, rfl, d2, rfl, d3⟩ := (key [a0, a1] a2 [a3, a4] a5 [a6, a7] rfl rfl rfl).1 h
      exact ⟨[a0, a1], [a3, a4], [a6, a7], rfl, rfl, rfl, rfl, d1, d2, d3⟩
  · rintro ⟨hs, ms, ss, rfl, h1, h2, h3, d1, d2, d3⟩
    exact (key hs 58 ms 58 ss h1 h2 h3).2 ⟨d1, rfl, d2, rfl, d3⟩
/-- Five words that tell a moment. -/
structure FormM (a0 a1 a2 a3 a4 : List UInt8) (j : Nat) (hs ms ts : List UInt8) (v : Nat) (z : Int) : Prop where
  d0l : a0.length = 1 ∨ a0.length = 2
  d0 : Digs a0
  mon : j < 12
  a1e : a1 = nameT monB j
  y4 : a2.length = 4
  yd : Digs a2
  tf : a3 = hs ++ 58 :: (ms ++ ts)
  hsl : hs.length = 2
  hsd : Digs hs
  msl : ms.length = 2
  msd : Digs ms
  sec : Secs ts v
  zn : ZOK a4 z
/-- What the document answers of these words. -/
def DocM (ws : List (List UInt8)) (R : Value) : Prop :=
  (∃ a0 a1 a2 a3 a4 j hs ms ts v z, ws = [a0, a1, a2, a3, a4] ∧ FormM a0 a1 a2 a3 a4 j hs ms ts v z ∧ R = madeV (valL a2 0) ((j : Int) + 1) (valL a0 0) (valL hs 0) (valL ms 0) (v : Int) z) ∨
  ((¬ ∃ a0 a1 a2 a3 a4 j hs ms ts v z, ws = [a0, a1, a2, a3, a4] ∧ FormM a0 a1 a2 a3 a4 j hs ms ts v z) ∧ R = .tuple #[.int .i64 0, .int .i64 2])
theorem docM_len {ws : List (List UInt8)} {R : Value} (h : DocM ws R) (hn : ws.length ≠ 5) : R = .tuple #[.int .i64 0, .int .i64 2] := by
  rcases h with ⟨a0, a1, a2, a3, a4, j, hs, ms, ts, v, z, rfl, _⟩ | ⟨_, h⟩
  · exact absurd rfl hn
  · exact h
theorem form_facts {a0 a1 a2 a3 a4 : List UInt8} {j : Nat} {hs ms ts : List UInt8} {v : Nat} {z : Int} (h : FormM a0 a1 a2 a3 a4 j hs ms ts v z) :
    (likeB a0 [48] = true ∨ likeB a0 [48, 48] = true) ∧ findEq monB a1 12 0 = j ∧ likeB a2 [48, 48, 48, 48] = true ∧ (likeB a3 [48, 48, 58, 48, 48] = true ∨ likeB a3 [48, 48, 58, 48, 48, 58, 48, 48] = true) ∧ ZOK a4 z := by
  refine ⟨?_, ?_, ?_, ?_, h.zn⟩
  · rcases h.d0l with hl | hl
    · exact .inl ((rep_like 1 a0 hl).2 h.d0)
    · exact .inr ((rep_like 2 a0 hl).2 h.d0)
  · rw [h.a1e]
    exact findEq_fwd j h.mon
  · exact (rep_like 4 a2 h.y4).2 h.yd
  · rcases h.sec with ⟨hts, _⟩ | ⟨ss, hts, h2, h3, _⟩
    · left
      rw [like_t5]
      exact ⟨hs, ms, by rw [h.tf, hts, List.append_nil], h.hsl, h.msl, h.hsd, h.msd⟩
    · right
      rw [like_t8]
      exact ⟨hs, ms, ss, by rw [h.tf, hts], h.hsl, h.msl, h2, h.hsd, h.msd, h3⟩
theorem docM_bad {a0 a1 a2 a3 a4 : List UInt8} {R : Value} (h : DocM [a0, a1, a2, a3, a4] R)
    (hb : ¬ ((likeB a0 [48] = true ∨ likeB a0 [48, 48] = true) ∧ (∃ j : Nat, findEq monB a1 12 0 = j) ∧ likeB a2 [48, 48, 48, 48] = true ∧ (likeB a3 [48, 48, 58, 48, 48] = true ∨ likeB a3 [48, 48, 58, 48, 48, 58, 48, 48] = true) ∧ ∃ z, ZOK a4 z)) : R = .tuple #[.int .i64 0, .int .i64 2] := by
  rcases h with ⟨b0, b1, b2, b3, b4, j, hs, ms, ts, v, z, e, hf, _⟩ | ⟨_, h⟩
  · cases e
    obtain ⟨f1, f2, f3, f4, f5⟩ := form_facts hf
    exact absurd ⟨f1, ⟨j, f2⟩, f3, f4, z, f5⟩ hb
  · exact h
theorem sgn_ne {g g' : UInt8} (h : g = g') : sgn g = sgn g' := by rw [h]
theorem zok_uniq {s : List UInt8} {z z' : Int} (h : ZOK s z) (h' : ZOK s z') : z = z' := by
  obtain ⟨g, zh, zm, ⟨e, _, l1, _, l2, _⟩, _, _, rfl⟩ := h
  obtain ⟨g', zh', zm', ⟨e', _, l1', _, l2', _⟩, _, _, rfl⟩ := h'
  rw [e] at e'
  injection e' with e1 e2
  obtain ⟨e3, e4⟩ := List.append_inj e2 (by omega)
  rw [e1, e3, e4]
theorem docM_good {a0 a1 a2 a3 a4 : List UInt8} {R : Value} (h : DocM [a0, a1, a2, a3, a4] R) {j : Nat} {hs ms ts : List UInt8} {v : Nat} {z : Int} (hf : FormM a0 a1 a2 a3 a4 j hs ms ts v z) :
    R = madeV (valL a2 0) ((j : Int) + 1) (valL a0 0) (valL hs 0) (valL ms 0) (v : Int) z := by
  rcases h with ⟨b0, b1, b2, b3, b4, j', hs', ms', ts', v', z', e, hf', hR⟩ | ⟨hn, _⟩
  · cases e
    have k1 := (form_facts hf).2.1
    have k2 := (form_facts hf').2.1
    have hj : j = j' := by omega
    have hz := zok_uniq hf.zn hf'.zn
    have ht := hf.tf.symm.trans hf'.tf
    obtain ⟨e1, e2⟩ := List.append_inj ht (by rw [hf.hsl, hf'.hsl])
    injection e2 with _ e2
    obtain ⟨e3, e4⟩ := List.append_inj e2 (by rw [hf.msl, hf'.msl])
    subst hj hz e1 e3 e4
    have hv : v = v' := by
      rcases hf.sec with ⟨r1, r2⟩ | ⟨ss, r1, _, _, r2⟩
      · rcases hf'.sec with ⟨q1, q2⟩ | ⟨ss', q1, _, _, q2⟩
        · rw [r2, q2]
        · rw [r1] at q1
          cases q1
      · rcases hf'.sec with ⟨q1, q2⟩ | ⟨ss', q1, _, _, q2⟩
        · rw [r1] at q1
          cases q1
        · rw [r1] at q1
          cases q1
          rw [r2, q2]
    rw [hR, hv]
  · exact absurd ⟨a0, a1, a2, a3, a4, j, hs, ms, ts, v, z, rfl, hf⟩ hn
/-- Five texts in a row of memory. -/
def Row5 (w : World) (g o : Nat) (a0 a1 a2 a3 a4 : List UInt8) : Prop := g < w.heap.size ∧ w.cell? ⟨g, o, none⟩ = some (.string ⟨a0.toArray⟩) ∧ w.cell? ⟨g, o + 1, none⟩ = some (.string ⟨a1.toArray⟩) ∧ w.cell? ⟨g, o + 2, none⟩ = some (.string ⟨a2.toArray⟩) ∧ w.cell? ⟨g, o + 3, none⟩ = some (.string ⟨a3.toArray⟩) ∧ w.cell? ⟨g, o + 4, none⟩ = some (.string ⟨a4.toArray⟩)
theorem Row5.below {w w' : World} {g o : Nat} {a0 a1 a2 a3 a4 : List UInt8} (h : Row5 w g o a0 a1 a2 a3 a4) (hb : Below w.heap.size w w') : Row5 w' g o a0 a1 a2 a3 a4 := by
  obtain ⟨h0, h1, h2, h3, h4, h5⟩ := h
  exact ⟨Nat.lt_of_lt_of_le h0 hb.size, (hb.cell (p := ⟨g, o, none⟩) h0).trans h1, (hb.cell (p := ⟨g, o + 1, none⟩) h0).trans h2, (hb.cell (p := ⟨g, o + 2, none⟩) h0).trans h3, (hb.cell (p := ⟨g, o + 3, none⟩) h0).trans h4, (hb.cell (p := ⟨g, o + 4, none⟩) h0).trans h5⟩
theorem texts_five {w wr : World} {v : Value} {a0 a1 a2 a3 a4 : List UInt8} (h : Texts w wr v [a0, a1, a2, a3, a4]) : ∃ g o cap, v = .slice (some ⟨g, o, none⟩) 5 cap ∧ 5 ≤ cap ∧ Row5 wr g o a0 a1 a2 a3 a4 ∧ Below w.heap.size w wr := by
  obtain ⟨hb, G, hr, _⟩ := h
  rcases hr.2 with ⟨_, h0, _⟩ | ⟨g, o, cap, _, hv, h1, h2, h3, h4, h5⟩
  · cases h0
  · exact ⟨g, o, cap, hv, h1, ⟨h3, (h4 0 _ rfl), h4 1 _ rfl, h4 2 _ rfl, h4 3 _ rfl, h4 4 _ rfl⟩, hb⟩
end Go.Proofs.YtabncmepkoiheaaDoor
