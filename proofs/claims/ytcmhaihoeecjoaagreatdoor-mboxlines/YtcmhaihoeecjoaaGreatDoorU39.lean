/- The document's ParseInternal is the program's; DatesReads. -/
/- The texts of a moment as a date field has them, both ways. -/
import Derived.Test.YtcmhaihoeecjoaaGreatDoorU38
import Derived.Test.YtcmhaihoeecjoaaGreatDoorU30
section
namespace Go.Proofs.YtcmhaihoeecjoaaGreatDoor.Da
open Go.RowKit
theorem eq_of_nat {c : UInt8} {d : UInt8} (h : c.toNat = d.toNat) : c = d := UInt8.toNat_inj.1 h
theorem like_q (q : List UInt8) : likeB q [45, 48, 48, 48, 48, 32, 48, 48, 58, 48, 48, 58, 48, 48, 32] = true ↔ ∃ ys hs ms ss, q = 45 :: (ys ++ 32 :: (hs ++ 58 :: (ms ++ 58 :: (ss ++ [32])))) ∧ ys.length = 4 ∧ hs.length = 2 ∧ ms.length = 2 ∧ ss.length = 2 ∧ Digs ys ∧ Digs hs ∧ Digs ms ∧ Digs ss := by
  have key : ∀ (a : UInt8) (ys : List UInt8) (b : UInt8) (hs : List UInt8) (c : UInt8) (ms : List UInt8) (d : UInt8) (ss : List UInt8) (e : UInt8), ys.length = 4 → hs.length = 2 → ms.length = 2 → ss.length = 2 →
      (likeB (a :: (ys ++ b :: (hs ++ c :: (ms ++ d :: (ss ++ [e]))))) [45, 48, 48, 48, 48, 32, 48, 48, 58, 48, 48, 58, 48, 48, 32] = true ↔ a = 45 ∧ Digs ys ∧ b = 32 ∧ Digs hs ∧ c = 58 ∧ Digs ms ∧ d = 58 ∧ Digs ss ∧ e = 32) := by
    intro a ys b hs c ms d ss e h1 h2 h3 h4
    have e1 := likeB_app [a] [45] (ys ++ b :: (hs ++ c :: (ms ++ d :: (ss ++ [e])))) (List.replicate 4 48 ++ 32 :: (List.replicate 2 48 ++ 58 :: (List.replicate 2 48 ++ 58 :: (List.replicate 2 48 ++ [32])))) rfl
    have e2 := likeB_app ys (List.replicate 4 48) (b :: (hs ++ c :: (ms ++ d :: (ss ++ [e])))) (32 :: (List.replicate 2 48 ++ 58 :: (List.replicate 2 48 ++ 58 :: (List.replicate 2 48 ++ [32])))) (by simp [h1])
    have e3 := likeB_app [b] [32] (hs ++ c :: (ms ++ d :: (ss ++ [e]))) (List.replicate 2 48 ++ 58 :: (List.replicate 2 48 ++ 58 :: (List.replicate 2 48 ++ [32]))) rfl
    have e4 := likeB_app hs (List.replicate 2 48) (c :: (ms ++ d :: (ss ++ [e]))) (58 :: (List.replicate 2 48 ++ 58 :: (List.replicate 2 48 ++ [32]))) (by simp [h2])
    have e5 := likeB_app [c] [58] (ms ++ d :: (ss ++ [e])) (List.replicate 2 48 ++ 58 :: (List.replicate 2 48 ++ [32])) rfl
    have e6 := likeB_app ms (List.replicate 2 48) (d :: (ss ++ [e])) (58 :: (List.replicate 2 48 ++ [32])) (by simp [h3])
    have e7 := likeB_app [d] [58] (ss ++ [e]) (List.replicate 2 48 ++ [32]) rfl
    have e8 := likeB_app ss (List.replicate 2 48) [e] [32] (by simp [h4])
    have hall : likeB (a :: (ys ++ b :: (hs ++ c :: (ms ++ d :: (ss ++ [e]))))) [45, 48, 48, 48, 48, 32, 48, 48, 58, 48, 48, 58, 48, 48, 32] = (likeB [a] [45] && (likeB ys (List.replicate 4 48) && (likeB [b] [32] && (likeB hs (List.replicate 2 48) && (likeB [c] [58] && (likeB ms (List.replicate 2 48) && (likeB [d] [58] && (likeB ss (List.replicate 2 48) && likeB [e] [32])))))))) := by
      rw [← e8, ← e7]
      erw [← e6, ← e5, ← e4, ← e3, ← e2, ← e1]
      rfl
    rw [hall]
    simp only [Bool.and_eq_true]
    rw [likeB_one a 45 (by decide), likeB_one b 32 (by decide), likeB_one c 58 (by decide), likeB_one d 58 (by decide), likeB_one e 32 (by decide), rep_like 4 ys h1, rep_like 2 hs h2, rep_like 2 ms h3, rep_like 2 ss h4]
  constructor
  · intro h
    have hl := likeB_len h
    match q, hl with
    | [a0, a1, a2, a3, a4, a5, a6, a7, a8, a9, a10, a11, a12, a13, a14], _ =>
      have := (key a0 [a1, a2, a3, a4] a5 [a6, a7] a8 [a9, a10] a11 [a12, a13] a14 rfl rfl rfl rfl).1 h
      obtain ⟨rfl, d1, rfl, d2, rfl, d3, rfl, d4, rfl⟩ := this
      exact ⟨[a1, a2, a3, a4], [a6, a7], [a9, a10], [a12, a13], rfl, rfl, rfl, rfl, rfl, d1, d2, d3, d4⟩
  · rintro ⟨ys, hs, ms, ss, rfl, h1, h2, h3, h4, d1, d2, d3, d4⟩
    exact (key 45 ys 32 hs 58 ms 58 ss 32 h1 h2 h3 h4).2 ⟨rfl, d1, rfl, d2, rfl, d3, rfl, d4, rfl⟩
theorem like_d1 (c0 c1 : UInt8) : likeB [c0, c1] [32, 48] = true ↔ c0 = 32 ∧ isDig c1 = true := by
  have h : likeB [c0, c1] [32, 48] = (likeB [c0] [32] && likeB [c1] (List.replicate 1 48)) := likeB_app [c0] [32] [c1] [48] rfl
  rw [h, Bool.and_eq_true, likeB_one c0 32 (by decide), rep_like 1 [c1] rfl]
  simp [Digs]
theorem like_d2 (c0 c1 : UInt8) : likeB [c0, c1] [48, 48] = true ↔ Digs [c0, c1] := rep_like 2 [c0, c1] rfl
theorem pieces26 (s : List UInt8) (h : s.length = 26) : ∃ c0 c1 x m q z, s = [c0, c1] ++ x :: (m ++ (q ++ z)) ∧ m.length = 3 ∧ q.length = 15 ∧ z.length = 5 := by
  match s, h with
  | c0 :: c1 :: x :: r, h =>
    have hr : r.length = 23 := by simpa using h
    refine ⟨c0, c1, x, r.take 3, (r.drop 3).take 15, r.drop 18, ?_, by simp; omega, by simp; omega, by simp; omega⟩
    have : (r.drop 3).drop 15 = r.drop 18 := by rw [List.drop_drop]
    rw [← this, List.take_append_drop, List.take_append_drop]
    rfl
theorem day2_len {dd : List UInt8} {v : Nat} (h : Day2 dd v) : dd.length = 2 := by
  rcases h with ⟨c, rfl, _⟩ | ⟨c, c2, rfl, _⟩ <;> rfl
end Go.Proofs.YtcmhaihoeecjoaaGreatDoor.Da

end
section
namespace Go.Proofs.YtcmhaihoeecjoaaGreatDoor.Da
open Go.RowKit
def Blks (b : List UInt8) : Prop := ∀ c ∈ b, isBlk c = true
theorem dw_split : ∀ (l : List UInt8), ∃ b, Blks b ∧ l = b ++ l.dropWhile isBlk ∧ ∀ c r, l.dropWhile isBlk = c :: r → isBlk c = false
  | [] => ⟨[], (by intro _ h; cases h), rfl, (by intro c r h; cases h)⟩
  | c :: l => by
    obtain ⟨b, h1, h2, h3⟩ := dw_split l
    by_cases hc : isBlk c = true
    · rw [List.dropWhile_cons_of_pos hc]
      refine ⟨c :: b, ?_, ?_, h3⟩
      · intro x hx
        rcases List.mem_cons.1 hx with rfl | hx
        · exact hc
        · exact h1 x hx
      · rw [List.cons_append, ← h2]
    · rw [List.dropWhile_cons_of_neg hc]
      refine ⟨[], (by intro _ h; cases h), rfl, ?_⟩
      intro d r h
      cases h
      simpa using hc
theorem dw_blks : ∀ (b r : List UInt8), Blks b → (∀ c r', r = c :: r' → isBlk c = false) → (b ++ r).dropWhile isBlk = r
  | [], r, _, h => by
    cases r with
    | nil => rfl
    | cons c r => exact List.dropWhile_cons_of_neg (by rw [h c r rfl]; simp)
  | c :: b, r, hb, h => by
    rw [List.cons_append, List.dropWhile_cons_of_pos (hb c (by simp))]
    exact dw_blks b r (fun x hx => hb x (by simp [hx])) h
theorem skip_inv (σ : RS) : ∃ b r, Blks b ∧ σ.l = b ++ r ∧ skipF σ = { σ with l := r } ∧ ∀ c r', r = c :: r' → isBlk c = false := by
  obtain ⟨b, h1, h2, h3⟩ := dw_split σ.l
  exact ⟨b, _, h1, h2, rfl, h3⟩
theorem skip_fwd {σ : RS} {b r : List UInt8} (hl : σ.l = b ++ r) (hb : Blks b) (hr : ∀ c r', r = c :: r' → isBlk c = false) : skipF σ = { σ with l := r } := by
  unfold skipF
  rw [hl, dw_blks b r hb hr]
theorem blankF_iff (σ : RS) : blankF σ = true ↔ ∃ c r, σ.l = c :: r ∧ isBlk c = true := by
  unfold blankF atF
  cases h : σ.l with
  | nil => simp
  | cons c r =>
    simp only [isBlk]
    constructor
    · intro hb; exact ⟨c, r, rfl, hb⟩
    · rintro ⟨c', r', e, hb⟩; cases e; exact hb
theorem blanks_inv {σ τ : RS} (h : blanksF σ = some τ) : ∃ b r, b ≠ [] ∧ Blks b ∧ σ.l = b ++ r ∧ τ = { σ with l := r } ∧ ∀ c r', r = c :: r' → isBlk c = false := by
  unfold blanksF at h
  split at h
  · next hb =>
    obtain ⟨c, r0, hl, hc⟩ := (blankF_iff σ).1 hb
    obtain ⟨b, r, h1, h2, h3, h4⟩ := skip_inv σ
    refine ⟨b, r, ?_, h1, h2, by rw [← Option.some.inj h, h3], h4⟩
    rintro rfl
    rw [hl] at h2
    have := h4 c r0 h2.symm
    rw [hc] at this
    cases this
  · cases h
theorem blanks_fwd {σ : RS} {b r : List UInt8} (hl : σ.l = b ++ r) (h0 : b ≠ []) (hb : Blks b) (hr : ∀ c r', r = c :: r' → isBlk c = false) : blanksF σ = some { σ with l := r } := by
  unfold blanksF
  have : blankF σ = true := by
    rw [blankF_iff]
    cases b with
    | nil => exact absurd rfl h0
    | cons c b => exact ⟨c, b ++ r, hl, hb c (by simp)⟩
  rw [this, if_pos rfl, skip_fwd hl hb hr]
/-- A day's name with a comma behind it. -/
def Dow (D : List UInt8) : Prop := D = [] ∨ ∃ j b b', j < 7 ∧ Blks b ∧ Blks b' ∧ D = nameT wkdB j ++ (b ++ 44 :: b')
theorem wkdB_len (j : Nat) (hj : j < 7) : (nameT wkdB j).length = 3 := by
  have : ∀ j, j < 7 → (nameT wkdB j).length = 3 := by decide
  exact this j hj
theorem wkd_ne : ∀ i, i < 7 → ∀ j, j < 7 → nameT wkdB i = nameT wkdB j → i = j := by decide
theorem wname_inv {σ τ : RS} {j : Nat} (h : nameF wkdB σ = some (j, τ)) : j < 7 ∧ ∃ r, σ.l = nameT wkdB j ++ r ∧ τ = { σ with l := r } := by
  unfold nameF at h
  obtain ⟨i, h1, h2⟩ := Option.map_eq_some_iff.1 h
  cases h2
  obtain ⟨hp, _, hlt⟩ := findPre_inv _ _ h1
  have hj : j < 7 := by simpa [wkdB] using hlt
  refine ⟨hj, σ.l.drop 3, ?_, rfl⟩
  have := isPre_split hp
  rwa [wkdB_len j hj] at this
theorem wname_fwd {σ : RS} {j : Nat} {r : List UInt8} (hj : j < 7) (hl : σ.l = nameT wkdB j ++ r) : nameF wkdB σ = some (j, { σ with l := r }) := by
  unfold nameF
  have h3 := wkdB_len j hj
  rw [hl, findPre_fwd (j := j) (pre_app _ _) (fun i hi => ?_) _ _ (Nat.zero_le _) (by simpa [wkdB] using hj)]
  · simp only [Option.map_some]
    congr 2
    rw [List.drop_append, List.drop_of_length_le (by omega), h3]
    rfl
  · cases h : isPre (nameT wkdB j ++ r) (nameT wkdB i) with
    | false => rfl
    | true =>
      have := wkd_ne j hj i (by omega) (pre_three h3 (wkdB_len i (by omega)) h)
      omega
theorem atDig_iff (σ : RS) : atDigF σ = true ↔ ∃ c r, σ.l = c :: r ∧ isDig c = true := by
  unfold atDigF
  cases h : σ.l with
  | nil => simp
  | cons c r =>
    constructor
    · intro hb; exact ⟨c, r, rfl, hb⟩
    · rintro ⟨c', r', e, hb⟩; cases e; exact hb
theorem dow_inv {σ τ : RS} (h : dowOpt σ = some τ) : ∃ D r, Dow D ∧ σ.l = D ++ r ∧ τ = { σ with l := r } := by
  unfold dowOpt at h
  split at h
  · cases h
    exact ⟨[], σ.l, .inl rfl, rfl, rfl⟩
  · unfold dowF at h
    obtain ⟨x, h1, h2⟩ := Option.bind_eq_some_iff.1 h
    obtain ⟨j, σ1⟩ := x
    obtain ⟨hj, r1, l1, rfl⟩ := wname_inv h1
    obtain ⟨ρ, h3, h4⟩ := Option.map_eq_some_iff.1 h2
    obtain ⟨b, r2, hb, l2, e2, _⟩ := skip_inv { σ with l := r1 }
    rw [e2] at h3
    obtain ⟨c, r3, hc, l3, rfl⟩ := markF_inv h3
    obtain ⟨b', r4, hb', l4, e4, _⟩ := skip_inv { σ with l := r3 }
    simp only at l1 l2 l3 l4
    have e : c = 44 := UInt8.toNat_inj.1 hc
    refine ⟨nameT wkdB j ++ (b ++ 44 :: b'), r4, .inr ⟨j, b, b', hj, hb, hb', rfl⟩, ?_, ?_⟩
    · rw [l1, l2, l3, l4, e]
      simp
    · rw [← h4]
      exact e4
theorem wkd_head (j : Nat) (hj : j < 7) : ∃ c r, nameT wkdB j = c :: r ∧ isDig c = false ∧ isBlk c = false := by
  have : ∀ j, j < 7 → ∃ c r, nameT wkdB j = c :: r ∧ isDig c = false ∧ isBlk c = false := by
    intro j hj
    have h : j = 0 ∨ j = 1 ∨ j = 2 ∨ j = 3 ∨ j = 4 ∨ j = 5 ∨ j = 6 := by omega
    rcases h with rfl | rfl | rfl | rfl | rfl | rfl | rfl <;> exact ⟨_, _, rfl, by decide, by decide⟩
  exact this j hj
theorem dig_notBlk {c : UInt8} (h : isDig c = true) : isBlk c = false := by
  unfold isDig at h
  unfold isBlk
  simp at h ⊢
  omega
theorem dow_fwd {σ : RS} {D r : List UInt8} (hD : Dow D) (hl : σ.l = D ++ r) (hr : ∃ c r', r = c :: r' ∧ isDig c = true) : dowOpt σ = some { σ with l := r } := by
  unfold dowOpt
  obtain ⟨c0, r0, rfl, hc0⟩ := hr
  rcases hD with rfl | ⟨j, b, b', hj, hb, hb', rfl⟩
  · have : atDigF σ = true := (atDig_iff σ).2 ⟨c0, r0, hl, hc0⟩
    rw [this, if_pos rfl, ← List.nil_append (c0 :: r0), ← hl]
  · obtain ⟨c, rn, hn, hnd, _⟩ := wkd_head j hj
    have : atDigF σ = false := by
      cases h : atDigF σ with
      | false => rfl
      | true =>
        obtain ⟨c', r', e, hd⟩ := (atDig_iff σ).1 h
        rw [hl, hn] at e
        cases e
        rw [hnd] at hd
        cases hd
    rw [this, if_neg (by simp)]
    unfold dowF
    rw [wname_fwd (r := b ++ 44 :: (b' ++ c0 :: r0)) hj (by rw [hl]; simp)]
    simp only [Option.bind_some]
    rw [skip_fwd (σ := { σ with l := b ++ 44 :: (b' ++ c0 :: r0) }) (b := b) (r := 44 :: (b' ++ c0 :: r0)) rfl hb (by intro c r' e; cases e; decide)]
    rw [markF_fwd (x := 44) (c := 44) rfl rfl]
    simp only [Option.map_some]
    rw [skip_fwd (b := b') (r := c0 :: r0) rfl hb' (by intro c r' e; cases e; exact dig_notBlk hc0)]
/-- The seconds, where they are told. -/
def Secs (ts : List UInt8) (v : Nat) : Prop := (ts = [] ∧ v = 0) ∨ ∃ ss, ts = 58 :: ss ∧ ss.length = 2 ∧ Digs ss ∧ v = valL ss 0
theorem sec_inv {σ τ : RS} (hs : σ.s = 0) (h : secOpt σ = some τ) : ∃ ts v r, Secs ts v ∧ σ.l = ts ++ r ∧ τ = { σ with l := r, s := (v : Int) } := by
  unfold secOpt at h
  split at h
  · obtain ⟨ss, r, h1, h2, h3, rfl⟩ := secondF_inv h
    exact ⟨58 :: ss, _, r, .inr ⟨ss, rfl, h1, h2, rfl⟩, h3, rfl⟩
  · cases h
    refine ⟨[], 0, σ.l, .inl ⟨rfl, rfl⟩, rfl, ?_⟩
    cases σ
    simp only at hs
    subst hs
    rfl
theorem sec_fwd {σ : RS} {ts r : List UInt8} {v : Nat} (hs : σ.s = 0) (h : Secs ts v) (hl : σ.l = ts ++ r) (hr : ∀ c r', r = c :: r' → c.toNat ≠ 58) : secOpt σ = some { σ with l := r, s := (v : Int) } := by
  unfold secOpt
  rcases h with ⟨rfl, rfl⟩ | ⟨ss, rfl, h1, h2, rfl⟩
  · have : atF 58 σ = false := by
      cases h : atF 58 σ with
      | false => rfl
      | true =>
        obtain ⟨c, r', hc, e⟩ := atF_inv h
        rw [hl] at e
        exact absurd hc (hr c r' e)
    rw [this, if_neg (by simp)]
    cases σ
    simp only at hs hl
    subst hs
    rw [List.nil_append] at hl
    subst hl
    rfl
  · have : atF 58 σ = true := by
      rw [atF_fwd (c := 58) (r := ss ++ r) hl]
      decide
    rw [this, if_pos rfl, secondF_fwd h1 h2 hl]
/-- A date field's text of a moment. -/
structure ShM (l b0 D dd b1 : List UInt8) (j : Nat) (b2 ys b3 hs ms ts : List UInt8) (v : Nat) (b4 : List UInt8) (g : UInt8) (zh zm b5 : List UInt8) : Prop where
  form : l = b0 ++ (D ++ (dd ++ (b1 ++ (nameT monB j ++ (b2 ++ (ys ++ (b3 ++ (hs ++ 58 :: (ms ++ (ts ++ (b4 ++ (g :: (zh ++ (zm ++ b5))))))))))))))
  bl0 : Blks b0
  dow : Dow D
  ddl : dd.length = 1 ∨ dd.length = 2
  ddd : Digs dd
  ne1 : b1 ≠ []
  bl1 : Blks b1
  mon : j < 12
  ne2 : b2 ≠ []
  bl2 : Blks b2
  ysl : ys.length = 4
  ysd : Digs ys
  ne3 : b3 ≠ []
  bl3 : Blks b3
  hsl : hs.length = 2
  hsd : Digs hs
  msl : ms.length = 2
  msd : Digs ms
  sec : Secs ts v
  ne4 : b4 ≠ []
  bl4 : Blks b4
  gs : g = 43 ∨ g = 45
  zhl : zh.length = 2
  zhd : Digs zh
  zml : zm.length = 2
  zmd : Digs zm
  zh23 : valL zh 0 ≤ 23
  zm59 : valL zm 0 ≤ 59
  bl5 : Blks b5
theorem head_digs {ds r : List UInt8} (h : ds ≠ []) (hd : Digs ds) : ∃ c r', ds ++ r = c :: r' ∧ isDig c = true := by
  cases ds with
  | nil => exact absurd rfl h
  | cons c ds => exact ⟨c, ds ++ r, rfl, hd c (by simp)⟩
theorem head_notBlk {ds r : List UInt8} (h : ds ≠ []) (hd : Digs ds) : ∀ c r', ds ++ r = c :: r' → isBlk c = false := by
  intro c r' e
  obtain ⟨c2, r2, e2, hc⟩ := head_digs (r := r) h hd
  rw [e2] at e
  cases e
  exact dig_notBlk hc
theorem blk_notDig {c : UInt8} (h : isBlk c = true) : isDig c = false := by
  cases hd : isDig c with
  | false => rfl
  | true => rw [dig_notBlk hd] at h; cases h
theorem blk_not58 {c : UInt8} (h : isBlk c = true) : c.toNat ≠ 58 := by
  unfold isBlk at h
  simp at h
  omega
theorem head_blks {b r : List UInt8} (h : b ≠ []) (hb : Blks b) : ∀ c r', b ++ r = c :: r' → isBlk c = true := by
  intro c r' e
  cases b with
  | nil => exact absurd rfl h
  | cons x b =>
    cases e
    exact hb _ (by simp)
theorem mon_head (j : Nat) (hj : j < 12) (r : List UInt8) : ∀ c r', nameT monB j ++ r = c :: r' → isBlk c = false := by
  intro c r' e
  have h : j = 0 ∨ j = 1 ∨ j = 2 ∨ j = 3 ∨ j = 4 ∨ j = 5 ∨ j = 6 ∨ j = 7 ∨ j = 8 ∨ j = 9 ∨ j = 10 ∨ j = 11 := by omega
  rcases h with rfl | rfl | rfl | rfl | rfl | rfl | rfl | rfl | rfl | rfl | rfl | rfl <;> (cases e; decide)
theorem ne_of_len {l : List UInt8} {n : Nat} (h : l.length = n) (hn : 0 < n) : l ≠ [] := by
  rintro rfl
  simp at h
  omega
theorem pmail_fwd {l b0 D dd b1 b2 ys b3 hs ms ts b4 zh zm b5 : List UInt8} {j v : Nat} {g : UInt8} (h : ShM l b0 D dd b1 j b2 ys b3 hs ms ts v b4 g zh zm b5) :
    (pmailF (σz l)).bind endF = some ⟨[], valL ys 0, (j : Int) + 1, valL dd 0, valL hs 0, valL ms 0, (v : Int), 0, sgn g * ((valL zh 0 : Int) * 3600 + (valL zm 0 : Int) * 60)⟩ := by
  have hdne : dd ≠ [] := by rintro rfl; rcases h.ddl with h | h <;> simp at h
  have hbD : ∀ r, (∃ c r', r = c :: r' ∧ isDig c = true) → ∀ c r', D ++ r = c :: r' → isBlk c = false := by
    rintro r ⟨c0, r0, rfl, hc0⟩ c r' e
    rcases h.dow with rfl | ⟨i, b, b', hi, _, _, rfl⟩
    · cases e
      exact dig_notBlk hc0
    · obtain ⟨c1, r1, e1, _, hb1⟩ := wkd_head i hi
      rw [e1] at e
      cases e
      exact hb1
  unfold pmailF
  rw [chain_yes (show skipO (σz l) = some _ from congrArg some (skip_fwd h.form h.bl0 (hbD _ (head_digs hdne h.ddd))))]
  rw [chain_yes (dow_fwd h.dow rfl (head_digs hdne h.ddd))]
  rw [chain_yes (dayF_fwd h.ddl h.ddd rfl (fun c r' e => blk_notDig (head_blks h.ne1 h.bl1 c r' e)))]
  rw [chain_yes (blanks_fwd rfl h.ne1 h.bl1 (mon_head j h.mon _))]
  rw [chain_yes (monthF_fwd h.mon rfl)]
  rw [chain_yes (blanks_fwd rfl h.ne2 h.bl2 (head_notBlk (ne_of_len h.ysl (by decide)) h.ysd))]
  rw [chain_yes (yearF_fwd h.ysl h.ysd rfl)]
  rw [chain_yes (blanks_fwd rfl h.ne3 h.bl3 (head_notBlk (ne_of_len h.hsl (by decide)) h.hsd))]
  rw [chain_yes (hmF_fwd h.hsl h.hsd h.msl h.msd rfl)]
  rw [chain_yes (sec_fwd rfl h.sec rfl (fun c r' e => blk_not58 (head_blks h.ne4 h.bl4 c r' e)))]
  rw [chain_yes (blanks_fwd rfl h.ne4 h.bl4 (by intro c r' e; cases e; rcases h.gs with e | e <;> (rw [e]; decide)))]
  rw [chain_yes (zoneF_fwd h.gs h.zhl h.zhd h.zml h.zmd rfl h.zh23 h.zm59)]
  rw [chain_yes (show skipO _ = some _ from congrArg some (skip_fwd (b := b5) (r := []) (by simp) h.bl5 (by intro c r' e; cases e)))]
  simp [chainF, endF, σz]
theorem pmail_inv {l : List UInt8} {τ : RS} (h : (pmailF (σz l)).bind endF = some τ) : ∃ b0 D dd b1 j b2 ys b3 hs ms ts v b4 g zh zm b5, ShM l b0 D dd b1 j b2 ys b3 hs ms ts v b4 g zh zm b5 := by
  obtain ⟨ρ, h1, h2⟩ := Option.bind_eq_some_iff.1 h
  unfold pmailF at h1
  obtain ⟨_, a0, h1⟩ := chain_inv h1
  obtain ⟨b0, r0, hb0, l0, e0, _⟩ := skip_inv (σz l)
  unfold skipO at a0
  rw [e0] at a0
  cases a0
  obtain ⟨_, a1, h1⟩ := chain_inv h1
  obtain ⟨D, r1, hD, l1, rfl⟩ := dow_inv a1
  obtain ⟨_, a2, h1⟩ := chain_inv h1
  obtain ⟨dd, r2, hn, hd, l2, rfl⟩ := dayF_inv a2
  obtain ⟨_, a3, h1⟩ := chain_inv h1
  obtain ⟨b1, r3, n1, hb1, l3, rfl, _⟩ := blanks_inv a3
  obtain ⟨_, a4, h1⟩ := chain_inv h1
  obtain ⟨j, r4, hj, l4, rfl⟩ := monthF_inv a4
  obtain ⟨_, a5, h1⟩ := chain_inv h1
  obtain ⟨b2, r5, n2, hb2, l5, rfl, _⟩ := blanks_inv a5
  obtain ⟨_, a6, h1⟩ := chain_inv h1
  obtain ⟨ys, r6, hy, hyd, l6, rfl⟩ := yearF_inv a6
  obtain ⟨_, a7, h1⟩ := chain_inv h1
  obtain ⟨b3, r7, n3, hb3, l7, rfl, _⟩ := blanks_inv a7
  obtain ⟨_, a8, h1⟩ := chain_inv h1
  obtain ⟨hs, ms, r8, k1, k2, k3, k4, l8, rfl⟩ := hmF_inv a8
  obtain ⟨_, a9, h1⟩ := chain_inv h1
  obtain ⟨ts, v, r9, hsec, l9, rfl⟩ := sec_inv rfl a9
  obtain ⟨_, a10, h1⟩ := chain_inv h1
  obtain ⟨b4, r10, n4, hb4, l10, rfl, _⟩ := blanks_inv a10
  obtain ⟨_, a11, h1⟩ := chain_inv h1
  obtain ⟨g, zh, zm, r11, hg, k7, k8, k9, k10, l11, k11, k12, rfl⟩ := zoneF_inv a11
  obtain ⟨_, a12, h1⟩ := chain_inv h1
  obtain ⟨b5, r12, hb5, l12, e12, _⟩ := skip_inv { σz l with l := r11, y := valL ys 0, m := (j : Int) + 1, d := valL dd 0, h := valL hs 0, mi := valL ms 0, s := (v : Int), a := sgn g * ((valL zh 0 : Int) * 3600 + (valL zm 0 : Int) * 60) }
  unfold skipO at a12
  have a12' := (Option.some.inj a12).symm.trans e12
  subst a12'
  cases h1
  unfold endF at h2
  split at h2
  · next he =>
    simp only at l0 l1 l2 l3 l4 l5 l6 l7 l8 l9 l10 l11 l12 he
    refine ⟨b0, D, dd, b1, j, b2, ys, b3, hs, ms, ts, v, b4, g, zh, zm, b5, ⟨?_, hb0, hD, hn, hd, n1, hb1, hj, n2, hb2, hy, hyd, n3, hb3, k1, k2, k3, k4, hsec, n4, hb4, hg, k7, k8, k9, k10, k11, k12, hb5⟩⟩
    show (σz l).l = _
    rw [l0, l1, l2, l3, l4, l5, l6, l7, l8, l9, l10, l11, l12, he]
    simp
  · cases h2
end Go.Proofs.YtcmhaihoeecjoaaGreatDoor.Da

end
