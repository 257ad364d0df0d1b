/- A date field's text and its words, both ways. -/
import Derived.Test.YtcmhaihoeecjoaaGreatDoorU40
namespace Go.Proofs.YtcmhaihoeecjoaaGreatDoor.Da
open Go.RowKit
def NB (x : List UInt8) : Prop := ∀ c ∈ x, isBlk c = false
theorem words_blks : ∀ (b l : List UInt8), Blks b → wordsA [] (b ++ l) = wordsA [] l
  | [], _, _ => rfl
  | c :: b, l, h => by
    show wordsA [] (c :: (b ++ l)) = _
    rw [wordsA, if_pos (h c (by simp)), if_pos rfl]
    exact words_blks b l (fun x hx => h x (by simp [hx]))
theorem words_nb : ∀ (x cur l : List UInt8), NB x → wordsA cur (x ++ l) = wordsA (cur ++ x) l
  | [], cur, l, _ => by simp
  | c :: x, cur, l, h => by
    show wordsA cur (c :: (x ++ l)) = _
    rw [wordsA, if_neg (by rw [h c (by simp)]; simp), words_nb x (cur ++ [c]) l (fun y hy => h y (by simp [hy]))]
    simp
theorem words_cut {cur b l : List UInt8} (hc : cur ≠ []) (hb : Blks b) (h0 : b ≠ []) : wordsA cur (b ++ l) = cur :: wordsA [] l := by
  cases b with
  | nil => exact absurd rfl h0
  | cons c b =>
    show wordsA cur (c :: (b ++ l)) = _
    rw [wordsA, if_pos (hb c (by simp)), if_neg hc, words_blks b l (fun x hx => hb x (by simp [hx]))]
theorem words_end {cur b : List UInt8} (hc : cur ≠ []) (hb : Blks b) : wordsA cur b = [cur] := by
  cases b with
  | nil => rw [wordsA, if_neg hc]
  | cons c b =>
    have := words_cut (l := []) hc hb (by simp)
    rw [List.append_nil] at this
    rw [this]
    rfl
theorem words_word {cur x b l : List UInt8} (hx : NB x) (hc : cur ++ x ≠ []) (hb : Blks b) (h0 : b ≠ []) : wordsA cur (x ++ (b ++ l)) = (cur ++ x) :: wordsA [] l := by
  rw [words_nb x cur _ hx, words_cut hc hb h0]
theorem digs_nb {x : List UInt8} (h : Digs x) : NB x := fun c hc => dig_notBlk (h c hc)
theorem mon_nb (j : Nat) (hj : j < 12) : NB (nameT monB j) := by
  have : ∀ j, j < 12 → ∀ c ∈ nameT monB j, isBlk c = false := by decide
  exact this j hj
theorem wkd_nb (j : Nat) (hj : j < 7) : NB (nameT wkdB j) := by
  have : ∀ j, j < 7 → ∀ c ∈ nameT wkdB j, isBlk c = false := by decide
  exact this j hj
theorem nb_app {x y : List UInt8} (h : NB x) (k : NB y) : NB (x ++ y) := fun c hc => by
  rcases List.mem_append.1 hc with hc | hc
  · exact h c hc
  · exact k c hc
theorem nb_cons {c : UInt8} {x : List UInt8} (h : isBlk c = false) (k : NB x) : NB (c :: x) := fun d hd => by
  rcases List.mem_cons.1 hd with rfl | hd
  · exact h
  · exact k d hd
/-- What the document makes of a day's name at the beginning. -/
def dowW : List (List UInt8) → Option (List (List UInt8))
  | [] => some []
  | x :: t => if 3 ≤ x.length ∧ 0 ≤ findEq wkdB (x.take 3) 7 0 then
      (match (if x.drop 3 = [] then t else x.drop 3 :: t) with
      | [] => none
      | [] :: _ => none
      | (c :: r) :: t' => if c = 44 then some (if r = [] then t' else r :: t') else none)
    else some (x :: t)
theorem wfind_fwd (j : Nat) (hj : j < 7) : findEq wkdB (nameT wkdB j) 7 0 = j := by
  have : ∀ j, j < 7 → findEq wkdB (nameT wkdB j) 7 0 = j := by decide
  exact this j hj
theorem wfind_inv (t : List UInt8) : ∀ (k i : Nat), findEq wkdB t k i = -1 ∨ ∃ j, i ≤ j ∧ j < i + k ∧ t = nameT wkdB j ∧ findEq wkdB t k i = j
  | 0, _ => .inl rfl
  | k + 1, i => by
    unfold findEq
    split
    · next h => exact .inr ⟨i, Nat.le_refl _, by omega, h, rfl⟩
    · rcases wfind_inv t k (i + 1) with h | ⟨j, h1, h2, h3, h4⟩
      · exact .inl h
      · exact .inr ⟨j, by omega, by omega, h3, h4⟩
theorem dowW_name {j : Nat} (hj : j < 7) (rest : List UInt8) (t : List (List UInt8)) : dowW ((nameT wkdB j ++ rest) :: t) = (match (if rest = [] then t else rest :: t) with
      | [] => none
      | [] :: _ => none
      | (c :: r) :: t' => if c = 44 then some (if r = [] then t' else r :: t') else none) := by
  have h3 := wkdB_len j hj
  have e1 : (nameT wkdB j ++ rest).take 3 = nameT wkdB j := by rw [List.take_append_of_le_length (by omega), List.take_of_length_le (by omega)]
  have e2 : (nameT wkdB j ++ rest).drop 3 = rest := by rw [List.drop_append, List.drop_of_length_le (by omega), h3]; rfl
  rw [dowW, e1, e2, wfind_fwd j hj, if_pos ⟨by simp [h3], by omega⟩]
theorem words_dow {D dd rest : List UInt8} {T : List (List UInt8)} (hD : Dow D) (hdl : dd.length = 1 ∨ dd.length = 2) (hdd : Digs dd) (hT : ∀ cur, wordsA cur (dd ++ rest) = (cur ++ dd) :: T) : dowW (wordsA [] (D ++ (dd ++ rest))) = some (dd :: T) := by
  have hne : dd ≠ [] := by rintro rfl; rcases hdl with h | h <;> simp at h
  rcases hD with rfl | ⟨j, b, b', hj, hb, hb', rfl⟩
  · rw [List.nil_append, hT, List.nil_append, dowW, if_neg (by omega)]
  · have hnb := wkd_nb j hj
    have h3 := wkdB_len j hj
    have hnn : nameT wkdB j ≠ [] := ne_of_len h3 (by decide)
    rw [List.append_assoc, words_nb _ _ _ hnb, List.nil_append]
    by_cases h0 : b = []
    · subst h0
      rw [List.nil_append]
      have e1 : wordsA (nameT wkdB j) (44 :: b' ++ (dd ++ rest)) = wordsA (nameT wkdB j ++ [44]) (b' ++ (dd ++ rest)) := words_nb [44] (nameT wkdB j) (b' ++ (dd ++ rest)) (by intro c hc; simp at hc; rw [hc]; decide)
      rw [e1]
      by_cases h1 : b' = []
      · subst h1
        rw [List.nil_append, hT, List.append_assoc, dowW_name hj]
        simp [hne]
      · rw [words_cut (by simp) hb' h1, hT, dowW_name hj]
        simp
    · have e0 : b ++ 44 :: b' ++ (dd ++ rest) = b ++ (44 :: (b' ++ (dd ++ rest))) := by simp
      rw [e0, words_cut hnn hb h0]
      have e1 : wordsA [] (44 :: (b' ++ (dd ++ rest))) = wordsA [44] (b' ++ (dd ++ rest)) := words_nb [44] [] (b' ++ (dd ++ rest)) (by intro c hc; simp at hc; rw [hc]; decide)
      rw [e1, ← List.append_nil (nameT wkdB j)]
      by_cases h1 : b' = []
      · subst h1
        rw [List.nil_append, hT, dowW_name hj]
        simp [hne]
      · rw [words_cut (by simp) hb' h1, hT, dowW_name hj]
        simp
theorem secs_nb {ts : List UInt8} {v : Nat} (h : Secs ts v) : NB ts := by
  rcases h with ⟨rfl, _⟩ | ⟨ss, rfl, _, hd, _⟩
  · intro c hc; cases hc
  · exact nb_cons (by decide) (digs_nb hd)
theorem mail_words {l b0 D dd b1 b2 ys b3 hs ms ts b4 zh zm b5 : List UInt8} {j v : Nat} {g : UInt8} (h : ShM l b0 D dd b1 j b2 ys b3 hs ms ts v b4 g zh zm b5) :
    dowW (wordsA [] l) = some [dd, nameT monB j, ys, hs ++ 58 :: (ms ++ ts), g :: (zh ++ zm)] := by
  have hgn : isBlk g = false := by rcases h.gs with e | e <;> (rw [e]; decide)
  have hz : NB (g :: (zh ++ zm)) := nb_cons hgn (nb_app (digs_nb h.zhd) (digs_nb h.zmd))
  have ht : NB (hs ++ 58 :: (ms ++ ts)) := nb_app (digs_nb h.hsd) (nb_cons (by decide) (nb_app (digs_nb h.msd) (secs_nb h.sec)))
  have hdne : dd ≠ [] := by rintro rfl; rcases h.ddl with h | h <;> simp at h
  rw [h.form, words_blks _ _ h.bl0]
  refine words_dow h.dow h.ddl h.ddd (fun cur => ?_)
  have hc : cur ++ dd ≠ [] := by simp [hdne]
  rw [words_word (digs_nb h.ddd) hc h.bl1 h.ne1]
  rw [words_word (mon_nb j h.mon) (by rw [List.nil_append]; exact ne_of_len (nameT_len j h.mon) (by decide)) h.bl2 h.ne2]
  rw [words_word (digs_nb h.ysd) (by rw [List.nil_append]; exact ne_of_len h.ysl (by decide)) h.bl3 h.ne3]
  have e1 : hs ++ 58 :: (ms ++ (ts ++ (b4 ++ (g :: (zh ++ (zm ++ b5)))))) = (hs ++ 58 :: (ms ++ ts)) ++ (b4 ++ ((g :: (zh ++ zm)) ++ b5)) := by simp
  rw [e1, words_word ht (by simp) h.bl4 h.ne4, words_nb _ _ _ hz, words_end (by simp) h.bl5]
  rfl
/-! From the words to the text -/
theorem words_first : ∀ (l cur x : List UInt8) (t : List (List UInt8)), NB cur → wordsA cur l = x :: t → (cur = [] → ∃ b y l', Blks b ∧ l = b ++ (y ++ l') ∧ x = y ∧ y ≠ [] ∧ NB y ∧ (∀ c r, l' = c :: r → isBlk c = true) ∧ wordsA [] l' = t) ∧ (cur ≠ [] → ∃ y l', l = y ++ l' ∧ x = cur ++ y ∧ NB y ∧ (∀ c r, l' = c :: r → isBlk c = true) ∧ wordsA [] l' = t)
  | [], cur, x, t, _, h => by
    rw [wordsA] at h
    constructor
    · intro hc
      rw [if_pos hc] at h
      cases h
    · intro hc
      rw [if_neg hc] at h
      cases h
      exact ⟨[], [], rfl, by simp, (by intro c hc; cases hc), (by intro c r e; cases e), rfl⟩
  | c :: l, cur, x, t, hn, h => by
    rw [wordsA] at h
    by_cases hc : isBlk c = true
    · rw [if_pos hc] at h
      constructor
      · intro h0
        rw [if_pos h0] at h
        obtain ⟨b, y, l', h1, h2, h3⟩ := (words_first l [] x t (by intro c hc; cases hc) h).1 rfl
        refine ⟨c :: b, y, l', ?_, by rw [h2]; rfl, h3⟩
        intro d hd
        rcases List.mem_cons.1 hd with rfl | hd
        · exact hc
        · exact h1 d hd
      · intro h0
        rw [if_neg h0] at h
        cases h
        refine ⟨[], c :: l, rfl, by simp, (by intro c hc; cases hc), ?_, ?_⟩
        · intro d r e
          cases e
          exact hc
        · rw [wordsA, if_pos hc, if_pos rfl]
    · have hcf : isBlk c = false := by simpa using hc
      rw [if_neg hc] at h
      have hn2 : NB (cur ++ [c]) := nb_app hn (nb_cons hcf (by intro c hc; cases hc))
      obtain ⟨y, l', h1, h2, h3, h4⟩ := (words_first l (cur ++ [c]) x t hn2 h).2 (by simp)
      constructor
      · rintro rfl
        exact ⟨[], c :: y, l', (by intro c hc; cases hc), by rw [h1]; rfl, by rw [h2]; rfl, by simp, nb_cons hcf h3, h4⟩
      · intro h0
        exact ⟨c :: y, l', by rw [h1]; rfl, by rw [h2]; simp, nb_cons hcf h3, h4⟩
theorem words_next {l x : List UInt8} {t : List (List UInt8)} (h : wordsA [] l = x :: t) : ∃ b l', Blks b ∧ l = b ++ (x ++ l') ∧ x ≠ [] ∧ NB x ∧ (∀ c r, l' = c :: r → isBlk c = true) ∧ wordsA [] l' = t := by
  obtain ⟨b, y, l', h1, h2, rfl, h3⟩ := (words_first l [] x t (by intro c hc; cases hc) h).1 rfl
  exact ⟨b, l', h1, h2, h3⟩
theorem words_next' {l x : List UInt8} {t : List (List UInt8)} (hl : ∀ c r, l = c :: r → isBlk c = true) (h : wordsA [] l = x :: t) : ∃ b l', b ≠ [] ∧ Blks b ∧ l = b ++ (x ++ l') ∧ x ≠ [] ∧ NB x ∧ (∀ c r, l' = c :: r → isBlk c = true) ∧ wordsA [] l' = t := by
  obtain ⟨b, l', h1, h2, h3, h4, h5⟩ := words_next h
  refine ⟨b, l', ?_, h1, h2, h3, h4, h5⟩
  rintro rfl
  cases x with
  | nil => exact h3 rfl
  | cons c x =>
    have := hl c (x ++ l') h2
    rw [h4 c (by simp)] at this
    cases this
theorem words_none : ∀ {l : List UInt8}, wordsA [] l = [] → Blks l
  | [], _ => by intro c hc; cases hc
  | c :: l, h => by
    rw [wordsA] at h
    by_cases hc : isBlk c = true
    · rw [if_pos hc, if_pos rfl] at h
      intro d hd
      rcases List.mem_cons.1 hd with rfl | hd
      · exact hc
      · exact words_none h d hd
    · rw [if_neg hc] at h
      exfalso
      have : ∀ (l cur : List UInt8), cur ≠ [] → wordsA cur l ≠ [] := by
        intro l
        induction l with
        | nil => intro cur h0; rw [wordsA, if_neg h0]; simp
        | cons d l ih =>
          intro cur h0
          rw [wordsA]
          by_cases hd : isBlk d = true
          · rw [if_pos hd, if_neg h0]; simp
          · rw [if_neg hd]; exact ih _ (by simp)
      exact this l _ (by simp) h
/-- What stands behind the day's number. -/
theorem rest_inv {r a1 a2 a3 a4 : List UInt8} (hr : ∀ c r', r = c :: r' → isBlk c = true) (h : wordsA [] r = [a1, a2, a3, a4]) : ∃ b1 b2 b3 b4 b5, r = b1 ++ (a1 ++ (b2 ++ (a2 ++ (b3 ++ (a3 ++ (b4 ++ (a4 ++ b5))))))) ∧ b1 ≠ [] ∧ Blks b1 ∧ b2 ≠ [] ∧ Blks b2 ∧ b3 ≠ [] ∧ Blks b3 ∧ b4 ≠ [] ∧ Blks b4 ∧ Blks b5 := by
  obtain ⟨b1, l1, n1, k1, e1, _, _, q1, h1⟩ := words_next' hr h
  obtain ⟨b2, l2, n2, k2, e2, _, _, q2, h2⟩ := words_next' q1 h1
  obtain ⟨b3, l3, n3, k3, e3, _, _, q3, h3⟩ := words_next' q2 h2
  obtain ⟨b4, l4, n4, k4, e4, _, _, _, h4⟩ := words_next' q3 h3
  exact ⟨b1, b2, b3, b4, l4, by rw [e1, e2, e3, e4], n1, k1, n2, k2, n3, k3, n4, k4, words_none h4⟩
theorem dow_words {l : List UInt8} {ws : List (List UInt8)} {a0 : List UInt8} {t : List (List UInt8)} (h : dowW (wordsA [] l) = some ws) (hws : ws = a0 :: t) : ∃ b0 D r, Blks b0 ∧ Dow D ∧ l = b0 ++ (D ++ (a0 ++ r)) ∧ (∀ c r', r = c :: r' → isBlk c = true) ∧ wordsA [] r = t := by
  subst hws
  cases hw : wordsA [] l with
  | nil => rw [hw] at h; cases h
  | cons x t0 =>
    obtain ⟨b0, l1, k0, e0, _, _, q0, h0⟩ := words_next hw
    rw [hw, dowW] at h
    by_cases hc : 3 ≤ x.length ∧ 0 ≤ findEq wkdB (x.take 3) 7 0
    · rw [if_pos hc] at h
      rcases wfind_inv (x.take 3) 7 0 with hm | ⟨j, _, hj, hn, _⟩
      · omega
      · have hx : x = nameT wkdB j ++ x.drop 3 := by rw [← hn, List.take_append_drop]
        obtain ⟨rest, hrest⟩ : ∃ rest, x.drop 3 = rest := ⟨_, rfl⟩
        rw [hrest] at hx h
        by_cases hr0 : rest = []
        · rw [if_pos hr0] at h
          subst hr0
          cases t0 with
          | nil => cases h
          | cons r t' =>
            obtain ⟨b, l2, n1, k1, e1, _, _, q1, h1⟩ := words_next' q0 h0
            cases r with
            | nil => cases h
            | cons c r =>
              simp only at h
              by_cases hc44 : c = 44
              · rw [if_pos hc44] at h
                have h' := Option.some.inj h
                by_cases hr1 : r = []
                · rw [if_pos hr1] at h'
                  subst h'
                  obtain ⟨b', l3, _, k2, e2, _, _, q2, h2⟩ := words_next' q1 h1
                  refine ⟨b0, nameT wkdB j ++ (b ++ 44 :: b'), l3, k0, .inr ⟨j, b, b', by omega, k1, k2, rfl⟩, ?_, q2, h2⟩
                  rw [e0, hx, e1, e2, hc44, hr1]
                  simp
                · rw [if_neg hr1] at h'
                  injection h' with h1' h2'
                  subst h1' h2'
                  refine ⟨b0, nameT wkdB j ++ (b ++ 44 :: []), l2, k0, .inr ⟨j, b, [], by omega, k1, (by intro c hc; cases hc), rfl⟩, ?_, q1, h1⟩
                  rw [e0, hx, e1, hc44]
                  simp
              · rw [if_neg hc44] at h
                cases h
        · rw [if_neg hr0] at h
          cases rest with
          | nil => exact absurd rfl hr0
          | cons c r =>
            simp only at h
            by_cases hc44 : c = 44
            · rw [if_pos hc44] at h
              have h' := Option.some.inj h
              by_cases hr1 : r = []
              · rw [if_pos hr1] at h'
                subst h'
                obtain ⟨b', l3, _, k2, e2, _, _, q2, h2⟩ := words_next' q0 h0
                refine ⟨b0, nameT wkdB j ++ ([] ++ 44 :: b'), l3, k0, .inr ⟨j, [], b', by omega, (by intro c hc; cases hc), k2, rfl⟩, ?_, q2, h2⟩
                rw [e0, hx, e2, hc44, hr1]
                simp
              · rw [if_neg hr1] at h'
                injection h' with h1' h2'
                subst h1' h2'
                refine ⟨b0, nameT wkdB j ++ ([] ++ 44 :: []), l1, k0, .inr ⟨j, [], [], by omega, (by intro c hc; cases hc), (by intro c hc; cases hc), rfl⟩, ?_, q0, h0⟩
                rw [e0, hx, hc44]
                simp
            · rw [if_neg hc44] at h
              cases h
    · rw [if_neg hc] at h
      cases h
      exact ⟨b0, [], l1, k0, .inl rfl, by rw [e0]; rfl, q0, h0⟩
/-- The document's answer of a text. -/
theorem mail_doc (l : List UInt8) : (dowW (wordsA [] l) = none ∧ docR ((pmailF (σz l)).bind endF) = .tuple #[.int .i64 0, .int .i64 2]) ∨ ∃ ws, dowW (wordsA [] l) = some ws ∧ DocM ws (docR ((pmailF (σz l)).bind endF)) := by
  cases hd : dowW (wordsA [] l) with
  | none =>
    refine .inl ⟨rfl, ?_⟩
    cases h : (pmailF (σz l)).bind endF with
    | none => rfl
    | some τ =>
      obtain ⟨b0, D, dd, b1, j, b2, ys, b3, hs, ms, ts, v, b4, g, zh, zm, b5, h⟩ := pmail_inv h
      have := mail_words h
      rw [hd] at this
      cases this
  | some ws =>
    refine .inr ⟨ws, rfl, ?_⟩
    by_cases hf : ∃ a0 a1 a2 a3 a4 j hs ms ts v z, ws = [a0, a1, a2, a3, a4] ∧ FormM a0 a1 a2 a3 a4 j hs ms ts v z
    · left
      obtain ⟨a0, a1, a2, a3, a4, j, hs, ms, ts, v, z, hws, hf⟩ := hf
      refine ⟨a0, a1, a2, a3, a4, j, hs, ms, ts, v, z, hws, hf, ?_⟩
      obtain ⟨b0, D, r, k0, kD, e0, q0, h0⟩ := dow_words hd hws
      obtain ⟨b1, b2, b3, b4, b5, e1, n1, k1, n2, k2, n3, k3, n4, k4, k5⟩ := rest_inv q0 h0
      obtain ⟨g, zh, zm, hz, z1, z2, hze⟩ := hf.zn
      have hsh : ShM l b0 D a0 b1 j b2 a2 b3 hs ms ts v b4 g zh zm b5 := by
        refine ⟨?_, k0, kD, hf.d0l, hf.d0, n1, k1, hf.mon, n2, k2, hf.y4, hf.yd, n3, k3, hf.hsl, hf.hsd, hf.msl, hf.msd, hf.sec, n4, k4, hz.2.1, hz.2.2.1, hz.2.2.2.1, hz.2.2.2.2.1, hz.2.2.2.2.2, z1, z2, k5⟩
        rw [e0, e1, hf.a1e, hf.tf, hz.1]
        simp
      rw [pmail_fwd hsh, hze]
      rfl
    · right
      refine ⟨hf, ?_⟩
      cases h : (pmailF (σz l)).bind endF with
      | none => rfl
      | some τ =>
        exfalso
        obtain ⟨b0, D, dd, b1, j, b2, ys, b3, hs, ms, ts, v, b4, g, zh, zm, b5, h⟩ := pmail_inv h
        have := mail_words h
        rw [hd] at this
        refine hf ⟨dd, nameT monB j, ys, hs ++ 58 :: (ms ++ ts), g :: (zh ++ zm), j, hs, ms, ts, v, _, Option.some.inj this, ⟨h.ddl, h.ddd, h.mon, rfl, h.ysl, h.ysd, rfl, h.hsl, h.hsd, h.msl, h.msd, h.sec, ⟨g, zh, zm, ⟨rfl, h.gs, h.zhl, h.zhd, h.zml, h.zmd⟩, h.zh23, h.zm59, rfl⟩⟩⟩
end Go.Proofs.YtcmhaihoeecjoaaGreatDoor.Da
