/- Addresses in fields: plain mathematics of lists. -/
import Derived.Lib.SlTrimSet
import Derived.Lib.PathFns
namespace Go.Proofs.YtkppeejbmalefaaDoor
/-- What a byte of a value stands in: outside, in a quoted text, behind a mark 92 in one, between 60 and 62. -/
inductive Sq
  | o | q | e | a
  deriving DecidableEq
def nx : Sq → UInt8 → Sq
  | .o, c => if c = 34 then .q else if c = 60 then .a else .o
  | .q, c => if c = 34 then .o else if c = 92 then .e else .q
  | .e, _ => .q
  | .a, c => if c = 62 then .o else .a
/-- A byte's mark. -/
def mkN : Sq → UInt8 → Nat
  | .o, c => if c = 34 then 1 else 0
  | .q, _ => 1
  | .e, _ => 1
  | .a, _ => 2
def rn (s : Sq) (l : List UInt8) : Sq := l.foldl nx s
def mks : Sq → List UInt8 → List Nat
  | _, [] => []
  | s, c :: r => mkN s c :: mks (nx s c) r
/-- Where a mark stands first outside. -/
def plE (m : UInt8) : Sq → List UInt8 → Nat
  | _, [] => 0
  | s, c :: r => if s = .o ∧ c = m then 0 else plE m (nx s c) r + 1
/-- How far a quoted text goes behind its first mark; a stretch behind 60. -/
def qL : List UInt8 → Nat
  | [] => 0
  | [c] => if c = 34 then 1 else 1
  | c :: d :: r => if c = 34 then 1 else if c = 92 then qL r + 2 else qL (d :: r) + 1
def aL : List UInt8 → Nat
  | [] => 0
  | c :: r => if c = 62 then 1 else aL r + 1
def stp : List UInt8 → Nat
  | [] => 0
  | c :: r => if c = 34 then qL r + 1 else if c = 60 then aL r + 1 else 1
theorem qL_le : ∀ (l : List UInt8), qL l ≤ l.length
  | [] => Nat.le_refl _
  | [c] => by unfold qL; split <;> simp
  | c :: d :: r => by
    unfold qL
    have h1 := qL_le r
    have h2 := qL_le (d :: r)
    simp only [List.length_cons] at *
    split
    · omega
    · split <;> omega
theorem aL_le : ∀ (l : List UInt8), aL l ≤ l.length
  | [] => Nat.le_refl _
  | c :: r => by
    unfold aL
    have h1 := aL_le r
    simp only [List.length_cons] at *
    split <;> omega
theorem stp_le : ∀ (l : List UInt8), stp l ≤ l.length
  | [] => Nat.le_refl _
  | c :: r => by
    unfold stp
    have h1 := aL_le r
    have h2 := qL_le r
    simp only [List.length_cons]
    split
    · omega
    · split <;> omega
theorem stp_cons (c : UInt8) (r : List UInt8) : stp (c :: r) = if c = 34 then qL r + 1 else if c = 60 then aL r + 1 else 1 := rfl
theorem stp_pos {c : UInt8} {r : List UInt8} : 1 ≤ stp (c :: r) := by
  rw [stp_cons]
  split
  · omega
  · split <;> omega
theorem rn_append (s : Sq) (a b : List UInt8) : rn s (a ++ b) = rn (rn s a) b := List.foldl_append
theorem rn_cons (s : Sq) (c : UInt8) (r : List UInt8) : rn s (c :: r) = rn (nx s c) r := rfl
theorem plE_le (m : UInt8) : ∀ (s : Sq) (l : List UInt8), plE m s l ≤ l.length
  | _, [] => Nat.le_refl _
  | s, c :: r => by
    have := plE_le m (nx s c) r
    unfold plE
    simp only [List.length_cons]
    split <;> omega
theorem plE_q (m : UInt8) : ∀ (l : List UInt8), plE m .q l = qL l + plE m .o (l.drop (qL l))
  | [] => rfl
  | [c] => by
    have h : plE m .q [c] = 1 := by simp [plE]
    have h2 : qL [c] = 1 := by simp [qL]
    rw [h, h2]
    simp [plE]
  | c :: d :: r => by
    by_cases h : c = 34
    · subst h
      have h2 : qL (34 :: d :: r) = 1 := by simp [qL]
      rw [h2]
      simp only [List.drop_succ_cons, List.drop_zero]
      conv => lhs; unfold plE
      rw [if_neg (by simp)]
      show plE m .o (d :: r) + 1 = _
      omega
    · by_cases h1 : c = 92
      · subst h1
        have h2 : qL (92 :: d :: r) = qL r + 2 := by simp [qL]
        have ih := plE_q m r
        rw [h2]
        simp only [List.drop_succ_cons]
        conv => lhs; unfold plE
        rw [if_neg (by simp)]
        show plE m .e (d :: r) + 1 = _
        conv => lhs; unfold plE
        rw [if_neg (by simp)]
        show plE m .q r + 1 + 1 = _
        omega
      · have h2 : qL (c :: d :: r) = qL (d :: r) + 1 := by rw [qL, if_neg h, if_neg h1]
        have ih := plE_q m (d :: r)
        rw [h2]
        simp only [List.drop_succ_cons]
        conv => lhs; unfold plE
        rw [if_neg (by simp)]
        have : nx .q c = .q := by simp [nx, h, h1]
        rw [this, ih]
        omega
theorem plE_a (m : UInt8) : ∀ (l : List UInt8), plE m .a l = aL l + plE m .o (l.drop (aL l))
  | [] => rfl
  | c :: r => by
    have ih := plE_a m r
    conv => lhs; unfold plE
    rw [if_neg (by simp)]
    by_cases h : c = 62
    · subst h
      have h2 : aL (62 :: r) = 1 := by simp [aL]
      rw [h2]
      show plE m .o r + 1 = _
      simp only [List.drop_succ_cons, List.drop_zero]
      omega
    · have h2 : aL (c :: r) = aL r + 1 := by rw [aL, if_neg h]
      have : nx .a c = .a := by simp [nx, h]
      rw [this, h2, ih]
      simp only [List.drop_succ_cons]
      omega
theorem plE_step {m c : UInt8} {r : List UInt8} (h : c ≠ m) : plE m .o (c :: r) = stp (c :: r) + plE m .o ((c :: r).drop (stp (c :: r))) := by
  conv => lhs; unfold plE
  rw [if_neg (by simp [h]), stp_cons]
  by_cases h1 : c = 34
  · subst h1
    rw [if_pos rfl]
    show plE m .q r + 1 = _
    rw [plE_q]
    simp only [List.drop_succ_cons]
    omega
  · rw [if_neg h1]
    by_cases h2 : c = 60
    · subst h2
      rw [if_pos rfl]
      show plE m .a r + 1 = _
      rw [plE_a]
      simp only [List.drop_succ_cons]
      omega
    · rw [if_neg h2]
      have : nx .o c = .o := by simp [nx, h1, h2]
      rw [this]
      simp only [List.drop_succ_cons, List.drop_zero]
      omega
theorem plE_run {m : UInt8} : ∀ {s : Sq} {l : List UInt8}, plE m s l < l.length → rn s (l.take (plE m s l)) = .o ∧ l[plE m s l]? = some m
  | _, [], h => by simp at h
  | s, c :: r, h => by
    unfold plE at h ⊢
    by_cases h1 : s = .o ∧ c = m
    · rw [if_pos h1]
      exact ⟨h1.1, by simp [h1.2]⟩
    · rw [if_neg h1] at h ⊢
      have ih := plE_run (m := m) (s := nx s c) (l := r) (by simpa using h)
      rw [List.take_succ_cons, List.getElem?_cons_succ]
      exact ih
theorem mks_len : ∀ (s : Sq) (l : List UInt8), (mks s l).length = l.length
  | _, [] => rfl
  | s, c :: r => by rw [mks, List.length_cons, List.length_cons, mks_len]
theorem mks_at : ∀ (s : Sq) (l : List UInt8) (i : Nat) (hi : i < l.length), (mks s l)[i]? = some (mkN (rn s (l.take i)) l[i])
  | _, [], i, hi => by simp at hi
  | s, c :: r, 0, _ => rfl
  | s, c :: r, i + 1, hi => by
    rw [mks, List.getElem?_cons_succ, mks_at (nx s c) r i (by simpa using hi)]
    rfl
theorem plE_mks {m : UInt8} (hm : m ≠ 34) : ∀ (s : Sq) (l : List UInt8) (i : Nat) (hi : i < l.length), i < plE m s l → ¬ (l[i] = m ∧ mkN (rn s (l.take i)) l[i] = 0)
  | _, [], i, hi, _ => by simp at hi
  | s, c :: r, 0, _, h => by
    unfold plE at h
    by_cases h1 : s = .o ∧ c = m
    · rw [if_pos h1] at h
      omega
    · rintro ⟨h2, h3⟩
      refine h1 ⟨?_, h2⟩
      cases s
      · rfl
      all_goals (simp [rn, mkN] at h3)
  | s, c :: r, i + 1, hi, h => by
    unfold plE at h
    by_cases h1 : s = .o ∧ c = m
    · rw [if_pos h1] at h
      omega
    · rw [if_neg h1] at h
      exact plE_mks hm (nx s c) r i (by simpa using hi) (by omega)
theorem takeE_all {p : UInt8 → Bool} : ∀ {l : List UInt8} {c : UInt8}, c ∈ l.takeWhile p → p c = true
  | [], c, h => by simp at h
  | x :: r, c, h => by
    rw [List.takeWhile_cons] at h
    by_cases hx : p x = true
    · rw [if_pos hx] at h
      rcases List.mem_cons.1 h with rfl | h
      · exact hx
      · exact takeE_all h
    · rw [if_neg hx] at h
      simp at h
/-- A blank. -/
def bk (c : UInt8) : Bool := [(32 : UInt8), 9].contains c
theorem nx_bk {s : Sq} {c : UInt8} (hc : bk c = true) (h : nx s c = .o) : s = .o := by
  have : c = 32 ∨ c = 9 := by simpa [bk] using hc
  cases s <;> rcases this with rfl | rfl <;> simp [nx] at h ⊢
theorem nx_ob {c : UInt8} (hc : bk c = true) : nx .o c = .o := by
  have : c = 32 ∨ c = 9 := by simpa [bk] using hc
  rcases this with rfl | rfl <;> simp [nx]
theorem rn_bks : ∀ (l : List UInt8) (s : Sq), (∀ c ∈ l, bk c = true) → rn s l = .o → s = .o
  | [], s, _, h => h
  | c :: r, s, hc, h => nx_bk (hc c (by simp)) (rn_bks r _ (fun x hx => hc x (by simp [hx])) h)
theorem rn_obs : ∀ (l : List UInt8), (∀ c ∈ l, bk c = true) → rn .o l = .o
  | [], _ => rfl
  | c :: r, hc => by
    rw [rn_cons, nx_ob (hc c (by simp))]
    exact rn_obs r (fun x hx => hc x (by simp [hx]))
theorem rn_right {l : List UInt8} {s : Sq} (h : rn s l = .o) : rn s (Lib.trimRightS l [32, 9]) = .o := by
  have h1 := List.takeWhile_append_dropWhile (p := ([(32 : UInt8), 9].contains ·)) (l := l.reverse)
  have h2 : l = Lib.trimRightS l [32, 9] ++ (l.reverse.takeWhile ([(32 : UInt8), 9].contains ·)).reverse := by
    unfold Lib.trimRightS
    rw [← List.reverse_append, h1, List.reverse_reverse]
  rw [h2, rn_append] at h
  exact rn_bks _ _ (fun c hc => takeE_all (p := ([(32 : UInt8), 9].contains ·)) (l := l.reverse) (by simpa using hc)) h
theorem rn_left {l : List UInt8} (h : rn .o l = .o) : rn .o (Lib.trimLeftS l [32, 9]) = .o := by
  have h1 := List.takeWhile_append_dropWhile (p := ([(32 : UInt8), 9].contains ·)) (l := l)
  rw [← h1, rn_append, rn_obs _ (fun c hc => takeE_all (p := ([(32 : UInt8), 9].contains ·)) hc)] at h
  exact h
theorem rn_trim {l : List UInt8} (h : rn .o l = .o) : rn .o (Lib.trimS l [32, 9]) = .o := rn_left (rn_right h)
/-- What a quoted text means, read behind its first mark. -/
def mnQ : List UInt8 → List UInt8
  | [] => []
  | [c] => if c = 34 ∨ c = 92 then [] else [c]
  | c :: d :: r => if c = 34 then [] else if c = 92 then d :: mnQ r else c :: mnQ (d :: r)
/-- The name that a text means. -/
def nmV : List UInt8 → List UInt8
  | [] => []
  | c :: r => if c = 34 ∧ qL r = r.length then mnQ r else c :: r
theorem mnQ_len : ∀ (l : List UInt8), (mnQ l).length ≤ l.length
  | [] => Nat.le_refl _
  | [c] => by unfold mnQ; split <;> simp
  | c :: d :: r => by
    unfold mnQ
    have h1 := mnQ_len r
    have h2 := mnQ_len (d :: r)
    simp only [List.length_cons] at h2 ⊢
    split
    · simp
    · split
      · simp only [List.length_cons]; omega
      · simp only [List.length_cons]; omega
theorem nmV_len : ∀ (l : List UInt8), (nmV l).length ≤ l.length
  | [] => Nat.le_refl _
  | c :: r => by
    have := mnQ_len r
    show (if c = 34 ∧ qL r = r.length then mnQ r else c :: r).length ≤ _
    split
    · simp only [List.length_cons]; omega
    · exact Nat.le_refl _
/-- An address. -/
structure Ad where
  name : List UInt8
  loc : List UInt8
  dom : List UInt8
/-- Local part and domain, by the last byte 64 among the first k. -/
def locK (l : List UInt8) (k : Nat) : List UInt8 × List UInt8 :=
  if Go.Lib.Pa.lastIdx l 64 k < 0 then (l, []) else (l.take (Go.Lib.Pa.lastIdx l 64 k).toNat, l.drop ((Go.Lib.Pa.lastIdx l 64 k).toNat + 1))
/-- What stands ahead of the first byte 62. -/
def tow (l : List UInt8) : List UInt8 := l.takeWhile (fun c => c != 62)
/-- Name and address of a piece. -/
def nmA (p : List UInt8) : List UInt8 × List UInt8 :=
  if plE 60 .o p < p.length then (nmV (Lib.trimS (p.take (plE 60 .o p)) [32, 9]), tow (p.drop (plE 60 .o p + 1))) else ([], p)
def adO (p : List UInt8) : Ad := ⟨(nmA p).1, (locK (nmA p).2 (nmA p).2.length).1, (locK (nmA p).2 (nmA p).2.length).2⟩
/-- The pieces of a value, of which cur has been read. -/
def pcs : Sq → List UInt8 → List UInt8 → List (List UInt8)
  | _, cur, [] => [cur]
  | s, cur, c :: r => if s = .o ∧ c = 44 then cur :: pcs .o [] r else pcs (nx s c) (cur ++ [c]) r
def adsP (ps : List (List UInt8)) : List Ad := ((ps.map fun p => Lib.trimS p [32, 9]).filter fun p => !p.isEmpty).map adO
def adsL (v : List UInt8) : List Ad := adsP (pcs .o [] v)
/-- A field's addresses. -/
def adsV (v : List UInt8) : List Ad := (adsL v).take 50
theorem adsP_cons (p : List UInt8) (ps : List (List UInt8)) : adsP (p :: ps) = (if (Lib.trimS p [32, 9]).isEmpty then [] else [adO (Lib.trimS p [32, 9])]) ++ adsP ps := by
  unfold adsP
  rw [List.map_cons, List.filter_cons]
  cases h : (Lib.trimS p [32, 9]).isEmpty <;> simp
theorem pcs_plE : ∀ (s : Sq) (cur l : List UInt8), pcs s cur l = (cur ++ l.take (plE 44 s l)) :: (if plE 44 s l < l.length then pcs .o [] (l.drop (plE 44 s l + 1)) else [])
  | _, cur, [] => by simp [pcs, plE]
  | s, cur, c :: r => by
    have e1 : pcs s cur (c :: r) = if s = .o ∧ c = 44 then cur :: pcs .o [] r else pcs (nx s c) (cur ++ [c]) r := rfl
    have e2 : plE 44 s (c :: r) = if s = .o ∧ c = 44 then 0 else plE 44 (nx s c) r + 1 := rfl
    by_cases h1 : s = .o ∧ c = 44
    · rw [e1, e2, if_pos h1, if_pos h1]
      simp
    · rw [e1, e2, if_neg h1, if_neg h1, pcs_plE (nx s c) (cur ++ [c]) r]
      simp
theorem adsL_nil : adsL [] = [] := by simp [adsL, pcs, adsP, Lib.trimS, Lib.trimLeftS, Lib.trimRightS]
theorem adsL_step (v : List UInt8) : adsL v = (if (Lib.trimS (v.take (plE 44 .o v)) [32, 9]).isEmpty then [] else [adO (Lib.trimS (v.take (plE 44 .o v)) [32, 9])]) ++ adsL (v.drop (plE 44 .o v + 1)) := by
  conv => lhs; unfold adsL
  rw [pcs_plE, adsP_cons, List.nil_append]
  congr 1
  by_cases h : plE 44 .o v < v.length
  · rw [if_pos h]
    rfl
  · rw [if_neg h, List.drop_of_length_le (by omega), adsL_nil]
    rfl
theorem tow_len (l : List UInt8) : (tow l).length ≤ l.length := (List.takeWhile_sublist _).length_le
theorem trim_len (l : List UInt8) : (Lib.trimS l [32, 9]).length ≤ l.length := by
  unfold Lib.trimS Lib.trimLeftS Lib.trimRightS
  refine Nat.le_trans ((List.dropWhile_sublist _).length_le) ?_
  rw [List.length_reverse]
  refine Nat.le_trans ((List.dropWhile_sublist _).length_le) ?_
  rw [List.length_reverse]
  exact Nat.le_refl _
theorem locK_len (l : List UInt8) (k : Nat) : (locK l k).1.length ≤ l.length ∧ (locK l k).2.length ≤ l.length := by
  unfold locK
  split
  · exact ⟨Nat.le_refl _, Nat.zero_le _⟩
  · constructor
    · rw [List.length_take]; omega
    · rw [List.length_drop]; omega
theorem nmA_len (p : List UInt8) : (nmA p).1.length ≤ p.length ∧ (nmA p).2.length ≤ p.length := by
  unfold nmA
  split
  · refine ⟨Nat.le_trans (nmV_len _) (Nat.le_trans (trim_len _) ?_), Nat.le_trans (tow_len _) ?_⟩
    · rw [List.length_take]; omega
    · rw [List.length_drop]; omega
  · exact ⟨Nat.zero_le _, Nat.le_refl _⟩
theorem adO_len (p : List UInt8) : (adO p).name.length ≤ p.length ∧ (adO p).loc.length ≤ p.length ∧ (adO p).dom.length ≤ p.length := by
  have h := nmA_len p
  have h2 := locK_len (nmA p).2 (nmA p).2.length
  refine ⟨h.1, Nat.le_trans h2.1 h.2, Nat.le_trans h2.2 h.2⟩
theorem pcs_len : ∀ (s : Sq) (cur l : List UInt8), ∀ p ∈ pcs s cur l, p.length ≤ cur.length + l.length
  | _, cur, [], p, hp => by
    simp [pcs] at hp
    subst hp
    simp
  | s, cur, c :: r, p, hp => by
    unfold pcs at hp
    split at hp
    · rcases List.mem_cons.1 hp with rfl | hp
      · omega
      · have := pcs_len .o [] r p hp
        simp at this ⊢
        omega
    · have := pcs_len _ _ r p hp
      simp at this ⊢
      omega
theorem adsL_len {v : List UInt8} {x : Ad} (hx : x ∈ adsL v) : x.name.length ≤ v.length ∧ x.loc.length ≤ v.length ∧ x.dom.length ≤ v.length := by
  unfold adsL adsP at hx
  obtain ⟨p, hp, rfl⟩ := List.mem_map.1 hx
  obtain ⟨q, hq, rfl⟩ := List.mem_map.1 (List.mem_filter.1 hp).1
  have h1 := pcs_len .o [] v q hq
  have h2 := trim_len q
  have h3 := adO_len (Lib.trimS q [32, 9])
  simp only [List.length_nil, Nat.zero_add] at h1
  exact ⟨by omega, by omega, by omega⟩
theorem adsV_len {v : List UInt8} {x : Ad} (hx : x ∈ adsV v) : x.name.length ≤ v.length ∧ x.loc.length ≤ v.length ∧ x.dom.length ≤ v.length :=
  adsL_len (List.mem_of_mem_take hx)
end Go.Proofs.YtkppeejbmalefaaDoor
