/- Addresses in fields: plain mathematics of lists. -/
/- Rows of plain addresses: plain mathematics. -/
import Derived.Lib.SlTrimSet
import Derived.Lib.PathFns
section
namespace Go.Proofs.YtkppeejbmalefaaGreatDoor
/-- What a byte of a value stands in: outside, in a quoted text, behind a mark 92 in one, between 60 and 62. -/
inductive Sq
  | o | q | e | a
  deriving DecidableEq
def nx : Sq → UInt8 → Sq
  | .o, c => if c = 34 then .q else if c = 60 then .a else .o
  | .q, c => if c = 34 then .o else if c = 92 then .e else .q
  | .e, _ => .q
  | .a, c => if c = 62 then .o else .a
/-- A byte's mark. -/
def mkN : Sq → UInt8 → Nat
  | .o, c => if c = 34 then 1 else 0
  | .q, _ => 1
  | .e, _ => 1
  | .a, _ => 2
def rn (s : Sq) (l : List UInt8) : Sq := l.foldl nx s
def mks : Sq → List UInt8 → List Nat
  | _, [] => []
  | s, c :: r => mkN s c :: mks (nx s c) r
/-- Where a mark stands first outside. -/
def plE (m : UInt8) : Sq → List UInt8 → Nat
  | _, [] => 0
  | s, c :: r => if s = .o ∧ c = m then 0 else plE m (nx s c) r + 1
/-- How far a quoted text goes behind its first mark; a stretch behind 60. -/
def qL : List UInt8 → Nat
  | [] => 0
  | [c] => if c = 34 then 1 else 1
  | c :: d :: r => if c = 34 then 1 else if c = 92 then qL r + 2 else qL (d :: r) + 1
def aL : List UInt8 → Nat
  | [] => 0
  | c :: r => if c = 62 then 1 else aL r + 1
def stp : List UInt8 → Nat
  | [] => 0
  | c :: r => if c = 34 then qL r + 1 else if c = 60 then aL r + 1 else 1
theorem qL_le : ∀ (l : List UInt8), qL l ≤ l.length
  | [] => Nat.le_refl _
  | [c] => by unfold qL; split <;> simp
  | c :: d :: r => by
    unfold qL
    have h1 := qL_le r
    have h2 := qL_le (d :: r)
    simp only [List.length_cons] at *
    split
    · omega
    · split <;> omega
theorem aL_le : ∀ (l : List UInt8), aL l ≤ l.length
  | [] => Nat.le_refl _
  | c :: r => by
    unfold aL
    have h1 := aL_le r
    simp only [List.length_cons] at *
    split <;> omega
theorem stp_le : ∀ (l : List UInt8), stp l ≤ l.length
  | [] => Nat.le_refl _
  | c :: r => by
    unfold stp
    have h1 := aL_le r
    have h2 := qL_le r
    simp only [List.length_cons]
    split
    · omega
    · split <;> omega
theorem stp_cons (c : UInt8) (r : List UInt8) : stp (c :: r) = if c = 34 then qL r + 1 else if c = 60 then aL r + 1 else 1 := rfl
theorem stp_pos {c : UInt8} {r : List UInt8} : 1 ≤ stp (c :: r) := by
  rw [stp_cons]
  split
  · omega
  · split <;> omega
theorem rn_append (s : Sq) (a b : List UInt8) : rn s (a ++ b) = rn (rn s a) b := List.foldl_append
theorem rn_cons (s : Sq) (c : UInt8) (r : List UInt8) : rn s (c :: r) = rn (nx s c) r := rfl
theorem plE_le (m : UInt8) : ∀ (s : Sq) (l : List UInt8), plE m s l ≤ l.length
  | _, [] => Nat.le_refl _
  | s, c :: r => by
    have := plE_le m (nx s c) r
    unfold plE
    simp only [List.length_cons]
    split <;> omega
theorem plE_q (m : UInt8) : ∀ (l : List UInt8), plE m .q l = qL l + plE m .o (l.drop (qL l))
  | [] => rfl
  | [c] => by
    have h : plE m .q [c] = 1 := by simp [plE]
    have h2 : qL [c] = 1 := by simp [qL]
    rw [h, h2]
    simp [plE]
  | c :: d :: r => by
    by_cases h : c = 34
    · subst h
      have h2 : qL (34 :: d :: r) = 1 := by simp [qL]
      rw [h2]
      simp only [List.drop_succ_cons, List.drop_zero]
      conv => lhs; unfold plE
      rw [if_neg (by simp)]
      show plE m .o (d :: r) + 1 = _
      omega
    · by_cases h1 : c = 92
      · subst h1
        have h2 : qL (92 :: d :: r) = qL r + 2 := by simp [qL]
        have ih := plE_q m r
        rw [h2]
        simp only [List.drop_succ_cons]
        conv => lhs; unfold plE
        rw [if_neg (by simp)]
        show plE m .e (d :: r) + 1 = _
        conv => lhs; unfold plE
        rw [if_neg (by simp)]
        show plE m .q r + 1 + 1 = _
        omega
      · have h2 : qL (c :: d :: r) = qL (d :: r) + 1 := by rw [qL, if_neg h, if_neg h1]
        have ih := plE_q m (d :: r)
        rw [h2]
        simp only [List.drop_succ_cons]
        conv => lhs; unfold plE
        rw [if_neg (by simp)]
        have : nx .q c = .q := by simp [nx, h, h1]
        rw [this, ih]
        omega
theorem plE_a (m : UInt8) : ∀ (l : List UInt8), plE m .a l = aL l + plE m .o (l.drop (aL l))
  | [] => rfl
  | c :: r => by
    have ih := plE_a m r
    conv => lhs; unfold plE
    rw [if_neg (by simp)]
    by_cases h : c = 62
    · subst h
      have h2 : aL (62 :: r) = 1 := by simp [aL]
      rw [h2]
      show plE m .o r + 1 = _
      simp only [List.drop_succ_cons, List.drop_zero]
      omega
    · have h2 : aL (c :: r) = aL r + 1 := by rw [aL, if_neg h]
      have : nx .a c = .a := by simp [nx, h]
      rw [this, h2, ih]
      simp only [List.drop_succ_cons]
      omega
theorem plE_step {m c : UInt8} {r : List UInt8} (h : c ≠ m) : plE m .o (c :: r) = stp (c :: r) + plE m .o ((c :: r).drop (stp (c :: r))) := by
  conv => lhs; unfold plE
  rw [if_neg (by simp [h]), stp_cons]
  by_cases h1 : c = 34
  · subst h1
    rw [if_pos rfl]
    show plE m .q r + 1 = _
    rw [plE_q]
    simp only [List.drop_succ_cons]
    omega
  · rw [if_neg h1]
    by_cases h2 : c = 60
    · subst h2
      rw [if_pos rfl]
      show plE m .a r + 1 = _
      rw [plE_a]
      simp only [List.drop_succ_cons]
      omega
    · rw [if_neg h2]
      have : nx .o c = .o := by simp [nx, h1, h2]
      rw [this]
      simp only [List.drop_succ_cons, List.drop_zero]
      omega
theorem plE_run {m : UInt8} : ∀ {s : Sq} {l : List UInt8}, plE m s l < l.length → rn s (l.take (plE m s l)) = .o ∧ l[plE m s l]? = some m
  | _, [], h => by simp at h
  | s, c :: r, h => by
    unfold plE at h ⊢
    by_cases h1 : s = .o ∧ c = m
    · rw [if_pos h1]
      exact ⟨h1.1, by simp [h1.2]⟩
    · rw [if_neg h1] at h ⊢
      have ih := plE_run (m := m) (s := nx s c) (l := r) (by simpa using h)
      rw [List.take_succ_cons, List.getElem?_cons_succ]
      exact ih
theorem mks_len : ∀ (s : Sq) (l : List UInt8), (mks s l).length = l.length
  | _, [] => rfl
  | s, c :: r => by rw [mks, List.length_cons, List.length_cons, mks_len]
theorem mks_at : ∀ (s : Sq) (l : List UInt8) (i : Nat) (hi : i < l.length), (mks s l)[i]? = some (mkN (rn s (l.take i)) l[i])
  | _, [], i, hi => by simp at hi
  | s, c :: r, 0, _ => rfl
  | s, c :: r, i + 1, hi => by
    rw [mks, List.getElem?_cons_succ, mks_at (nx s c) r i (by simpa using hi)]
    rfl
theorem plE_mks {m : UInt8} (hm : m ≠ 34) : ∀ (s : Sq) (l : List UInt8) (i : Nat) (hi : i < l.length), i < plE m s l → ¬ (l[i] = m ∧ mkN (rn s (l.take i)) l[i] = 0)
  | _, [], i, hi, _ => by simp at hi
  | s, c :: r, 0, _, h => by
    unfold plE at h
    by_cases h1 : s = .o ∧ c = m
    · rw [if_pos h1] at h
      omega
    · rintro ⟨h2, h3⟩
      refine h1 ⟨?_, h2⟩
      cases s
      · rfl
      all_goals (simp [rn, mkN] at h3)
  | s, c :: r, i + 1, hi, h => by
    unfold plE at h
    by_cases h1 : s = .o ∧ c = m
    · rw [if_pos h1] at h
      omega
    · rw [if_neg h1] at h
      exact plE_mks hm (nx s c) r i (by simpa using hi) (by omega)
theorem takeE_all {p : UInt8 → Bool} : ∀ {l : List UInt8} {c : UInt8}, c ∈ l.takeWhile p → p c = true
  | [], c, h => by simp at h
  | x :: r, c, h => by
    rw [List.takeWhile_cons] at h
    by_cases hx : p x = true
    · rw [if_pos hx] at h
      rcases List.mem_cons.1 h with rfl | h
      · exact hx
      · exact takeE_all h
    · rw [if_neg hx] at h
      simp at h
/-- A blank. -/
def bk (c : UInt8) : Bool := [(32 : UInt8), 9].contains c
theorem nx_bk {s : Sq} {c : UInt8} (hc : bk c = true) (h : nx s c = .o) : s = .o := by
  have : c = 32 ∨ c = 9 := by simpa [bk] using hc
  cases s <;> rcases this with rfl | rfl <;> simp [nx] at h ⊢
theorem nx_ob {c : UInt8} (hc : bk c = true) : nx .o c = .o := by
  have : c = 32 ∨ c = 9 := by simpa [bk] using hc
  rcases this with rfl | rfl <;> simp [nx]
theorem rn_bks : ∀ (l : List UInt8) (s : Sq), (∀ c ∈ l, bk c = true) → rn s l = .o → s = .o
  | [], s, _, h => h
  | c :: r, s, hc, h => nx_bk (hc c (by simp)) (rn_bks r _ (fun x hx => hc x (by simp [hx])) h)
theorem rn_obs : ∀ (l : List UInt8), (∀ c ∈ l, bk c = true) → rn .o l = .o
  | [], _ => rfl
  | c :: r, hc => by
    rw [rn_cons, nx_ob (hc c (by simp))]
    exact rn_obs r (fun x hx => hc x (by simp [hx]))
theorem rn_right {l : List UInt8} {s : Sq} (h : rn s l = .o) : rn s (Lib.trimRightS l [32, 9]) = .o := by
  have h1 := List.takeWhile_append_dropWhile (p := ([(32 : UInt8), 9].contains ·)) (l := l.reverse)
  have h2 : l = Lib.trimRightS l [32, 9] ++ (l.reverse.takeWhile ([(32 : UInt8), 9].contains ·)).reverse := by
    unfold Lib.trimRightS
    rw [← List.reverse_append, h1, List.reverse_reverse]
  rw [h2, rn_append] at h
  exact rn_bks _ _ (fun c hc => takeE_all (p := ([(32 : UInt8), 9].contains ·)) (l := l.reverse) (by simpa using hc)) h
theorem rn_left {l : List UInt8} (h : rn .o l = .o) : rn .o (Lib.trimLeftS l [32, 9]) = .o := by
  have h1 := List.takeWhile_append_dropWhile (p := ([(32 : UInt8), 9].contains ·)) (l := l)
  rw [← h1, rn_append, rn_obs _ (fun c hc => takeE_all (p := ([(32 : UInt8), 9].contains ·)) hc)] at h
  exact h
theorem rn_trim {l : List UInt8} (h : rn .o l = .o) : rn .o (Lib.trimS l [32, 9]) = .o := rn_left (rn_right h)
/-- What a quoted text means, read behind its first mark. -/
def mnQ : List UInt8 → List UInt8
  | [] => []
  | [c] => if c = 34 ∨ c = 92 then [] else [c]
  | c :: d :: r => if c = 34 then [] else if c = 92 then d :: mnQ r else c :: mnQ (d :: r)
/-- The name that a text means. -/
def nmV : List UInt8 → List UInt8
  | [] => []
  | c :: r => if c = 34 ∧ qL r = r.length then mnQ r else c :: r
theorem mnQ_len : ∀ (l : List UInt8), (mnQ l).length ≤ l.length
  | [] => Nat.le_refl _
  | [c] => by unfold mnQ; split <;> simp
  | c :: d :: r => by
    unfold mnQ
    have h1 := mnQ_len r
    have h2 := mnQ_len (d :: r)
    simp only [List.length_cons] at h2 ⊢
    split
    · simp
    · split
      · simp only [List.length_cons]; omega
      · simp only [List.length_cons]; omega
theorem nmV_len : ∀ (l : List UInt8), (nmV l).length ≤ l.length
  | [] => Nat.le_refl _
  | c :: r => by
    have := mnQ_len r
    show (if c = 34 ∧ qL r = r.length then mnQ r else c :: r).length ≤ _
    split
    · simp only [List.length_cons]; omega
    · exact Nat.le_refl _
/-- An address. -/
structure Ad where
  name : List UInt8
  loc : List UInt8
  dom : List UInt8
/-- Local part and domain, by the last byte 64 among the first k. -/
def locK (l : List UInt8) (k : Nat) : List UInt8 × List UInt8 :=
  if Go.Lib.Pa.lastIdx l 64 k < 0 then (l, []) else (l.take (Go.Lib.Pa.lastIdx l 64 k).toNat, l.drop ((Go.Lib.Pa.lastIdx l 64 k).toNat + 1))
/-- What stands ahead of the first byte 62. -/
def tow (l : List UInt8) : List UInt8 := l.takeWhile (fun c => c != 62)
/-- Name and address of a piece. -/
def nmA (p : List UInt8) : List UInt8 × List UInt8 :=
  if plE 60 .o p < p.length then (nmV (Lib.trimS (p.take (plE 60 .o p)) [32, 9]), tow (p.drop (plE 60 .o p + 1))) else ([], p)
def adO (p : List UInt8) : Ad := ⟨(nmA p).1, (locK (nmA p).2 (nmA p).2.length).1, (locK (nmA p).2 (nmA p).2.length).2⟩
/-- The pieces of a value, of which cur has been read. -/
def pcs : Sq → List UInt8 → List UInt8 → List (List UInt8)
  | _, cur, [] => [cur]
  | s, cur, c :: r => if s = .o ∧ c = 44 then cur :: pcs .o [] r else pcs (nx s c) (cur ++ [c]) r
def adsP (ps : List (List UInt8)) : List Ad := ((ps.map fun p => Lib.trimS p [32, 9]).filter fun p => !p.isEmpty).map adO
def adsL (v : List UInt8) : List Ad := adsP (pcs .o [] v)
/-- A field's addresses. -/
def adsV (v : List UInt8) : List Ad := (adsL v).take 50
theorem adsP_cons (p : List UInt8) (ps : List (List UInt8)) : adsP (p :: ps) = (if (Lib.trimS p [32, 9]).isEmpty then [] else [adO (Lib.trimS p [32, 9])]) ++ adsP ps := by
  unfold adsP
  rw [List.map_cons, List.filter_cons]
  cases h : (Lib.trimS p [32, 9]).isEmpty <;> simp
theorem pcs_plE : ∀ (s : Sq) (cur l : List UInt8), pcs s cur l = (cur ++ l.take (plE 44 s l)) :: (if plE 44 s l < l.length then pcs .o [] (l.drop (plE 44 s l + 1)) else [])
  | _, cur, [] => by simp [pcs, plE]
  | s, cur, c :: r => by
    have e1 : pcs s cur (c :: r) = if s = .o ∧ c = 44 then cur :: pcs .o [] r else pcs (nx s c) (cur ++ [c]) r := rfl
    have e2 : plE 44 s (c :: r) = if s = .o ∧ c = 44 then 0 else plE 44 (nx s c) r + 1 := rfl
    by_cases h1 : s = .o ∧ c = 44
    · rw [e1, e2, if_pos h1, if_pos h1]
      simp
    · rw [e1, e2, if_neg h1, if_neg h1, pcs_plE (nx s c) (cur ++ [c]) r]
      simp
theorem adsL_nil : adsL [] = [] := by simp [adsL, pcs, adsP, Lib.trimS, Lib.trimLeftS, Lib.trimRightS]
theorem adsL_step (v : List UInt8) : adsL v = (if (Lib.trimS (v.take (plE 44 .o v)) [32, 9]).isEmpty then [] else [adO (Lib.trimS (v.take (plE 44 .o v)) [32, 9])]) ++ adsL (v.drop (plE 44 .o v + 1)) := by
  conv => lhs; unfold adsL
  rw [pcs_plE, adsP_cons, List.nil_append]
  congr 1
  by_cases h : plE 44 .o v < v.length
  · rw [if_pos h]
    rfl
  · rw [if_neg h, List.drop_of_length_le (by omega), adsL_nil]
    rfl
theorem tow_len (l : List UInt8) : (tow l).length ≤ l.length := (List.takeWhile_sublist _).length_le
theorem trim_len (l : List UInt8) : (Lib.trimS l [32, 9]).length ≤ l.length := by
  unfold Lib.trimS Lib.trimLeftS Lib.trimRightS
  refine Nat.le_trans ((List.dropWhile_sublist _).length_le) ?_
  rw [List.length_reverse]
  refine Nat.le_trans ((List.dropWhile_sublist _).length_le) ?_
  rw [List.length_reverse]
  exact Nat.le_refl _
theorem locK_len (l : List UInt8) (k : Nat) : (locK l k).1.length ≤ l.length ∧ (locK l k).2.length ≤ l.length := by
  unfold locK
  split
  · exact ⟨Nat.le_refl _, Nat.zero_le _⟩
  · constructor
    · rw [List.length_take]; omega
    · rw [List.length_drop]; omega
theorem nmA_len (p : List UInt8) : (nmA p).1.length ≤ p.length ∧ (nmA p).2.length ≤ p.length := by
  unfold nmA
  split
  · refine ⟨Nat.le_trans (nmV_len _) (Nat.le_trans (trim_len _) ?_), Nat.le_trans (tow_len _) ?_⟩
    · rw [List.length_take]; omega
    · rw [List.length_drop]; omega
  · exact ⟨Nat.zero_le _, Nat.le_refl _⟩
theorem adO_len (p : List UInt8) : (adO p).name.length ≤ p.length ∧ (adO p).loc.length ≤ p.length ∧ (adO p).dom.length ≤ p.length := by
  have h := nmA_len p
  have h2 := locK_len (nmA p).2 (nmA p).2.length
  refine ⟨h.1, Nat.le_trans h2.1 h.2, Nat.le_trans h2.2 h.2⟩
theorem pcs_len : ∀ (s : Sq) (cur l : List UInt8), ∀ p ∈ pcs s cur l, p.length ≤ cur.length + l.length
  | _, cur, [], p, hp => by
    simp [pcs] at hp
    subst hp
    simp
  | s, cur, c :: r, p, hp => by
    unfold pcs at hp
    split at hp
    · rcases List.mem_cons.1 hp with rfl | hp
      · omega
      · have := pcs_len .o [] r p hp
        simp at this ⊢
        omega
    · have := pcs_len _ _ r p hp
      simp at this ⊢
      omega
theorem adsL_len {v : List UInt8} {x : Ad} (hx : x ∈ adsL v) : x.name.length ≤ v.length ∧ x.loc.length ≤ v.length ∧ x.dom.length ≤ v.length := by
  unfold adsL adsP at hx
  obtain ⟨p, hp, rfl⟩ := List.mem_map.1 hx
  obtain ⟨q, hq, rfl⟩ := List.mem_map.1 (List.mem_filter.1 hp).1
  have h1 := pcs_len .o [] v q hq
  have h2 := trim_len q
  have h3 := adO_len (Lib.trimS q [32, 9])
  simp only [List.length_nil, Nat.zero_add] at h1
  exact ⟨by omega, by omega, by omega⟩
theorem adsV_len {v : List UInt8} {x : Ad} (hx : x ∈ adsV v) : x.name.length ≤ v.length ∧ x.loc.length ≤ v.length ∧ x.dom.length ≤ v.length :=
  adsL_len (List.mem_of_mem_take hx)
end Go.Proofs.YtkppeejbmalefaaGreatDoor

end
section
namespace Go.Proofs.YtkppeejbmalefaaGreatDoor
theorem pcs_app : ∀ (p : List UInt8) (s : Sq) (cur r : List UInt8), (44 : UInt8) ∉ p → pcs s cur (p ++ r) = pcs (rn s p) (cur ++ p) r
  | [], s, cur, r, _ => by simp [rn]
  | c :: p, s, cur, r, h => by
    have hc : c ≠ 44 := fun e => h (by simp [e])
    have e1 : pcs s cur (c :: (p ++ r)) = if s = .o ∧ c = 44 then cur :: pcs .o [] (p ++ r) else pcs (nx s c) (cur ++ [c]) (p ++ r) := rfl
    rw [List.cons_append, e1, if_neg (fun e => hc e.2), pcs_app p _ _ _ (fun e => h (by simp [e])), rn_cons]
    simp
theorem plE_app (m : UInt8) : ∀ (p : List UInt8) (s : Sq) (r : List UInt8), m ∉ p → plE m s (p ++ r) = p.length + plE m (rn s p) r
  | [], s, r, _ => by simp [rn]
  | c :: p, s, r, h => by
    have hc : c ≠ m := fun e => h (by simp [e])
    have e1 : plE m s (c :: (p ++ r)) = if s = .o ∧ c = m then 0 else plE m (nx s c) (p ++ r) + 1 := rfl
    rw [List.cons_append, e1, if_neg (fun e => hc e.2), plE_app m p _ _ (fun e => h (by simp [e])), rn_cons]
    simp
    omega
/-- A small letter or a digit. -/
def alB (c : UInt8) : Bool := (decide (97 ≤ c.toNat) && decide (c.toNat ≤ 122)) || (decide (48 ≤ c.toNat) && decide (c.toNat ≤ 57))
theorem al_ne {c d : UInt8} (h : alB c = true) (hd : alB d = false) : c ≠ d := fun e => by rw [e, hd] at h; cases h
theorem al_mem {t : List UInt8} {d : UInt8} (h : t.all alB = true) (hd : alB d = false) : d ∉ t := fun e => al_ne (List.all_eq_true.1 h _ e) hd rfl
theorem nx_al {c : UInt8} (h : alB c = true) : nx .o c = .o ∧ nx .q c = .q ∧ nx .a c = .a := by
  have h1 := al_ne h (d := 34) (by decide)
  have h2 := al_ne h (d := 60) (by decide)
  have h3 := al_ne h (d := 92) (by decide)
  have h4 := al_ne h (d := 62) (by decide)
  simp [nx, h1, h2, h3, h4]
theorem rn_al : ∀ {t : List UInt8}, t.all alB = true → rn .o t = .o ∧ rn .q t = .q ∧ rn .a t = .a
  | [], _ => ⟨rfl, rfl, rfl⟩
  | c :: r, h => by
    rw [List.all_cons, Bool.and_eq_true] at h
    obtain ⟨h1, h2, h3⟩ := nx_al h.1
    rw [rn_cons, rn_cons, rn_cons, h1, h2, h3]
    exact rn_al h.2
theorem bk_al {c : UInt8} (h : alB c = true) : bk c = false := by
  have h1 := al_ne h (d := 32) (by decide)
  have h2 := al_ne h (d := 9) (by decide)
  simp [bk, h1, h2]
/-- A text that begins and ends without a blank. -/
def tig (t : List UInt8) : Prop := (∃ a r, t = a :: r ∧ bk a = false) ∧ ∃ q z, t = q ++ [z] ∧ bk z = false
theorem right_end {q : List UInt8} {z : UInt8} (h : bk z = false) : Lib.trimRightS (q ++ [z]) [32, 9] = q ++ [z] := by
  unfold bk at h
  unfold Lib.trimRightS
  simp only [List.reverse_append, List.reverse_cons, List.reverse_nil, List.nil_append, List.cons_append]
  rw [List.dropWhile_cons, if_neg (by rw [h]; simp)]
  simp
theorem right_blank (q : List UInt8) : Lib.trimRightS (q ++ [32]) [32, 9] = Lib.trimRightS q [32, 9] := by
  unfold Lib.trimRightS
  simp
theorem left_blank (q : List UInt8) : Lib.trimLeftS (32 :: q) [32, 9] = Lib.trimLeftS q [32, 9] := by
  unfold Lib.trimLeftS
  simp
theorem left_head {a : UInt8} {r : List UInt8} (h : bk a = false) : Lib.trimLeftS (a :: r) [32, 9] = a :: r := by
  unfold bk at h
  unfold Lib.trimLeftS
  rw [List.dropWhile_cons, if_neg (by rw [h]; simp)]
theorem trim_tig {t : List UInt8} (h : tig t) : Lib.trimS t [32, 9] = t := by
  obtain ⟨⟨a, r, h1, h2⟩, q, z, h3, h4⟩ := h
  unfold Lib.trimS
  have : Lib.trimRightS t [32, 9] = t := by rw [h3]; exact right_end h4
  rw [this, h1]
  exact left_head h2
theorem trim_r (t : List UInt8) : Lib.trimS (t ++ [32]) [32, 9] = Lib.trimS t [32, 9] := by
  unfold Lib.trimS
  rw [right_blank]
theorem trim_l {t : List UInt8} (h : tig t) : Lib.trimS (32 :: t) [32, 9] = t := by
  obtain ⟨⟨a, r, h1, h2⟩, q, z, h3, h4⟩ := h
  unfold Lib.trimS
  have : Lib.trimRightS (32 :: t) [32, 9] = 32 :: t := by
    rw [h3, ← List.cons_append]
    exact right_end h4
  rw [this, left_blank, h1]
  exact left_head h2
theorem tig_al {t : List UInt8} (h0 : t ≠ []) (h : t.all alB = true) : tig t := by
  constructor
  · cases t with
    | nil => exact absurd rfl h0
    | cons a r => exact ⟨a, r, rfl, bk_al (List.all_eq_true.1 h a (by simp))⟩
  · rcases List.eq_nil_or_concat t with rfl | ⟨q, z, rfl⟩
    · exact absurd rfl h0
    · exact ⟨q, z, by simp, bk_al (List.all_eq_true.1 h z (by simp))⟩
/-- An address without marks. -/
def okA (a : Ad) : Prop := ∀ t, t = a.name ∨ t = a.loc ∨ t = a.dom → t ≠ [] ∧ t.all alB = true ∧ t.length ≤ 100
/-- Its name as the i-th one. -/
def nmT (i : Nat) (a : Ad) : List UInt8 := if i % 2 = 0 then a.name else 34 :: (a.name ++ [34])
def pcT (i : Nat) (a : Ad) : List UInt8 := nmT i a ++ (32 :: 60 :: (a.loc ++ (64 :: (a.dom ++ [62]))))
def rowT : Nat → List Ad → List UInt8
  | _, [] => []
  | i, a :: r => (if 0 < i then [32, 44, 32] else []) ++ (pcT i a ++ rowT (i + 1) r)
theorem row_snoc : ∀ (xs : List Ad) (i : Nat) (x : Ad), rowT i (xs ++ [x]) = rowT i xs ++ ((if 0 < i + xs.length then [32, 44, 32] else []) ++ pcT (i + xs.length) x)
  | [], i, x => by simp [rowT]
  | a :: r, i, x => by
    rw [List.cons_append, rowT, rowT, row_snoc r (i + 1) x, List.length_cons]
    have : i + 1 + r.length = i + (r.length + 1) := by omega
    rw [this]
    simp only [List.append_assoc]
theorem nmT_facts (i : Nat) {a : Ad} (h : okA a) : (44 : UInt8) ∉ nmT i a ∧ (60 : UInt8) ∉ nmT i a ∧ rn .o (nmT i a) = .o ∧ tig (nmT i a) ∧ nmV (nmT i a) = a.name := by
  obtain ⟨h0, h1, _⟩ := h a.name (.inl rfl)
  have m44 := al_mem h1 (d := 44) (by decide)
  have m60 := al_mem h1 (d := 60) (by decide)
  have m34 := al_mem h1 (d := 34) (by decide)
  have m92 := al_mem h1 (d := 92) (by decide)
  unfold nmT
  split
  · refine ⟨m44, m60, (rn_al h1).1, tig_al h0 h1, ?_⟩
    cases hn : a.name with
    | nil => rfl
    | cons c r =>
      rw [hn] at m34
      show (if c = 34 ∧ qL r = r.length then mnQ r else c :: r) = _
      rw [if_neg (fun e => m34 (by simp [e.1]))]
  · refine ⟨by simp [m44], by simp [m60], ?_, ⟨⟨34, a.name ++ [34], rfl, by decide⟩, 34 :: a.name, 34, rfl, by decide⟩, ?_⟩
    · rw [rn_cons, rn_append]
      show rn (rn .q a.name) [34] = .o
      rw [(rn_al h1).2.1]
      rfl
    · have key : ∀ t : List UInt8, (34 : UInt8) ∉ t → (92 : UInt8) ∉ t → qL (t ++ [34]) = t.length + 1 ∧ mnQ (t ++ [34]) = t := by
        intro t
        induction t with
        | nil => intro _ _; exact ⟨rfl, rfl⟩
        | cons c r ih =>
          intro a1 a2
          have hc : c ≠ 34 := fun e => a1 (by simp [e])
          have hd : c ≠ 92 := fun e => a2 (by simp [e])
          obtain ⟨i1, i2⟩ := ih (fun e => a1 (by simp [e])) (fun e => a2 (by simp [e]))
          cases hr : r ++ [34] with
          | nil => simp at hr
          | cons d r' =>
            rw [List.cons_append, hr]
            rw [hr] at i1 i2
            constructor
            · rw [qL, if_neg hc, if_neg hd, i1]
              simp
            · rw [mnQ, if_neg hc, if_neg hd, i2]
      obtain ⟨k1, k2⟩ := key a.name m34 m92
      show (if (34 : UInt8) = 34 ∧ qL (a.name ++ [34]) = (a.name ++ [34]).length then mnQ (a.name ++ [34]) else _) = _
      rw [if_pos ⟨rfl, by rw [k1]; simp⟩, k2]
theorem tow_app : ∀ (t : List UInt8), (62 : UInt8) ∉ t → tow (t ++ [62]) = t
  | [], _ => rfl
  | c :: r, h => by
    have hc : c ≠ 62 := fun e => h (by simp [e])
    have ih := tow_app r (fun e => h (by simp [e]))
    unfold tow at *
    rw [List.cons_append, List.takeWhile_cons, if_pos (by simp [hc]), ih]
theorem locK_at (p q : List UInt8) (h : (64 : UInt8) ∉ q) : locK (p ++ 64 :: q) (p ++ 64 :: q).length = (p, q) := by
  have e : Go.Lib.Pa.lastIdx (p ++ 64 :: q) 64 (p ++ 64 :: q).length = (p.length : Nat) := by
    refine Go.Lib.Pa.lastIdx_eq_of _ _ p.length _ (by simp) (by simp) (fun j h1 h2 hj => ?_)
    rw [List.getElem?_append_right (by omega)] at hj
    obtain ⟨k, hk⟩ : ∃ k, j - p.length = k + 1 := ⟨j - p.length - 1, by omega⟩
    rw [hk, List.getElem?_cons_succ] at hj
    exact h (List.mem_of_getElem? hj)
  unfold locK
  rw [e, if_neg (by omega)]
  simp
theorem adO_pc (i : Nat) {a : Ad} (h : okA a) : adO (pcT i a) = a := by
  obtain ⟨h1, h2, h3, h4, h5⟩ := nmT_facts i h
  obtain ⟨_, l1, _⟩ := h a.loc (.inr (.inl rfl))
  obtain ⟨_, d1, _⟩ := h a.dom (.inr (.inr rfl))
  have e1 : plE 60 .o (pcT i a) = (nmT i a).length + 1 := by
    unfold pcT
    rw [plE_app 60 _ _ _ h2, h3]
    rfl
  have el : (pcT i a).length = (nmT i a).length + (2 + (a.loc ++ (64 :: (a.dom ++ [62]))).length) := by
    unfold pcT
    simp
    omega
  have e2 : (pcT i a).take ((nmT i a).length + 1) = nmT i a ++ [32] := by
    unfold pcT
    rw [List.take_append, List.take_of_length_le (by omega)]
    simp
  have e3 : (pcT i a).drop ((nmT i a).length + 1 + 1) = a.loc ++ (64 :: (a.dom ++ [62])) := by
    unfold pcT
    rw [show (nmT i a).length + 1 + 1 = (nmT i a).length + 2 by omega, ← List.drop_drop]
    simp
  have e4 : nmA (pcT i a) = (a.name, a.loc ++ 64 :: a.dom) := by
    unfold nmA
    rw [e1, if_pos (by omega), e2, e3, trim_r, trim_tig h4, h5]
    have : tow (a.loc ++ 64 :: (a.dom ++ [62])) = a.loc ++ 64 :: a.dom := by
      have := tow_app (a.loc ++ 64 :: a.dom) (by
        have x1 := al_mem l1 (d := 62) (by decide)
        have x2 := al_mem d1 (d := 62) (by decide)
        simp [x1, x2])
      rw [← this]
      congr 1
      simp
    rw [this]
  unfold adO
  rw [e4, locK_at _ _ (al_mem d1 (by decide))]
theorem pcT_facts (i : Nat) {a : Ad} (h : okA a) : (44 : UInt8) ∉ pcT i a ∧ rn .o (pcT i a) = .o ∧ tig (pcT i a) := by
  obtain ⟨h1, h2, h3, h4, h5⟩ := nmT_facts i h
  obtain ⟨_, l1, _⟩ := h a.loc (.inr (.inl rfl))
  obtain ⟨_, d1, _⟩ := h a.dom (.inr (.inr rfl))
  have l44 := al_mem l1 (d := 44) (by decide)
  have d44 := al_mem d1 (d := 44) (by decide)
  refine ⟨?_, ?_, ?_⟩
  · unfold pcT
    simp [h1, l44, d44]
  · unfold pcT
    rw [rn_append, h3, rn_cons, rn_cons, rn_append]
    show rn (rn .a a.loc) _ = .o
    rw [(rn_al l1).2.2, rn_cons, rn_append]
    show rn (rn .a a.dom) _ = .o
    rw [(rn_al d1).2.2]
    rfl
  · obtain ⟨⟨x, r, hx, hb⟩, _⟩ := h4
    refine ⟨⟨x, r ++ (32 :: 60 :: (a.loc ++ (64 :: (a.dom ++ [62])))), by unfold pcT; rw [hx]; rfl, hb⟩, nmT i a ++ (32 :: 60 :: (a.loc ++ (64 :: a.dom))), 62, by unfold pcT; simp, by decide⟩
theorem tig_ne {t : List UInt8} (h : tig t) : t.isEmpty = false := by
  obtain ⟨⟨a, r, rfl, _⟩, _⟩ := h
  rfl
theorem row_from : ∀ (xs : List Ad) (i : Nat) (cur p : List UInt8), (∀ x ∈ xs, okA x) → 0 < i → Lib.trimS cur [32, 9] = p → p.isEmpty = false → adsP (pcs .o cur (rowT i xs)) = adO p :: xs
  | [], i, cur, p, _, _, hp, hn => by
    show adsP [cur] = _
    rw [adsP_cons, hp, hn]
    rfl
  | a :: r, i, cur, p, hx, hi, hp, hn => by
    obtain ⟨f1, f2, f3⟩ := pcT_facts i (hx a (by simp))
    rw [rowT, if_pos hi]
    have e1 : pcs .o cur (([32, 44, 32] : List UInt8) ++ (pcT i a ++ rowT (i + 1) r)) = (cur ++ [32]) :: pcs .o [] (32 :: (pcT i a ++ rowT (i + 1) r)) := rfl
    have e2 : pcs .o [] (32 :: (pcT i a ++ rowT (i + 1) r)) = pcs .o [32] (pcT i a ++ rowT (i + 1) r) := rfl
    rw [e1, e2, pcs_app _ _ _ _ f1, f2, adsP_cons, trim_r, hp, hn, row_from r (i + 1) ([32] ++ pcT i a) (pcT i a) (fun x h => hx x (by simp [h])) (by omega) (trim_l f3) (tig_ne f3), adO_pc i (hx a (by simp))]
    rfl
theorem row_ads (xs : List Ad) (hx : ∀ x ∈ xs, okA x) (hl : xs.length ≤ 50) : adsV (rowT 0 xs) = xs := by
  unfold adsV adsL
  cases xs with
  | nil => rw [show rowT 0 [] = [] from rfl]; exact congrArg (List.take 50) adsL_nil
  | cons a r =>
    obtain ⟨f1, f2, f3⟩ := pcT_facts 0 (hx a (by simp))
    rw [rowT, if_neg (by omega), List.nil_append, pcs_app _ _ _ _ f1, f2, List.nil_append, row_from r 1 _ (pcT 0 a) (fun x h => hx x (by simp [h])) (by omega) (trim_tig f3) (tig_ne f3), adO_pc 0 (hx a (by simp)), List.take_of_length_le hl]
theorem pcT_len (i : Nat) {a : Ad} (h : okA a) : (pcT i a).length ≤ 306 := by
  obtain ⟨_, _, h1⟩ := h a.name (.inl rfl)
  obtain ⟨_, _, h2⟩ := h a.loc (.inr (.inl rfl))
  obtain ⟨_, _, h3⟩ := h a.dom (.inr (.inr rfl))
  unfold pcT nmT
  split <;> simp <;> omega
theorem rowT_len : ∀ (xs : List Ad) (i : Nat), (∀ x ∈ xs, okA x) → (rowT i xs).length ≤ 309 * xs.length
  | [], _, _ => by simp [rowT]
  | a :: r, i, h => by
    have h1 := pcT_len i (h a (by simp))
    have h2 := rowT_len r (i + 1) (fun x hx => h x (by simp [hx]))
    rw [rowT, List.length_append, List.length_append, List.length_cons]
    have : (if 0 < i then ([32, 44, 32] : List UInt8) else []).length ≤ 3 := by split <;> simp
    omega
end Go.Proofs.YtkppeejbmalefaaGreatDoor

end
