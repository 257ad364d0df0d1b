/- What the document reads, and that it is what the program reads. -/
import Derived.Test.YtegplihhbdmnbaaGreatDoorU05
namespace Go.Proofs.YtegplihhbdmnbaaGreatDoor
/-- A number's digits, while it is below 10000. -/
def rdN : Nat → List UInt8 → Nat × List UInt8
  | n, [] => (n, [])
  | n, c :: r => if dgB c = true ∧ n < 10000 then rdN (stD n c) r else (n, c :: r)
def dotS : List UInt8 → List UInt8
  | [] => []
  | c :: r => if c = 46 then r else c :: r
def rdP : Nat → List UInt8 → List Int × List UInt8
  | 0, s => ([], s)
  | _ + 1, [] => ([], [])
  | f + 1, c :: r => if dgB c = true then (((rdN 0 (c :: r)).1 : Int) :: (rdP f (dotS (rdN 0 (c :: r)).2)).1, (rdP f (dotS (rdN 0 (c :: r)).2)).2) else ([], c :: r)
def not32 (c : UInt8) : Bool := c != 32
/-- Pieces that end with a blank or a bracket. -/
def rdS : List UInt8 → List UInt8 → List (List UInt8)
  | _, [] => []
  | cur, c :: r => if c = 32 ∨ c = 41 then cur :: rdS [] r else rdS (cur ++ [c]) r
def rdL (c : List UInt8) : List (List UInt8) := if 3 ≤ c.length ∧ c[1]? = some 40 then rdS [] (c.drop 2) else []
/-- What is read, loosely: the path, and what is left behind it. -/
def docS (t : List UInt8) : Spc := ⟨(rdP (t.length + 1) t).1, ((rdP (t.length + 1) t).2.takeWhile not32).map upB, rdL ((rdP (t.length + 1) t).2.dropWhile not32)⟩
def docI (t : List UInt8) : Nat := t.length - (rdP (t.length + 1) t).2.length
def docO (t : List UInt8) : Option Spc :=
  if rgtB (docS t) = true ∧ secT (docS t) = t.take (docI t) ++ ((docS t).what ++ (rdP (t.length + 1) t).2.dropWhile not32) then some (docS t) else none
def ddB (c : UInt8) : Bool := dgB c || c == 46
theorem dot_out (s : List UInt8) : ∃ a, s = a ++ dotS s ∧ ∀ c ∈ a, ddB c = true := by
  cases s with
  | nil => exact ⟨[], rfl, (fun c h => by cases h)⟩
  | cons c r =>
    by_cases h : c = 46
    · refine ⟨[c], by simp [dotS, h], fun x hx => ?_⟩
      rw [List.mem_singleton] at hx
      rw [hx, h]
      decide
    · exact ⟨[], by simp [dotS, h], (fun c h => by cases h)⟩
theorem rdN_out : ∀ (s : List UInt8) (n : Nat), ∃ a, s = a ++ (rdN n s).2 ∧ ∀ c ∈ a, ddB c = true := by
  intro s
  induction s with
  | nil => intro n; exact ⟨[], rfl, (fun c h => by cases h)⟩
  | cons c r ih =>
    intro n
    rw [rdN]
    by_cases h : dgB c = true ∧ n < 10000
    · rw [if_pos h]
      obtain ⟨a, h1, h2⟩ := ih (stD n c)
      refine ⟨c :: a, by rw [List.cons_append, ← h1], fun x hx => ?_⟩
      rw [List.mem_cons] at hx
      rcases hx with rfl | hx
      · simp [ddB, h.1]
      · exact h2 x hx
    · rw [if_neg h]
      exact ⟨[], rfl, (fun c h => by cases h)⟩
theorem rdP_out : ∀ (f : Nat) (s : List UInt8), ∃ a, s = a ++ (rdP f s).2 ∧ ∀ c ∈ a, ddB c = true := by
  intro f
  induction f with
  | zero => intro s; exact ⟨[], rfl, (fun c h => by cases h)⟩
  | succ f ih =>
    intro s
    cases s with
    | nil => exact ⟨[], rfl, (fun c h => by cases h)⟩
    | cons c r =>
      rw [rdP]
      by_cases h : dgB c = true
      · rw [if_pos h]
        simp only
        obtain ⟨a, h1, h2⟩ := rdN_out (c :: r) 0
        obtain ⟨b, h3, h4⟩ := dot_out (rdN 0 (c :: r)).2
        obtain ⟨d, h5, h6⟩ := ih (dotS (rdN 0 (c :: r)).2)
        refine ⟨a ++ (b ++ d), ?_, fun x hx => ?_⟩
        · conv => lhs; rw [h1, h3, h5]
          simp
        · rw [List.mem_append, List.mem_append] at hx
          rcases hx with hx | hx | hx
          · exact h2 x hx
          · exact h4 x hx
          · exact h6 x hx
      · rw [if_neg h]
        exact ⟨[], rfl, (fun c h => by cases h)⟩
theorem docI_take (t : List UInt8) : t = t.take (docI t) ++ (rdP (t.length + 1) t).2 ∧ (∀ c ∈ t.take (docI t), ddB c = true) ∧ docI t ≤ t.length := by
  obtain ⟨a, h1, h2⟩ := rdP_out (t.length + 1) t
  have hl : t.length = a.length + (rdP (t.length + 1) t).2.length := by
    have := congrArg List.length h1
    rwa [List.length_append] at this
  have hi : docI t = a.length := by unfold docI; omega
  have ht : t.take (docI t) = a := by
    rw [hi]
    conv => lhs; rw [h1]
    exact List.take_left
  rw [ht]
  exact ⟨h1, h2, by omega⟩
theorem uniq_at {x : UInt8} (hx : ddB x = false) : ∀ (a b u v : List UInt8), (∀ c ∈ a, ddB c = true) → (∀ c ∈ b, ddB c = true) → a ++ x :: u = b ++ x :: v → a = b ∧ u = v := by
  intro a
  induction a with
  | nil =>
    intro b u v _ hb h
    cases b with
    | nil =>
      simp at h
      exact ⟨rfl, h⟩
    | cons c b =>
      simp only [List.nil_append, List.cons_append] at h
      injection h with h _
      have := hb c (by simp)
      rw [← h, hx] at this
      cases this
  | cons d a ih =>
    intro b u v ha hb h
    cases b with
    | nil =>
      simp only [List.nil_append, List.cons_append] at h
      injection h with h _
      have := ha d (by simp)
      rw [h, hx] at this
      cases this
    | cons c b =>
      simp only [List.cons_append] at h
      injection h with h1 h2
      obtain ⟨e1, e2⟩ := ih b u v (fun y hy => ha y (by simp [hy])) (fun y hy => hb y (by simp [hy])) h2
      exact ⟨by rw [h1, e1], e2⟩
theorem pth_dd : ∀ (q : List Int), ∀ c ∈ pthT q, ddB c = true
  | [], c, h => by cases h
  | [n], c, h => by
    have := digI_all n c h
    simp [ddB, this]
  | n :: m :: r, c, h => by
    rw [pthT, List.mem_append, List.mem_cons] at h
    rcases h with h | rfl | h
    · have := digI_all n c h
      simp [ddB, this]
    · decide
    · exact pth_dd (m :: r) c h
theorem pre_dd (q : List Int) (w : List UInt8) : ∀ c ∈ preT q w, ddB c = true := by
  intro c h
  unfold preT at h
  split at h
  · exact pth_dd q c h
  · rw [List.mem_append, List.mem_singleton] at h
    rcases h with h | rfl
    · exact pth_dd q c h
    · decide
theorem pre_up (q : List Int) (w : List UInt8) : preT q (w.map upB) = preT q w := by
  unfold preT
  simp
theorem drop_32 (s : List UInt8) : s.dropWhile not32 = [] ∨ ∃ r, s.dropWhile not32 = 32 :: r := by
  induction s with
  | nil => exact .inl rfl
  | cons c r ih =>
    by_cases h : c = 32
    · exact .inr ⟨r, by simp [not32, h]⟩
    · have : not32 c = true := by simp [not32, h]
      rw [List.dropWhile_cons_of_pos this]
      exact ih
theorem doc_sec {t : List UInt8} {p : Spc} (h : docO t = some p) : Sec t p := by
  unfold docO at h
  split at h
  · rename_i hh
    injection h with h
    obtain ⟨hr, he⟩ := hh
    obtain ⟨h1, h2, _⟩ := docI_take t
    obtain ⟨word, hword⟩ : ∃ w, (rdP (t.length + 1) t).2.takeWhile not32 = w := ⟨_, rfl⟩
    obtain ⟨c, hc⟩ : ∃ w, (rdP (t.length + 1) t).2.dropWhile not32 = w := ⟨_, rfl⟩
    have hwh : (docS t).what = word.map upB := by rw [← hword]; rfl
    have hs : (rdP (t.length + 1) t).2 = word ++ c := by rw [← hword, ← hc]; exact List.takeWhile_append_dropWhile.symm
    have h32 := drop_32 (rdP (t.length + 1) t).2
    rw [hc] at he h32
    rw [hs] at h1
    generalize t.take (docI t) = a at *
    rw [h] at hr he hwh
    refine ⟨hr, word, hwh.symm, ?_⟩
    rw [h1]
    unfold secT secW at he
    unfold secW
    have hpd := pre_dd p.path p.what
    rw [hwh, pre_up] at he hpd
    cases word with
    | nil =>
      have hn := (rgt_names hr).2.2.2.2 hwh
      rw [hn] at he ⊢
      simp only [nmsT, if_true, List.map_nil, List.nil_append, List.append_nil] at he ⊢
      have : c = [] := by
        rcases h32 with h | ⟨r, h⟩
        · exact h
        · have hm : (32 : UInt8) ∈ preT p.path [] := by rw [he, h]; simp
          exact absurd (hpd 32 hm) (by decide)
      rw [this] at he ⊢
      rw [List.append_nil] at he ⊢
      exact he.symm
    | cons x word =>
      have hx : ddB (upB x) = false := by
        have := whatL_hd _ (rgt_mem hr) (upB x) (by rw [hwh]; simp)
        simp [ddB, this.1, this.2]
      simp only [List.map_cons, List.cons_append] at he
      obtain ⟨e1, e2⟩ := uniq_at hx _ _ _ _ hpd h2 he
      rw [← e1]
      have := List.append_cancel_left e2
      rw [this]
  · cases h
theorem rdN_in : ∀ (l : List UInt8) (acc : Nat) (X : List UInt8), (∀ c ∈ l, dgB c = true) → valD acc l < 10000 → ND X → rdN acc (l ++ X) = (valD acc l, X) := by
  intro l
  induction l with
  | nil =>
    intro acc X _ _ hX
    rw [List.nil_append, valD_nil]
    cases X with
    | nil => rfl
    | cons c r =>
      rw [rdN, if_neg (fun e => by rw [hX c r rfl] at e; exact absurd e.1 (by simp))]
  | cons c r ih =>
    intro acc X hl hv hX
    have hg := valD_ge (c :: r) acc
    rw [List.cons_append, rdN, if_pos ⟨hl c (by simp), by omega⟩]
    rw [valD_cons] at hv ⊢
    exact ih _ X (fun x hx => hl x (by simp [hx])) hv hX
theorem rdN_digI {n : Int} (h1 : 1 ≤ n) (h2 : n ≤ 999) {X : List UInt8} (hX : ND X) : rdN 0 (digI n ++ X) = (n.toNat, X) := by
  have hv : valD 0 (digI n) = n.toNat := valD_dec _ _ (Nat.le_refl _)
  rw [rdN_in (digI n) 0 X (digI_all n) (by omega) hX, hv]
theorem rdP_in : ∀ (q : List Int) (f : Nat) (rest : List UInt8), q.all numB = true → ND rest → (pjT q rest).length < f → rdP f (pjT q rest) = (q, rest) := by
  intro q
  induction q with
  | nil =>
    intro f rest _ hr hf
    rw [pj_nil] at hf ⊢
    cases f with
    | zero => omega
    | succ f =>
      cases rest with
      | nil => rfl
      | cons c r => rw [rdP, if_neg (by rw [hr c r rfl]; simp)]
  | cons n q ih =>
    intro f rest hq hr hf
    rw [List.all_cons, Bool.and_eq_true] at hq
    obtain ⟨hn1, hn2⟩ := numB_iff.1 hq.1
    have hlen := pj_len n q rest
    obtain ⟨c, r, hd, hc, _⟩ := digI_head hn1
    cases f with
    | zero => omega
    | succ f =>
      have IH := ih f rest hq.2 hr (by omega)
      have hcast : ((n.toNat : Nat) : Int) = n := by omega
      by_cases hX : q = [] ∧ rest = []
      · obtain ⟨rfl, rfl⟩ := hX
        rw [pj_nil] at IH
        have hN := rdN_digI hn1 hn2 (X := []) (fun c r e => by cases e)
        rw [List.append_nil, hd] at hN
        rw [pj_one, hd, rdP, if_pos hc, hN]
        simp only [dotS]
        rw [IH, hcast]
      · have ht : pjT (n :: q) rest = digI n ++ 46 :: pjT q rest := by
          cases q with
          | nil => rw [pj_last (fun e => hX ⟨rfl, e⟩), pj_nil]
          | cons m q => rw [pj_more]
        have hN := rdN_digI hn1 hn2 (X := 46 :: pjT q rest) (fun c r e => by injection e with e _; rw [← e]; exact dgB_46)
        rw [hd, List.cons_append] at hN
        rw [ht, hd, List.cons_append, rdP, if_pos hc, hN]
        simp only [dotS, if_true]
        rw [IH, hcast]
theorem rdS_skip : ∀ (x cur y : List UInt8), (32 : UInt8) ∉ x → (41 : UInt8) ∉ x → rdS cur (x ++ y) = rdS (cur ++ x) y := by
  intro x
  induction x with
  | nil => intro cur y _ _; simp
  | cons c r ih =>
    intro cur y h1 h2
    have hc : ¬ (c = 32 ∨ c = 41) := by
      rintro (h | h)
      · exact h1 (by simp [h])
      · exact h2 (by simp [h])
    rw [List.cons_append, rdS, if_neg hc, ih _ _ (fun h => h1 (by simp [h])) (fun h => h2 (by simp [h]))]
    simp
theorem rdS_in : ∀ (ns : List (List UInt8)), ns ≠ [] → (∀ x ∈ ns, (32 : UInt8) ∉ x ∧ (41 : UInt8) ∉ x) → rdS [] (Lib.join ns [32] ++ [41]) = ns := by
  intro ns
  induction ns with
  | nil => intro h; exact absurd rfl h
  | cons a r ih =>
    intro _ h
    obtain ⟨h1, h2⟩ := h a (by simp)
    cases r with
    | nil =>
      rw [join_one, rdS_skip a [] _ h1 h2]
      simp [rdS]
    | cons b r =>
      rw [join_cons2 _ (by simp), List.append_assoc, rdS_skip a [] _ h1 h2]
      simp only [List.nil_append, List.cons_append, rdS, true_or, if_true]
      rw [ih (by simp) (fun x hx => h x (List.mem_cons_of_mem _ hx))]
theorem take_32 {w c : List UInt8} (hw : (32 : UInt8) ∉ w) (hc : c = [] ∨ ∃ r, c = 32 :: r) : (w ++ c).takeWhile not32 = w ∧ (w ++ c).dropWhile not32 = c := by
  induction w with
  | nil =>
    rcases hc with rfl | ⟨r, rfl⟩
    · exact ⟨rfl, rfl⟩
    · exact ⟨by simp [not32], by simp [not32]⟩
  | cons a w ih =>
    have ha : not32 a = true := by
      simp only [not32, bne_iff_ne, ne_eq]
      exact fun e => hw (by simp [e])
    obtain ⟨h1, h2⟩ := ih (fun h => hw (by simp [h]))
    rw [List.cons_append, List.takeWhile_cons_of_pos ha, List.dropWhile_cons_of_pos ha, h1, h2]
    exact ⟨rfl, rfl⟩
theorem sec_doc {t : List UInt8} {p : Spc} (h : Sec t p) : docO t = some p := by
  obtain ⟨hr, w, hw, rfl⟩ := h
  obtain ⟨h1, h2, h3, h4, h5⟩ := rgt_names hr
  have hpj := sec_pj hr hw
  have hP := rdP_in p.path ((secW p w).length + 1) (w ++ nmsT p.names) h3 (nd_rest hr hw) (by rw [hpj]; omega)
  rw [← hpj] at hP
  have hc : nmsT p.names = [] ∨ ∃ r, nmsT p.names = 32 :: r := by
    unfold nmsT
    split
    · exact .inl rfl
    · exact .inr ⟨_, rfl⟩
  obtain ⟨k1, k2⟩ := take_32 (word_32 hr hw) hc
  have hL : rdL (nmsT p.names) = p.names := by
    unfold nmsT rdL
    split
    · rename_i e
      simp [e]
    · rename_i e
      rw [if_pos (by simp)]
      exact rdS_in p.names e (fun x hx => (nme_fact (h4 x hx)).2)
  have hS : docS (secW p w) = p := by
    unfold docS
    rw [hP]
    simp only
    rw [k1, k2, hL, hw]
  have hI : (secW p w).take (docI (secW p w)) = preT p.path w := by
    have hi : docI (secW p w) = (preT p.path w).length := by
      unfold docI
      rw [hP]
      simp only [secW, List.length_append]
      omega
    rw [hi]
    exact List.take_left
  unfold docO
  rw [hS, if_pos]
  refine ⟨hr, ?_⟩
  rw [hI, hP]
  simp only
  rw [k2]
  unfold secT secW
  rw [← hw, pre_up]
/-- Both read the same. -/
theorem prg_doc (t : List UInt8) : prgO t = docO t := by
  cases h : prgO t with
  | some p => exact (sec_doc (prg_sec h)).symm
  | none =>
    cases h2 : docO t with
    | none => rfl
    | some p =>
      have := sec_prg (doc_sec h2)
      rw [h] at this
      cases this
/-- The document's four comparisons are one. -/
theorem chk4 {T t : List UInt8} {i k : Nat} {b : List UInt8} (hik : i ≤ k) (hk : k ≤ t.length) (hb : b.length = k - i) :
    (T.length = t.length ∧ T.take i = t.take i ∧ (T.drop i).take (k - i) = b ∧ T.drop k = t.drop k) ↔ T = t.take i ++ (b ++ t.drop k) := by
  constructor
  · rintro ⟨h1, h2, h3, h4⟩
    rw [← h2, ← h3, ← h4]
    have : T.drop k = (T.drop i).drop (k - i) := by rw [List.drop_drop]; congr 1; omega
    rw [this, List.take_append_drop, List.take_append_drop]
  · intro h
    have ht : (t.take i).length = i := by rw [List.length_take]; omega
    have hl : T.length = t.length := by
      rw [h]
      simp only [List.length_append, List.length_drop, ht, hb]
      omega
    have h1 : T.take i = t.take i := by
      rw [h]
      exact List.take_left' ht
    have h2 : T.drop i = b ++ t.drop k := by
      rw [h]
      exact List.drop_left' ht
    refine ⟨hl, h1, ?_, ?_⟩
    · rw [h2, ← hb, List.take_left]
    · have : T.drop k = (T.drop i).drop (k - i) := by rw [List.drop_drop]; congr 1; omega
      rw [this, h2, ← hb, List.drop_left]
end Go.Proofs.YtegplihhbdmnbaaGreatDoor
