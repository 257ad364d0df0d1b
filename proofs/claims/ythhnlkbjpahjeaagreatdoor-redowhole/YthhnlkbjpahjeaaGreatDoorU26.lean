/- What a loss of power may leave of the one file that is open, in plain words. -/
/- The disk in memory against the plain disk. -/
/- What a disk's numbers keep to while changes are done on it: bounds, step by step. -/
import Derived.Test.YthhnlkbjpahjeaaGreatDoorU25
section
namespace Go.Proofs.YthhnlkbjpahjeaaGreatDoor
open Go.RowKit Go.Maps
theorem und_put (pre x : List UInt8) (n stay : Nat) : (SA.put pre.length n).und stay (pre ++ x) = pre ++ x.take stay := by
  show (pre ++ x).take (pre.length + stay) = _
  rw [List.take_append, Nat.add_sub_cancel_left, List.take_of_length_le (Nat.le_add_right _ _)]
theorem can_put (pre x : List UInt8) {stay : Nat} (h : stay ≤ x.length) : (SA.put pre.length x.length).can stay (pre ++ x) := by
  show pre.length + stay ≤ (pre ++ x).length
  rw [List.length_append]
  omega
section
variable {pre x gone c : List UInt8}
theorem may_put (h : mayB [.put pre.length x.length] (pre ++ x) c) : ∃ j, c = pre ++ x.take j := by
  obtain ⟨first, hf, h⟩ := h
  match first, hf, h with
  | 0, _, h =>
    obtain ⟨stay, _, rfl⟩ := h
    exact ⟨stay, und_put pre x _ stay⟩
  | 1, _, h =>
    have h' : c = pre ++ x := h
    exact ⟨x.length, by rw [h', List.take_length]⟩
  | n + 2, hf, _ => exact absurd hf (by simp)
theorem can_all_put : canAll [.put pre.length x.length] (pre ++ x) := ⟨trivial, fun _ h => can_put pre x h⟩
theorem may_cut (h : mayB [.cut gone] pre c) : c = pre ++ gone ∨ c = pre := by
  obtain ⟨first, hf, h⟩ := h
  match first, hf, h with
  | 0, _, h =>
    obtain ⟨stay, _, rfl⟩ := h
    exact .inl rfl
  | 1, _, h => exact .inr h
  | n + 2, hf, _ => exact absurd hf (by simp)
theorem can_all_cut (h : pre.length + gone.length ≤ 100000000) : canAll [.cut gone] pre := ⟨trivial, fun _ _ => h⟩
theorem may_cut_put (h : mayB [.cut gone, .put pre.length x.length] (pre ++ x) c) : c = pre ++ gone ∨ ∃ j, c = pre ++ x.take j := by
  obtain ⟨first, hf, h⟩ := h
  match first, hf, h with
  | 0, _, h =>
    obtain ⟨stay, _, rfl⟩ := h
    left
    show (SA.put pre.length x.length).und 0 (pre ++ x) ++ gone = _
    rw [und_put, List.take_zero, List.append_nil]
  | 1, _, h =>
    obtain ⟨stay, _, rfl⟩ := h
    exact .inr ⟨stay, und_put pre x _ stay⟩
  | 2, _, h =>
    have h' : c = pre ++ x := h
    exact .inr ⟨x.length, by rw [h', List.take_length]⟩
  | n + 3, hf, _ => exact absurd hf (by simp)
theorem can_all_cut_put (h : pre.length + gone.length ≤ 100000000) : canAll [.cut gone, .put pre.length x.length] (pre ++ x) := by
  refine ⟨can_all_put, fun _ _ => ?_⟩
  show ((SA.put pre.length x.length).und 0 (pre ++ x)).length + gone.length ≤ 100000000
  rw [und_put, List.take_zero, List.append_nil]
  exact h
end
/-- The one open file: the steps that it has, and what may stay of it. -/
inductive Opened : List SA → List UInt8 → OF → Prop
  | put (b : Nat) (pre x : List UInt8) : Opened [.put pre.length x.length] (pre ++ x) ⟨b, pre, none, x⟩
  | cut (b : Nat) (pre gone : List UInt8) : Opened [.cut gone] pre ⟨b, pre, some (pre ++ gone), []⟩
  | both (b : Nat) (pre gone x : List UInt8) (hx : x ≠ []) : Opened [.cut gone, .put pre.length x.length] (pre ++ x) ⟨b, pre, some (pre ++ gone), x⟩
theorem Opened.may {l : List SA} {bs c : List UInt8} {o : OF} (h : Opened l bs o) (hm : mayB l bs c) : o.may c := by
  cases h with
  | put b pre x => exact .inr (may_put hm)
  | cut b pre gone =>
    rcases may_cut hm with rfl | rfl
    · exact .inl rfl
    · exact .inr ⟨0, by simp⟩
  | both b pre gone x _ =>
    rcases may_cut_put hm with rfl | h
    · exact .inl rfl
    · exact .inr h
theorem Opened.some {l : List SA} {bs : List UInt8} {o : OF} (h : Opened l bs o) : l ≠ [] ∧ l.length ≤ 2 := by
  cases h <;> simp
end Go.Proofs.YthhnlkbjpahjeaaGreatDoor

end
section
namespace Go.Proofs.YthhnlkbjpahjeaaGreatDoor
open Go.RowKit Go.Maps
structure Rel (s : St) (p : PD) : Prop where
  isD : IsMap s.D
  isDs : IsMap s.Ds
  nm : p.nm = nmF s.D
  sn : p.sn = nmF s.Ds
  ns : p.ns = s.nl.map NA.ns
  by_ : ∀ b fa, s.φ b = some fa → p.by_ b = fa.bytes
  op : (p.op = none ∧ s.ch = .map [] ∧ ∀ b fa, s.φ b = some fa → fa.opn = []) ∨ ∃ o fa, p.op = some o ∧ s.φ o.b = some fa ∧ s.ch = .map [(.int .i64 fa.num, pd o.b)] ∧ Opened fa.opn fa.bytes o ∧ ∀ b fa', s.φ b = some fa' → b ≠ o.b → fa'.opn = []
section
variable {s : St} {p : PD}
theorem Rel.calm (h : Rel s p) (ho : p.op = none) : s.ch = .map [] ∧ ∀ b fa, s.φ b = some fa → fa.opn = [] := by
  rcases h.op with h | ⟨o, fa, e, _⟩
  · exact h.2
  · rw [ho] at e
    cases e
theorem Rel.the (h : Rel s p) {o : OF} (ho : p.op = some o) : ∃ fa, s.φ o.b = some fa ∧ s.ch = .map [(.int .i64 fa.num, pd o.b)] ∧ Opened fa.opn fa.bytes o ∧ ∀ b fa', s.φ b = some fa' → b ≠ o.b → fa'.opn = [] := by
  rcases h.op with h | ⟨o', fa, e, h1, h2, h3, h4⟩
  · rw [ho] at h
    cases h.1
  · rw [ho] at e
    cases e
    exact ⟨fa, h1, h2, h3, h4⟩
theorem withF_at (s : St) (b : Nat) (fa : FA) : (s.withF b fa).φ b = some fa := if_pos rfl
theorem withF_other (s : St) {b c : Nat} (fa : FA) (h : c ≠ b) : (s.withF b fa).φ c = s.φ c := if_neg h
theorem Rel.made (h : Rel s p) (ho : p.op = none) (name : Nm) (f : Nat) : Rel (s.madeG name f) (p.create name f) := by
  obtain ⟨hc, hn⟩ := h.calm ho
  refine ⟨h.isD.put _ _, h.isDs, ?_, h.sn, ?_, ?_, .inl ⟨ho, hc, ?_⟩⟩
  · show (NS.mk name f).ap p.nm = nmF (s.D.put (.string name) (pd f))
    rw [nmF_put h.isD, h.nm]
  · show p.ns ++ [NS.mk name f] = (s.nl ++ [NA.mk name f]).map NA.ns
    rw [List.map_append, h.ns]
    rfl
  · intro b fa hb
    change (if b = f then some (⟨s.created, [], []⟩ : FA) else s.φ b) = some fa at hb
    show (if b = f then [] else p.by_ b) = fa.bytes
    by_cases e : b = f
    · rw [if_pos e] at hb ⊢
      cases hb
      rfl
    · rw [if_neg e] at hb ⊢
      exact h.by_ b fa hb
  · intro b fa hb
    change (if b = f then some (⟨s.created, [], []⟩ : FA) else s.φ b) = some fa at hb
    by_cases e : b = f
    · rw [if_pos e] at hb
      cases hb
      rfl
    · rw [if_neg e] at hb
      exact hn b fa hb
theorem Rel.removed (h : Rel s p) (name : Nm) : Rel (s.removedG name) (p.remove name) := by
  refine ⟨h.isD.del _, h.isDs, ?_, h.sn, ?_, h.by_, h.op⟩
  · show (NS.rm name).ap p.nm = nmF (s.D.del (.string name))
    rw [nmF_del, h.nm]
  · show p.ns ++ [NS.rm name] = (s.nl ++ [NA.rm name]).map NA.ns
    rw [List.map_append, h.ns]
    rfl
theorem Rel.upd (h : Rel s p) {b : Nat} {x : List UInt8} {num : Int} {opn : List SA} : ∀ c fa, (s.withF b ⟨num, x, opn⟩).φ c = some fa → (upd p.by_ b x) c = fa.bytes := by
  intro c fa hc
  by_cases e : c = b
  · subst e
    rw [withF_at] at hc
    cases hc
    exact upd_at _ _ _
  · rw [withF_other s _ e] at hc
    rw [upd_other e]
    exact h.by_ c fa hc
theorem one_put (k : Lit) (v : DataW Unit) (hk : k.sameKey k = true) : (DataW.map [(k, v)]).put k v = .map [(k, v)] := by
  rw [DataW.put_eq]
  unfold ChangeMaps.putKey
  simp [ChangeMaps.notKey, hk, DataW.insert]
theorem one_del (k : Lit) (v : DataW Unit) (hk : k.sameKey k = true) : (DataW.map [(k, v)]).del k = .map [] := by
  show DataW.map (List.filter _ [(k, v)]) = .map []
  simp [hk]
theorem Rel.put (h : Rel s p) (ho : p.op = none) {b : Nat} {fa : FA} (hφ : s.φ b = some fa) (news : List UInt8) : Rel (s.putG b fa news) (p.fill b news) := by
  obtain ⟨hc, hn⟩ := h.calm ho
  have hb := h.by_ b fa hφ
  have hf := hn b fa hφ
  refine ⟨h.isD, h.isDs, h.nm, h.sn, h.ns, ?_, .inr ⟨⟨b, fa.bytes, none, news⟩, ⟨fa.num, fa.bytes ++ news, fa.opn ++ [SA.put fa.bytes.length news.length]⟩, ?_, if_pos rfl, ?_, ?_, ?_⟩⟩
  · intro c fa' hc'
    show Go.Proofs.YthhnlkbjpahjeaaGreatDoor.upd p.by_ b (p.by_ b ++ news) c = fa'.bytes
    rw [hb]
    exact h.upd c fa' hc'
  · show some (⟨b, p.by_ b, p.op.bind OF.alt, news⟩ : OF) = _
    rw [ho, hb]
    rfl
  · show s.ch.put (.int .i64 fa.num) (pd b) = _
    rw [hc]
    rfl
  · rw [hf]
    exact Opened.put b fa.bytes news
  · intro c fa' hc' hne
    replace hc' : (s.withF b ⟨fa.num, fa.bytes ++ news, fa.opn ++ [.put fa.bytes.length news.length]⟩).φ c = some fa' := hc'
    rw [withF_other s _ hne] at hc'
    exact hn c fa' hc'
theorem Rel.cut (h : Rel s p) (ho : p.op = none) {b : Nat} {fa : FA} (hφ : s.φ b = some fa) (n : Nat) : Rel (s.cutNG b fa n) (p.cut b n) := by
  obtain ⟨hc, hn⟩ := h.calm ho
  have hb := h.by_ b fa hφ
  have hf := hn b fa hφ
  refine ⟨h.isD, h.isDs, h.nm, h.sn, h.ns, ?_, .inr ⟨⟨b, fa.bytes.take n, some fa.bytes, []⟩, ⟨fa.num, fa.bytes.take n, fa.opn ++ [SA.cut (fa.bytes.drop n)]⟩, ?_, if_pos rfl, ?_, ?_, ?_⟩⟩
  · intro c fa' hc'
    show Go.Proofs.YthhnlkbjpahjeaaGreatDoor.upd p.by_ b ((p.by_ b).take n) c = fa'.bytes
    rw [hb]
    exact h.upd c fa' hc'
  · show some (⟨b, (p.by_ b).take n, some (p.by_ b), []⟩ : OF) = _
    rw [hb]
  · show s.ch.put (.int .i64 fa.num) (pd b) = _
    rw [hc]
    rfl
  · rw [hf]
    have := Opened.cut b (fa.bytes.take n) (fa.bytes.drop n)
    rw [List.take_append_drop] at this
    exact this
  · intro c fa' hc' hne
    replace hc' : (s.withF b ⟨fa.num, fa.bytes.take n, fa.opn ++ [.cut (fa.bytes.drop n)]⟩).φ c = some fa' := hc'
    rw [withF_other s _ hne] at hc'
    exact hn c fa' hc'
/-- Bytes put behind a cut of the same file. -/
theorem Rel.put2 (h : Rel s p) {b : Nat} {fa : FA} (hφ : s.φ b = some fa) {o : OF} (ho : p.op = some o) (hob : o.b = b) {gone : List UInt8} (hop : fa.opn = [.cut gone]) (news : List UInt8) (hne : news ≠ []) : Rel (s.putG b fa news) (p.fill b news) := by
  subst hob
  obtain ⟨fa', h1, h2, h3, h4⟩ := h.the ho
  rw [hφ] at h1
  cases h1
  have hb := h.by_ o.b fa hφ
  have hsk : (Lit.int .i64 fa.num).sameKey (.int .i64 fa.num) = true := sameInt fa.num
  have hoo : o = ⟨o.b, fa.bytes, some (fa.bytes ++ gone), []⟩ := by
    obtain ⟨num, bytes, opn⟩ := fa
    simp only at hop h3 ⊢
    subst hop
    cases h3
    rfl
  refine ⟨h.isD, h.isDs, h.nm, h.sn, h.ns, ?_, .inr ⟨⟨o.b, fa.bytes, some (fa.bytes ++ gone), news⟩, ⟨fa.num, fa.bytes ++ news, fa.opn ++ [SA.put fa.bytes.length news.length]⟩, ?_, if_pos rfl, ?_, ?_, ?_⟩⟩
  · intro c fa' hc'
    show Go.Proofs.YthhnlkbjpahjeaaGreatDoor.upd p.by_ o.b (p.by_ o.b ++ news) c = fa'.bytes
    rw [hb]
    exact h.upd c fa' hc'
  · show some (⟨o.b, p.by_ o.b, p.op.bind OF.alt, news⟩ : OF) = _
    rw [ho, hb, Option.bind_some]
    have : o.alt = some (fa.bytes ++ gone) := by rw [hoo]
    rw [this]
  · show s.ch.put (.int .i64 fa.num) (pd o.b) = _
    rw [h2]
    exact one_put _ _ hsk
  · rw [hop]
    exact Opened.both o.b fa.bytes gone news hne
  · intro c fa' hc' hne
    replace hc' : (s.withF o.b ⟨fa.num, fa.bytes ++ news, fa.opn ++ [.put fa.bytes.length news.length]⟩).φ c = some fa' := hc'
    rw [withF_other s _ hne] at hc'
    exact h4 c fa' hc' hne
theorem Rel.sync (h : Rel s p) {b : Nat} {fa : FA} (hφ : s.φ b = some fa) (ho : ∀ o, p.op = some o → o.b = b) : Rel (s.syncd b fa) p.sync := by
  have hn : ∀ c fa', s.φ c = some fa' → c ≠ b → fa'.opn = [] := by
    intro c fa' hc hne
    cases e : p.op with
    | none => exact (h.calm e).2 c fa' hc
    | some o =>
      obtain ⟨_, _, _, _, h4⟩ := h.the e
      exact h4 c fa' hc (by rw [ho o e]; exact hne)
  have hc : s.ch.del (.int .i64 fa.num) = .map [] := by
    cases e : p.op with
    | none => rw [(h.calm e).1]; rfl
    | some o =>
      obtain ⟨fa', h1, h2, _, _⟩ := h.the e
      rw [ho o e, hφ] at h1
      cases h1
      rw [h2]
      exact one_del _ _ (sameInt fa.num)
  refine ⟨h.isD, h.isDs, h.nm, h.sn, h.ns, ?_, .inl ⟨rfl, hc, ?_⟩⟩
  · intro c fa' hc'
    replace hc' : (s.withF b ⟨fa.num, fa.bytes, []⟩).φ c = some fa' := hc'
    by_cases e : c = b
    · subst e
      rw [withF_at] at hc'
      cases hc'
      exact h.by_ c fa hφ
    · rw [withF_other s _ e] at hc'
      exact h.by_ c fa' hc'
  · intro c fa' hc'
    replace hc' : (s.withF b ⟨fa.num, fa.bytes, []⟩).φ c = some fa' := hc'
    by_cases e : c = b
    · subst e
      rw [withF_at] at hc'
      cases hc'
      rfl
    · rw [withF_other s _ e] at hc'
      exact hn c fa' hc' e
/-- A crash, where a file is open. -/
theorem Rel.crash_file (h : Rel s p) {o : OF} (ho : p.op = some o) (num : Int) (k N : Nat) (c : List UInt8) : Rel (s.crashedX o.b ⟨num, c, []⟩ (apN s.Ds (s.nl.take k)) N) (p.crash k c) := by
  obtain ⟨_, _, _, _, h4⟩ := h.the ho
  have hby : (p.crash k c).by_ = Go.Proofs.YthhnlkbjpahjeaaGreatDoor.upd p.by_ o.b c := by
    unfold PD.crash
    rw [ho]
  have hnm : apAll p.sn (p.ns.take k) = nmF (apN s.Ds (s.nl.take k)) := by rw [nmF_apN _ h.isDs, h.sn, h.ns, List.map_take]
  refine ⟨apN_map _ h.isDs, apN_map _ h.isDs, hnm, hnm, rfl, ?_, .inl ⟨rfl, rfl, ?_⟩⟩
  · intro b fa' hb
    rw [hby]
    exact h.upd b fa' hb
  · intro b fa' hb
    replace hb : (s.withF o.b ⟨num, c, []⟩).φ b = some fa' := hb
    by_cases e : b = o.b
    · subst e
      rw [withF_at] at hb
      cases hb
      rfl
    · rw [withF_other s _ e] at hb
      exact h4 b fa' hb e
/-- A crash, where no file is open. -/
theorem Rel.crash_calm (h : Rel s p) (ho : p.op = none) {b : Nat} {fa : FA} (hφ : s.φ b = some fa) (k N : Nat) (c : List UInt8) : Rel (s.crashedX b fa (apN s.Ds (s.nl.take k)) N) (p.crash k c) := by
  obtain ⟨_, hn⟩ := h.calm ho
  have hby : (p.crash k c).by_ = p.by_ := by
    unfold PD.crash
    rw [ho]
  have hw : ∀ d fa', (s.withF b fa).φ d = some fa' → s.φ d = some fa' := by
    intro d fa' hd
    by_cases e : d = b
    · subst e
      rw [withF_at] at hd
      cases hd
      exact hφ
    · rw [withF_other s _ e] at hd
      exact hd
  have hnm : apAll p.sn (p.ns.take k) = nmF (apN s.Ds (s.nl.take k)) := by rw [nmF_apN _ h.isDs, h.sn, h.ns, List.map_take]
  refine ⟨apN_map _ h.isDs, apN_map _ h.isDs, hnm, hnm, rfl, ?_, .inl ⟨rfl, rfl, ?_⟩⟩
  · intro d fa' hd
    rw [hby]
    exact h.by_ d fa' (hw d fa' hd)
  · intro d fa' hd
    exact hn d fa' (hw d fa' hd)
theorem Rel.synced (h : Rel s p) (ho : p.op = none) : Rel s.syncedG p.syncDir := by
  obtain ⟨hc, hn⟩ := h.calm ho
  exact ⟨h.isD, h.isD, h.nm, h.nm, rfl, h.by_, .inl ⟨ho, hc, hn⟩⟩
theorem Rel.gone (h : Rel s p) : Rel s.gone p := ⟨h.isD, h.isDs, h.nm, h.sn, h.ns, h.by_, h.op⟩
end
end Go.Proofs.YthhnlkbjpahjeaaGreatDoor

end
section
namespace Go.Proofs.YthhnlkbjpahjeaaGreatDoor
open Go.RowKit Go.Maps
/-- An entry of names: a name of the list, and a file. -/
def Ent (Al : List Nm) (p : Lit × DataW Unit) : Prop := ∃ n, n ∈ Al ∧ p.1 = .string n ∧ ∃ b, p.2 = pd b
theorem ent_put {Al : List Nm} {D : DataW Unit} (h : IsMap D) (he : ∀ p ∈ entriesOf D, Ent Al p) {name : Nm} (hn : name ∈ Al) (f : Nat) : ∀ p ∈ entriesOf (D.put (.string name) (pd f)), Ent Al p := by
  obtain ⟨es, rfl⟩ := h
  rw [DataW.put_eq]
  intro p hp
  have hp' : p ∈ ChangeMaps.putKey (.string name) (pd f) es := hp
  unfold ChangeMaps.putKey at hp'
  rcases ChangeMaps.mem_insert_iff.1 hp' with rfl | hp'
  · exact ⟨name, hn, rfl, f, rfl⟩
  · exact he p (List.mem_filter.1 hp').1
theorem ent_del {Al : List Nm} {D : DataW Unit} {k : Lit} (h : IsMap D) (he : ∀ p ∈ entriesOf D, Ent Al p) : ∀ p ∈ entriesOf (D.del k), Ent Al p := by
  obtain ⟨es, rfl⟩ := h
  intro p hp
  exact he p (List.mem_filter.1 (show p ∈ List.filter _ es from hp)).1
theorem ent_apN {Al : List Nm} : ∀ (l : List NA) {D : DataW Unit}, IsMap D → (∀ p ∈ entriesOf D, Ent Al p) → (∀ x ∈ l, x.name ∈ Al) → ∀ p ∈ entriesOf (apN D l), Ent Al p
  | [], _, _, h, _ => h
  | x :: l, D, hm, h, hl => by
    refine ent_apN l (NA.ap_map hm x) ?_ (fun y hy => hl y (by simp [hy]))
    cases x with
    | mk name f => exact ent_put hm h (hl (.mk name f) (by simp)) f
    | rm name => exact ent_del hm h
theorem nodup_le {α : Type} [DecidableEq α] : ∀ {ks Al : List α}, ks.Nodup → (∀ k ∈ ks, k ∈ Al) → ks.length ≤ Al.length
  | [], _, _, _ => Nat.zero_le _
  | k :: ks, Al, hn, hs => by
    obtain ⟨h1, h2⟩ := List.nodup_cons.1 hn
    have hk := hs k (by simp)
    have := nodup_le (ks := ks) (Al := Al.erase k) h2 (fun x hx => (List.mem_erase_of_ne (fun e => h1 (by rw [← e]; exact hx))).2 (hs x (by simp [hx])))
    rw [List.length_erase_of_mem hk] at this
    have hp : 0 < Al.length := List.length_pos_of_mem hk
    simp only [List.length_cons]
    omega
theorem names_of {Al : List Nm} : ∀ (es : List (Lit × DataW Unit)), (∀ p ∈ es, Ent Al p) → ∃ ks : List Nm, es.map (fun p => p.1) = ks.map Lit.string ∧ ∀ k ∈ ks, k ∈ Al
  | [], _ => ⟨[], rfl, fun k hk => by cases hk⟩
  | p :: es, h => by
    obtain ⟨ks, h1, h2⟩ := names_of es (fun q hq => h q (by simp [hq]))
    obtain ⟨n, hn, e, _⟩ := h p (by simp)
    refine ⟨n :: ks, by simp [h1, e], fun k hk => ?_⟩
    rcases List.mem_cons.1 hk with rfl | hk
    · exact hn
    · exact h2 k hk
/-- Not more entries than names. -/
theorem ent_size {Al : List Nm} {D : DataW Unit} (ht : Tidy D) (he : ∀ p ∈ entriesOf D, Ent Al p) : Maps.size D ≤ Al.length := by
  obtain ⟨es, rfl, hp⟩ := ht
  obtain ⟨ks, hk1, hk2⟩ := names_of es he
  have hnd : ks.Nodup := by
    have : (ks.map Lit.string).Pairwise (· ≠ ·) := by
      rw [← hk1, List.pairwise_map]
      exact hp
    rw [List.pairwise_map] at this
    exact this.imp fun h e => h (by rw [e])
  have h1 := nodup_le hnd hk2
  have h2 : es.length = ks.length := by
    have := congrArg List.length hk1
    simpa using this
  show es.length ≤ _
  omega
theorem pair_ne {es : List (Lit × DataW Unit)} (hp : es.Pairwise (fun p q => p.1 ≠ q.1)) {x y : Lit × DataW Unit} (hx : x ∈ es) (hy : y ∈ es) (hne : x ≠ y) : x.1 ≠ y.1 := by
  intro e
  obtain ⟨i, hi, rfl⟩ := List.getElem_of_mem hx
  obtain ⟨j, hj, rfl⟩ := List.getElem_of_mem hy
  have hp' := List.pairwise_iff_getElem.1 hp
  rcases Nat.lt_trichotomy i j with h | h | h
  · exact hp' i j hi hj h e
  · subst h
    exact hne rfl
  · exact hp' j i hj hi h e.symm
/-- The disk's bounds: k of steps, j of open steps of names. -/
structure Bd (Al : List Nm) (k j : Nat) (s : St) : Prop where
  N : s.N ≤ k
  ns : s.ns ≤ j
  s0 : 0 ≤ s.steps
  s1 : s.steps ≤ k
  c0 : 0 ≤ s.created
  c1 : s.created ≤ k
  o0 : (s.ns : Int) ≤ s.opened
  o1 : s.opened ≤ k
  op : ∀ b fa, s.φ b = some fa → (s.ns : Int) + fa.opn.length ≤ s.opened
  fn : ∀ b fa, s.φ b = some fa → 0 ≤ fa.num ∧ fa.num ≤ k ∧ fa.bytes.length ≤ 100000
  eD : ∀ p ∈ entriesOf s.D, Ent Al p
  eDs : ∀ p ∈ entriesOf s.Ds, Ent Al p
  enl : ∀ x ∈ s.nl, x.name ∈ Al
  vDs : ∀ kl b, s.Ds.atKey kl .nil = pd b → (s.φ b).isSome = true
  vnl : ∀ n f, NA.mk n f ∈ s.nl → (s.φ f).isSome = true
  ls : s.ls = []
  arm : s.armed ≤ 9223372036854775807
  q0 : 0 ≤ s.quota
  q1 : s.quota ≤ 1073741824
theorem dec_le {m : Int} (h : m ≤ 9223372036854775807) : dec m ≤ 9223372036854775807 := by
  unfold dec
  split <;> omega
section
variable {Al : List Nm} {k j : Nat} {s : St}
theorem Bd.mono (h : Bd Al k j s) {k' j' : Nat} (hk : k ≤ k') (hj : j ≤ j') : Bd Al k' j' s :=
  ⟨by have := h.N; omega, by have := h.ns; omega, h.s0, by have := h.s1; omega, h.c0, by have := h.c1; omega, h.o0, by have := h.o1; omega, h.op, fun b fa hb => by have := h.fn b fa hb; omega, h.eD, h.eDs, h.enl, h.vDs, h.vnl, h.ls, h.arm, h.q0, h.q1⟩
theorem Bd.gone (h : Bd Al k j s) : Bd Al k j s.gone := ⟨h.N, h.ns, h.s0, h.s1, h.c0, h.c1, h.o0, h.o1, h.op, h.fn, h.eD, h.eDs, h.enl, h.vDs, h.vnl, h.ls, h.arm, h.q0, h.q1⟩
theorem Bd.armed (h : Bd Al k j s) {n : Int} (hn : n ≤ 9223372036854775807) : Bd Al k j { s with armed := n } := ⟨h.N, h.ns, h.s0, h.s1, h.c0, h.c1, h.o0, h.o1, h.op, h.fn, h.eD, h.eDs, h.enl, h.vDs, h.vnl, h.ls, hn, h.q0, h.q1⟩
theorem Bd.quota (h : Bd Al k j s) {n : Int} (h0 : 0 ≤ n) (h1 : n ≤ 1073741824) : Bd Al k j { s with quota := n } := ⟨h.N, h.ns, h.s0, h.s1, h.c0, h.c1, h.o0, h.o1, h.op, h.fn, h.eD, h.eDs, h.enl, h.vDs, h.vnl, h.ls, h.arm, h0, h1⟩
theorem some_withF {b c : Nat} {fa : FA} (h : (s.φ c).isSome = true) : ((s.withF b fa).φ c).isSome = true := by
  by_cases e : c = b
  · subst e
    rw [withF_at]
    rfl
  · rw [withF_other s _ e]
    exact h
theorem Bd.made (h : Bd Al k j s) (hD : IsMap s.D) {name : Nm} (hn : name ∈ Al) {f : Nat} : Bd Al (k + 1) (j + 1) (s.madeG name f) := by
  have hsome : ∀ c, (s.φ c).isSome = true → ((s.madeG name f).φ c).isSome = true := fun c hc => by
    show (if c = f then some (⟨s.created, [], []⟩ : FA) else s.φ c).isSome = true
    split
    · rfl
    · exact hc
  have hcase : ∀ b fa, (s.madeG name f).φ b = some fa → (fa = ⟨s.created, [], []⟩) ∨ s.φ b = some fa := fun b fa hb => by
    change (if b = f then some (⟨s.created, [], []⟩ : FA) else s.φ b) = some fa at hb
    split at hb
    · cases hb
      exact .inl rfl
    · exact .inr hb
  have h1 := h.N
  have h2 := h.ns
  have h3 := h.s0
  have h4 := h.s1
  have h5 := h.c0
  have h6 := h.c1
  have h7 := h.o0
  have h8 := h.o1
  refine ⟨?_, ?_, ?_, ?_, ?_, ?_, ?_, ?_, ?_, ?_, ent_put hD h.eD hn f, h.eDs, ?_, fun kl b hb => hsome b (h.vDs kl b hb), ?_, h.ls, dec_le h.arm, h.q0, h.q1⟩
  · show s.N + 1 ≤ k + 1; omega
  · show s.ns + 1 ≤ j + 1; omega
  · show 0 ≤ s.steps + 1; omega
  · show s.steps + 1 ≤ ((k + 1 : Nat) : Int); omega
  · show 0 ≤ s.created + 1; omega
  · show s.created + 1 ≤ ((k + 1 : Nat) : Int); omega
  · show ((s.ns + 1 : Nat) : Int) ≤ s.opened + 1; omega
  · show s.opened + 1 ≤ ((k + 1 : Nat) : Int); omega
  · intro b fa hb
    show ((s.ns + 1 : Nat) : Int) + _ ≤ s.opened + 1
    rcases hcase b fa hb with rfl | hb
    · simp
      omega
    · have := h.op b fa hb
      omega
  · intro b fa hb
    rcases hcase b fa hb with rfl | hb
    · exact ⟨h5, by show s.created ≤ ((k + 1 : Nat) : Int); omega, by simp⟩
    · have := h.fn b fa hb
      omega
  · intro x hx
    rcases List.mem_append.1 (show x ∈ s.nl ++ [NA.mk name f] from hx) with hx | hx
    · exact h.enl x hx
    · rw [List.mem_singleton.1 hx]
      exact hn
  · intro n g hg
    rcases List.mem_append.1 (show NA.mk n g ∈ s.nl ++ [NA.mk name f] from hg) with hg | hg
    · exact hsome g (h.vnl n g hg)
    · cases List.mem_singleton.1 hg
      show (if f = f then some (⟨s.created, [], []⟩ : FA) else s.φ f).isSome = true
      rw [if_pos rfl]
      rfl
theorem Bd.removed (h : Bd Al k j s) (hD : IsMap s.D) {name : Nm} (hn : name ∈ Al) : Bd Al (k + 1) (j + 1) (s.removedG name) := by
  have h1 := h.N
  have h2 := h.ns
  have h3 := h.s0
  have h4 := h.s1
  have h6 := h.c1
  have h7 := h.o0
  have h8 := h.o1
  refine ⟨?_, ?_, ?_, ?_, h.c0, ?_, ?_, ?_, ?_, ?_, ent_del hD h.eD, h.eDs, ?_, h.vDs, ?_, h.ls, dec_le h.arm, h.q0, h.q1⟩
  · show s.N + 1 ≤ k + 1; omega
  · show s.ns + 1 ≤ j + 1; omega
  · show 0 ≤ s.steps + 1; omega
  · show s.steps + 1 ≤ ((k + 1 : Nat) : Int); omega
  · show s.created ≤ ((k + 1 : Nat) : Int); omega
  · show ((s.ns + 1 : Nat) : Int) ≤ s.opened + 1; omega
  · show s.opened + 1 ≤ ((k + 1 : Nat) : Int); omega
  · intro b fa hb
    show ((s.ns + 1 : Nat) : Int) + _ ≤ s.opened + 1
    have := h.op b fa hb
    omega
  · intro b fa hb
    have := h.fn b fa hb
    omega
  · intro x hx
    rcases List.mem_append.1 (show x ∈ s.nl ++ [NA.rm name] from hx) with hx | hx
    · exact h.enl x hx
    · rw [List.mem_singleton.1 hx]
      exact hn
  · intro n g hg
    rcases List.mem_append.1 (show NA.mk n g ∈ s.nl ++ [NA.rm name] from hg) with hg | hg
    · exact h.vnl n g hg
    · cases List.mem_singleton.1 hg
/-- A step of a file. -/
theorem Bd.file (h : Bd Al k j s) {b : Nat} {fa : FA} (hφ : s.φ b = some fa) {x : List UInt8} (hx : x.length ≤ 100000) (y : SA) (ch : DataW Unit) : Bd Al (k + 1) j { (s.withF b ⟨fa.num, x, fa.opn ++ [y]⟩) with ch := ch, N := s.N + 1, opened := s.opened + 1, steps := s.steps + 1, armed := dec s.armed } := by
  have h1 := h.N
  have h3 := h.s0
  have h4 := h.s1
  have h6 := h.c1
  have h7 := h.o0
  have h8 := h.o1
  have hcase : ∀ c fa', (s.withF b ⟨fa.num, x, fa.opn ++ [y]⟩).φ c = some fa' → fa' = ⟨fa.num, x, fa.opn ++ [y]⟩ ∨ s.φ c = some fa' := fun c fa' hc => by
    by_cases e : c = b
    · subst e
      rw [withF_at] at hc
      cases hc
      exact .inl rfl
    · rw [withF_other s _ e] at hc
      exact .inr hc
  refine ⟨?_, h.ns, ?_, ?_, h.c0, ?_, ?_, ?_, ?_, ?_, h.eD, h.eDs, h.enl, fun kl c hc => some_withF (h.vDs kl c hc), fun n f hf => some_withF (h.vnl n f hf), h.ls, dec_le h.arm, h.q0, h.q1⟩
  · show s.N + 1 ≤ k + 1; omega
  · show 0 ≤ s.steps + 1; omega
  · show s.steps + 1 ≤ ((k + 1 : Nat) : Int); omega
  · show s.created ≤ ((k + 1 : Nat) : Int); omega
  · show (s.ns : Int) ≤ s.opened + 1; omega
  · show s.opened + 1 ≤ ((k + 1 : Nat) : Int); omega
  · intro c fa' hc
    show (s.ns : Int) + _ ≤ s.opened + 1
    rcases hcase c fa' hc with rfl | hc
    · have := h.op b fa hφ
      simp
      omega
    · have := h.op c fa' hc
      omega
  · intro c fa' hc
    rcases hcase c fa' hc with rfl | hc
    · have := h.fn b fa hφ
      simp only
      omega
    · have := h.fn c fa' hc
      omega
theorem Bd.put (h : Bd Al k j s) {b : Nat} {fa : FA} (hφ : s.φ b = some fa) {news : List UInt8} (hx : fa.bytes.length + news.length ≤ 100000) : Bd Al (k + 1) j (s.putG b fa news) :=
  h.file hφ (x := fa.bytes ++ news) (by simpa using hx) _ _
theorem Bd.cut (h : Bd Al k j s) {b : Nat} {fa : FA} (hφ : s.φ b = some fa) (n : Nat) : Bd Al (k + 1) j (s.cutNG b fa n) :=
  h.file hφ (x := fa.bytes.take n) (by have := (h.fn b fa hφ).2.2; rw [List.length_take]; omega) _ _
theorem Bd.sync (h : Bd Al k j s) {b : Nat} {fa : FA} (hφ : s.φ b = some fa) (hoth : ∀ c fa', s.φ c = some fa' → c ≠ b → fa'.opn = []) : Bd Al (k + 1) j (s.syncd b fa) := by
  have h1 := h.N
  have h3 := h.s0
  have h4 := h.s1
  have h6 := h.c1
  have h7 := h.o0
  have h8 := h.o1
  have h9 := h.op b fa hφ
  have hcase : ∀ c fa', (s.withF b ⟨fa.num, fa.bytes, []⟩).φ c = some fa' → fa' = ⟨fa.num, fa.bytes, []⟩ ∨ (s.φ c = some fa' ∧ fa'.opn = []) := fun c fa' hc => by
    by_cases e : c = b
    · subst e
      rw [withF_at] at hc
      cases hc
      exact .inl rfl
    · rw [withF_other s _ e] at hc
      exact .inr ⟨hc, hoth c fa' hc e⟩
  refine ⟨?_, h.ns, ?_, ?_, h.c0, ?_, ?_, ?_, ?_, ?_, h.eD, h.eDs, h.enl, fun kl c hc => some_withF (h.vDs kl c hc), fun n f hf => some_withF (h.vnl n f hf), h.ls, dec_le h.arm, h.q0, h.q1⟩
  · show s.N + 1 ≤ k + 1; omega
  · show 0 ≤ s.steps + 1; omega
  · show s.steps + 1 ≤ ((k + 1 : Nat) : Int); omega
  · show s.created ≤ ((k + 1 : Nat) : Int); omega
  · show (s.ns : Int) ≤ s.opened - fa.opn.length; omega
  · show s.opened - fa.opn.length ≤ ((k + 1 : Nat) : Int); omega
  · intro c fa' hc
    show (s.ns : Int) + _ ≤ s.opened - fa.opn.length
    rcases hcase c fa' hc with rfl | ⟨_, e⟩
    · simp
      omega
    · rw [e]
      simp
      omega
  · intro c fa' hc
    rcases hcase c fa' hc with rfl | ⟨hc, _⟩
    · have := h.fn b fa hφ
      simp only
      omega
    · have := h.fn c fa' hc
      omega
theorem Bd.synced (h : Bd Al k j s) (hv : ∀ kl b, s.D.atKey kl .nil = pd b → (s.φ b).isSome = true) : Bd Al (k + 1) 0 s.syncedG := by
  have h1 := h.N
  have h3 := h.s0
  have h4 := h.s1
  have h6 := h.c1
  have h7 := h.o0
  have h8 := h.o1
  refine ⟨?_, Nat.le_refl _, ?_, ?_, h.c0, ?_, ?_, ?_, ?_, ?_, h.eD, h.eD, (fun x hx => by cases hx), hv, (fun n f hf => by cases hf), h.ls, dec_le h.arm, h.q0, h.q1⟩
  · show s.N ≤ k + 1; omega
  · show 0 ≤ s.steps + 1; omega
  · show s.steps + 1 ≤ ((k + 1 : Nat) : Int); omega
  · show s.created ≤ ((k + 1 : Nat) : Int); omega
  · show ((0 : Nat) : Int) ≤ s.opened - s.ns; omega
  · show s.opened - s.ns ≤ ((k + 1 : Nat) : Int); omega
  · intro b fa hb
    show ((0 : Nat) : Int) + _ ≤ s.opened - s.ns
    have := h.op b fa hb
    omega
  · intro b fa hb
    have := h.fn b fa hb
    omega
theorem Bd.crash (h : Bd Al k j s) (hDs : IsMap s.Ds) {b : Nat} {fa : FA} (hφ : s.φ b = some fa) {c : List UInt8} (hc : c.length ≤ 100000) (hoth : ∀ d fa', s.φ d = some fa' → d ≠ b → fa'.opn = []) {m : Nat} (hm : m ≤ s.ns) : Bd Al (k + j) 0 (s.crashedX b ⟨fa.num, c, []⟩ (apN s.Ds (s.nl.take m)) (s.N + m)) := by
  have h1 := h.N
  have h2 := h.ns
  have h3 := h.s0
  have h4 := h.s1
  have h6 := h.c1
  have hmem : ∀ x ∈ s.nl.take m, x ∈ s.nl := fun x hx => List.mem_of_mem_take hx
  have he := ent_apN (s.nl.take m) hDs h.eDs (fun x hx => h.enl x (hmem x hx))
  have hcase : ∀ d fa', (s.withF b ⟨fa.num, c, []⟩).φ d = some fa' → fa' = ⟨fa.num, c, []⟩ ∨ (s.φ d = some fa' ∧ fa'.opn = []) := fun d fa' hd => by
    by_cases e : d = b
    · subst e
      rw [withF_at] at hd
      cases hd
      exact .inl rfl
    · rw [withF_other s _ e] at hd
      exact .inr ⟨hd, hoth d fa' hd e⟩
  refine ⟨?_, Nat.le_refl _, h.s0, ?_, h.c0, ?_, ?_, ?_, ?_, ?_, he, he, (fun x hx => by cases hx), ?_, (fun n f hf => by cases hf), rfl, (by show (-1 : Int) ≤ 9223372036854775807; decide), h.q0, h.q1⟩
  · show s.N + m ≤ k + j; omega
  · show s.steps ≤ ((k + j : Nat) : Int); omega
  · show s.created ≤ ((k + j : Nat) : Int); omega
  · show ((0 : Nat) : Int) ≤ 0; omega
  · show (0 : Int) ≤ ((k + j : Nat) : Int); omega
  · intro d fa' hd
    show ((0 : Nat) : Int) + _ ≤ 0
    rcases hcase d fa' hd with rfl | ⟨_, e⟩
    · simp
    · rw [e]
      simp
  · intro d fa' hd
    rcases hcase d fa' hd with rfl | ⟨hd, _⟩
    · have := h.fn b fa hφ
      simp only
      omega
    · have := h.fn d fa' hd
      omega
  · exact there_apN (P := fun f => ((s.withF b ⟨fa.num, c, []⟩).φ f).isSome = true) (s.nl.take m) hDs (fun kl f hf => some_withF (h.vDs kl f hf)) (fun n f hf => some_withF (h.vnl n f (hmem _ hf)))
end
/-- Whose each file is, and how long it may be; so may be what a loss of power leaves of it. -/
structure Ow (B : Nm → Nat) (s : St) (p : PD) (own : Nat → Nm) : Prop where
  len : ∀ b fa, s.φ b = some fa → fa.bytes.length ≤ B (own b)
  D : ∀ n b, nmF s.D n = some b → own b = n
  Ds : ∀ n b, nmF s.Ds n = some b → own b = n
  nl : ∀ n b, NA.mk n b ∈ s.nl → own b = n
  op : ∀ o, p.op = some o → ∀ c, o.may c → c.length ≤ B (own o.b)
theorem sum_erase {α : Type} [DecidableEq α] (B : α → Nat) : ∀ {Al : List α} {k : α}, k ∈ Al → (Al.map B).sum = B k + ((Al.erase k).map B).sum
  | [], _, h => by cases h
  | x :: Al, k, h => by
    by_cases e : x = k
    · subst e
      simp
    · have hk : k ∈ Al := by
        rcases List.mem_cons.1 h with h | h
        · exact absurd h.symm e
        · exact h
      have hne : (x == k) = false := by simpa using e
      rw [List.erase_cons, hne]
      simp only [Bool.false_eq_true, if_false, List.map_cons, List.sum_cons]
      rw [sum_erase B hk]
      omega
theorem nodup_sum {α : Type} [DecidableEq α] (B : α → Nat) : ∀ {ks Al : List α}, ks.Nodup → (∀ k ∈ ks, k ∈ Al) → (ks.map B).sum ≤ (Al.map B).sum
  | [], _, _, _ => by simp
  | k :: ks, Al, hn, hs => by
    obtain ⟨h1, h2⟩ := List.nodup_cons.1 hn
    have hk := hs k (by simp)
    have := nodup_sum B (ks := ks) (Al := Al.erase k) h2 (fun x hx => (List.mem_erase_of_ne (fun e => h1 (by rw [← e]; exact hx))).2 (hs x (by simp [hx])))
    rw [sum_erase B hk]
    simp only [List.map_cons, List.sum_cons]
    omega
/-- The bytes of some entries, by their names. -/
theorem sumL_names {len : DataW Unit → Nat} {B : Nm → Nat} : ∀ (es : List (Lit × DataW Unit)) (ks : List Nm), es.map (fun p => p.1) = ks.map Lit.string → (∀ p ∈ es, ∀ n, p.1 = .string n → len p.2 ≤ B n) → sumL len (fun _ => true) es ≤ (ks.map B).sum
  | [], [], _, _ => by simp [sumL]
  | [], _ :: _, h, _ => by simp at h
  | _ :: _, [], h, _ => by simp at h
  | p :: es, n :: ks, h, hl => by
    simp only [List.map_cons, List.cons.injEq] at h
    have h1 := sumL_names es ks h.2 (fun q hq m hm => hl q (by simp [hq]) m hm)
    have h2 := hl p (by simp) n h.1
    unfold sumL
    simp only [if_true, List.map_cons, List.sum_cons]
    omega
/-- All that is known of a disk: in memory, plainly, and its bounds. -/
structure OK (w0 w : World) (d : Nat) (ρ : Nat → Option Role) (s : St) (p : PD) (Al : List Nm) (B : Nm → Nat) (k j : Nat) : Prop where
  dk : DK w0 w d ρ s
  rel : Rel s p
  bd : Bd Al k j s
  ow : ∃ own, Ow B s p own
structure Lim (Al : List Nm) (B : Nm → Nat) : Prop where
  al : Al.length ≤ 60
  nm : ∀ n ∈ Al, rightB n = true
  b : ∀ n, B n ≤ 100000
  sum : (Al.map B).sum ≤ 500000
section
variable {w0 w w' : World} {d : Nat} {ρ : Nat → Option Role} {s : St} {p : PD} {Al : List Nm} {B : Nm → Nat} {k j : Nat}

theorem OK.tidy (h : OK w0 w d ρ s p Al B k j) : Tidy s.D := by
  obtain ⟨bn, bs, bc, vs, vl, Gs, Gl, cs, h⟩ := h.dk
  exact h.names.tidy strKeyed
theorem OK.vD (h : OK w0 w d ρ s p Al B k j) : ∀ kl b, s.D.atKey kl .nil = pd b → (s.φ b).isSome = true := by
  obtain ⟨bn, bs, bc, vs, vl, Gs, Gl, cs, h⟩ := h.dk
  exact h.vD
theorem OK.then (h : OK w0 w d ρ s p Al B k j) (hb : Below w.heap.size w w') : OK w0 w' d ρ s p Al B k j := ⟨h.dk.then hb, h.rel, h.bd, h.ow⟩
theorem OK.mono (h : OK w0 w d ρ s p Al B k j) {k' j' : Nat} (hk : k ≤ k') (hj : j ≤ j') : OK w0 w d ρ s p Al B k' j' := ⟨h.dk, h.rel, h.bd.mono hk hj, h.ow⟩
/-- A name that has a file. -/
theorem OK.at (h : OK w0 w d ρ s p Al B k j) {n : Nm} {b : Nat} (hb : p.nm n = some b) : s.D.atKey (.string n) .nil = pd b ∧ ∃ fa, s.φ b = some fa ∧ p.by_ b = fa.bytes := by
  rw [h.rel.nm] at hb
  have hat := fileAt_some hb
  have hv := h.vD _ _ hat
  cases hf : s.φ b with
  | none => rw [hf] at hv; cases hv
  | some fa => exact ⟨hat, fa, rfl, h.rel.by_ b fa hf⟩
theorem at_none {D : DataW Unit} (hm : IsMap D) (he : ∀ p ∈ entriesOf D, Ent Al p) {n : Nm} (h : nmF D n = none) : D.atKey (.string n) .nil = .nil := by
  obtain ⟨es, rfl⟩ := hm
  unfold nmF at h
  unfold DataW.atKey at h ⊢
  cases hf : es.find? (fun p => p.1.sameKey (.string n)) with
  | none => simp only [hf]
  | some q =>
    exfalso
    obtain ⟨_, _, _, b, e⟩ := he q (List.mem_of_find?_eq_some hf)
    simp only [hf, e, fileAt_pd] at h
    cases h
theorem OK.none (h : OK w0 w d ρ s p Al B k j) {n : Nm} (hb : p.nm n = none) : s.D.atKey (.string n) .nil = .nil := by
  rw [h.rel.nm] at hb
  exact at_none h.rel.isD h.bd.eD hb
theorem OK.names (h : OK w0 w d ρ s p Al B k j) {n : Nm} {b : Nat} (hb : p.nm n = some b) : n ∈ Al := by
  obtain ⟨hat, _⟩ := h.at hb
  obtain ⟨es, hes⟩ := h.rel.isD
  have he := h.bd.eD
  rw [hes] at hat he
  unfold DataW.atKey at hat
  cases hf : es.find? (fun p => p.1.sameKey (.string n)) with
  | none => simp only [hf] at hat; cases hat
  | some q =>
    obtain ⟨m, hm, e, _⟩ := he q (List.mem_of_find?_eq_some hf)
    have hs := List.find?_some hf
    have := WideAt.sameKey_eq (show q.1.sameKey (.string n) = true by simpa using hs)
    rw [e] at this
    cases this
    exact hm
theorem OK.used (h : OK w0 w d ρ s p Al B k j) (hl : Lim Al B) : usedOf s ≤ 500000 ∧ Maps.size s.D ≤ 60 := by
  have h1 := ent_size h.tidy h.bd.eD
  refine ⟨?_, Nat.le_trans h1 hl.al⟩
  obtain ⟨own, ho⟩ := h.ow
  obtain ⟨es, hes, hp⟩ := h.tidy
  have he := h.bd.eD
  have hD := ho.D
  have hat : ∀ q ∈ es, ∀ n, q.1 = .string n → ∃ b, q.2 = pd b ∧ own b = n := fun q hq n e => by
    obtain ⟨m, _, e1, b, e2⟩ := he q (by rw [hes]; exact hq)
    refine ⟨b, e2, hD n b ?_⟩
    unfold nmF
    rw [hes]
    have : (DataW.map es).atKey (.string n) .nil = pd b := by
      unfold DataW.atKey
      cases hf : es.find? (fun p => p.1.sameKey (.string n)) with
      | none =>
        have := List.find?_eq_none.1 hf q hq
        rw [e] at this
        exact absurd (WideAt.sameKey_self (show WideAt.IsKeyLit (Lit.string n) from trivial)) (by simpa using this)
      | some r =>
        have hs := List.find?_some hf
        have hk := WideAt.sameKey_eq (show r.1.sameKey (.string n) = true by simpa using hs)
        have hm := List.mem_of_find?_eq_some hf
        have : r = q := by
          by_cases hrq : r = q
          · exact hrq
          · exfalso
            have := pair_ne hp hm hq hrq
            rw [hk, e] at this
            exact this rfl
        simp only [hf, this, e2]
    rw [this, fileAt_pd]
  obtain ⟨ks, hk1, hk2⟩ := names_of es (fun q hq => he q (by rw [hes]; exact hq))
  have hnd : ks.Nodup := by
    have : (ks.map Lit.string).Pairwise (· ≠ ·) := by
      rw [← hk1, List.pairwise_map]
      exact hp
    rw [List.pairwise_map] at this
    exact this.imp fun h e => h (by rw [e])
  have h2 := sumL_names (len := lenD s.φ) (B := B) es ks hk1 (fun q hq n e => by
    obtain ⟨b, e1, e2⟩ := hat q hq n e
    rw [e1]
    cases hb : s.φ b with
    | none => simp [lenD, pd, hb]
    | some fa =>
      rw [lenD_pd hb, ← e2]
      exact ho.len b fa hb)
  have h3 := nodup_sum B hnd hk2
  have h4 : usedOf s = sumL (lenD s.φ) (fun _ => true) es := by
    unfold usedOf sumD
    rw [hes]
    rfl
  have := hl.sum
  omega
theorem OK.small (h : OK w0 w d ρ s p Al B k j) (hl : Lim Al B) (hk : k ≤ 20000) (hoff : s.off = false) (ha : s.armed ≠ 0) : s.SmallG := by
  have h1 := h.bd.N
  have h3 := h.bd.s0
  have h4 := h.bd.s1
  have h7 := h.bd.o0
  have h8 := h.bd.o1
  have hu := (h.used hl).1
  exact ⟨ha, h.bd.arm, h3, by omega, by omega, by omega, by omega, hoff, h.bd.q0, h.bd.q1, by omega⟩
/-- A block that is new is no file's. -/
theorem OK.fresh (h : OK w0 w d ρ s p Al B k j) {f : Nat} (hf : w.heap.size ≤ f) : s.φ f = Option.none ∧ Fresh p f := by
  have h0 : s.φ f = Option.none := by
    cases e : s.φ f with
    | none => rfl
    | some fa =>
      obtain ⟨bn, bs, bc, vs, vl, Gs, Gl, cs, hd⟩ := h.dk
      obtain ⟨_, _, _, _, _, hF⟩ := hd.files f fa e
      have := (hd.low f _ hF.role).2
      omega
  refine ⟨h0, fun n e => ?_, fun n e => ?_, fun n e => ?_⟩
  · obtain ⟨_, fa, hfa, _⟩ := h.at e
    rw [h0] at hfa
    cases hfa
  · rw [h.rel.sn] at e
    have := h.bd.vDs _ _ (fileAt_some e)
    rw [h0] at this
    cases this
  · rw [h.rel.ns] at e
    obtain ⟨x, hx, ex⟩ := List.mem_map.1 e
    cases x with
    | mk m g =>
      cases ex
      have := h.bd.vnl n f hx
      rw [h0] at this
      cases this
    | rm m => cases ex
end
end Go.Proofs.YthhnlkbjpahjeaaGreatDoor

end
