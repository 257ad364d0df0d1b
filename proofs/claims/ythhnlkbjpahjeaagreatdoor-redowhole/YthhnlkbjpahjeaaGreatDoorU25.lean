/- RedoWhole, the plain half: each step of a change keeps the change's part; what is done stays done; behind the last step all of it is there. -/
/- RedoWhole, the plain half: what is done stays done; behind the last step all of the change is there; the log ahead of a change and behind it. -/
/- A disk's names as a plain function. -/
import Derived.Test.YthhnlkbjpahjeaaGreatDoorU24
section
namespace Go.Proofs.YthhnlkbjpahjeaaGreatDoor
/-- A block that no name means or can mean. -/
structure Fresh (s : PD) (b : Nat) : Prop where
  nm : ∀ n, s.nm n ≠ some b
  sn : ∀ n, s.sn n ≠ some b
  ns : ∀ n, NS.mk n b ∉ s.ns
section
variable {V : Nm → Option (List UInt8)} {ops : List Ch} {redo : Nm} {rec : List UInt8} {s : PD}
theorem nodup_same : ∀ {ops : List Ch} {c d : Ch}, (namesOf ops).Nodup → c ∈ ops → d ∈ ops → c.name = d.name → c = d
  | [], _, _, _, h, _, _ => by cases h
  | e :: ops, c, d, hn, hc, hd, he => by
    have h1 := (List.nodup_cons.1 hn).1
    rcases List.mem_cons.1 hc with rfl | hc'
    · rcases List.mem_cons.1 hd with rfl | hd'
      · rfl
      · exact absurd (List.mem_map.2 ⟨d, hd', he.symm⟩) h1
    · rcases List.mem_cons.1 hd with rfl | hd'
      · exact absurd (List.mem_map.2 ⟨c, hc', he⟩) h1
      · exact nodup_same (List.nodup_cons.1 hn).2 hc' hd' he
theorem mem_names {c : Ch} (h : c ∈ ops) : c.name ∈ namesOf ops := List.mem_map.2 ⟨c, h, rfl⟩
/-- Two names never mean one block. -/
theorem Part.apart (h : Part V ops redo rec s) {n m : Nm} {b : Nat} (hn : s.nm n = some b) (hm : s.nm m = some b ∨ s.sn m = some b) : n = m := by
  obtain ⟨own, o1, o2, _⟩ := h.own
  rcases hm with hm | hm
  · rw [← o1 n b hn, o1 m b hm]
  · rw [← o1 n b hn, o2 m b hm]
theorem Part.create (h : Part V ops redo rec s) {c : Ch} (hc : c ∈ ops) (hn : s.nm c.name = none) {b : Nat} (hb : Fresh s b) : Part V ops redo rec (s.create c.name b) := by
  obtain ⟨own, o1, o2, o3⟩ := h.own
  have hby : ∀ k, k ≠ b → (s.create c.name b).by_ k = s.by_ k := fun k hk => upd_other hk
  refine ⟨⟨fun k => if k = b then c.name else own k, ?_, ?_, ?_⟩, ?_, ?_, ?_, ?_, ?_⟩
  · intro n k hk
    change (if n = c.name then some b else s.nm n) = some k at hk
    by_cases e : n = c.name
    · rw [if_pos e] at hk
      cases hk
      exact (if_pos rfl).trans e.symm
    · rw [if_neg e] at hk
      have : k ≠ b := fun e' => hb.nm n (e' ▸ hk)
      exact (if_neg this).trans (o1 n k hk)
  · intro n k hk
    have : k ≠ b := fun e' => hb.sn n (e' ▸ hk)
    exact (if_neg this).trans (o2 n k hk)
  · intro n k hk
    change NS.mk n k ∈ s.ns ++ [NS.mk c.name b] at hk
    rcases List.mem_append.1 hk with hk | hk
    · have : k ≠ b := fun e' => hb.ns n (e' ▸ hk)
      exact (if_neg this).trans (o3 n k hk)
    · cases List.mem_singleton.1 hk
      exact if_pos rfl
  · show (NS.mk c.name b).ap s.nm = apAll s.sn (s.ns ++ [NS.mk c.name b])
    rw [apAll_snoc, ← h.eff]
  · intro x hx
    rcases List.mem_append.1 (show x ∈ s.ns ++ [NS.mk c.name b] from hx) with hx | hx
    · exact h.steps x hx
    · cases List.mem_singleton.1 hx
      exact mem_names hc
  · obtain ⟨r, r1, r2, r3⟩ := h.log
    exact ⟨r, r1, by rw [hby r (fun e => hb.sn redo (e ▸ r1))]; exact r2, r3⟩
  · intro n hn' hne
    obtain ⟨q1, q2⟩ := h.rest n hn' hne
    refine ⟨?_, q2⟩
    rw [← q1]
    show (s.sn n).map _ = _
    cases hk : s.sn n with
    | none => rfl
    | some k =>
      show some _ = some _
      rw [hby k (fun e => hb.sn n (e ▸ hk))]
  · intro d hd hk v hv
    obtain ⟨k, k1, k2, k3, k4⟩ := h.app d hd hk v hv
    refine ⟨k, k1, ?_, ?_, k4⟩
    · intro x hx
      rcases List.mem_append.1 (show x ∈ s.ns ++ [NS.mk c.name b] from hx) with hx | hx
      · exact k2 x hx
      · cases List.mem_singleton.1 hx
        intro e
        obtain ⟨k', e1, _⟩ := h.nm_app hd hk hv
        rw [← show c.name = d.name from e, hn] at e1
        cases e1
    · rw [hby k (fun e => hb.sn d.name (e ▸ k1))]
      exact k3
theorem Part.remove (h : Part V ops redo rec s) (hf : Fits V ops redo) {c : Ch} (hc : c ∈ ops) (h3 : c.kind = 3) : Part V ops redo rec (s.remove c.name) := by
  obtain ⟨own, o1, o2, o3⟩ := h.own
  refine ⟨⟨own, ?_, o2, ?_⟩, ?_, ?_, h.log, h.rest, ?_⟩
  · intro n k hk
    change (if n = c.name then none else s.nm n) = some k at hk
    by_cases e : n = c.name
    · rw [if_pos e] at hk; cases hk
    · rw [if_neg e] at hk
      exact o1 n k hk
  · intro n k hk
    rcases List.mem_append.1 (show NS.mk n k ∈ s.ns ++ [NS.rm c.name] from hk) with hk | hk
    · exact o3 n k hk
    · cases List.mem_singleton.1 hk
  · show (NS.rm c.name).ap s.nm = apAll s.sn (s.ns ++ [NS.rm c.name])
    rw [apAll_snoc, ← h.eff]
  · intro x hx
    rcases List.mem_append.1 (show x ∈ s.ns ++ [NS.rm c.name] from hx) with hx | hx
    · exact h.steps x hx
    · cases List.mem_singleton.1 hx
      exact mem_names hc
  · intro d hd hk v hv
    obtain ⟨k, k1, k2, k3, k4⟩ := h.app d hd hk v hv
    refine ⟨k, k1, ?_, k3, k4⟩
    intro x hx
    rcases List.mem_append.1 (show x ∈ s.ns ++ [NS.rm c.name] from hx) with hx | hx
    · exact k2 x hx
    · cases List.mem_singleton.1 hx
      intro e
      have := nodup_same hf.nodup hc hd e
      subst this
      omega
/-- A step of the one file that is open: what it leaves of an operation that appends. -/
theorem Part.file (h : Part V ops redo rec s) (hf : Fits V ops redo) {c : Ch} (hc : c ∈ ops) {b : Nat} (hb : s.nm c.name = some b) {x : List UInt8} {o : OF} (ho : o.b = b) (hx : c.kind = 1 → ∀ v, V c.name = some v → v <+: x ∧ v <+: o.pre ∧ ∀ a, o.alt = some a → v <+: a) : Part V ops redo rec { s with by_ := upd s.by_ b x, op := some o } := by
  have hby : ∀ {k n}, (s.nm n = some k ∨ s.sn n = some k) → n ≠ c.name → k ≠ b := fun hk hn e => hn (h.apart hb (e ▸ hk)).symm
  refine ⟨h.own, h.eff, h.steps, ?_, ?_, ?_⟩
  · obtain ⟨r, r1, r2, r3⟩ := h.log
    have hr : r ≠ b := hby (.inr r1) (fun e => hf.log (e ▸ mem_names hc))
    refine ⟨r, r1, (upd_other hr).trans r2, ?_⟩
    intro o' ho'
    cases ho'
    rw [ho]
    exact fun e => hr e.symm
  · intro n hn hne
    obtain ⟨q1, q2⟩ := h.rest n hn hne
    have hk : ∀ k, s.sn n = some k → k ≠ b := fun k hk => hby (.inr hk) (fun e => hn (e ▸ mem_names hc))
    refine ⟨?_, ?_⟩
    · rw [← q1]
      show (s.sn n).map _ = _
      cases e : s.sn n with
      | none => rfl
      | some k => exact congrArg some (upd_other (hk k e))
    · intro o' k ho' hk'
      cases ho'
      rw [ho]
      exact fun e => hk k hk' e.symm
  · intro d hd hk v hv
    obtain ⟨k, k1, k2, k3, k4⟩ := h.app d hd hk v hv
    by_cases e : d.name = c.name
    · have := nodup_same hf.nodup hd hc e
      subst this
      obtain ⟨k', e1, e2, _⟩ := h.nm_app hd hk hv
      have : k' = b := by rw [hb] at e1; cases e1; rfl
      subst this
      obtain ⟨x1, x2, x3⟩ := hx hk v hv
      refine ⟨k', e2, k2, ?_, ?_⟩
      · show v <+: upd s.by_ k' x k'
        rw [upd_at]
        exact x1
      · intro o' ho' _
        cases ho'
        exact ⟨x2, x3⟩
    · have hkb : k ≠ b := hby (.inr k1) e
      refine ⟨k, k1, k2, ?_, ?_⟩
      · show v <+: upd s.by_ b x k
        rw [upd_other hkb]
        exact k3
      · intro o' ho' e'
        cases ho'
        exact absurd (e'.symm.trans ho) hkb
theorem Part.sync (h : Part V ops redo rec s) : Part V ops redo rec s.sync := by
  have hop : s.sync.op = none := rfl
  obtain ⟨r, r1, r2, _⟩ := h.log
  refine ⟨h.own, h.eff, h.steps, ⟨r, r1, r2, (by rw [hop]; intro o ho; cases ho)⟩, ?_, ?_⟩
  · intro n hn hne
    exact ⟨(h.rest n hn hne).1, by rw [hop]; intro o b ho; cases ho⟩
  · intro d hd hk v hv
    obtain ⟨k, k1, k2, k3, _⟩ := h.app d hd hk v hv
    exact ⟨k, k1, k2, k3, by rw [hop]; intro o ho; cases ho⟩
theorem Part.syncDir (h : Part V ops redo rec s) (hlog : redo ∉ namesOf ops) : Part V ops redo rec s.syncDir := by
  have hns : s.syncDir.ns = [] := rfl
  obtain ⟨own, o1, _, _⟩ := h.own
  refine ⟨⟨own, o1, o1, (by rw [hns]; intro n b hm; cases hm)⟩, rfl, (by rw [hns]; intro x hx; cases hx), ?_, ?_, ?_⟩
  · obtain ⟨r, r1, r2, r3⟩ := h.log
    exact ⟨r, (h.nm_other hlog).trans r1, r2, r3⟩
  · intro n hn hne
    obtain ⟨q1, q2⟩ := h.rest n hn hne
    have e : s.syncDir.sn n = s.sn n := h.nm_other hn
    exact ⟨by rw [e]; exact q1, fun o b ho hb => q2 o b ho (e ▸ hb)⟩
  · intro d hd hk v hv
    obtain ⟨k, k1, k2, k3, k4⟩ := h.app d hd hk v hv
    obtain ⟨k', e1, e2, _⟩ := h.nm_app hd hk hv
    have : k' = k := by rw [k1] at e2; cases e2; rfl
    subst this
    exact ⟨k', e1, (by rw [hns]; intro x hx; cases hx), k3, k4⟩
end
end Go.Proofs.YthhnlkbjpahjeaaGreatDoor

end
section
namespace Go.Proofs.YthhnlkbjpahjeaaGreatDoor
section
variable {V W : Nm → Option (List UInt8)} {ops : List Ch} {redo : Nm} {rec : List UInt8} {s : PD}
theorem view_of {n : Nm} {b : Nat} (h : s.nm n = some b) : s.view n = some (s.by_ b) := by
  unfold PD.view
  rw [h]
  rfl
theorem view_none {n : Nm} (h : s.nm n = none) : s.view n = none := by
  unfold PD.view
  rw [h]
  rfl
theorem create_view {n m : Nm} {b : Nat} (hb : Fresh s b) (h : m ≠ n) : (s.create n b).view m = s.view m := by
  unfold PD.view
  rw [show (s.create n b).nm m = s.nm m from if_neg h]
  cases e : s.nm m with
  | none => rfl
  | some k => exact congrArg some (upd_other (fun e' => hb.nm m (e' ▸ e)))
theorem create_at {n : Nm} {b : Nat} : (s.create n b).nm n = some b := if_pos rfl
theorem create_bytes {n : Nm} {b : Nat} : (s.create n b).by_ b = [] := if_pos rfl
theorem remove_view {n m : Nm} (h : m ≠ n) : (s.remove n).view m = s.view m := by
  unfold PD.view
  rw [show (s.remove n).nm m = s.nm m from if_neg h]
  rfl
theorem remove_at {n : Nm} : (s.remove n).view n = none := view_none (if_pos rfl)
theorem Part.file_view (h : Part V ops redo rec s) {n m : Nm} {b : Nat} (hb : s.nm n = some b) {x : List UInt8} {o : Option OF} (hm : m ≠ n) : PD.view { s with by_ := upd s.by_ b x, op := o } m = s.view m := by
  unfold PD.view
  show (s.nm m).map _ = (s.nm m).map _
  cases e : s.nm m with
  | none => rfl
  | some k => exact congrArg some (upd_other (fun e' => hm (h.apart hb (.inl (e' ▸ e))).symm))
/-- What an operation that appends finds ahead of its place. -/
theorem Part.head (h : Part V ops redo rec s) (hf : Fits V ops redo) {c : Ch} (hc : c ∈ ops) (hk : c.kind = 1) {b : Nat} (hb : s.nm c.name = some b) : (s.by_ b).take c.at_ = (V c.name).getD [] := by
  rw [hf.at_ c hc hk]
  cases hv : V c.name with
  | none => rfl
  | some v =>
    obtain ⟨k, k1, _, k3⟩ := h.nm_app hc hk hv
    have : k = b := by rw [hb] at k1; cases k1; rfl
    subst this
    exact (List.prefix_iff_eq_take.1 k3).symm
theorem Part.head_short (h : Part V ops redo rec s) (hf : Fits V ops redo) {c : Ch} (hc : c ∈ ops) (hk : c.kind = 1) {b : Nat} (hb : s.nm c.name = some b) (hl : (s.by_ b).length ≤ c.at_) : s.by_ b = (V c.name).getD [] := by
  rw [← h.head hf hc hk hb, List.take_of_length_le hl]
/-- A file that is made anew was not there at first, if it is appended to. -/
theorem Part.head_new (h : Part V ops redo rec s) {c : Ch} (hc : c ∈ ops) (hk : c.kind = 1) (hn : s.nm c.name = none) : V c.name = none := by
  cases hv : V c.name with
  | none => rfl
  | some v =>
    obtain ⟨k, k1, _⟩ := h.nm_app hc hk hv
    rw [hn] at k1
    cases k1
theorem Part.cut (h : Part V ops redo rec s) (hf : Fits V ops redo) {c : Ch} (hc : c ∈ ops) {b : Nat} (hb : s.nm c.name = some b) {k : Nat} (hk : c.kind = 1 → k = c.at_) : Part V ops redo rec (s.cut b k) := by
  refine h.file hf hc hb rfl ?_
  intro h1 v hv
  obtain ⟨k', k1, _, k3⟩ := h.nm_app hc h1 hv
  have : k' = b := by rw [hb] at k1; cases k1; rfl
  subst this
  have e : (s.by_ k').take k = v := by
    rw [hk h1, h.head hf hc h1 hb, hv]
    rfl
  refine ⟨by rw [e]; exact List.prefix_refl v, by show v <+: (s.by_ k').take k; rw [e]; exact List.prefix_refl v, ?_⟩
  intro a ha
  cases ha
  exact k3
theorem Part.fill (h : Part V ops redo rec s) (hf : Fits V ops redo) {c : Ch} (hc : c ∈ ops) {b : Nat} (hb : s.nm c.name = some b) (ho : ∀ o, s.op = some o → o.b = b) (x : List UInt8) : Part V ops redo rec (s.fill b x) := by
  refine h.file hf hc hb rfl ?_
  intro h1 v hv
  obtain ⟨k', k1, _, k3, k4⟩ := h.app c hc h1 v hv
  obtain ⟨k'', e1, e2, _⟩ := h.nm_app hc h1 hv
  have : k'' = b := by rw [hb] at e1; cases e1; rfl
  subst this
  have : k' = k'' := by rw [k1] at e2; cases e2; rfl
  subst this
  refine ⟨k3.trans (List.prefix_append _ _), k3, ?_⟩
  intro a ha
  cases e : s.op with
  | none =>
    change (s.op.bind OF.alt) = some a at ha
    rw [e] at ha
    cases ha
  | some o =>
    change (s.op.bind OF.alt) = some a at ha
    rw [e] at ha
    exact (k4 o e (ho o e)).2 a ha
/-- All files are at rest: W tells them, log what the log has. -/
structure Calm (W : Nm → Option (List UInt8)) (redo : Nm) (log : List UInt8) (s : PD) : Prop where
  own : ∃ own : Nat → Nm, ∀ n b, s.sn n = some b → own b = n
  eff : s.nm = s.sn
  ns : s.ns = []
  log : ∃ r, s.sn redo = some r ∧ s.by_ r = log ∧ (∀ o, s.op = some o → o.b = r)
  rest : ∀ n, n ≠ redo → (s.sn n).map s.by_ = W n
theorem Calm.view (h : Calm W redo rec s) {n : Nm} (hn : n ≠ redo) : s.view n = W n := by
  unfold PD.view
  rw [h.eff]
  exact h.rest n hn
theorem Calm.other (h : Calm W redo rec s) {r : Nat} (hr : s.sn redo = some r) {n : Nm} (hn : n ≠ redo) {b : Nat} (hb : s.sn n = some b) : b ≠ r := by
  obtain ⟨own, o⟩ := h.own
  intro e
  exact hn ((o n b hb).symm.trans ((congrArg own e).trans (o redo r hr)))
/-- A step of the log. -/
theorem Calm.put (h : Calm W redo rec s) {r : Nat} (hr : s.sn redo = some r) (x : List UInt8) {o : OF} (ho : o.b = r) : Calm W redo x { s with by_ := upd s.by_ r x, op := some o } := by
  refine ⟨h.own, h.eff, h.ns, ⟨r, hr, upd_at _ _ _, ?_⟩, ?_⟩
  · intro o' e
    cases e
    exact ho
  · intro n hn
    rw [← h.rest n hn]
    show (s.sn n).map _ = _
    cases e : s.sn n with
    | none => rfl
    | some k => exact congrArg some (upd_other (h.other hr hn e))
theorem Calm.crash (h : Calm W redo rec s) (k : Nat) (c : List UInt8) : ∃ x, Calm W redo x (s.crash k c) ∧ ((s.op = none ∧ x = rec) ∨ ∃ o, s.op = some o ∧ x = c) := by
  have hsn : (s.crash k c).sn = s.sn := by
    show apAll s.sn (s.ns.take k) = s.sn
    rw [h.ns, List.take_nil]
    rfl
  have hnm : (s.crash k c).nm = s.sn := hsn
  obtain ⟨r, r1, r2, r3⟩ := h.log
  have hop : (s.crash k c).op = none := rfl
  cases e : s.op with
  | none =>
    have hby : (s.crash k c).by_ = s.by_ := by
      unfold PD.crash
      rw [e]
    refine ⟨rec, ⟨by rw [hsn]; exact h.own, by rw [hnm, hsn], rfl, ⟨r, by rw [hsn]; exact r1, by rw [hby]; exact r2, by rw [hop]; intro o ho; cases ho⟩, ?_⟩, .inl ⟨rfl, rfl⟩⟩
    intro n hn
    rw [hsn, hby]
    exact h.rest n hn
  | some o =>
    have hby : (s.crash k c).by_ = upd s.by_ r c := by
      unfold PD.crash
      rw [e]
      show upd s.by_ o.b c = _
      rw [r3 o e]
    refine ⟨c, ⟨by rw [hsn]; exact h.own, by rw [hnm, hsn], rfl, ⟨r, by rw [hsn]; exact r1, by rw [hby]; exact upd_at _ _ _, by rw [hop]; intro o ho; cases ho⟩, ?_⟩, .inr ⟨o, rfl, rfl⟩⟩
    intro n hn
    rw [hsn, hby, ← h.rest n hn]
    cases e' : s.sn n with
    | none => rfl
    | some k' => exact congrArg some (upd_other (h.other r1 hn e'))
theorem Calm.sync (h : Calm W redo rec s) : Calm W redo rec s.sync := by
  obtain ⟨r, r1, r2, _⟩ := h.log
  refine ⟨h.own, h.eff, h.ns, ⟨r, r1, r2, ?_⟩, h.rest⟩
  intro o ho
  cases ho
/-- Where the record is whole, a change may be half done: it is so where nothing of it is done, and where all of it is. -/
theorem Calm.part (h : Calm W redo rec s) (hop : s.op = none) (hn : ∀ n, n ∉ namesOf ops → W n = V n) (ha : ∀ c ∈ ops, c.kind = 1 → ∀ v, V c.name = some v → ∃ v', W c.name = some v' ∧ v <+: v') (hlog : redo ∉ namesOf ops) : Part V ops redo rec s := by
  obtain ⟨own, o⟩ := h.own
  obtain ⟨r, r1, r2, _⟩ := h.log
  have no : ∀ o, s.op ≠ some o := fun o e => by rw [hop] at e; cases e
  refine ⟨⟨own, by rw [h.eff]; exact o, o, by rw [h.ns]; intro n b hm; cases hm⟩, by rw [h.eff, h.ns]; rfl, (by rw [h.ns]; intro x hx; cases hx), ⟨r, r1, r2, fun o ho => absurd ho (no o)⟩, ?_, ?_⟩
  · intro n hn' hne
    exact ⟨(h.rest n hne).trans (hn n hn'), fun o b ho => absurd ho (no o)⟩
  · intro c hc hk v hv
    obtain ⟨v', e1, e2⟩ := ha c hc hk v hv
    have hne : c.name ≠ redo := fun e => hlog (e ▸ mem_names hc)
    have e3 := h.rest c.name hne
    rw [e1] at e3
    cases hs : s.sn c.name with
    | none => rw [hs] at e3; cases e3
    | some b =>
      rw [hs] at e3
      have e4 : s.by_ b = v' := Option.some.inj e3
      exact ⟨b, rfl, (by rw [h.ns]; intro x hx; cases hx), by rw [e4]; exact e2, fun o ho => absurd ho (no o)⟩
theorem Calm.begun (h : Calm V redo rec s) (hop : s.op = none) (hlog : redo ∉ namesOf ops) : Part V ops redo rec s :=
  h.part hop (fun _ _ => rfl) (fun _ _ _ v hv => ⟨v, hv, List.prefix_refl v⟩) hlog
theorem Calm.done (h : Calm (afterV V ops) redo rec s) (hop : s.op = none) (hf : Fits V ops redo) : Part V ops redo rec s := by
  refine h.part hop (fun n hn => after_none hn) ?_ hf.log
  intro c hc hk v hv
  refine ⟨v ++ c.bytes, ?_, List.prefix_append _ _⟩
  rw [after_some hf.nodup hc]
  unfold Ch.out
  rw [hk, hv]
  rfl
/-- Behind the last operation the names are made sure: all of the change is there. -/
theorem Part.all (h : Part V ops redo rec s) (hf : Fits V ops redo) (hop : s.op = none) (hd : ∀ c ∈ ops, s.view c.name = c.out (V c.name)) : Calm (afterV V ops) redo rec s.syncDir := by
  obtain ⟨own, o1, _, _⟩ := h.own
  obtain ⟨r, r1, r2, _⟩ := h.log
  refine ⟨⟨own, o1⟩, rfl, rfl, ⟨r, (h.nm_other hf.log).trans r1, r2, ?_⟩, ?_⟩
  · intro o ho
    change s.op = some o at ho
    rw [hop] at ho
    cases ho
  · intro n hn
    show (s.nm n).map s.by_ = _
    by_cases hm : n ∈ namesOf ops
    · obtain ⟨c, hc, rfl⟩ := List.mem_map.1 hm
      rw [after_some hf.nodup hc]
      exact hd c hc
    · rw [after_none hm, h.nm_other hm]
      exact (h.rest n hm hn).1
end
end Go.Proofs.YthhnlkbjpahjeaaGreatDoor

end
section
namespace Go.Proofs.YthhnlkbjpahjeaaGreatDoor
open Go.RowKit Go.Maps
open Classical in
/-- The file that an entry means. -/
noncomputable def fileAt (x : DataW Unit) : Option Nat := if h : ∃ b, x = pd b then some h.choose else none
theorem fileAt_pd (b : Nat) : fileAt (pd b) = some b := by
  unfold fileAt
  have h : ∃ c, pd b = pd c := ⟨b, rfl⟩
  rw [dif_pos h]
  exact congrArg some (pd_inj h.choose_spec).symm
theorem fileAt_some {x : DataW Unit} {b : Nat} (h : fileAt x = some b) : x = pd b := by
  unfold fileAt at h
  by_cases e : ∃ c, x = pd c
  · rw [dif_pos e] at h
    cases h
    exact e.choose_spec
  · rw [dif_neg e] at h
    cases h
theorem fileAt_nil : fileAt .nil = none := by
  unfold fileAt
  rw [dif_neg]
  rintro ⟨b, h⟩
  cases h
/-- The names of a map. -/
noncomputable def nmF (D : DataW Unit) (n : Nm) : Option Nat := fileAt (D.atKey (.string n) .nil)
theorem nmF_put {D : DataW Unit} (h : IsMap D) (name : Nm) (f : Nat) : nmF (D.put (.string name) (pd f)) = (NS.mk name f).ap (nmF D) := by
  funext n
  show nmF _ n = if n = name then some f else nmF D n
  by_cases e : n = name
  · subst e
    rw [if_pos rfl]
    unfold nmF
    rw [atKey_put_same h (show WideAt.IsKeyLit (Lit.string n) from trivial), fileAt_pd]
  · rw [if_neg e]
    unfold nmF
    rw [atKey_put_other (fun e' => e (by cases e'; rfl))]
theorem nmF_del (D : DataW Unit) (name : Nm) : nmF (D.del (.string name)) = (NS.rm name).ap (nmF D) := by
  funext n
  show nmF _ n = if n = name then none else nmF D n
  by_cases e : n = name
  · subst e
    rw [if_pos rfl]
    unfold nmF
    rw [atKey_del_same, fileAt_nil]
  · rw [if_neg e]
    unfold nmF
    rw [atKey_del_other (fun e' => e (by cases e'; rfl))]
def NA.ns : NA → NS
  | .mk name f => .mk name f
  | .rm name => .rm name
theorem NA.ap_map {D : DataW Unit} (h : IsMap D) (x : NA) : IsMap (x.ap D) := by
  cases x with
  | mk name f => exact h.put _ _
  | rm name => exact h.del _
theorem nmF_ap {D : DataW Unit} (h : IsMap D) (x : NA) : nmF (x.ap D) = x.ns.ap (nmF D) := by
  cases x with
  | mk name f => exact nmF_put h name f
  | rm name => exact nmF_del D name
theorem nmF_apN : ∀ (l : List NA) {D : DataW Unit}, IsMap D → nmF (apN D l) = apAll (nmF D) (l.map NA.ns)
  | [], _, _ => rfl
  | x :: l, D, h => by
    show nmF (apN (x.ap D) l) = apAll (x.ns.ap (nmF D)) (l.map NA.ns)
    rw [nmF_apN l (NA.ap_map h x), nmF_ap h]
theorem apN_map : ∀ (l : List NA) {D : DataW Unit}, IsMap D → IsMap (apN D l)
  | [], _, h => h
  | x :: l, _, h => apN_map l (NA.ap_map h x)
/-- A disk's names: each has a file's number, or none. -/
theorem entries_apN : ∀ (l : List NA) {D : DataW Unit}, IsMap D → (∀ p ∈ entriesOf D, ∃ b, p.2 = pd b) → ∀ p ∈ entriesOf (apN D l), ∃ b, p.2 = pd b
  | [], _, _, h => h
  | x :: l, D, hm, h => by
    refine entries_apN l (NA.ap_map hm x) ?_
    cases x with
    | mk name f => exact entries_put hm h
    | rm name => exact entries_del hm h
theorem there_apN {P : Nat → Prop} : ∀ (l : List NA) {D : DataW Unit}, IsMap D → (∀ kl b, D.atKey kl .nil = pd b → P b) → (∀ n f, NA.mk n f ∈ l → P f) → ∀ kl b, (apN D l).atKey kl .nil = pd b → P b
  | [], _, _, h, _ => h
  | x :: l, D, hm, h, hl => by
    refine there_apN l (NA.ap_map hm x) ?_ (fun n f hf => hl n f (by simp [hf]))
    cases x with
    | mk name f => exact there_put hm trivial h (hl name f (by simp))
    | rm name => exact there_del h
end Go.Proofs.YthhnlkbjpahjeaaGreatDoor

end
