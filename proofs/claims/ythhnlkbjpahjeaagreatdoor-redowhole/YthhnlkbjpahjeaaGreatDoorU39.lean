/- The document's Do on plain rows: one operation, in order. -/
/- The document's Do on plain rows: a change. -/
/- A new disk, formatted: all that is known of it. -/
import Derived.Test.YthhnlkbjpahjeaaGreatDoorU37
import Derived.Test.YthhnlkbjpahjeaaGreatDoorU36
import Derived.Test.YthhnlkbjpahjeaaGreatDoorU34
section
namespace Go.Proofs.YthhnlkbjpahjeaaGreatDoor
open Go.RowKit
/-- The second loop: what it puts, from a row on. -/
def ins (name b : Nm) : Bool → List (Nm × Nm) → List (Nm × Nm)
  | put, [] => if put then [] else [(name, b)]
  | put, p :: l => (if !put && decide (name ≤ p.1) then [(name, b)] else []) ++ ((if p.1 == name then [] else [p]) ++ ins name b (put || decide (name ≤ p.1)) l)
theorem ins_true (name b : Nm) : ∀ l : List (Nm × Nm), ins name b true l = l.filter (fun p => !(p.1 == name))
  | [] => rfl
  | p :: l => by
    unfold ins
    rw [Bool.true_or, ins_true name b l]
    cases h : p.1 == name <;> simp [h]
theorem ins_mem (name b : Nm) : ∀ (l : List (Nm × Nm)) (p : Nm × Nm), p ∈ ins name b false l ↔ (p ∈ l ∧ p.1 ≠ name) ∨ p = (name, b)
  | [], p => by simp [ins]
  | q :: l, p => by
    unfold ins
    by_cases h : name ≤ q.1
    · simp only [h, decide_true, Bool.not_false, Bool.and_self, if_true, Bool.or_true, ins_true]
      by_cases e : q.1 = name
      · have e' : (q.1 == name) = true := by simpa using e
        simp only [e', if_true, List.nil_append, List.mem_append, List.mem_filter, List.mem_cons, List.not_mem_nil, or_false]
        constructor
        · rintro (h | ⟨h1, h2⟩)
          · exact .inr h
          · exact .inl ⟨.inr h1, by simpa using h2⟩
        · rintro (⟨rfl | h1, h2⟩ | h)
          · exact absurd e h2
          · exact .inr ⟨h1, by simpa using h2⟩
          · exact .inl h
      · have e' : (q.1 == name) = false := by simpa using e
        simp only [e', Bool.false_eq_true, if_false, List.mem_append, List.mem_filter, List.mem_cons, List.not_mem_nil, or_false]
        constructor
        · rintro (h | h | ⟨h1, h2⟩)
          · exact .inr h
          · exact .inl ⟨.inl h, by rw [h]; exact e⟩
          · exact .inl ⟨.inr h1, by simpa using h2⟩
        · rintro (⟨h1 | h1, h2⟩ | h)
          · exact .inr (.inl h1)
          · exact .inr (.inr ⟨h1, by simpa using h2⟩)
          · exact .inl h
    · have e : q.1 ≠ name := fun e => h (by rw [e]; exact List.le_refl _)
      have e' : (q.1 == name) = false := by simpa using e
      simp only [h, decide_false, Bool.and_false, Bool.false_eq_true, if_false, Bool.or_false, e', List.nil_append, List.mem_append, List.mem_cons, List.not_mem_nil, or_false, ins_mem name b l p]
      constructor
      · rintro (h | ⟨h1, h2⟩ | h)
        · exact .inl ⟨.inl h, by rw [h]; exact e⟩
        · exact .inl ⟨.inr h1, h2⟩
        · exact .inr h
      · rintro (⟨h1 | h1, h2⟩ | h)
        · exact .inl h1
        · exact .inr (.inl ⟨h1, h2⟩)
        · exact .inr (.inr h)
theorem ins_ord (name b : Nm) : ∀ (l : List (Nm × Nm)), l.Pairwise (fun p q => p.1 < q.1) → (ins name b false l).Pairwise (fun p q => p.1 < q.1)
  | [], _ => by simp [ins]
  | q :: l, h => by
    obtain ⟨h1, h2⟩ := List.pairwise_cons.1 h
    unfold ins
    by_cases hn : name ≤ q.1
    · have hlt : ∀ p ∈ l, name < p.1 := fun p hp => by
        have := h1 p hp
        by_cases hc : name < p.1
        · exact hc
        · exact absurd (List.le_trans (List.not_lt.1 hc) hn) (List.not_le.2 this)
      simp only [hn, decide_true, Bool.not_false, Bool.and_self, if_true, Bool.or_true, ins_true]
      have hf : (l.filter (fun p => !(p.1 == name))).Pairwise (fun p q => p.1 < q.1) := h2.filter _
      by_cases e : q.1 = name
      · have e' : (q.1 == name) = true := by simpa using e
        simp only [e', if_true, List.nil_append, List.singleton_append]
        exact List.pairwise_cons.2 ⟨fun p hp => hlt p (List.mem_filter.1 hp).1, hf⟩
      · have e' : (q.1 == name) = false := by simpa using e
        simp only [e', Bool.false_eq_true, if_false, List.singleton_append]
        refine List.pairwise_cons.2 ⟨fun p hp => ?_, List.pairwise_cons.2 ⟨fun p hp => h1 p (List.mem_filter.1 hp).1, hf⟩⟩
        rcases List.mem_cons.1 hp with rfl | hp
        · by_cases hc : name < p.1
          · exact hc
          · exact absurd (List.le_antisymm (List.not_lt.1 hc) hn) e
        · exact hlt p (List.mem_filter.1 hp).1
    · have e : q.1 ≠ name := fun e => hn (by rw [e]; exact List.le_refl _)
      have e' : (q.1 == name) = false := by simpa using e
      simp only [hn, decide_false, Bool.and_false, Bool.false_eq_true, if_false, Bool.or_false, e', List.nil_append, List.singleton_append]
      refine List.pairwise_cons.2 ⟨fun p hp => ?_, ins_ord name b l h2⟩
      rcases (ins_mem name b l p).1 hp with ⟨hp, _⟩ | rfl
      · exact h1 p hp
      · exact List.not_le.1 hn
theorem zip_own (f : Nm → Nm) : ∀ ns : List Nm, ns.zip (ns.map f) = ns.map (fun n => (n, f n))
  | [] => rfl
  | n :: ns => by simp only [List.map_cons, List.zip_cons_cons, zip_own f ns]
/-- One operation's row: kind 3 puts nothing. -/
theorem rep_ins {W : Nm → Option (List UInt8)} {ns bs : List Nm} (h : Rep W ns bs) (name b : Nm) (rm : Bool) :
    Rep (fun n => if n = name then (if rm then none else some b) else W n) ((ins name b rm (ns.zip bs)).map (·.1)) ((ins name b rm (ns.zip bs)).map (·.2)) := by
  have hz : ns.zip bs = ns.map (fun n => (n, (W n).getD [])) := by
    rw [h.by_]
    exact zip_own _ ns
  have hord : (ns.zip bs).Pairwise (fun p q => p.1 < q.1) := by
    rw [hz, List.pairwise_map]
    exact h.ord
  have hmem : ∀ p : Nm × Nm, p ∈ ns.zip bs ↔ W p.1 = some p.2 := by
    rintro ⟨n, x⟩
    rw [hz, List.mem_map]
    constructor
    · rintro ⟨m, hm, e⟩
      cases e
      have := (h.mem n).1 hm
      cases hw : W n with
      | none => rw [hw] at this; cases this
      | some y => rfl
    · intro e
      have e : W n = some x := e
      exact ⟨n, (h.mem n).2 (by rw [e]; rfl), by rw [e]; rfl⟩
  have hr : ∀ p : Nm × Nm, p ∈ ins name b rm (ns.zip bs) ↔ (if p.1 = name then (if rm then none else some b) else W p.1) = some p.2 := by
    rintro ⟨n, x⟩
    cases rm with
    | true =>
      rw [ins_true, List.mem_filter, hmem]
      by_cases e : n = name
      · simp [e]
      · simp [e]
    | false =>
      rw [ins_mem, hmem]
      by_cases e : n = name
      · subst e
        simp
        exact ⟨fun h => h.symm, fun h => h.symm⟩
      · simp [e]
  have ho : (ins name b rm (ns.zip bs)).Pairwise (fun p q => p.1 < q.1) := by
    cases rm with
    | true => rw [ins_true]; exact hord.filter _
    | false => exact ins_ord name b _ hord
  generalize ins name b rm (ns.zip bs) = l at *
  refine ⟨by rw [List.pairwise_map]; exact ho, fun n => ?_, ?_⟩
  · rw [List.mem_map]
    constructor
    · rintro ⟨p, hp, rfl⟩
      have := (hr p).1 hp
      show Option.isSome (if p.1 = name then _ else _) = true
      rw [this]
      rfl
    · intro hn
      obtain ⟨x, hx⟩ := Option.isSome_iff_exists.1 hn
      exact ⟨(n, x), (hr (n, x)).2 hx, rfl⟩
  · rw [List.map_map]
    refine List.map_congr_left (fun p hp => ?_)
    show p.2 = Option.getD (if p.1 = name then _ else _) []
    rw [(hr p).1 hp]
    rfl
end Go.Proofs.YthhnlkbjpahjeaaGreatDoor

end
section
namespace Go.Proofs.YthhnlkbjpahjeaaGreatDoor
open Go.RowKit
/-- The first loop: what stood under the name. -/
def lastAt (name : Nm) : List (Nm × Nm) → Nm → Nm
  | [], was => was
  | p :: l, was => lastAt name l (if p.1 == name then p.2 else was)
theorem lastAt_eq (name v : Nm) : ∀ (l : List (Nm × Nm)) (was : Nm), (∀ p ∈ l, p.1 = name → p.2 = v) → lastAt name l was = if l.any (fun p => p.1 == name) then v else was
  | [], _, _ => rfl
  | p :: l, was, h => by
    unfold lastAt
    rw [lastAt_eq name v l _ (fun q hq => h q (by simp [hq])), List.any_cons]
    cases e : p.1 == name with
    | false => rw [Bool.false_or]; rfl
    | true =>
      have := h p (by simp) (by simpa using e)
      simp [this]
/-- The bytes that an operation puts. -/
def headB (x : OpA) (was : Nm) : Nm := if x.kind = 1 then was.take (max 0 (min x.at_ was.length)).toNat ++ x.bytes else x.bytes
def doOne (x : OpA) (l : List (Nm × Nm)) : List (Nm × Nm) := ins x.name (headB x (lastAt x.name l [])) (decide (x.kind = 3)) l
def doAll : List (Nm × Nm) → List OpA → List (Nm × Nm)
  | l, [] => l
  | l, x :: xs => doAll (doOne x l) xs
/-- A row of pairs is the files W. -/
def PRep (W : Nm → Option (List UInt8)) (l : List (Nm × Nm)) : Prop := Rep W (l.map (·.1)) (l.map (·.2))
theorem zip_parts : ∀ l : List (Nm × Nm), (l.map (·.1)).zip (l.map (·.2)) = l
  | [] => rfl
  | p :: l => by simp only [List.map_cons, List.zip_cons_cons, zip_parts l]
theorem PRep.vals {W : Nm → Option (List UInt8)} {l : List (Nm × Nm)} (h : PRep W l) : ∀ p ∈ l, p.2 = (W p.1).getD [] := by
  have hb : l.map (·.2) = l.map (fun p => (W p.1).getD []) := by
    have := h.by_
    rw [List.map_map] at this
    exact this
  exact fun p hp => List.map_inj_left.1 hb p hp
theorem PRep.last {W : Nm → Option (List UInt8)} {l : List (Nm × Nm)} (h : PRep W l) (name : Nm) : lastAt name l [] = (W name).getD [] := by
  rw [lastAt_eq name ((W name).getD []) l [] (fun p hp e => by rw [h.vals p hp, e])]
  cases e : l.any (fun p => p.1 == name) with
  | true => rfl
  | false =>
    have hn : name ∉ l.map (·.1) := fun hm => by
      obtain ⟨p, hp, rfl⟩ := List.mem_map.1 hm
      have := List.any_eq_false.1 e p hp
      simp at this
    have : ¬ (W name).isSome = true := fun hs => hn ((h.mem name).2 hs)
    cases hw : W name with
    | none => rfl
    | some y => rw [hw] at this; exact absurd rfl this
theorem PRep.one {W : Nm → Option (List UInt8)} {l : List (Nm × Nm)} (h : PRep W l) {x : OpA} {c : Ch} (hI : Is x c) (hk : c.kind = 1 ∨ c.kind = 2 ∨ c.kind = 3) (ha : c.kind = 1 → c.at_ = ((W c.name).getD []).length) :
    PRep (fun n => if n = c.name then c.out (W n) else W n) (doOne x l) := by
  have key := rep_ins h x.name (headB x (lastAt x.name l [])) (decide (x.kind = 3))
  rw [zip_parts] at key
  unfold PRep doOne
  have e : (fun n => if n = c.name then c.out (W n) else W n) = fun n => if n = x.name then (if decide (x.kind = 3) = true then none else some (headB x (lastAt x.name l []))) else W n := by
    funext n
    rw [hI.name]
    by_cases en : n = c.name
    · subst en
      rw [if_pos rfl, if_pos rfl]
      have hl := h.last c.name
      unfold Ch.out headB
      rw [hl, hI.kind, hI.at_, hI.bytes]
      rcases hk with hk | hk | hk
      · rw [hk]
        have := ha hk
        rw [this]
        simp
      · rw [hk]
        simp
      · rw [hk]
        simp
    · rw [if_neg en, if_neg en]
  rw [e]
  exact key
theorem after_cons (W : Nm → Option (List UInt8)) (c : Ch) (cs : List Ch) (hn : c.name ∉ namesOf cs) : afterV (fun n => if n = c.name then c.out (W n) else W n) cs = afterV W (c :: cs) := by
  funext n
  by_cases e : n = c.name
  · subst e
    rw [after_none hn, if_pos rfl]
    unfold afterV
    rw [List.find?_cons]
    simp
  · unfold afterV
    rw [List.find?_cons]
    have e' : (c.name == n) = false := by
      rw [beq_eq_false_iff_ne]
      exact fun h => e h.symm
    rw [e']
    simp only [if_neg e]
theorem PRep.all : ∀ (xs : List OpA) {W : Nm → Option (List UInt8)} {l : List (Nm × Nm)}, PRep W l → (∀ x ∈ xs, Is x (chOf x)) → (namesOf (xs.map chOf)).Nodup → (∀ c ∈ xs.map chOf, c.kind = 1 ∨ c.kind = 2 ∨ c.kind = 3) → (∀ c ∈ xs.map chOf, c.kind = 1 → c.at_ = ((W c.name).getD []).length) → PRep (afterV W (xs.map chOf)) (doAll l xs)
  | [], _, _, h, _, _, _, _ => h
  | x :: xs, W, l, h, hI, hn, hk, ha => by
    obtain ⟨n1, n2⟩ := List.nodup_cons.1 hn
    have h1 := h.one (hI x (by simp)) (hk (chOf x) (by simp)) (ha (chOf x) (by simp))
    have h2 := PRep.all xs h1 (fun y hy => hI y (by simp [hy])) n2 (fun d hd => hk d (List.mem_cons_of_mem _ hd)) (fun d hd e => by
      have hne : d.name ≠ (chOf x).name := fun e => n1 (by rw [← e]; exact List.mem_map.2 ⟨d, hd, rfl⟩)
      rw [ha d (List.mem_cons_of_mem _ hd) e]
      simp only [if_neg hne])
    rw [after_cons W (chOf x) (xs.map chOf) n1] at h2
    exact h2
theorem PRep.change {V : Nm → Option (List UInt8)} {l : List (Nm × Nm)} {xs : List OpA} (h : PRep V l) (hI : ∀ x ∈ xs, Is x (chOf x)) (hf : Fits V (xs.map chOf) redoN) : PRep (afterV V (xs.map chOf)) (doAll l xs) :=
  PRep.all xs h hI hf.nodup hf.kinds hf.at_
theorem ins_len (name b : Nm) : ∀ (put : Bool) (l : List (Nm × Nm)), (ins name b put l).length ≤ l.length + 1
  | put, [] => by cases put <;> simp [ins]
  | put, p :: l => by
    by_cases hp : (put || decide (name ≤ p.1)) = true
    · unfold ins
      rw [hp, ins_true]
      have h1 : (l.filter (fun p => !(p.1 == name))).length ≤ l.length := List.length_filter_le _ _
      simp only [List.length_append, List.length_cons]
      split <;> split <;> simp <;> omega
    · have e := Bool.eq_false_iff.2 hp
      have h2 := ins_len name b false l
      obtain ⟨e1, e2⟩ := Bool.or_eq_false_iff.1 e
      unfold ins
      rw [e, e1, e2]
      have h3 : (if (p.1 == name) = true then ([] : List (Nm × Nm)) else [p]).length ≤ 1 := by split <;> simp
      have h4 : (if (!false && false) = true then [(name, b)] else ([] : List (Nm × Nm))).length = 0 := rfl
      rw [List.length_append, List.length_append, h4, List.length_cons]
      omega
theorem doAll_len : ∀ (xs : List OpA) (l : List (Nm × Nm)), (doAll l xs).length ≤ l.length + xs.length
  | [], l => Nat.le_refl _
  | x :: xs, l => by
    have h1 := doAll_len xs (doOne x l)
    have h2 : (doOne x l).length ≤ l.length + 1 := ins_len _ _ _ _
    show (doAll (doOne x l) xs).length ≤ _
    simp only [List.length_cons]
    omega
end Go.Proofs.YthhnlkbjpahjeaaGreatDoor

end
section
namespace Go.Proofs.YthhnlkbjpahjeaaGreatDoor
open Go.RowKit Go.Maps
def PD.empty : PD := ⟨fun _ => none, fun _ => none, [], fun _ => [], none⟩
theorem nmF_empty (n : Nm) : nmF (.map []) n = none := by
  unfold nmF
  show fileAt (DataW.nil : DataW Unit) = none
  unfold fileAt
  rw [dif_neg]
  rintro ⟨b, e⟩
  cases e
theorem OK.new {w0 w : World} {d : Nat} {ρ : Nat → Option Role} {q : Int} (h : DK w0 w d ρ (emptySt q)) (h0 : 0 ≤ q) (h1 : q ≤ 1073741824) (Al : List Nm) (B : Nm → Nat) : OK w0 w d ρ (emptySt q) PD.empty Al B 0 0 := by
  have hnm : (fun _ => Option.none : Nm → Option Nat) = nmF (.map []) := (funext nmF_empty).symm
  have hat : ∀ (kl : Lit) (b : Nat), (DataW.map [] : DataW Unit).atKey kl .nil = pd b → False := fun kl b e => by cases e
  refine ⟨h, ⟨⟨[], rfl⟩, ⟨[], rfl⟩, hnm, hnm, rfl, (fun b fa e => by cases e), .inl ⟨rfl, rfl, (fun b fa e => by cases e)⟩⟩, ?_, ⟨fun _ => [], ?_⟩⟩
  · exact ⟨Nat.le_refl _, Nat.le_refl _, Int.le_refl _, Int.le_refl _, Int.le_refl _, Int.le_refl _, Int.le_refl _, Int.le_refl _, (fun b fa e => by cases e), (fun b fa e => by cases e), (fun p e => by cases e), (fun p e => by cases e), (fun x e => by cases e), (fun kl b e => (hat kl b e).elim), (fun n f e => by cases e), rfl, (show (-1 : Int) ≤ 9223372036854775807 by decide), h0, h1⟩
  · exact ⟨(fun b fa e => by cases e), (fun n b e => by rw [show (emptySt q).D = .map [] from rfl, nmF_empty] at e; cases e), (fun n b e => by rw [show (emptySt q).Ds = .map [] from rfl, nmF_empty] at e; cases e), (fun n b e => by cases e), (fun o e => by cases e)⟩
section
variable {w0 w : World} {d : Nat} {ρ : Nat → Option Role} {a : Nat → Addr} {Al : List Nm} {B : Nm → Nat} {q : Int}
set_option maxHeartbeats 1000000 in
theorem format_lo (hE : Errs w0 a) (hl : Lim Al B) (hr : redoN ∈ Al) (h : DK w0 w d ρ (emptySt q)) (h0 : 0 ≤ q) (h1 : q ≤ 1073741824) :
    Calls Tryz.prog 7 #[pv d] w fun e w' => e = .returned (.tuple #[pv w.heap.size, .nilIface]) ∧ ∃ ρ' s p, LO w0 w' w.heap.size d false ρ' s p Al B 2 1 ∧ Calm (fun _ => none) redoN [] p ∧ p.op = none ∧ s.off = false ∧ s.quota = q ∧ s.armed < 0 := by
  refine format_via w d a (fun w' => ∃ ρ' s p, LO w0 w' w.heap.size d false ρ' s p Al B 2 1 ∧ Calm (fun _ => none) redoN [] p ∧ p.op = none ∧ s.off = false ∧ s.quota = q ∧ s.armed < 0) ?_
  intro g w1 hb1 hl1 hlg hg1 _ hkg
  have hd1 := h.then hb1
  have O1 := OK.new hd1 h0 h1 Al B
  have L1 : LG w0 w1 w.heap.size d false ρ (emptySt q) := ⟨hd1, hl1, h.free (Nat.le_refl _), h.below.size⟩
  have rg : ρ g = none := h.free (by omega)
  refine RunsG.step _ _ (by intros; kernel_rfl) ?_
  refine (makeLog_via w1 w.heap.size d false (fun v w2 => v = .nilIface ∧ ∃ ρ2 s2 f, OK w0 w2 d ρ2 s2 (PD.empty.create redoN f) Al B 1 1 ∧ Turn w1 w2 ρ ρ2 ∧ s2.off = false ∧ s2.quota = q ∧ s2.armed = -1) hl1 ?_).mono ?_
  · refine (create_step hE hl O1 rfl (by decide) (by decide) hr rfl rfl).mono ?_
    rintro e w2 (⟨rfl, ρ2, s2, p2, ⟨f, _, rfl⟩, ok2, ht2, e1, e2, e3⟩ | ⟨_, _, _, _, _, e, _⟩)
    · exact ⟨_, rfl, rfl, ρ2, s2, f, ok2, ht2, e1, e2, e3⟩
    · cases e
  rintro e w2 ⟨_, rfl, rfl, ρ2, s2, f, ok2, ht2, e1, e2, e3⟩
  have k2 := ht2.blk hkg rg
  have rg2 := ht2.off hkg.lt rg
  refine .inl ⟨rfl, runs_blk hkg k2, ?_⟩
  have L2 := L1.turn ok2.dk ht2
  refine RunsG.step _ _ (by intros; kernel_rfl) ?_
  refine (syncDir_step hE hl ok2 e1 (by decide) rfl).mono ?_
  rintro e w3 (⟨rfl, ρ3, s3, p3, rfl, ok3, ht3, f1, f2, f3⟩ | ⟨_, _, _, _, _, e, _⟩)
  · refine .inl ⟨rfl, runs_blk k2 (ht3.blk k2 rg2), rfl, ρ3, s3, _, ⟨L2.turn ok3.dk ht3, ok3.mono (by decide) (by decide)⟩, ?_, rfl, f1, f2.trans e2, ?_⟩
    · refine ⟨⟨fun _ => redoN, fun n b hn => ?_⟩, rfl, rfl, ⟨f, ?_, ?_, (fun o e => by cases e)⟩, fun n hn => ?_⟩
      · have hn : (if n = redoN then some f else none) = some b := hn
        by_cases e : n = redoN
        · exact e.symm
        · rw [if_neg e] at hn
          cases hn
      · show (if redoN = redoN then some f else none) = some f
        exact if_pos rfl
      · exact upd_at _ _ _
      · show ((if n = redoN then some f else none : Option Nat)).map _ = none
        rw [if_neg hn]
        rfl
    · rw [f3, e3]
      decide
  · rw [e3] at e
    cases e
theorem arm_lo {s : St} {p : PD} {k j : Nat} (h : OK w0 w d ρ s p Al B k j) {n : Int} (hn : n ≤ 9223372036854775807) :
    Calls Tryz.prog 12 #[pv d, .int .i64 n] w fun e w' => e = .returned (.tuple #[]) ∧ OK w0 w' d ρ { s with armed := n } p Al B k j ∧ Turn w w' ρ ρ := by
  refine (arm_any w0 w d ρ s h.dk n).mono ?_
  rintro e w' ⟨rfl, hd, ht⟩
  exact ⟨rfl, ⟨hd, ⟨h.rel.isD, h.rel.isDs, h.rel.nm, h.rel.sn, h.rel.ns, h.rel.by_, h.rel.op⟩, h.bd.armed hn, h.ow.imp fun _ ho => ⟨ho.len, ho.D, ho.Ds, ho.nl, ho.op⟩⟩, ht⟩
end
end Go.Proofs.YthhnlkbjpahjeaaGreatDoor

end
