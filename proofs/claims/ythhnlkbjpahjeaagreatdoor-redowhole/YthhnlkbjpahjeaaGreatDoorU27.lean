/- The disk's calls, each done or cut by the power, over the plain disk. -/
/- What a change asks of the log's files ahead of it. -/
import Derived.Test.YthhnlkbjpahjeaaGreatDoorU26
import Derived.Test.YthhnlkbjpahjeaaGreatDoorU21
section
namespace Go.Proofs.YthhnlkbjpahjeaaGreatDoor
open Go.RowKit Go.Maps
section
variable {B : Nm → Nat} {s : St} {p : PD} {own : Nat → Nm}
theorem Ow.gone (h : Ow B s p own) : Ow B s.gone p own := ⟨h.len, h.D, h.Ds, h.nl, h.op⟩
theorem Ow.made (h : Ow B s p own) (hD : IsMap s.D) (hop : p.op = none) {name : Nm} {f : Nat} (hfr : Fresh p f) (hr : Rel s p) : Ow B (s.madeG name f) (p.create name f) (fun b => if b = f then name else own b) := by
  have hne : ∀ n b, nmF s.D n = some b → b ≠ f := fun n b hb e => hfr.nm n (by rw [hr.nm, ← e]; exact hb)
  have hns : ∀ n b, nmF s.Ds n = some b → b ≠ f := fun n b hb e => hfr.sn n (by rw [hr.sn, ← e]; exact hb)
  have hnl : ∀ n b, NA.mk n b ∈ s.nl → b ≠ f := fun n b hb e => hfr.ns n (by rw [hr.ns, ← e]; exact List.mem_map.2 ⟨_, hb, rfl⟩)
  refine ⟨?_, ?_, ?_, ?_, ?_⟩
  · intro b fa hb
    change (if b = f then some (⟨s.created, [], []⟩ : FA) else s.φ b) = some fa at hb
    show fa.bytes.length ≤ B (if b = f then name else own b)
    by_cases e : b = f
    · rw [if_pos e] at hb
      cases hb
      simp
    · rw [if_neg e] at hb ⊢
      exact h.len b fa hb
  · intro n b hb
    show (if b = f then name else own b) = n
    change nmF (s.D.put (.string name) (pd f)) n = some b at hb
    rw [nmF_put hD] at hb
    change (if n = name then some f else nmF s.D n) = some b at hb
    by_cases e : n = name
    · rw [if_pos e] at hb
      cases hb
      rw [if_pos rfl, e]
    · rw [if_neg e] at hb
      rw [if_neg (hne n b hb)]
      exact h.D n b hb
  · intro n b hb
    show (if b = f then name else own b) = n
    rw [if_neg (hns n b hb)]
    exact h.Ds n b hb
  · intro n b hb
    show (if b = f then name else own b) = n
    rcases List.mem_append.1 (show NA.mk n b ∈ s.nl ++ [NA.mk name f] from hb) with hb | hb
    · rw [if_neg (hnl n b hb)]
      exact h.nl n b hb
    · cases List.mem_singleton.1 hb
      rw [if_pos rfl]
  · intro o ho
    change p.op = some o at ho
    rw [hop] at ho
    cases ho
theorem Ow.removed (h : Ow B s p own) {name : Nm} : Ow B (s.removedG name) (p.remove name) own := by
  refine ⟨h.len, ?_, h.Ds, ?_, h.op⟩
  · intro n b hb
    change nmF (s.D.del (.string name)) n = some b at hb
    rw [nmF_del] at hb
    change (if n = name then none else nmF s.D n) = some b at hb
    by_cases e : n = name
    · rw [if_pos e] at hb; cases hb
    · rw [if_neg e] at hb
      exact h.D n b hb
  · intro n b hb
    rcases List.mem_append.1 (show NA.mk n b ∈ s.nl ++ [NA.rm name] from hb) with hb | hb
    · exact h.nl n b hb
    · cases List.mem_singleton.1 hb
theorem Ow.withF (h : Ow B s p own) {b : Nat} {fa : FA} (hx : fa.bytes.length ≤ B (own b)) : ∀ c fa', (s.withF b fa).φ c = some fa' → fa'.bytes.length ≤ B (own c) := by
  intro c fa' hc
  by_cases e : c = b
  · subst e
    rw [withF_at] at hc
    cases hc
    exact hx
  · rw [withF_other s _ e] at hc
    exact h.len c fa' hc
theorem Ow.put (h : Ow B s p own) {b : Nat} {fa : FA} (hb : p.by_ b = fa.bytes) {news : List UInt8} (hx : fa.bytes.length + news.length ≤ B (own b)) (hop : ∀ o, p.op = some o → o.b = b) : Ow B (s.putG b fa news) (p.fill b news) own := by
  refine ⟨h.withF (fa := ⟨fa.num, fa.bytes ++ news, fa.opn ++ [SA.put fa.bytes.length news.length]⟩) (by simpa using hx), h.D, h.Ds, h.nl, ?_⟩
  intro o ho c hc
  have ho' : (⟨b, p.by_ b, p.op.bind OF.alt, news⟩ : OF) = o := Option.some.inj ho
  subst ho'
  rcases hc with hc | ⟨m, hc⟩
  · cases e : p.op with
    | none => rw [e] at hc; cases hc
    | some o' =>
      rw [e] at hc
      have := h.op o' e c (.inl hc)
      rw [hop o' e] at this
      exact this
  · have hc' : c = fa.bytes ++ news.take m := by rw [hc, hb]
    rw [hc', List.length_append, List.length_take]
    show _ ≤ B (own b)
    omega
theorem Ow.cut (h : Ow B s p own) {b : Nat} {fa : FA} (hφ : s.φ b = some fa) (hb : p.by_ b = fa.bytes) (m : Nat) : Ow B (s.cutNG b fa m) (p.cut b m) own := by
  have hl := h.len b fa hφ
  refine ⟨h.withF (fa := ⟨fa.num, fa.bytes.take m, fa.opn ++ [SA.cut (fa.bytes.drop m)]⟩) (by show (fa.bytes.take m).length ≤ _; rw [List.length_take]; omega), h.D, h.Ds, h.nl, ?_⟩
  intro o ho c hc
  have ho' : (⟨b, (p.by_ b).take m, some (p.by_ b), []⟩ : OF) = o := Option.some.inj ho
  subst ho'
  show c.length ≤ B (own b)
  rcases hc with hc | ⟨i, hc⟩
  · have hc' : p.by_ b = c := Option.some.inj hc
    rw [← hc', hb]
    exact hl
  · have hc' : c = fa.bytes.take m := by rw [hc, hb]; simp
    rw [hc', List.length_take]
    omega
theorem Ow.sync (h : Ow B s p own) {b : Nat} {fa : FA} (hφ : s.φ b = some fa) : Ow B (s.syncd b fa) p.sync own :=
  ⟨h.withF (fa := ⟨fa.num, fa.bytes, []⟩) (h.len b fa hφ), h.D, h.Ds, h.nl, fun o ho => by cases ho⟩
theorem Ow.synced (h : Ow B s p own) : Ow B s.syncedG p.syncDir own := ⟨h.len, h.D, h.D, (fun n b hb => by cases hb), h.op⟩
theorem Ow.crash (h : Ow B s p own) (hDs : IsMap s.Ds) {b : Nat} {num : Int} {c : List UInt8} (hc : c.length ≤ B (own b)) (m N : Nat) (c' : List UInt8) : Ow B (s.crashedX b ⟨num, c, []⟩ (apN s.Ds (s.nl.take m)) N) (p.crash m c') own := by
  have hN : ∀ n b, nmF (apN s.Ds (s.nl.take m)) n = some b → own b = n := by
    rw [nmF_apN _ hDs]
    refine apAll_own h.Ds (fun n b hb => ?_)
    obtain ⟨x, hx, ex⟩ := List.mem_map.1 hb
    cases x with
    | mk n' b' =>
      cases ex
      exact h.nl n b (List.mem_of_mem_take hx)
    | rm n' => cases ex
  exact ⟨h.withF (fa := ⟨num, c, []⟩) hc, hN, hN, (fun n b hb => by cases hb), fun o ho => by cases ho⟩
end
/-- Done, or cut by the power. -/
def Out (a : Nat → Addr) (w0 w : World) (d : Nat) (ρ : Nat → Option Role) (s : St) (p : PD) (Al : List Nm) (B : Nm → Nat) (k j : Nat) (Pd : PD → Prop) (k' j' : Nat) (e : Ending) (w' : World) : Prop :=
  (e = .returned .nilIface ∧ ∃ ρ' s' p', Pd p' ∧ OK w0 w' d ρ' s' p' Al B k' j' ∧ Turn w w' ρ ρ' ∧ s'.off = false ∧ s'.quota = s.quota ∧ s'.armed = dec s.armed) ∨
    (e = .returned (errV a 7) ∧ ∃ s', OK w0 w' d ρ s' p Al B k j ∧ s'.off = true ∧ s'.quota = s.quota ∧ s.armed = 0 ∧ Turn w w' ρ ρ)
section
variable {a : Nat → Addr} {w0 w w' : World} {d : Nat} {ρ : Nat → Option Role} {s : St} {p : PD} {Al : List Nm} {B : Nm → Nat} {k j : Nat}
theorem OK.gone (h : OK w0 w d ρ s p Al B k j) (hd : DK w0 w' d ρ s.gone) : OK w0 w' d ρ s.gone p Al B k j := ⟨hd, h.rel.gone, h.bd.gone, h.ow.imp fun _ ho => ho.gone⟩
theorem create_step (hE : Errs w0 a) (hl : Lim Al B) (h : OK w0 w d ρ s p Al B k j) (hoff : s.off = false) (hk : k ≤ 20000) (hj : j ≤ 1000) {n : Nm} (hn : n ∈ Al) (hb : p.nm n = none) (hop : p.op = none) :
    Calls Tryz.prog 36 #[pv d, .string ⟨n.toArray⟩] w (Out a w0 w d ρ s p Al B k j (fun p' => ∃ f, Fresh p f ∧ p' = p.create n f) (k + 1) (j + 1)) := by
  have hu := h.used hl
  have hat := h.none hb
  by_cases ha : s.armed = 0
  · refine (create_goneB w0 w d ρ s a hE h.dk hoff ha hu.2 n (hl.nm n hn) hat).mono ?_
    rintro e w' ⟨rfl, hd, ht⟩
    exact .inr ⟨rfl, _, h.gone hd, rfl, rfl, ha, ht⟩
  · have h1 := h.bd.N
    have h2 := h.bd.ns
    have h4 := h.bd.s1
    have h6 := h.bd.c1
    have h7 := h.bd.o0
    have h8 := h.bd.o1
    refine (create_okB w0 w d ρ s a hE h.dk hoff ha h.bd.arm h.bd.s0 (by omega) (by omega) (by omega) h.bd.c0 (by omega) (by omega) hu.2 (by omega) n (hl.nm n hn) hat).mono ?_
    rintro e w' ⟨rfl, ρ', f, hd, ht, hf⟩
    obtain ⟨_, hfr⟩ := h.fresh hf
    obtain ⟨own, ho⟩ := h.ow
    exact .inl ⟨rfl, ρ', _, _, ⟨f, hfr, rfl⟩, ⟨hd, h.rel.made hop n f, h.bd.made h.rel.isD hn, _, ho.made h.rel.isD hop hfr h.rel⟩, ht, hoff, rfl, rfl⟩
theorem remove_step (hE : Errs w0 a) (hl : Lim Al B) (h : OK w0 w d ρ s p Al B k j) (hoff : s.off = false) (hk : k ≤ 20000) (hj : j ≤ 1000) {n : Nm} {b : Nat} (hb : p.nm n = some b) :
    Calls Tryz.prog 112 #[pv d, .string ⟨n.toArray⟩] w (Out a w0 w d ρ s p Al B k j (fun p' => p' = p.remove n) (k + 1) (j + 1)) := by
  have hn := h.names hb
  obtain ⟨hat, _⟩ := h.at hb
  by_cases ha : s.armed = 0
  · refine (remove_gone w0 w d ρ s a hE h.dk hoff ha n (hl.nm n hn) b hat).mono ?_
    rintro e w' ⟨rfl, hd, ht⟩
    exact .inr ⟨rfl, _, h.gone hd, rfl, rfl, ha, ht⟩
  · have h2 := h.bd.ns
    refine (remove_okG w0 w d ρ s h.dk (h.small hl hk hoff ha) (by omega) n (hl.nm n hn) b hat).mono ?_
    rintro e w' ⟨rfl, ρ', hd, ht, _⟩
    exact .inl ⟨rfl, ρ', _, _, rfl, ⟨hd, h.rel.removed n, h.bd.removed h.rel.isD hn, h.ow.imp fun _ ho => ho.removed⟩, ht, hoff, rfl, rfl⟩
theorem append_step (hE : Errs w0 a) (hl : Lim Al B) (h : OK w0 w d ρ s p Al B k j) (hoff : s.off = false) (hk : k ≤ 20000) {n : Nm} {b : Nat} (hb : p.nm n = some b) (hop : p.op = none ∨ ∃ o, p.op = some o ∧ o.b = b ∧ o.add = [] ∧ ∃ gone, o.alt = some (o.pre ++ gone)) {x : Value} {news : List UInt8} (hne : news ≠ []) (hx : BR w x news) (hxr : ∀ A n c, x = .slice (some A) n c → ρ A.block = none) (hlen : (p.by_ b).length + news.length ≤ B n) (hroom : 700000 ≤ s.quota) :
    Calls Tryz.prog 49 #[pv d, .string ⟨n.toArray⟩, x] w (Out a w0 w d ρ s p Al B k j (fun p' => p' = p.fill b news) (k + 1) j) := by
  have hn := h.names hb
  obtain ⟨hat, fa, hφ, hby⟩ := h.at hb
  obtain ⟨own, ho⟩ := h.ow
  have hu := (h.used hl).1
  have hBn := hl.b n
  have hown : own b = n := ho.D n b (by rw [← h.rel.nm]; exact hb)
  rw [hby] at hlen
  have hrm : (news.length : Int) ≤ s.quota - usedOf s := by omega
  by_cases ha : s.armed = 0
  · refine (append_gone w0 w d ρ s a hE h.dk hoff ha h.bd.q0 h.bd.q1 (by omega) n (hl.nm n hn) b hat x news hx hrm).mono ?_
    rintro e w' ⟨rfl, hd, ht⟩
    exact .inr ⟨rfl, _, h.gone hd, rfl, rfl, ha, ht⟩
  · have hfn := h.bd.fn b fa hφ
    have ho1 := h.bd.op b fa hφ
    have h8 := h.bd.o1
    refine (append_okG w0 w d ρ s h.dk (h.small hl hk hoff ha) n (hl.nm n hn) b fa hat hφ hfn.1 (by omega) (by omega) x news hx hxr (by omega) hrm).mono ?_
    rintro e w' ⟨rfl, ρ', hd, ht, _⟩
    refine .inl ⟨rfl, ρ', _, _, rfl, ⟨hd, ?_, h.bd.put hφ (by omega), own, ho.put hby (by rw [hown]; exact hlen) ?_⟩, ht, hoff, rfl, rfl⟩
    · rcases hop with hop | ⟨o, hop, hob, hadd, gone, halt⟩
      · exact h.rel.put hop hφ news
      · obtain ⟨fa', q1, _, q3, _⟩ := h.rel.the hop
        rw [hob, hφ] at q1
        cases q1
        have : ∃ g, fa.opn = [SA.cut g] := by
          obtain ⟨num, bytes, opn⟩ := fa
          simp only at q3 ⊢
          cases q3 with
          | put b' pre x' => cases halt
          | cut b' pre g => exact ⟨g, rfl⟩
          | both b' pre g x' hx' => exact absurd hadd hx'
        obtain ⟨g, hg⟩ := this
        exact h.rel.put2 hφ hop hob hg news hne
    · intro o e
      rcases hop with hop | ⟨o', hop, hob, _⟩
      · rw [hop] at e; cases e
      · rw [hop] at e
        cases e
        exact hob
theorem cut_step (hE : Errs w0 a) (hl : Lim Al B) (h : OK w0 w d ρ s p Al B k j) (hoff : s.off = false) (hk : k ≤ 20000) {n : Nm} {b : Nat} (hb : p.nm n = some b) (hop : p.op = none) {m : Nat} (hm : m ≤ (p.by_ b).length) :
    Calls Tryz.prog 52 #[pv d, .string ⟨n.toArray⟩, .int .i64 m] w (Out a w0 w d ρ s p Al B k j (fun p' => p' = p.cut b m) (k + 1) j) := by
  have hn := h.names hb
  obtain ⟨hat, fa, hφ, hby⟩ := h.at hb
  obtain ⟨own, ho⟩ := h.ow
  rw [hby] at hm
  by_cases ha : s.armed = 0
  · refine (truncate_gone w0 w d ρ s a hE h.dk hoff ha n (hl.nm n hn) b fa hat hφ m hm).mono ?_
    rintro e w' ⟨rfl, hd, ht⟩
    exact .inr ⟨rfl, _, h.gone hd, rfl, rfl, ha, ht⟩
  · have hfn := h.bd.fn b fa hφ
    have ho1 := h.bd.op b fa hφ
    have h8 := h.bd.o1
    refine (truncate_okG w0 w d ρ s h.dk (h.small hl hk hoff ha) n (hl.nm n hn) b fa hat hφ hfn.1 (by omega) (by omega) (by omega) m hm).mono ?_
    rintro e w' ⟨rfl, ρ', hd, ht, _⟩
    exact .inl ⟨rfl, ρ', _, _, rfl, ⟨hd, h.rel.cut hop hφ m, h.bd.cut hφ m, own, ho.cut hφ hby m⟩, ht, hoff, rfl, rfl⟩
theorem OK.others (h : OK w0 w d ρ s p Al B k j) {b : Nat} (ho : ∀ o, p.op = some o → o.b = b) : ∀ c fa', s.φ c = some fa' → c ≠ b → fa'.opn = [] := by
  intro c fa' hc hne
  cases e : p.op with
  | none => exact (h.rel.calm e).2 c fa' hc
  | some o =>
    obtain ⟨_, _, _, _, h4⟩ := h.rel.the e
    exact h4 c fa' hc (by rw [ho o e]; exact hne)
theorem sync_step (hE : Errs w0 a) (hl : Lim Al B) (h : OK w0 w d ρ s p Al B k j) (hoff : s.off = false) (hk : k ≤ 20000) {n : Nm} {b : Nat} (hb : p.nm n = some b) (hop : ∀ o, p.op = some o → o.b = b) :
    Calls Tryz.prog 50 #[pv d, .string ⟨n.toArray⟩] w (Out a w0 w d ρ s p Al B k j (fun p' => p' = p.sync) (k + 1) j) := by
  have hn := h.names hb
  obtain ⟨hat, fa, hφ, hby⟩ := h.at hb
  obtain ⟨own, ho⟩ := h.ow
  by_cases ha : s.armed = 0
  · refine (sync_gone w0 w d ρ s a hE h.dk hoff ha n (hl.nm n hn) b hat).mono ?_
    rintro e w' ⟨rfl, hd, ht⟩
    exact .inr ⟨rfl, _, h.gone hd, rfl, rfl, ha, ht⟩
  · have hfn := h.bd.fn b fa hφ
    have ho1 := h.bd.op b fa hφ
    have h4 := h.bd.s1
    have h8 := h.bd.o1
    refine (sync_ok w0 w d ρ s h.dk hoff ha h.bd.arm h.bd.s0 (by omega) (by omega) n (hl.nm n hn) b fa hat hφ hfn.1 (by omega) (by omega)).mono ?_
    rintro e w' ⟨rfl, hd, ht⟩
    exact .inl ⟨rfl, ρ, _, _, rfl, ⟨hd, h.rel.sync hφ hop, h.bd.sync hφ (h.others hop), own, ho.sync hφ⟩, ht, hoff, rfl, rfl⟩
theorem syncDir_step (hE : Errs w0 a) (hl : Lim Al B) (h : OK w0 w d ρ s p Al B k j) (hoff : s.off = false) (hk : k ≤ 20000) (hop : p.op = none) :
    Calls Tryz.prog 21 #[pv d] w (Out a w0 w d ρ s p Al B k j (fun p' => p' = p.syncDir) (k + 1) 0) := by
  obtain ⟨own, ho⟩ := h.ow
  by_cases ha : s.armed = 0
  · refine (syncDir_gone w0 w d ρ s a hE h.dk hoff ha).mono ?_
    rintro e w' ⟨rfl, hd, ht⟩
    exact .inr ⟨rfl, _, h.gone hd, rfl, rfl, ha, ht⟩
  · refine (syncDir_okG w0 w d ρ s h.dk (h.small hl hk hoff ha) h.bd.o0 (h.rel.calm hop).1).mono ?_
    rintro e w' ⟨rfl, ρ', hd, ht⟩
    exact .inl ⟨rfl, ρ', _, _, rfl, ⟨hd, h.rel.synced hop, h.bd.synced h.vD, own, ho.synced⟩, ht, hoff, rfl, rfl⟩
/-- A loss of power. -/
theorem crash_step (hl : Lim Al B) (h : OK w0 w d ρ s p Al B k j) (hk : k ≤ 20000) (hj : j ≤ 1000) {n0 : Nm} {r : Nat} (hr : p.sn n0 = some r) {A : Option Addr} {n c : Nat} (hkp : Keep w ρ A n c) :
    Calls Tryz.prog 14 #[pv d, .slice A n c] w fun e w' => e = .returned (.tuple #[]) ∧ ∃ m x ρ' s', (∀ o, p.op = some o → o.may x) ∧ OK w0 w' d ρ' s' (p.crash m x) Al B (k + j) 0 ∧ Turn w w' ρ ρ' ∧ s'.off = false ∧ s'.armed = -1 ∧ s'.quota = s.quota := by
  obtain ⟨own, ho⟩ := h.ow
  have h1 := h.bd.N
  have h2 := h.bd.ns
  have h7 := h.bd.o0
  have h8 := h.bd.o1
  have hln : ∀ x ∈ s.nl, x.name.length ≤ 1000000 := fun x hx => by
    have := hl.nm _ (h.bd.enl x hx)
    unfold rightB at this
    simp at this
    omega
  have hv : ∀ m kl b, (apN s.Ds (s.nl.take m)).atKey kl .nil = pd b → (s.φ b).isSome = true := fun m => there_apN (P := fun f => (s.φ f).isSome = true) (s.nl.take m) h.rel.isDs h.bd.vDs (fun n f hf => h.bd.vnl n f (List.mem_of_mem_take hf))
  have he : ∀ m, ∀ q ∈ entriesOf (apN s.Ds (s.nl.take m)), ∃ b, q.2 = pd b := fun m q hq => by
    obtain ⟨_, _, _, hb⟩ := ent_apN (s.nl.take m) h.rel.isDs h.bd.eDs (fun x hx => h.bd.enl x (List.mem_of_mem_take hx)) q hq
    exact hb
  cases hop : p.op with
  | none =>
    obtain ⟨hch, hcalm⟩ := h.rel.calm hop
    rw [h.rel.sn] at hr
    have hsome := h.bd.vDs _ _ (fileAt_some hr)
    cases hf : s.φ r with
    | none => rw [hf] at hsome; cases hsome
    | some fa =>
      have hfo := hcalm r fa hf
      have hfe : fa = ⟨fa.num, fa.bytes, []⟩ := by rw [← hfo]
      refine (crash_calm w0 w d ρ s h.dk h.bd.ls r fa hch hf (by omega) (by omega) hln h7 (by omega) hv he A n c hkp).mono ?_
      rintro e w' ⟨rfl, m, ρ', hm, hd, ht⟩
      refine ⟨rfl, m, [], ρ', _, (fun o e => by cases e), ⟨hd, h.rel.crash_calm hop hf m _ [], ?_, own, ?_⟩, ht, rfl, rfl, rfl⟩
      · have := h.bd.crash h.rel.isDs hf (c := fa.bytes) (h.bd.fn r fa hf).2.2 (fun d' fa' hd' _ => hcalm d' fa' hd') hm
        rw [← hfe] at this
        exact this
      · have := ho.crash h.rel.isDs (b := r) (num := fa.num) (c := fa.bytes) (ho.len r fa hf) m (s.N + m) []
        rw [← hfe] at this
        exact this
  | some o =>
    obtain ⟨fa, hf, hch, hopn, hoth⟩ := h.rel.the hop
    have hs := hopn.some
    have hfn := (h.bd.fn o.b fa hf).2.2
    have hBo := hl.b (own o.b)
    have hcan : canAll fa.opn fa.bytes ∧ ∀ x ∈ fa.opn, x.room ≤ 1000000 := by
      have hmay := ho.op o hop
      obtain ⟨num, bytes, opn⟩ := fa
      simp only at hopn hfn ⊢
      cases hopn with
      | put b pre x =>
        refine ⟨can_all_put, fun y hy => ?_⟩
        rw [List.mem_singleton.1 hy]
        show x.length ≤ 1000000
        simp at hfn
        omega
      | cut b pre g =>
        have := hmay _ (.inl rfl)
        have hb2 := hl.b (own b)
        refine ⟨can_all_cut (by simp at this; omega), fun y hy => ?_⟩
        rw [List.mem_singleton.1 hy]
        exact Nat.zero_le _
      | both b pre g x hx =>
        have := hmay _ (.inl rfl)
        have hb2 := hl.b (own b)
        refine ⟨can_all_cut_put (by simp at this; omega), fun y hy => ?_⟩
        rcases List.mem_cons.1 hy with rfl | hy
        · exact Nat.zero_le _
        · rw [List.mem_singleton.1 hy]
          show x.length ≤ 1000000
          simp at hfn
          omega
    refine (crash_file w0 w d ρ s h.dk h.bd.ls o.b fa hch hf hs.1 (by omega) hcan.1 hcan.2 (by omega) (by omega) hln h7 (by omega) hv he A n c hkp).mono ?_
    rintro e w' ⟨rfl, m, bt, ρ', hm, hmay, hd, ht⟩
    have hmb := hopn.may hmay
    have hbl := ho.op o hop bt hmb
    exact ⟨rfl, m, bt, ρ', _, (fun o' e => by cases e; exact hmb), ⟨hd, h.rel.crash_file hop fa.num m _ bt, h.bd.crash h.rel.isDs hf (by omega) hoth hm, own, ho.crash h.rel.isDs hbl m _ bt⟩, ht, rfl, rfl, rfl⟩
end
end Go.Proofs.YthhnlkbjpahjeaaGreatDoor

end
section
namespace Go.Proofs.YthhnlkbjpahjeaaGreatDoor
open Go.RowKit Go.Maps Go.Sort
/-- A name that no file has, or one's. -/
def Dich (s : St) (name : List UInt8) : Prop := s.D.atKey (.string name) .nil = .nil ∨ ∃ b fa, s.D.atKey (.string name) .nil = pd b ∧ s.φ b = some fa
def szOf (s : St) (name : List UInt8) : Nat := lenD s.φ (s.D.atKey (.string name) .nil)
theorem DK.dich {w0 w : World} {d : Nat} {ρ : Nat → Option Role} {s : St} (h : DK w0 w d ρ s) (name : List UInt8) : Dich s name := by
  obtain ⟨bn, bs, bc, vs, vl, Gs, Gl, cs, h⟩ := h
  have key : s.D.atKey (.string name) .nil = .nil ∨ ∃ b, s.D.atKey (.string name) .nil = pd b := by
    have he := h.eD
    have hm := h.names.isMap
    cases hD : s.D with
    | map es =>
      rw [hD] at he
      unfold DataW.atKey
      cases hf : es.find? (fun p => p.1.sameKey (.string name)) with
      | none => exact .inl (by simp [hf])
      | some p =>
        obtain ⟨b, hb⟩ := he p (List.mem_of_find?_eq_some hf)
        exact .inr ⟨b, by simp [hf, hb]⟩
    | _ => exact absurd hm (by rw [hD]; simp [IsMap])
  rcases key with h1 | ⟨b, hb⟩
  · exact .inl h1
  · obtain ⟨fa, hfa⟩ := Option.isSome_iff_exists.1 (h.vD _ b hb)
    exact .inr ⟨b, fa, hb, hfa⟩
theorem szOf_none {s : St} {name : List UInt8} (h : s.D.atKey (.string name) .nil = .nil) : szOf s name = 0 := by
  unfold szOf
  rw [h]
  rfl
theorem szOf_some {s : St} {name : List UInt8} {b : Nat} {fa : FA} (h : s.D.atKey (.string name) .nil = pd b) (hφ : s.φ b = some fa) : szOf s name = fa.bytes.length := by
  unfold szOf
  rw [h, lenD_pd hφ]
section
variable (w0 w : World) (l d : Nat) (dead : Bool) (ρ : Nat → Option Role) (s : St) (a : Nat → Addr)
set_option maxRecDepth 8000 in
set_option maxHeartbeats 2000000 in
theorem csize_any (hE : Errs w0 a) (h : LG w0 w l d dead ρ s) (hoff : s.off = false) (vo vr : Value) (name : List UInt8) (hr : rightB name = true) :
    Calls Tryz.prog 77 #[.agg #[pv l, vo, vr], .string ⟨name.toArray⟩] w fun e w' => e = .returned (.int .i64 (szOf s name)) ∧ Below w.heap.size w w' := by
  obtain ⟨W, hW⟩ : ∃ W, Hid (W = w.alloc (.cells #[pv l, vo, vr] 65)) := ⟨_, rfl⟩
  have hb : Below w.heap.size w W := by rw [hW.out]; exact (Below.refl _ _).alloc (Nat.le_refl _) _
  have hL := h.then hb
  have hcl := h.lb.cell
  have hll := h.lb.lt
  have HB := hide hb
  rcases h.dk.dich name with hn | ⟨b, fa, hb', hφ⟩
  · rw [szOf_none hn]
    have HS := hide (size_none w0 W d ρ s a hE hL.dk hoff name hr hn)
    clear hL h hb
    unfold pv errV at *
    go_enter Tryz.func77, Tryz.ntmps77
    go_wp2_with (first | (go_at_call 108; rw [← hW.out]; refine HS.out.mono ?_; rintro e w' ⟨rfl, m, rfl⟩))
    go_ret
    exact ⟨rfl, HB.out.trans ((below_drewN _ _).mono HB.out.size)⟩
  · rw [szOf_some hb' hφ]
    have HS := hide (size_there w0 W d ρ s hL.dk hoff name hr b fa hb' hφ)
    clear hL h hb
    unfold pv at *
    go_enter Tryz.func77, Tryz.ntmps77
    go_wp2_with (first | (go_at_call 108; rw [← hW.out]; refine HS.out.mono ?_; rintro e w' ⟨rfl, rfl⟩))
    go_ret
    exact ⟨rfl, HB.out⟩
def misB (s : St) (x : OpA) : Bool := x.kind == 1 && x.at_ != (szOf s x.name : Int)
set_option maxRecDepth 8000 in
set_option maxHeartbeats 2000000 in
theorem misplaced_any (hE : Errs w0 a) (h : LG w0 w l d dead ρ s) (hoff : s.off = false) (vo vr : Value) (x : OpA) (hr : rightB x.name = true) :
    Calls Tryz.prog 44 #[.agg #[pv l, vo, vr], .agg x.cells] w fun e w' => e = .returned (.bool (misB s x)) ∧ Below w.heap.size w w' := by
  obtain ⟨W, hW⟩ : ∃ W, Hid (W = (w.alloc (.cells #[pv l, vo, vr] 65)).alloc (.cells x.cells 48)) := ⟨_, rfl⟩
  have hb : Below w.heap.size w W := by rw [hW.out]; exact ((Below.refl _ _).alloc (Nat.le_refl _) _).alloc (by simp) _
  have k0 : Blk W w.heap.size #[pv l, vo, vr] 65 := by rw [hW.out]; exact (Blk.new _ _ _).alloc _
  have k1 : Blk W (w.heap.size + 1) x.cells 48 := by rw [hW.out]; exact Blk.new1 _ _ _ _
  have HS := hide (fun u : Ext W => csize_any w0 u.w l d dead ρ s a hE ((h.then hb).then u.ok) hoff vo vr x.name hr)
  have HB := hide hb
  obtain ⟨R, hR⟩ : ∃ R, Hid (R = misB s x) := ⟨_, rfl⟩
  rw [← hR.out]
  have hR' := hR.out
  unfold misB at hR'
  obtain ⟨kd, nm, att, vl, bs⟩ := x
  unfold OpA.cells at *
  simp only at hR' HS k1 hW ⊢
  have c0 := k0.cell
  have c1 := k1.cell
  have l0 := k0.lt
  have l1 := k1.lt
  have hns := ext_some W
  have hce := ext_cell W
  generalize szOf s nm = z at hR' HS
  clear k0 k1 h hb hR
  unfold pv at *
  go_enter Tryz.func44, Tryz.ntmps44
  go_wp2_with fail
  rw [← hW.out]
  cases hk : (kd == 1) with
  | true =>
    rw [hk, Bool.true_and] at hR'
    replace hR' := hide hR'
    refine wp_region_ext (by kernel_rfl) (by kernel_rfl) ?_
    repeat (go_big_quiet_step (first | (go_at_call 77; exact ext_call (HS.out _))))
    refine wpQuiet_nil ?_
    rintro w1 ⟨⟨_, hb1⟩, rfl⟩
    go_wp2
    go_ret
    refine ⟨?_, HB.out.trans (hb1.mono HB.out.size)⟩
    rw [hR'.out]
    rfl
  | false =>
    rw [hk, Bool.false_and] at hR'
    replace hR' := hide hR'
    refine wp_region_ext (by kernel_rfl) (by kernel_rfl) ?_
    repeat (go_big_quiet_step (first | (go_at_call 77; exact ext_call (HS.out _))))
    refine wpQuiet_nil ?_
    rintro w1 ⟨⟨_, hb1⟩, rfl⟩
    go_wp2
    go_ret
    refine ⟨?_, HB.out.trans (hb1.mono HB.out.size)⟩
    rw [hR'.out]
    rfl
end
end Go.Proofs.YthhnlkbjpahjeaaGreatDoor

end
