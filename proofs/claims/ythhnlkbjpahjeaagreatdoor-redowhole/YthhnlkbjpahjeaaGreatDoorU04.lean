/- A disk: New, SetQuota, Steps, the count of steps, and how a name's file is found. -/
/- A disk: one part of it turns, the others stay. -/
/- A disk: Create. -/
import Derived.Test.YthhnlkbjpahjeaaGreatDoorU03
import Derived.BigQuiet
import Derived.LaidEql
section
namespace Go.Proofs.YthhnlkbjpahjeaaGreatDoor
open Go.RowKit Go.Maps
theorem strKeyed : Keyed Tryz.prog 9 := string_keyed Tryz.underlying9
theorem intKeyed : Keyed Tryz.prog 3 := int_keyed Tryz.underlying3
theorem zeroPtr (w : World) : (zeroValue 72).run Tryz.prog w = .ok (.pointer none) w := by kernel_rfl
theorem keyStr (l : List UInt8) (h : l.length ≤ 1000000000) : keyOf Tryz.prog 9 (.string ⟨l.toArray⟩) = some (.string l) := by
  have := WideMaps.keyOf_string_mk (P := Tryz.prog) (k := 9) (s := ⟨l.toArray⟩) Tryz.underlying9 (by show l.toArray.size ≤ maxLen; simp [maxLen]; omega)
  simpa using this
set_option maxHeartbeats 1000000 in
theorem setQuota_ok (w : World) (d : Nat) (v0 v1 v2 v3 v4 v5 v6 v7 v8 v9 v10 : Value) (q : Int) (hk : Blk w d #[v0, v1, v2, v3, v4, v5, v6, v7, v8, v9, v10] 56) (h0 : 0 ≤ q) (h1 : q ≤ 1073741824) :
    Calls Tryz.prog 18 #[pv d, .int .i64 q] w fun e w' => e = .returned .nilIface ∧ w' = w.setCell ⟨d, 10, none⟩ (.int .i64 q) := by
  have hc := hk.cell
  have hf := hk.frozen
  have g0 : decide (q < 0) = false := decide_eq_false (by omega)
  have g1 : decide (1073741824 < q) = false := decide_eq_false (by omega)
  have g2 : ¬ q < 0 := by omega
  clear hk h1
  unfold pv
  go_enter Tryz.func18, Tryz.ntmps18
  go_wp2
  go_ret
  exact ⟨rfl, rfl⟩
def emptySt (q : Int) : St := ⟨.map [], .map [], .map [], 0, [], [], fun _ => none, 0, 0, 0, -1, false, q, 0⟩
def newRole (n : Nat) (k : Nat) : Option Role := if k = n then some .names else if k = n + 1 then some .sure else if k = n + 2 then some .changed else if k = n + 3 then some .disk else none
set_option maxHeartbeats 1000000 in
theorem new_any (w0 w : World) (q : Int) (h0 : 0 ≤ q) (h1 : q ≤ 1073741824) (hb : Below w0.heap.size w0 w) :
    Calls Tryz.prog 6 #[.int .i64 q] w fun e w' => e = .returned (.tuple #[pv (w.heap.size + 3), .nilIface]) ∧ Below w.heap.size w w' ∧ DK w0 w' (w.heap.size + 3) (newRole w.heap.size) (emptySt q) := by
  have hmm := @run_makeMap Tryz.prog
  have HB := hide hb
  clear hb
  go_enter Tryz.func6, Tryz.ntmps6
  go_wp2_with fail
  have HK := Blk.new (((w.alloc (.map #[] 0)).alloc (.map #[] 0)).alloc (.map #[] 0)) #[.map (some w.heap.size), .map (some (w.heap.size + 1)), .slice none 0 0, .map (some (w.heap.size + 1 + 1)), .slice none 0 0, .int .i64 0, .int .i64 0, .int .i64 0, .int .i64 (-1), .bool false, .int .i64 0] 56
  simp only [World.size_alloc] at HK
  refine (setQuota_ok _ _ _ _ _ _ _ _ _ _ _ _ _ q HK h0 h1).mono ?_
  rintro e w1 ⟨rfl, hw1⟩
  replace hw1 := hide hw1
  replace HK := hide HK
  go_wp2
  go_ret2
  replace HK := HK.out
  obtain rfl := hw1.out
  clear hw1
  have hbl : Below w.heap.size w (((((w.alloc (.map #[] 0)).alloc (.map #[] 0)).alloc (.map #[] 0)).alloc (.cells #[.map (some w.heap.size), .map (some (w.heap.size + 1)), .slice none 0 0, .map (some (w.heap.size + 1 + 1)), .slice none 0 0, .int .i64 0, .int .i64 0, .int .i64 0, .int .i64 (-1), .bool false, .int .i64 0] 56)).setCell ⟨w.heap.size + 1 + 1 + 1, 10, none⟩ (.int .i64 q)) := by
    have h := (((((Below.refl w.heap.size w).alloc (Nat.le_refl _) (.map #[] 0)).alloc (by simp) (.map #[] 0)).alloc (by simp; omega) (.map #[] 0)).alloc (by simp; omega) (.cells #[.map (some w.heap.size), .map (some (w.heap.size + 1)), .slice none 0 0, .map (some (w.heap.size + 1 + 1)), .slice none 0 0, .int .i64 0, .int .i64 0, .int .i64 0, .int .i64 (-1), .bool false, .int .i64 0] 56))
    exact below_mvs h ((Mvs.refl (fun k => k = w.heap.size + 1 + 1 + 1) _).setCell _ _ (fun _ => rfl)) (fun k hk e => by omega) (Nat.le_refl _)
  refine ⟨rfl, hbl, w.heap.size, w.heap.size + 1, w.heap.size + 2, .slice none 0 0, .slice none 0 0, none, none, [], ?_⟩
  have hB := HB.out
  have hsz := hB.size
  have n1 : ((w.alloc (.map #[] 0)).heap.size) = w.heap.size + 1 := by simp
  have n2 : (((w.alloc (.map #[] 0)).alloc (.map #[] 0)).heap.size) = w.heap.size + 2 := by simp
  have r3 : newRole w.heap.size (w.heap.size + 3) = some .disk := by simp [newRole]
  have r0 : newRole w.heap.size w.heap.size = some .names := by simp [newRole]
  have r1 : newRole w.heap.size (w.heap.size + 1) = some .sure := by simp [newRole]
  have r2 : newRole w.heap.size (w.heap.size + 2) = some .changed := by simp [newRole]
  have m0 := World.ownsMap_made w Tryz.prog 9 ptrElem
  have m1 := World.ownsMap_made (w.alloc (.map #[] 0)) Tryz.prog 9 ptrElem
  have m2 := World.ownsMap_made ((w.alloc (.map #[] 0)).alloc (.map #[] 0)) Tryz.prog 3 ptrElem
  rw [n1] at m1
  rw [n2] at m2
  exact {
    below := hB.trans (hbl.mono hsz)
    low := fun k r hr => by
      unfold newRole at hr
      simp
      split at hr
      · omega
      · split at hr
        · omega
        · split at hr
          · omega
          · split at hr
            · omega
            · cases hr
    blk := HK.set 10 _
    rd := r3
    rn := r0
    rs := r1
    rc := r2
    names := (((m0.alloc _).alloc _).alloc _).setCell (by simp; omega) _
    sure := ((m1.alloc _).alloc _).setCell (by simp) _
    chg := (m2.alloc _).setCell (by simp) _
    row := Rw.nil _ _
    rsteps := fun _ h => by cases h
    lost := Rw.nil _ _
    rlost := fun _ h => by cases h
    files := fun _ _ h => by cases h
    vD := fun kl b h => by simp [emptySt, DataW.atKey, pd] at h
    eD := fun _ h => by cases h
    nsr := trivial }

section
variable (w0 w : World) (d : Nat) (ρ : Nat → Option Role) (s : St)
set_option maxHeartbeats 1000000 in
/-- A name that is there. -/
theorem find_there (h : DK w0 w d ρ s) (hoff : s.off = false) (name : List UInt8) (hr : rightB name = true) (f : Nat) (hf : s.D.atKey (.string name) .nil = pd f) :
    Calls Tryz.prog 63 #[pv d, .string ⟨name.toArray⟩] w fun e w' => e = .returned (.tuple #[pv f, .nilIface]) ∧ w' = w := by
  obtain ⟨bn, bs, bc, vs, vl, Gs, Gl, cs, h⟩ := h
  have hn : name.length ≤ 24 := by
    unfold rightB at hr
    simp at hr
    exact hr.2.2
  have hc := h.blk.cell
  rw [hoff] at hc
  have hl := look_there h.names strKeyed Tryz.underlying51 (zeroPtr w) (keyStr name (by omega)) hf
  have HI := hide (isRight_any name w (by omega))
  rw [hr] at HI
  clear h hf hn
  unfold pv at *
  go_enter Tryz.func63, Tryz.ntmps63
  go_wp2_with (go_at_call 99; refine HI.out.mono ?_; rintro e w' ⟨rfl, rfl⟩)
  go_ret2
  exact ⟨rfl, rfl⟩
set_option maxHeartbeats 1000000 in
/-- A name that is not there. -/
theorem find_none (a : Nat → Addr) (hE : Errs w0 a) (h : DK w0 w d ρ s) (hoff : s.off = false) (name : List UInt8) (hr : rightB name = true) (hf : s.D.atKey (.string name) .nil = .nil) :
    Calls Tryz.prog 63 #[pv d, .string ⟨name.toArray⟩] w fun e w' => e = .returned (.tuple #[.pointer none, errV a 4]) ∧ ∃ m, w' = w.drewN m := by
  have hce := (hE.below h.below).cell 4 (by decide)
  obtain ⟨bn, bs, bc, vs, vl, Gs, Gl, cs, h⟩ := h
  have hn : name.length ≤ 24 := by
    unfold rightB at hr
    simp at hr
    exact hr.2.2
  have hc := h.blk.cell
  rw [hoff] at hc
  have hl := look_none h.names strKeyed Tryz.underlying51 (zeroPtr w) (keyStr name (by omega)) hf
  have HI := hide (isRight_any name w (by omega))
  rw [hr] at HI
  have hg4 : w.cell? ⟨0, 0, none⟩ = some (errV a 4) := hce
  clear h hf hn hce hE
  unfold pv errV at *
  go_enter Tryz.func63, Tryz.ntmps63
  go_wp2_with (go_at_call 99; refine HI.out.mono ?_; rintro e w' ⟨rfl, rfl⟩)
  go_quiet (fail)
  go_wp2
  go_ret2
  exact ⟨rfl, _, rfl⟩
set_option maxHeartbeats 1000000 in
/-- A name that is not right. -/
theorem find_wrong (a : Nat → Addr) (hE : Errs w0 a) (h : DK w0 w d ρ s) (hoff : s.off = false) (name : List UInt8) (hn : name.length ≤ 1000000000) (hr : rightB name = false) :
    Calls Tryz.prog 63 #[pv d, .string ⟨name.toArray⟩] w fun e w' => e = .returned (.tuple #[.pointer none, errV a 3]) ∧ ∃ m, w' = w.drewN m := by
  have hce := (hE.below h.below).cell 3 (by decide)
  obtain ⟨bn, bs, bc, vs, vl, Gs, Gl, cs, h⟩ := h
  have hc := h.blk.cell
  rw [hoff] at hc
  have HI := hide (isRight_any name w hn)
  rw [hr] at HI
  have hg4 : w.cell? ⟨6, 0, none⟩ = some (errV a 3) := hce
  clear h hn hce hE
  unfold pv errV at *
  go_enter Tryz.func63, Tryz.ntmps63
  go_wp2_with (go_at_call 99; refine HI.out.mono ?_; rintro e w' ⟨rfl, rfl⟩)
  go_quiet (fail)
  go_wp2
  go_ret2
  exact ⟨rfl, _, rfl⟩
end
/-- The count of steps, where the power is not armed. -/
theorem takeStep_free (w : World) (d : Nat) (v0 v1 v2 v3 v4 v5 v6 v9 v10 : Value) (n m : Int) (hk : Blk w d #[v0, v1, v2, v3, v4, v5, v6, .int .i64 n, .int .i64 m, v9, v10] 56) (hm : m < 0) (hn : 0 ≤ n) (hn2 : n ≤ 1000000000) :
    Calls Tryz.prog 37 #[pv d] w fun e w' => e = .returned .nilIface ∧ w' = w.setCell ⟨d, 7, none⟩ (.int .i64 (n + 1)) := by
  have hc := hk.cell
  have hf := hk.frozen
  have g0 : (m == 0) = false := by simp; omega
  have g1 : ¬ m = 0 := by omega
  have g2 : decide (0 < m) = false := decide_eq_false (by omega)
  have g3 : ¬ 0 < m := by omega
  clear hk
  unfold pv
  go_enter Tryz.func37, Tryz.ntmps37
  go_wp2
  go_ret
  exact ⟨rfl, rfl⟩
end Go.Proofs.YthhnlkbjpahjeaaGreatDoor

end
section
namespace Go.Proofs.YthhnlkbjpahjeaaGreatDoor
open Go.RowKit Go.Maps
/-- Roles with one block's put in. -/
def putRole (ρ : Nat → Option Role) (G : Option Nat) (r : Role) (k : Nat) : Option Role := if some k = G then some r else ρ k
theorem putRole_at (ρ : Nat → Option Role) (g : Nat) (r : Role) : putRole ρ (some g) r g = some r := if_pos rfl
section
variable {w0 w w' : World} {d : Nat} {ρ ρ' : Nat → Option Role} {s : St} {bn bs bc : Nat} {vs vl : Value} {Gs Gl : Option Nat} {cs : List Value}
theorem DKs.lt (h : DKs w0 w d ρ s bn bs bc vs vl Gs Gl cs) {k : Nat} {r : Role} (hr : ρ k = some r) : k < w.heap.size := (h.low k r hr).2
theorem DKs.off (h : DKs w0 w d ρ s bn bs bc vs vl Gs Gl cs) {k : Nat} (hk : w.heap.size ≤ k) : ρ k = none := by
  cases hr : ρ k with
  | none => rfl
  | some r => have := h.lt hr; omega
theorem keeps_put {G0 G : Option Nat} {r : Role} (h0 : ∀ g, G0 = some g → ρ g = some r) (hl : ∀ k r, ρ k = some r → k < w.heap.size) (hG : G = G0 ∨ ∃ g, G = some g ∧ w.heap.size ≤ g) : Keeps ρ (putRole ρ G r) := by
  intro k r0 hr
  unfold putRole
  split
  · rename_i e
    rcases hG with rfl | ⟨g, rfl, hg⟩
    · rw [← h0 k e.symm, hr]
    · cases e
      have := hl k r0 hr
      omega
  · exact hr
/-- More blocks have roles. -/
theorem DKs.ext (h : DKs w0 w d ρ s bn bs bc vs vl Gs Gl cs) (hk : Keeps ρ ρ') (hl : ∀ k r, ρ' k = some r → w0.heap.size ≤ k ∧ k < w.heap.size) : DKs w0 w d ρ' s bn bs bc vs vl Gs Gl cs where
  below := h.below
  low := hl
  blk := h.blk
  rd := hk _ _ h.rd
  rn := hk _ _ h.rn
  rs := hk _ _ h.rs
  rc := hk _ _ h.rc
  names := h.names
  sure := h.sure
  chg := h.chg
  row := h.row
  rsteps := fun g hg => hk _ _ (h.rsteps g hg)
  lost := h.lost
  rlost := fun g hg => hk _ _ (h.rlost g hg)
  files := fun b fa hb => (h.files b fa hb).keep (S := fun _ => False) (Mvs.refl _ _) (fun _ _ _ _ c => c) (fun k r hr _ => hk k r hr)
  vD := h.vD
  eD := h.eD
  nsr := NsR.keep (S := fun _ => False) (Mvs.refl _ _) (fun _ _ c => c) (fun k h => hk k _ h) _ _ h.nsr
/-- The disk's own cells of numbers. -/
theorem DKs.ints (h : DKs w0 w d ρ s bn bs bc vs vl Gs Gl cs) (hm : Mvs (fun k => k = d) w w') (c o st ar : Int) (f : Bool) (q : Int)
    (hb : Blk w' d #[.map (some bn), .map (some bs), vs, .map (some bc), vl, .int .i64 c, .int .i64 o, .int .i64 st, .int .i64 ar, .bool f, .int .i64 q] 56) : DKs w0 w' d ρ { s with created := c, opened := o, steps := st, armed := ar, off := f, quota := q } bn bs bc vs vl Gs Gl cs := by
  have ne : ∀ k r, ρ k = some r → r ≠ .disk → ¬ k = d := fun k r hr h1 e => by subst e; rw [h.rd] at hr; exact h1 (Option.some.inj hr).symm
  exact {
    below := h.below.trans (hm.below (fun k hk c => by have := (h.low d _ h.rd).1; omega) h.below.size)
    low := fun k r hr => ⟨(h.low k r hr).1, Nat.lt_of_lt_of_le (h.low k r hr).2 hm.size⟩
    blk := hb
    rd := h.rd
    rn := h.rn
    rs := h.rs
    rc := h.rc
    names := h.names.mvs hm (ne _ _ h.rn (by simp))
    sure := h.sure.mvs hm (ne _ _ h.rs (by simp))
    chg := h.chg.mvs hm (ne _ _ h.rc (by simp))
    row := h.row.keep hm (fun g hg => ne _ _ (h.rsteps g hg) (by simp))
    rsteps := h.rsteps
    lost := h.lost.keep hm (fun g hg => ne _ _ (h.rlost g hg) (by simp))
    rlost := h.rlost
    files := fun b fa hb => (h.files b fa hb).keep hm (fun k r hr hk => ne _ _ hr (by intro e; subst e; exact hk)) (fun k r hr _ => hr)
    vD := h.vD
    eD := h.eD
    nsr := NsR.keep hm (fun k hk => ne k _ hk (by simp)) (fun _ h => h) _ _ h.nsr }
/-- The map of names. -/
theorem DKs.nam (h : DKs w0 w d ρ s bn bs bc vs vl Gs Gl cs) (hm : Mvs (fun k => k = bn) w w') (D' : DataW Unit) (hN : w'.ownsMap Tryz.prog 9 ptrElem bn (s.N + 1) D')
    (hv : ∀ kl b, D'.atKey kl .nil = pd b → (s.φ b).isSome = true) (he : ∀ p ∈ entriesOf D', ∃ b, p.2 = pd b) : DKs w0 w' d ρ { s with D := D', N := s.N + 1 } bn bs bc vs vl Gs Gl cs := by
  have ne : ∀ k r, ρ k = some r → r ≠ .names → ¬ k = bn := fun k r hr h1 e => by subst e; rw [h.rn] at hr; exact h1 (Option.some.inj hr).symm
  exact {
    below := h.below.trans (hm.below (fun k hk c => by have := (h.low bn _ h.rn).1; omega) h.below.size)
    low := fun k r hr => ⟨(h.low k r hr).1, Nat.lt_of_lt_of_le (h.low k r hr).2 hm.size⟩
    blk := hm.blk h.blk (ne _ _ h.rd (by simp))
    rd := h.rd
    rn := h.rn
    rs := h.rs
    rc := h.rc
    names := hN
    sure := (h.sure.mvs hm (ne _ _ h.rs (by simp))).mono (Nat.le_succ _)
    chg := (h.chg.mvs hm (ne _ _ h.rc (by simp))).mono (Nat.le_succ _)
    row := h.row.keep hm (fun g hg => ne _ _ (h.rsteps g hg) (by simp))
    rsteps := h.rsteps
    lost := h.lost.keep hm (fun g hg => ne _ _ (h.rlost g hg) (by simp))
    rlost := h.rlost
    files := fun b fa hb => (h.files b fa hb).keep hm (fun k r hr hk => ne _ _ hr (by intro e; subst e; exact hk)) (fun k r hr _ => hr)
    vD := hv
    eD := he
    nsr := NsR.keep hm (fun k hk => ne k _ hk (by simp)) (fun _ h => h) _ _ h.nsr }
/-- The map of files with open steps. -/
theorem DKs.chn (h : DKs w0 w d ρ s bn bs bc vs vl Gs Gl cs) (hm : Mvs (fun k => k = bc) w w') (D' : DataW Unit) (hN : w'.ownsMap Tryz.prog 3 ptrElem bc (s.N + 1) D') : DKs w0 w' d ρ { s with ch := D', N := s.N + 1 } bn bs bc vs vl Gs Gl cs := by
  have ne : ∀ k r, ρ k = some r → r ≠ .changed → ¬ k = bc := fun k r hr h1 e => by subst e; rw [h.rc] at hr; exact h1 (Option.some.inj hr).symm
  exact {
    below := h.below.trans (hm.below (fun k hk c => by have := (h.low bc _ h.rc).1; omega) h.below.size)
    low := fun k r hr => ⟨(h.low k r hr).1, Nat.lt_of_lt_of_le (h.low k r hr).2 hm.size⟩
    blk := hm.blk h.blk (ne _ _ h.rd (by simp))
    rd := h.rd
    rn := h.rn
    rs := h.rs
    rc := h.rc
    names := (h.names.mvs hm (ne _ _ h.rn (by simp))).mono (Nat.le_succ _)
    sure := (h.sure.mvs hm (ne _ _ h.rs (by simp))).mono (Nat.le_succ _)
    chg := hN
    row := h.row.keep hm (fun g hg => ne _ _ (h.rsteps g hg) (by simp))
    rsteps := h.rsteps
    lost := h.lost.keep hm (fun g hg => ne _ _ (h.rlost g hg) (by simp))
    rlost := h.rlost
    files := fun b fa hb => (h.files b fa hb).keep hm (fun k r hr hk => ne _ _ hr (by intro e; subst e; exact hk)) (fun k r hr _ => hr)
    vD := h.vD
    eD := h.eD
    nsr := NsR.keep hm (fun k hk => ne k _ hk (by simp)) (fun _ h => h) _ _ h.nsr }
/-- The row of the names' steps, and the disk's own cells. -/
theorem DKs.grow (h : DKs w0 w d ρ s bn bs bc vs vl Gs Gl cs) (hm : Mvs (fun k => some k = Gs ∨ k = d) w w') {n : Nat} {vs' : Value} {G' : Option Nat} {cs' : List Value} (hr : Rw w' 1 vs' n cs' G') (hG : G' = Gs ∨ ∃ g, G' = some g ∧ w.heap.size ≤ g) (o : Int) {nl' : List NA} (hn : ∀ ρ', Keeps ρ ρ' → NsR w' ρ' cs' nl')
    (hb : Blk w' d #[.map (some bn), .map (some bs), vs', .map (some bc), vl, .int .i64 s.created, .int .i64 o, .int .i64 s.steps, .int .i64 s.armed, .bool s.off, .int .i64 s.quota] 56) :
    DKs w0 w' d (putRole ρ G' .nsteps) { s with ns := n, nl := nl', opened := o } bn bs bc vs' vl G' Gl cs' ∧ Keeps ρ (putRole ρ G' .nsteps) := by
  have ne : ∀ k r, ρ k = some r → r ≠ .nsteps → r ≠ .disk → ¬ (some k = Gs ∨ k = d) := fun k r hr h1 h2 e => by
    rcases e with e | e
    · rw [h.rsteps k e.symm] at hr
      exact h1 (Option.some.inj hr).symm
    · subst e
      rw [h.rd] at hr
      exact h2 (Option.some.inj hr).symm
  have hk : Keeps ρ (putRole ρ G' .nsteps) := keeps_put (w := w) h.rsteps (fun k r hr => h.lt hr) hG
  have hw0 := h.below.size
  refine ⟨{
    below := h.below.trans (hm.below (fun k hk c => by
      rcases c with c | c
      · have := (h.low k _ (h.rsteps k c.symm)).1; omega
      · have := (h.low d _ h.rd).1; omega) h.below.size)
    low := fun k r hr1 => by
      unfold putRole at hr1
      split at hr1
      · rename_i e
        have hlt := hr.lt k e.symm
        rcases hG with rfl | ⟨g, rfl, hg⟩
        · exact ⟨(h.low k _ (h.rsteps k e.symm)).1, hlt⟩
        · cases e
          exact ⟨by omega, hlt⟩
      · exact ⟨(h.low k r hr1).1, Nat.lt_of_lt_of_le (h.low k r hr1).2 hm.size⟩
    blk := hb
    rd := hk _ _ h.rd
    rn := hk _ _ h.rn
    rs := hk _ _ h.rs
    rc := hk _ _ h.rc
    names := h.names.mvs hm (ne _ _ h.rn (by simp) (by simp))
    sure := h.sure.mvs hm (ne _ _ h.rs (by simp) (by simp))
    chg := h.chg.mvs hm (ne _ _ h.rc (by simp) (by simp))
    row := hr
    rsteps := fun g hg => by subst hg; exact putRole_at _ _ _
    lost := h.lost.keep hm (fun g hg => ne _ _ (h.rlost g hg) (by simp) (by simp))
    rlost := fun g hg => hk _ _ (h.rlost g hg)
    files := fun b fa hb => (h.files b fa hb).keep hm (fun k r hr hk => ne _ _ hr (by intro e; subst e; exact hk) (by intro e; subst e; exact hk)) (fun k r hr _ => hk k r hr)
    vD := h.vD
    eD := h.eD
    nsr := hn _ hk }, hk⟩
/-- A new file. -/
theorem DKs.addFile (h : DKs w0 w d ρ s bn bs bc vs vl Gs Gl cs) {f : Nat} (hf : ρ f = none) (h0 : w0.heap.size ≤ f) (num : Int) (hb : Blk w f #[.int .i64 num, .slice none 0 0, .slice none 0 0] 100) (hφ : s.φ f = none) :
    DKs w0 w d (putRole ρ (some f) .file) { s with φ := fun b => if b = f then some ⟨num, [], []⟩ else s.φ b } bn bs bc vs vl Gs Gl cs ∧ Keeps ρ (putRole ρ (some f) .file) := by
  have hk : Keeps ρ (putRole ρ (some f) .file) := fun k r hr => by
    unfold putRole
    split
    · rename_i e
      cases e
      rw [hf] at hr
      cases hr
    · exact hr
  have hlow : ∀ k r, putRole ρ (some f) .file k = some r → w0.heap.size ≤ k ∧ k < w.heap.size := fun k r hr => by
    unfold putRole at hr
    split at hr
    · rename_i e
      cases e
      exact ⟨h0, hb.lt⟩
    · exact h.low k r hr
  have h1 := h.ext hk hlow
  exact ⟨{
    below := h1.below
    low := h1.low
    blk := h1.blk
    rd := h1.rd
    rn := h1.rn
    rs := h1.rs
    rc := h1.rc
    names := h1.names
    sure := h1.sure
    chg := h1.chg
    row := h1.row
    rsteps := h1.rsteps
    lost := h1.lost
    rlost := h1.rlost
    files := fun b fa hb1 => by
      simp only at hb1
      split at hb1
      · rename_i e
        subst e
        cases hb1
        exact ⟨_, _, none, none, [], putRole_at _ _ _, hb, Rw.nil _ _, (fun _ h => by cases h), Rw.nil _ _, (fun _ h => by cases h), trivial⟩
      · exact h1.files b fa hb1
    vD := fun kl b hb1 => by
      have := h1.vD kl b hb1
      simp only
      split
      · rfl
      · exact this
    eD := h1.eD
    nsr := h1.nsr }, hk⟩
def putRoles (ρ : Nat → Option Role) (K : List Nat) (r : Role) (k : Nat) : Option Role := if k ∈ K then some r else ρ k
theorem putRoles_in {ρ : Nat → Option Role} {K : List Nat} {r : Role} {k : Nat} (h : k ∈ K) : putRoles ρ K r k = some r := if_pos h
theorem putRoles_out {ρ : Nat → Option Role} {K : List Nat} {r : Role} {k : Nat} (h : k ∉ K) : putRoles ρ K r k = ρ k := if_neg h
theorem putRoles_cases {ρ : Nat → Option Role} {K : List Nat} {r r0 : Role} {k : Nat} (h : putRoles ρ K r k = some r0) : (k ∈ K ∧ r0 = r) ∨ ρ k = some r0 := by
  by_cases e : k ∈ K
  · rw [putRoles_in e] at h
    exact .inl ⟨e, (Option.some.inj h).symm⟩
  · rw [putRoles_out e] at h
    exact .inr h
/-- What a closure holds becomes the disk's own. -/
theorem DKs.caps (h : DKs w0 w d ρ s bn bs bc vs vl Gs Gl cs) (K : List Nat) (hK : ∀ k ∈ K, ρ k = none ∧ w0.heap.size ≤ k ∧ k < w.heap.size) : DKs w0 w d (putRoles ρ K .cap) s bn bs bc vs vl Gs Gl cs ∧ Keeps ρ (putRoles ρ K .cap) := by
  have hk : Keeps ρ (putRoles ρ K .cap) := fun k r hr => by
    rw [putRoles_out fun e => by rw [(hK k e).1] at hr; cases hr]
    exact hr
  refine ⟨h.ext hk fun k r hr => ?_, hk⟩
  rcases putRoles_cases hr with ⟨e, _⟩ | e
  · exact (hK k e).2
  · exact h.low k r e
end
end Go.Proofs.YthhnlkbjpahjeaaGreatDoor

end
section
namespace Go.Proofs.YthhnlkbjpahjeaaGreatDoor
open Go.RowKit Go.Maps
theorem entries_put {D : DataW Unit} {k : Lit} {f : Nat} (h : IsMap D) (he : ∀ p ∈ entriesOf D, ∃ b, p.2 = pd b) : ∀ p ∈ entriesOf (D.put k (pd f)), ∃ b, p.2 = pd b := by
  obtain ⟨es, rfl⟩ := h
  rw [DataW.put_eq]
  intro p hp
  have hp' : p ∈ ChangeMaps.putKey k (pd f) es := hp
  unfold ChangeMaps.putKey at hp'
  rcases ChangeMaps.mem_insert_iff.1 hp' with rfl | hp'
  · exact ⟨f, rfl⟩
  · exact he p (List.mem_filter.1 hp').1
theorem there_put {D : DataW Unit} {k : Lit} {f : Nat} {P : Nat → Prop} (h : IsMap D) (hk : WideAt.IsKeyLit k) (hv : ∀ kl b, D.atKey kl .nil = pd b → P b) (hf : P f) : ∀ kl b, (D.put k (pd f)).atKey kl .nil = pd b → P b := by
  intro kl b hb
  by_cases e : kl = k
  · subst e
    rw [atKey_put_same h hk] at hb
    rw [← pd_inj hb]
    exact hf
  · rw [atKey_put_other e] at hb
    exact hv kl b hb
set_option maxHeartbeats 1000000 in
theorem createClo (w : World) (bn n : Nat) (D : DataW Unit) (name : List UInt8) (f cf cn : Nat) (hn : n ≤ 1000000) (hl : name.length ≤ 1000000) (hN : w.ownsMap Tryz.prog 9 ptrElem bn n D) (hcf : Blk w cf #[pv f] 72) (hcn : Blk w cn #[.string ⟨name.toArray⟩] 9) :
    Calls Tryz.prog 67 #[.map (some bn), pv cf, pv cn] w fun e w' => e = .returned (.tuple #[]) ∧ w'.ownsMap Tryz.prog 9 ptrElem bn (n + 1) (D.put (.string name) (pd f)) ∧ Mvs (fun k => k = bn) w w' := by
  have h1 := hcf.cell
  have h2 := hcn.cell
  have HN := hide hN
  have HK := hide (keyStr name (by omega))
  clear hcf hcn hN
  unfold pv at *
  go_enter Tryz.func67, Tryz.ntmps67
  go_wp2_with (at_mapUpdate; refine wpList_mapUpdate_own _ rfl _ _ _ 51 rfl 9 72 strKeyed Tryz.underlying51 ptrElem bn n D rfl HN.out (by simp only [maxLen]; omega) _ _ (.string name) rfl rfl HK.out (pd f) [] rfl ?_)
  intro w1 hown1 hg1
  have HO := hide hown1
  have HG := hide hg1
  clear hown1 hg1
  go_wp2
  go_end0
  exact ⟨rfl, HO.out, (Mvs.of_grown HG.out).mono fun _ _ e => Option.some.inj e⟩
theorem funInfo : (Tryz.prog.info? 94).map (fun i => (i.zero, i.size, i.bytes)) = some (some .nilFunc, 1, 8) := by kernel_rfl
/-- A literal of one value. -/
theorem src_one {w : World} {ts te : TypeId} (ht : Tryz.prog.underlying ts = some (.slice te)) (u : Value) (hu : u.oneCell' = true) {c : Nat} : Src Tryz.prog 1 ts (.slice (some ⟨w.heap.size, 0, none⟩) 1 c) 1 [u] (w.alloc (.cells #[u] te)) := by
  refine Src.ofSlice _ ht ⟨w.heap.size, 0, none⟩ 1 c [u] rfl (fun j x hx => ?_) (fun x hx => by rw [List.mem_singleton.1 hx]; exact hu)
  rw [Go.WideShapes.add_plain, Nat.zero_add, (Blk.new w _ _).cell, ← hx]
  rw [← List.getElem?_toArray]
def fnV (cf cn : Nat) : Value := .func (.func 67) #[] #[pv cf, pv cn]
set_option maxRecDepth 8000 in
set_option maxHeartbeats 2000000 in
theorem changeNames_create (w0 w : World) (d : Nat) (ρ : Nat → Option Role) (s : St) (name : List UInt8) (f cf cn : Nat) (h : DK w0 w d ρ s) (ha : s.armed < 0) (hs0 : 0 ≤ s.steps) (hs1 : s.steps ≤ 1000000) (ho0 : 0 ≤ s.opened) (ho1 : s.opened ≤ 1000000) (hN : s.N ≤ 100000) (hns : s.ns ≤ 1000000)
    (hl : name.length ≤ 1000000) (hcf : Blk w cf #[pv f] 72) (hcn : Blk w cn #[.string ⟨name.toArray⟩] 9) (hrf : ρ cf = some .cap) (hrn : ρ cn = some .cap) (hφ : (s.φ f).isSome = true) :
    Calls Tryz.prog 66 #[pv d, fnV cf cn] w fun e w' => e = .returned .nilIface ∧ ∃ ρ', DK w0 w' d ρ' { s with D := s.D.put (.string name) (pd f), N := s.N + 1, ns := s.ns + 1, nl := s.nl ++ [.mk name f], opened := s.opened + 1, steps := s.steps + 1 } ∧ Turn w w' ρ ρ' ∧ Keeps ρ ρ' := by
  obtain ⟨bn, bs, bc, vs, vl, Gs, Gl, cs, h⟩ := h
  obtain ⟨i0, hi, hz0, hz1, hz2⟩ := info_parts funInfo
  have hne := h.ne
  have HD := hide h
  have hnf : cf ≠ d := fun e => by rw [e, h.rd] at hrf; cases hrf
  have hnn : cn ≠ d := fun e => by rw [e, h.rd] at hrn; cases hrn
  clear h
  unfold fnV pv
  go_enter Tryz.func66, Tryz.ntmps66
  go_wp2_with fail
  refine (takeStep_free _ d _ _ _ _ _ _ _ _ _ _ _ HD.out.blk ha hs0 (by omega)).mono ?_
  rintro e w1 ⟨rfl, hw1⟩
  have hm1 : Mvs (fun k => k = d) w w1 := by rw [hw1]; exact (Mvs.refl _ _).setCell _ _ (fun _ => rfl)
  have H1 := hide (HD.out.ints hm1 s.created s.opened (s.steps + 1) s.armed s.off s.quota (by rw [hw1]; exact HD.out.blk.set 7 _))
  have HM1 := hide hm1
  have hcf1 := hide (hm1.blk hcf hnf)
  have hcn1 := hide (hm1.blk hcn hnn)
  clear hw1 hm1 hcf hcn
  obtain ⟨As, cc, rfl⟩ := H1.out.row.form
  have hk1 : Blk w1 d #[.map (some bn), .map (some bs), .slice As s.ns cc, .map (some bc), vl, .int .i64 s.created, .int .i64 s.opened, .int .i64 (s.steps + 1), .int .i64 s.armed, .bool s.off, .int .i64 s.quota] 56 := H1.out.blk
  have hc1 := hk1.cell
  go_wp2_with fail
  refine (createClo w1 bn s.N s.D name f cf cn (by omega) hl H1.out.names hcf1.out hcn1.out).mono ?_
  rintro e w2 ⟨rfl, hN2, hm2⟩
  have H2 := hide (H1.out.nam hm2 _ hN2 (there_put H1.out.names.isMap trivial HD.out.vD hφ) (entries_put H1.out.names.isMap HD.out.eD))
  have HM2 := hide hm2
  have hk2 := hide (hm2.blk hk1 (fun e => hne.1 e.symm))
  have hcf2 := hide (hm2.blk hcf1.out (fun e => by have := HD.out.rn; rw [← e, hrf] at this; cases this))
  have hcn2 := hide (hm2.blk hcn1.out (fun e => by have := HD.out.rn; rw [← e, hrn] at this; cases this))
  clear hc1 hN2 hm2 hcf1 hcn1 hk1
  have hc2 := hk2.out.cell
  have hrow : Hid (Rw w2 1 (.slice As s.ns cc) s.ns cs Gs) := H2.out.row
  go_wp2_with (at_builtin; refine wpList_append_rw rfl _ _ 53 53 rfl 94 i0 .nilFunc 1 8 Tryz.underlying53 hi hz0 hz1 hz2 rfl rfl (hrow.out.keep (S := fun _ => False) ((Mvs.refl _ _).alloc _) (fun _ _ c => c)) _ 1 [fnV cf cn] rfl (src_one Tryz.underlying53 (fnV cf cn) rfl) (by simp only [maxLen]; omega) (by omega) ?_)
  intro v3 w3 G3 hr3 hm3 hg3
  obtain ⟨A3, c3, rfl⟩ := hr3.form
  have hm23 : Mvs (fun k => some k = Gs) w2 w3 := (((Mvs.refl (fun k => some k = Gs) w2).alloc _).trans hm3)
  have hG3 : G3 = Gs ∨ ∃ g, G3 = some g ∧ w2.heap.size ≤ g := hg3.imp id fun e => ⟨_, e, by simp⟩
  have hk3 := hide (hm23.blk hk2.out (fun e => by have := HD.out.rsteps d e.symm; rw [HD.out.rd] at this; cases this))
  have hc3 := hk3.out.cell
  have hf3 := hk3.out.frozen
  have HR3 := hide hr3
  have HM3 := hide hm23
  have HG3 := hide hG3
  have hlt3 := hide hr3.lt
  clear hr3 hm3 hg3 hm23 hG3 hk2 hc2 hrow hi hz0 hz1 hz2
  go_wp2
  go_ret
  have hkk := (hk3.out.set 2 (.slice A3 (s.ns + 1) c3)).set 6 (.int .i64 (s.opened + 1))
  have hmm : Mvs (fun k => k = d) w3 ((w3.setCell ⟨d, 2, none⟩ (.slice A3 (s.ns + 1) c3)).setCell ⟨d, 6, none⟩ (.int .i64 (s.opened + 1))) := ((Mvs.refl (fun k => k = d) w3).setCell ⟨d, 2, none⟩ _ (fun _ => rfl)).setCell ⟨d, 6, none⟩ _ (fun _ => rfl)
  have hmA : Mvs (fun k => some k = Gs ∨ k = d) w2 ((w3.setCell ⟨d, 2, none⟩ (.slice A3 (s.ns + 1) c3)).setCell ⟨d, 6, none⟩ (.int .i64 (s.opened + 1))) := (HM3.out.mono fun _ _ e => .inl e).trans (hmm.mono fun _ _ e => .inr e)
  have hGd : ∀ g, G3 = some g → ¬ g = d := fun g hg e => by
    subst e
    rcases HG3.out with e | ⟨g', e, hle⟩
    · have := HD.out.rsteps g (e ▸ hg)
      rw [HD.out.rd] at this
      cases this
    · rw [e] at hg
      cases hg
      have := H2.out.lt H2.out.rd
      omega
  have hnc : ∀ k, ρ k = some .cap → ¬ (some k = Gs ∨ k = d) := fun k hk e => by
    rcases e with e | e
    · rw [HD.out.rsteps k e.symm] at hk
      cases hk
    · rw [e, HD.out.rd] at hk
      cases hk
  have hcfA := hmA.blk hcf2.out (hnc cf hrf)
  have hcnA := hmA.blk hcn2.out (hnc cn hrn)
  obtain ⟨hD, hkeep⟩ := H2.out.grow hmA (HR3.out.keep hmm hGd) HG3.out (s.opened + 1) (nl' := s.nl ++ [NA.mk name f]) (fun ρ' hk => NsR.snoc (x := .mk name f) ⟨cf, cn, rfl, hcfA, hk _ _ hrf, hcnA, hk _ _ hrn⟩ _ _ (NsR.keep hmA hnc (fun k h => hk k _ h) _ _ H2.out.nsr)) hkk
  refine ⟨rfl, _, ⟨_, _, _, _, _, _, _, _, hD⟩, ⟨?_, fun k r hr hlt => ?_⟩, hkeep⟩
  · refine (((HM1.out.mono (S' := fun k => ∃ r, ρ k = some r) fun i _ e => by subst e; exact ⟨_, HD.out.rd⟩).trans (HM2.out.mono fun i _ e => by subst e; exact ⟨_, HD.out.rn⟩)).trans (hmA.mono fun i _ e => ?_))
    rcases e with e | rfl
    · exact ⟨_, HD.out.rsteps i e.symm⟩
    · exact ⟨_, HD.out.rd⟩
  · unfold putRole at hr
    split at hr
    · rename_i e
      rcases HG3.out with e1 | ⟨g, e1, hle⟩
      · exact ⟨_, HD.out.rsteps k (e1 ▸ e.symm)⟩
      · rw [e1] at e
        cases e
        have := HM1.out.size
        have := HM2.out.size
        omega
    · exact ⟨r, hr⟩
/-- Two of the errors held against one another. -/
theorem err_same (a : Addr) (w : World) : (binOp .neq 29 (.iface 191 (.pointer (some a))) (.iface 191 (.pointer (some a)))).run Tryz.prog w = .ok (.bool false) w := by
  obtain ⟨i, hi, hcmp⟩ := Option.map_eq_some_iff.1 isComp
  obtain ⟨j, hj, hjs⟩ := Option.map_eq_some_iff.1 isSize
  simp only [binOp]
  simp [Op.equal, Op.maxDepth, run_equalIn_iface_ptr_same w 9998 a Tryz.underlying29 Tryz.underlying191 hi hcmp hj]
theorem err_other {w : World} {a : Nat → Addr} (hE : Errs w a) {i j : Nat} (hi : i < 13) (hj : j < 13) (hne : i ≠ j) : (binOp .neq 29 (errV a i) (errV a j)).run Tryz.prog w = .ok (.bool true) w := by
  obtain ⟨x, hx, hcmp⟩ := Option.map_eq_some_iff.1 isComp
  obtain ⟨y, hy, hys⟩ := Option.map_eq_some_iff.1 isSize
  obtain ⟨c1, t1, b1⟩ := hE.blk i hi
  obtain ⟨c2, t2, b2⟩ := hE.blk j hj
  unfold errV
  simp only [binOp]
  simp [Op.equal, Op.maxDepth, run_equalIn_iface_ptr_other w 9998 Tryz.underlying29 Tryz.underlying191 hx hcmp hy (by rw [hys]; decide) (hE.ne i j hi hj hne) b1 b2]
section
variable (w0 w : World) (d : Nat) (ρ : Nat → Option Role) (s : St)
theorem DK.drewN {w0 w : World} {d : Nat} {ρ : Nat → Option Role} {s : St} (h : DK w0 w d ρ s) (m : Nat) : DK w0 (w.drewN m) d ρ s := h.then (below_drewN w m)
set_option maxRecDepth 8000 in
set_option maxHeartbeats 2000000 in
theorem create_wrong (a : Nat → Addr) (hE : Errs w0 a) (h : DK w0 w d ρ s) (hoff : s.off = false) (name : List UInt8) (hn : name.length ≤ 1000000) (hr : rightB name = false) :
    Calls Tryz.prog 36 #[pv d, .string ⟨name.toArray⟩] w fun e w' => e = .returned (errV a 3) ∧ Below w.heap.size w w' := by
  have hb1 : Below w.heap.size w (w.alloc (.cells #[.string ⟨name.toArray⟩] 9)) := (Below.refl _ _).alloc (Nat.le_refl _) _
  have HF := hide (find_wrong w0 _ d ρ s a hE (h.then hb1) hoff name (by omega) hr)
  have hE1 := hE.below (h.then hb1).below
  have HC := hide hb1
  have ho := hide (fun m => err_other (w := World.drewN (w.alloc (.cells #[.string ⟨name.toArray⟩] 9)) m) (hE1.below (below_drewN _ m)) (i := 3) (j := 4) (by decide) (by decide) (by decide))
  have hg : Hid (∀ m, (World.drewN (w.alloc (.cells #[.string ⟨name.toArray⟩] 9)) m).cell? ⟨0, 0, none⟩ = some (errV a 4)) := fun m => hE1.cell 4 (by decide)
  clear h hE hE1 hb1
  unfold pv errV at *
  go_enter Tryz.func36, Tryz.ntmps36
  go_wp2_with fail
  refine HF.out.mono ?_
  rintro e w1 ⟨rfl, m, rfl⟩
  have ho1 := ho.out m
  have hg1 := hg.out m
  have hb2 := hide (HC.out.trans ((below_drewN _ m).mono HC.out.size))
  clear HF ho hg HC
  generalize World.drewN _ m = W at *
  go_wp2
  go_ret
  exact ⟨rfl, hb2.out⟩
end
end Go.Proofs.YthhnlkbjpahjeaaGreatDoor

end
