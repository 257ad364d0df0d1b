/- A disk: one file of it turns. -/
/- A disk: a step of a file, put into its row of open steps. -/
/- A disk: changeFile, with the step of an Append. -/
import Derived.Test.YthhnlkbjpahjeaaGreatDoorU06
import Derived.Deep.RegionLaw
import Derived.Deep.RegionHeld3
section
namespace Go.Proofs.YthhnlkbjpahjeaaGreatDoor
open Go.RowKit Go.Maps
def cutV (cf cb : Nat) : Value := .func (.func 91) #[] #[pv cf, pv cb]
set_option maxRecDepth 8000 in
set_option maxHeartbeats 2000000 in
theorem cutClo (w : World) (ρ : Nat → Option Role) (b : Nat) (fa : FA) (vb vo : Value) (Gb Go : Option Nat) (cs : List Value) (h : FileRs w ρ b fa vb vo Gb Go cs) (hl : fa.bytes.length ≤ 1000000) (n : Nat) (hn : n ≤ fa.bytes.length)
    (cf cb : Nat) (hcf : Blk w cf #[pv b] 72) (hcb : Blk w cb #[.int .i64 n] 3) :
    Calls Tryz.prog 91 #[pv cf, pv cb] w fun e w' => ∃ c0 c1 c2, e = .returned (.agg #[c0, c1, c2]) ∧ Stepd w w' b Gb fa.num vo (fa.bytes.take n) c0 c1 c2 (.cut (fa.bytes.drop n)) := by
  have hF1 : FileRs (w.alloc (.cells #[.bool false, .int .i64 0, .nilFunc] 104)) ρ b fa vb vo Gb Go cs := ⟨h.role, h.blk.alloc _, h.row.keep (S := fun _ => False) ((Mvs.refl _ _).alloc _) (fun _ _ c => c), h.rb, h.orow.keep (S := fun _ => False) ((Mvs.refl _ _).alloc _) (fun _ _ c => c), h.ro, StepsR.keep (S := fun _ => False) ((Mvs.refl _ _).alloc _) (fun _ _ c => c) (fun _ h => h) _ _ h.steps⟩
  have HP := hide (cut_any _ ρ b fa vb vo Gb Go cs hF1 hl n hn)
  have HG := hide h.row.lt
  have hlt := h.blk.lt
  have h1 := hcf.cell
  have h2 := hcb.cell
  have h3 := hcf.lt
  have h4 := hcb.lt
  have HR := hide (Blk.new w #[.bool false, .int .i64 0, .nilFunc] 104)
  clear h hF1 hcf hcb
  unfold pv at *
  go_enter Tryz.func91, Tryz.ntmps91
  go_wp2_with (go_at_call 92; refine HP.out.mono ?_)
  rintro e w3 ⟨c0, c1, c2, rfl, hS⟩
  have hk3 := hS.mvs.blk HR.out (by
    rintro (e | e)
    · have := HG.out _ e.symm
      omega
    · omega)
  have hc3 := hk3.cell
  have hf3 := hk3.frozen
  obtain ⟨x0, n0, fn, fi, ca, rfl, rfl, rfl⟩ := hS.shape
  have HS := hide hS
  have HK := hide hk3
  clear hS hk3 HP
  go_wp2
  have qR := ((HK.out.set 0 (.bool x0)).set 1 (.int .i64 n0)).set 2 (.func fn fi ca)
  have hmm : Mvs (fun k => k = w.heap.size) w3 (((w3.setCell ⟨w.heap.size, 0, none⟩ (.bool x0)).setCell ⟨w.heap.size, 1, none⟩ (.int .i64 n0)).setCell ⟨w.heap.size, 2, none⟩ (.func fn fi ca)) :=
    (((Mvs.refl (fun k => k = w.heap.size) w3).setCell ⟨w.heap.size, 0, none⟩ _ (fun _ => rfl)).setCell ⟨w.heap.size, 1, none⟩ _ (fun _ => rfl)).setCell ⟨w.heap.size, 2, none⟩ _ (fun _ => rfl)
  generalize ((w3.setCell ⟨w.heap.size, 0, none⟩ (.bool x0)).setCell ⟨w.heap.size, 1, none⟩ (.int .i64 n0)).setCell ⟨w.heap.size, 2, none⟩ (.func fn fi ca) = W at *
  have hbc := qR.cell
  exact bodyPost_ret (v := .agg #[.bool x0, .int .i64 n0, .func fn fi ca]) (by simp [results, Tryz.results91, go_sem, hbc]) rfl ⟨_, _, _, rfl, HS.out.wrap hmm hlt HG.out⟩
section
variable {w0 w w' : World} {d : Nat} {ρ ρ' : Nat → Option Role} {s : St} {bn bs bc : Nat} {vs vl : Value} {Gs Gl : Option Nat} {cs : List Value}
/-- The state with one file put in. -/
def St.withF (s : St) (b : Nat) (fa : FA) : St := { s with φ := fun k => if k = b then some fa else s.φ k }
theorem DKs.setFile (h : DKs w0 w d ρ s bn bs bc vs vl Gs Gl cs) {b : Nat} {Gb Go : Option Nat} {fa : FA} (hm : Mvs (fun k => k = b ∨ some k = Gb ∨ some k = Go) w w') (hb : ρ b = some .file) (hGb : ∀ g, Gb = some g → ρ g = some (.bytes b)) (hGo : ∀ g, Go = some g → ρ g = some (.opened b))
    (hk : Keeps ρ ρ') (hl : ∀ k r, ρ' k = some r → w0.heap.size ≤ k ∧ k < w'.heap.size) (hF : FileR w' ρ' b fa) : DKs w0 w' d ρ' (s.withF b fa) bn bs bc vs vl Gs Gl cs := by
  have role : ∀ k, (k = b ∨ some k = Gb ∨ some k = Go) → (ρ k = some .file ∧ k = b) ∨ ρ k = some (.bytes b) ∨ ρ k = some (.opened b) := fun k hk => by
    rcases hk with rfl | e | e
    · exact .inl ⟨hb, rfl⟩
    · exact .inr (.inl (hGb k e.symm))
    · exact .inr (.inr (hGo k e.symm))
  have ne : ∀ k r, ρ k = some r → ¬ r.of b k ∨ r = .cap → ¬ (k = b ∨ some k = Gb ∨ some k = Go) := fun k r hr hno hk => by
    rcases role k hk with ⟨e, rfl⟩ | e | e <;> rw [hr] at e <;> cases Option.some.inj e
    · rcases hno with hno | hno
      · exact hno rfl
      · cases hno
    · rcases hno with hno | hno
      · exact hno rfl
      · cases hno
    · rcases hno with hno | hno
      · exact hno rfl
      · cases hno
  have hlow : ∀ k, (k = b ∨ some k = Gb ∨ some k = Go) → w0.heap.size ≤ k := fun k hk => by
    rcases role k hk with ⟨e, _⟩ | e | e <;> exact (h.low k _ e).1
  exact {
    below := h.below.trans (hm.below (fun k hk c => by have := hlow k c; omega) h.below.size)
    low := hl
    blk := hm.blk h.blk (ne _ _ h.rd (.inl (fun e => e)))
    rd := hk _ _ h.rd
    rn := hk _ _ h.rn
    rs := hk _ _ h.rs
    rc := hk _ _ h.rc
    names := h.names.mvs hm (ne _ _ h.rn (.inl (fun e => e)))
    sure := h.sure.mvs hm (ne _ _ h.rs (.inl (fun e => e)))
    chg := h.chg.mvs hm (ne _ _ h.rc (.inl (fun e => e)))
    row := h.row.keep hm (fun g hg => ne _ _ (h.rsteps g hg) (.inl (fun e => e)))
    rsteps := fun g hg => hk _ _ (h.rsteps g hg)
    lost := h.lost.keep hm (fun g hg => ne _ _ (h.rlost g hg) (.inl (fun e => e)))
    rlost := fun g hg => hk _ _ (h.rlost g hg)
    files := fun b' fa' hb' => by
      unfold St.withF at hb'
      simp only at hb'
      split at hb'
      · rename_i e
        subst e
        cases hb'
        exact hF
      · rename_i hne
        refine (h.files b' fa' hb').keep hm (fun k r hr hof => ne k r hr ?_) (fun k r hr _ => hk k r hr)
        cases r with
        | file => exact .inl (fun e => hne ((show k = b' from hof).symm.trans (show k = b from e)))
        | bytes c => exact .inl (fun e => hne ((show c = b' from hof).symm.trans (show c = b from e)))
        | opened c => exact .inl (fun e => hne ((show c = b' from hof).symm.trans (show c = b from e)))
        | cap => exact .inr rfl
        | _ => exact hof.elim
    vD := fun kl b' hb' => by
      have := h.vD kl b' hb'
      unfold St.withF
      simp only
      split
      · rfl
      · exact this
    eD := h.eD
    nsr := NsR.keep hm (fun k hr => ne k _ hr (.inr rfl)) (fun k h => hk k _ h) _ _ h.nsr }
end
end Go.Proofs.YthhnlkbjpahjeaaGreatDoor

end
section
namespace Go.Proofs.YthhnlkbjpahjeaaGreatDoor
open Go.RowKit Go.Maps
theorem putRole_other {ρ : Nat → Option Role} {G : Option Nat} {r : Role} {k : Nat} (h : some k ≠ G) : putRole ρ G r k = ρ k := if_neg h
theorem putRole_is {ρ : Nat → Option Role} {G : Option Nat} {r : Role} {k : Nat} (h : G = some k) : putRole ρ G r k = some r := if_pos h.symm
theorem putRole_cases {ρ : Nat → Option Role} {G : Option Nat} {r r0 : Role} {k : Nat} (h : putRole ρ G r k = some r0) : G = some k ∨ ρ k = some r0 := by
  unfold putRole at h
  split at h
  · rename_i e
    exact .inl e.symm
  · exact .inr h
section
variable {w0 w w3 w4 : World} {d : Nat} {ρ : Nat → Option Role} {s : St} {bn bs bc : Nat} {vs vl : Value} {Gs Gl : Option Nat} {cs : List Value}
theorem DKs.stepped (h : DKs w0 w d ρ s bn bs bc vs vl Gs Gl cs) {b : Nat} {fa : FA} {vb vo vo' : Value} {Gb Go Go' : Option Nat} {fs : List Value} {bytes : List UInt8} {c0 c1 c2 : Value} {sa : SA} (hF : FileRs w ρ b fa vb vo Gb Go fs) (hS : Stepd w w3 b Gb fa.num vo bytes c0 c1 c2 sa)
    (hm4 : Mvs (fun k => some k = Go) w3 w4) (hr4 : Rw w4 3 vo' (fa.opn.length + 1) (fs ++ [c0, c1, c2]) Go') (hg4 : Go' = Go ∨ ∃ g, Go' = some g ∧ w3.heap.size ≤ g) :
    ∃ ρ', DKs w0 (w4.setCell ⟨b, 2, none⟩ vo') d ρ' (s.withF b ⟨fa.num, bytes, fa.opn ++ [sa]⟩) bn bs bc vs vl Gs Gl cs ∧ Turn w (w4.setCell ⟨b, 2, none⟩ vo') ρ ρ' ∧ Keeps ρ ρ' := by
  obtain ⟨vb', Gb', K, e1, e2, e3, e4, e5⟩ := hS.ex
  have hw3 := hS.mvs.size
  have hw4 := hm4.size
  have hb3 : b < w.heap.size := hF.blk.lt
  have hGo : ∀ g, Go = some g → g < w.heap.size := hF.orow.lt
  have hGb : ∀ g, Gb = some g → g < w.heap.size := hF.row.lt
  have nbo : some b ≠ Go := fun e => by have := hF.ro b e.symm; rw [hF.role] at this; cases this
  have nbb : some b ≠ Gb := fun e => by have := hF.rb b e.symm; rw [hF.role] at this; cases this
  have nbo' : ∀ g, Go' = some g → g ≠ b := fun g hg e => by
    rcases hg4 with e' | ⟨g', e', hle⟩
    · exact nbo (by rw [← e', hg, e])
    · rw [e'] at hg
      cases hg
      omega
  have nbb' : ∀ g, Gb' = some g → g ≠ b := fun g hg e => by
    rcases e3 with e' | ⟨g', e', hle⟩
    · exact nbb (by rw [← e', hg, e])
    · rw [e'] at hg
      cases hg
      omega
  have hlb' : ∀ g, Gb' = some g → g < w3.heap.size := e2.lt
  have nob : ∀ g, Gb' = some g → some g ≠ Go := fun g hg e => by
    rcases e3 with e' | ⟨g', e', hle⟩
    · have r1 := hF.rb g (by rw [← e', hg])
      have r2 := hF.ro g e.symm
      rw [r1] at r2
      cases r2
    · rw [e'] at hg
      cases hg
      have := hGo _ e.symm
      omega
  have nob' : ∀ g, Gb' = some g → some g ≠ Go' := fun g hg e => by
    rcases hg4 with e' | ⟨g', e', hle⟩
    · exact nob g hg (by rw [e, e'])
    · rw [e'] at e
      cases e
      have := hlb' _ hg
      omega
  have nKo : ∀ k ∈ K, some k ≠ Go' := fun k hk e => by
    have h4 := e4 k hk
    rcases hg4 with e' | ⟨g', e', hle⟩
    · have := hGo k (by rw [← e', e])
      omega
    · rw [e'] at e
      cases e
      omega
  have hm5 : Mvs (fun k => k = b) w4 (w4.setCell ⟨b, 2, none⟩ vo') := (Mvs.refl (fun k => k = b) w4).setCell ⟨b, 2, none⟩ _ (fun _ => rfl)
  have hm45 : Mvs (fun k => some k = Go ∨ k = b) w3 (w4.setCell ⟨b, 2, none⟩ vo') := (hm4.mono fun _ _ e => .inl e).trans (hm5.mono fun _ _ e => .inr e)
  have hmA : Mvs (fun k => k = b ∨ some k = Gb ∨ some k = Go) w (w4.setCell ⟨b, 2, none⟩ vo') := (hS.mvs.mono fun _ _ e => e.elim (fun e => .inr (.inl e)) .inl).trans (hm45.mono fun _ _ e => e.elim (fun e => .inr (.inr e)) .inl)
  have hsz5 : w4.heap.size = (w4.setCell ⟨b, 2, none⟩ vo').heap.size := by simp [World.setCell]
  have hlt : ∀ k r, ρ k = some r → k < w.heap.size := fun k r hr => h.lt hr
  have k1 : Keeps ρ (putRole ρ Gb' (.bytes b)) := keeps_put (w := w) hF.rb hlt e3
  have k2 : Keeps (putRole ρ Gb' (.bytes b)) (putRole (putRole ρ Gb' (.bytes b)) Go' (.opened b)) := fun k r hr => by
    by_cases e : Go' = some k
    · rw [putRole_is e]
      rcases putRole_cases hr with e' | e'
      · exact absurd e.symm (nob' k e')
      · rcases hg4 with e1' | ⟨g', e1', hle⟩
        · rw [hF.ro k (by rw [← e1', e])] at e'
          exact e'
        · rw [e1'] at e
          cases e
          have := hlt _ _ e'
          omega
    · rw [putRole_other (fun e' => e e'.symm)]
      exact hr
  have k3 : Keeps (putRole (putRole ρ Gb' (.bytes b)) Go' (.opened b)) (putRoles (putRole (putRole ρ Gb' (.bytes b)) Go' (.opened b)) K .cap) := fun k r hr => by
    by_cases e : k ∈ K
    · have h4 := e4 k e
      rcases putRole_cases hr with e' | e'
      · exact absurd e'.symm (nKo k e)
      · rcases putRole_cases e' with e'' | e''
        · exact absurd e'' h4.2.2
        · have := hlt _ _ e''
          omega
    · rw [putRoles_out e]
      exact hr
  have hk : Keeps ρ (putRoles (putRole (putRole ρ Gb' (.bytes b)) Go' (.opened b)) K .cap) := fun k r hr => k3 k r (k2 k r (k1 k r hr))
  have hnew : ∀ k r, putRoles (putRole (putRole ρ Gb' (.bytes b)) Go' (.opened b)) K .cap k = some r → (∃ r', ρ k = some r') ∨ (w.heap.size ≤ k ∧ k < w4.heap.size) := fun k r hr => by
    rcases putRoles_cases hr with ⟨e, _⟩ | hr
    · have := e4 k e
      exact .inr ⟨this.1, by omega⟩
    · rcases putRole_cases hr with e | hr
      · rcases hg4 with e' | ⟨g', e', hle⟩
        · exact .inl ⟨_, hF.ro k (by rw [← e', e])⟩
        · have := hr4.lt k e
          rw [e'] at e
          cases e
          exact .inr ⟨by omega, this⟩
      · rcases putRole_cases hr with e | hr
        · rcases e3 with e' | ⟨g', e', hle⟩
          · exact .inl ⟨_, hF.rb k (by rw [← e', e])⟩
          · have := hlb' k e
            rw [e'] at e
            cases e
            exact .inr ⟨hle, by omega⟩
        · exact .inl ⟨_, hr⟩
  have hw0 := h.below.size
  refine ⟨_, h.setFile hmA hF.role hF.rb hF.ro hk (fun k r hr => ?_) ⟨vb', vo', Gb', Go', fs ++ [c0, c1, c2], ?_⟩, ⟨hmA.mono fun k _ e => ?_, fun k r hr hlt => ?_⟩, hk⟩
  · rcases hnew k r hr with ⟨r', hr'⟩ | ⟨h1, h2⟩
    · have := h.low k r' hr'
      omega
    · omega
  · exact {
      role := hk _ _ hF.role
      blk := (hm4.blk e1 nbo).set 2 _
      row := e2.keep hm45 (fun g hg e => by
        rcases e with e | e
        · exact nob g hg e
        · exact nbb' g hg e)
      rb := fun g hg => k3 _ _ (k2 _ _ (putRole_is hg))
      orow := by
        have := hr4.keep hm5 nbo'
        simpa using this
      ro := fun g hg => k3 _ _ (putRole_is hg)
      steps := StepsR.snoc (e5 _ _ (hm45.mono fun k _ e hK => by
          have h4 := e4 k hK
          rcases e with e | e
          · have := hGo k e.symm
            omega
          · omega) fun k hK => putRoles_in hK) _ _ (StepsR.keep hmA (fun k hk e => by
          rcases e with e | e | e
          · rw [e, hF.role] at hk
            cases hk
          · rw [hF.rb k e.symm] at hk
            cases hk
          · rw [hF.ro k e.symm] at hk
            cases hk) (fun k hk' => hk k _ hk') _ _ hF.steps) }
  · rcases e with rfl | e | e
    · exact ⟨_, hF.role⟩
    · exact ⟨_, hF.rb k e.symm⟩
    · exact ⟨_, hF.ro k e.symm⟩
  · rcases hnew k r hr with h1 | ⟨h1, h2⟩
    · exact h1
    · omega
end
end Go.Proofs.YthhnlkbjpahjeaaGreatDoor

end
section
namespace Go.Proofs.YthhnlkbjpahjeaaGreatDoor
open Go.RowKit Go.Maps
theorem step_append_rw {P : Program} {ops : Array Oper} {o : Oper} {a : Act} {w : World} {K : Act → World → Prop} {Q : Exit → Act → World → Prop} {E : Prop}
    (hg : o.guard = none) (s x : Operand) (t tx : TypeId) (hop : o.op = Op.call { callee := Callee.builtin Builtin.append, args := #[s, x], argTypes := #[t, tx] })
    (e : TypeId) (i : TypeInfo) (z : Value) (size bytes : Nat) (ht : P.underlying t = some (.slice e)) (hi : P.info? e = some i) (hz : i.zero = some z) (hsize : i.size = size) (hby : i.bytes = bytes) (hzs : z.cells.size = size)
    {v : Value} {n : Nat} {cs : List Value} {G : Option Nat} (hv : a.eval s = v) (h : Rw w size v n cs G) (xv : Value) (m : Nat) (news : List Value) (hx : a.eval x = xv) (hs : Src P size tx xv m news w) (h63 : n + m ≤ maxLen) (hbytes : (n + m) * bytes ≤ 140737488355328)
    (hK : ∀ v' w' G', Rw w' size v' (n + m) (cs ++ news) G' → Mvs (fun k => some k = G) w w' → (G' = G ∨ G' = some w.heap.size) → K (a.put o.dst v') w') :
    if Region.wanted o (yielded ops a.tmps) = true then Oper.wp P o a w K Q else E := by
  have hw : Region.wanted o (yielded ops a.tmps) = true := by simp [Region.wanted, hg]
  rw [if_pos hw]
  obtain ⟨v', w', G', hrun, r1, r2, r3⟩ := run_append_rw (P := P) t tx o.type e i z size bytes ht hi hz hsize hby hzs h xv m news hs h63 hbytes
  unfold Oper.wp
  simp [execOp, hop, resolve, invoke, builtin, hv, hx, hrun, Result.andThen]
  exact hK v' w' G' r1 r2 r3
theorem stepInfo : (Tryz.prog.info? 104).map (fun i => (i.zero, i.size, i.bytes)) = some (some (.agg #[.bool false, .int .i64 0, .nilFunc]), 3, 24) := by kernel_rfl
theorem src_step {w : World} {c0 c1 c2 : Value} (h : ∀ u ∈ [c0, c1, c2], u.oneCell' = true) {c : Nat} : Src Tryz.prog 3 98 (.slice (some ⟨w.heap.size, 0, none⟩) 1 c) 1 [c0, c1, c2] (w.alloc (.cells #[c0, c1, c2] 104)) := by
  refine Src.ofSlice _ Tryz.underlying98 ⟨w.heap.size, 0, none⟩ 1 c [c0, c1, c2] rfl (fun j x hx => ?_) h
  rw [Go.WideShapes.add_plain, Nat.zero_add, (Blk.new w _ _).cell, ← hx]
  rw [← List.getElem?_toArray]
theorem FileRs.at {w w' : World} {ρ : Nat → Option Role} {b : Nat} {fa : FA} {vb vo : Value} {Gb Go : Option Nat} {cs : List Value} {S : Nat → Prop} (h : FileRs w ρ b fa vb vo Gb Go cs) (hm : Mvs S w w') (hS : ∀ k r, ρ k = some r → ¬ S k) : FileRs w' ρ b fa vb vo Gb Go cs :=
  ⟨h.role, hm.blk h.blk (hS _ _ h.role), h.row.keep hm (fun g hg => hS _ _ (h.rb g hg)), h.rb, h.orow.keep hm (fun g hg => hS _ _ (h.ro g hg)), h.ro, StepsR.keep hm (fun _ hk => hS _ _ hk) (fun _ h => h) _ _ h.steps⟩
theorem FileRs.facts {w w3 : World} {ρ : Nat → Option Role} {b : Nat} {fa : FA} {vb vo : Value} {Gb Go : Option Nat} {fs : List Value} {bytes : List UInt8} {c0 c1 c2 : Value} {sa : SA} (hF : FileRs w ρ b fa vb vo Gb Go fs) (hS : Stepd w w3 b Gb fa.num vo bytes c0 c1 c2 sa) :
    ∃ x0 m0 fn0 fi0 ca0, c0 = .bool x0 ∧ c1 = .int .i64 m0 ∧ c2 = .func fn0 fi0 ca0 ∧ (∃ vb', Blk w3 b #[.int .i64 fa.num, vb', vo] 100) ∧ ¬ some b = Go ∧ Rw (w3.alloc (.cells #[.bool x0, .int .i64 m0, .func fn0 fi0 ca0] 104)) 3 vo fa.opn.length fs Go ∧
      Src Tryz.prog 3 98 (.slice (some ⟨w3.heap.size, 0, none⟩) 1 1) 1 [.bool x0, .int .i64 m0, .func fn0 fi0 ca0] (w3.alloc (.cells #[.bool x0, .int .i64 m0, .func fn0 fi0 ca0] 104)) := by
  obtain ⟨x0, m0, fn0, fi0, ca0, rfl, rfl, rfl⟩ := hS.shape
  obtain ⟨vb', Gb', K, e1, _⟩ := hS.ex
  have hbo : ¬ some b = Go := fun e => by have := hF.ro b e.symm; rw [hF.role] at this; cases this
  refine ⟨x0, m0, fn0, fi0, ca0, rfl, rfl, rfl, ⟨vb', e1⟩, hbo, ?_, src_step (by intro u hu; simp at hu; rcases hu with rfl | rfl | rfl <;> rfl)⟩
  refine (hF.orow.keep hS.mvs (fun g hg e => ?_)).keep (S := fun _ => False) ((Mvs.refl _ _).alloc _) (fun _ _ c => c)
  rcases e with e | e
  · have r1 := hF.rb g e.symm
    rw [hF.ro g hg] at r1
    cases r1
  · rw [e] at hg
    exact hbo hg.symm
theorem keyInt (n : Int) (h0 : 0 ≤ n) (h1 : n ≤ 1000000000) : keyOf Tryz.prog 3 (.int .i64 n) = some (.int .i64 n) := keyOf_int_mk Tryz.underlying3 (by simp [Lit.wf, IntKind.min, IntKind.max, IntKind.signed, IntKind.bits]; omega)
set_option maxRecDepth 20000 in
set_option maxHeartbeats 4000000 in
theorem changeFile_put (w0 w : World) (d : Nat) (ρ : Nat → Option Role) (s : St) (h : DK w0 w d ρ s) (ha : s.armed < 0) (hs0 : 0 ≤ s.steps) (hs1 : s.steps ≤ 1000000) (ho0 : 0 ≤ s.opened) (ho1 : s.opened ≤ 1000000) (hN : s.N ≤ 100000)
    (b : Nat) (fa : FA) (hφ : s.φ b = some fa) (hn0 : 0 ≤ fa.num) (hn1 : fa.num ≤ 1000000) (hop : fa.opn.length ≤ 1000000) (x : Value) (news : List UInt8) (hx : BR w x news) (hxr : ∀ A n c, x = .slice (some A) n c → ρ A.block = none) (hl : fa.bytes.length + news.length ≤ 1000000000)
    (cf cb : Nat) (hcf : Blk w cf #[pv b] 72) (hcb : Blk w cb #[x] 46) (hrf : ρ cf = none) (hrb : ρ cb = none) :
    Calls Tryz.prog 81 #[pv d, pv b, appV cf cb] w fun e w' => e = .returned .nilIface ∧ ∃ ρ', DK w0 w' d ρ' { (s.withF b ⟨fa.num, fa.bytes ++ news, fa.opn ++ [.put fa.bytes.length news.length]⟩) with ch := s.ch.put (.int .i64 fa.num) (pd b), N := s.N + 1, opened := s.opened + 1, steps := s.steps + 1 } ∧ Turn w w' ρ ρ' ∧ Keeps ρ ρ' := by
  obtain ⟨bn, bs, bc, vs, vl, Gs, Gl, cs, h⟩ := h
  obtain ⟨i0, hi, hz0, hz1, hz2⟩ := info_parts stepInfo
  have hne := h.ne
  have HD := hide h
  have hnf : cf ≠ d := fun e => by rw [e, h.rd] at hrf; cases hrf
  have hnb : cb ≠ d := fun e => by rw [e, h.rd] at hrb; cases hrb
  clear h
  unfold appV pv
  go_enter Tryz.func81, Tryz.ntmps81
  go_wp2_with fail
  refine (takeStep_free _ d _ _ _ _ _ _ _ _ _ _ _ HD.out.blk ha hs0 (by omega)).mono ?_
  rintro e w1 ⟨rfl, hw1⟩
  have hm1 : Mvs (fun k => k = d) w w1 := by rw [hw1]; exact (Mvs.refl _ _).setCell _ _ (fun _ => rfl)
  have H1 := hide (HD.out.ints hm1 s.created s.opened (s.steps + 1) s.armed s.off s.quota (by rw [hw1]; exact HD.out.blk.set 7 _))
  have HM1 := hide hm1
  have hx1 := hide (AR.keep hx hm1 (fun A n c e e' => by have := hxr A n c e; rw [e', HD.out.rd] at this; cases this))
  have hcf1 := hide (hm1.blk hcf hnf)
  have hcb1 := hide (hm1.blk hcb hnb)
  clear hw1 hm1 hcf hcb hx
  obtain ⟨vb, vo, Gb, Go, fs, hF⟩ := H1.out.files b fa hφ
  obtain ⟨Ao, co, rfl⟩ := hF.orow.form
  have HF := hide hF
  have hcF := hF.blk.cell
  have hfF := hF.blk.frozen
  clear hF
  have HDd := hide (H1.out.keep (S := fun _ => False) (Mvs.refl _ w1).drew (fun _ _ _ c => c) (fun _ c => c.elim))
  have HFd := hide (HF.out.at (S := fun _ => False) (Mvs.refl _ w1).drew (fun _ _ _ c => c))
  have HC := hide (appendClo w1.drew ρ b fa vb _ Gb Go fs HFd.out x news (hx1.out.below (below_drewN w1 1)) hl cf cb hcf1.out hcb1.out)
  go_wp2_with fail
  unfold pv at HC
  go_region_law (first
    | (refine step_append_rw rfl (.tmp 17) (.tmp 20) 98 98 rfl 104 i0 (.agg #[.bool false, .int .i64 0, .nilFunc]) 3 24 Tryz.underlying98 hi hz0 hz1 hz2 rfl (by simp [Act.eval]) HRO.out _ 1 [.bool x0, .int .i64 m0, .func fn0 fi0 ca0] (by simp [Act.eval]) HSR.out (by simp only [maxLen]; omega) (by omega) ?_
       intro v4 w4 G4 hr4 hm4 hg4
       obtain ⟨A4, c4, rfl⟩ := hr4.form
       have hk4 := hide (hm4.blk ((HB3.out).alloc (.cells #[.bool x0, .int .i64 m0, .func fn0 fi0 ca0] 104)) Hbo.out)
       have hcF4 := hk4.out.cell
       have hfF4 := hk4.out.frozen
       have HR4 := hide hr4
       have HM4 := hide hm4
       have HG4 := hide hg4
       clear hr4 hm4 hg4)
    | (go_simp
       go_at_call 82
       refine HC.out.mono ?_
       rintro e w3 ⟨c0, c1, c2, rfl, hS⟩
       obtain ⟨x0, m0, fn0, fi0, ca0, rfl, rfl, rfl, ⟨vb3, hB3⟩, hbo, hRO, hSR⟩ := HFd.out.facts hS
       have HB3 := hide hB3
       have hcF3 := hB3.cell
       have hfF3 := hB3.frozen
       have hlt3 := hB3.lt
       have HRO := hide hRO
       have HSR := hide hSR
       have Hbo := hide hbo
       have HS := hide hS
       clear hS hB3 hbo hRO hSR))
  all_goals (
    have hD1d := HDd.out
    obtain ⟨ρ5, hD5, hT5, hK5⟩ := hD1d.stepped HFd.out HS.out ((((Mvs.refl (fun k => some k = Go) w3).alloc _)).trans HM4.out) HR4.out (HG4.out.imp id fun e => ⟨_, e, by simp⟩)
    have HT5 := hide hT5
    have HK5 := hide hK5
    clear hD1d hT5 hK5 HC HB3 hcF3 hfF3 hlt3 HRO HSR Hbo HS hk4 hcF4 hfF4 HR4 HM4 HG4 hcF hfF
    generalize w4.setCell ⟨b, 2, none⟩ _ = w5 at *
    have hk5 : Blk w5 d #[.map (some bn), .map (some bs), vs, .map (some bc), vl, .int .i64 s.created, .int .i64 s.opened, .int .i64 (s.steps + 1), .int .i64 s.armed, .bool s.off, .int .i64 s.quota] 56 := hD5.blk
    have hc5 := hk5.cell
    obtain ⟨vb5, vo5, Gb5, Go5, fs5, hF5⟩ := hD5.files b _ (show (if b = b then _ else _) = some _ from if_pos rfl)
    have hcf5 := hF5.blk.cell
    obtain ⟨w6, hrun6, hN6, hg6⟩ := (World.ownsMap.drew hD5.chg).update intKeyed Tryz.underlying52 (by show s.N < maxLen; simp only [maxLen]; omega) (keyInt fa.num hn0 (by omega)) (show ptrElem (pv b) = some (pd b, []) from rfl)
    have HD5 := hide hD5
    have HN6 := hide hN6
    have HG6 := hide hg6
    have hk6 := hide ((Mvs.of_grown hg6).blk (x := w5.drew) hk5 (fun e => hne.2.2.1 (Option.some.inj e).symm))
    have hc6 := hk6.out.cell
    have hf6 := hk6.out.frozen
    unfold pv at hrun6
    clear hD5 hN6 hg6 hk5 hF5 hi hz0 hz1 hz2
    go_wp2_with fail
    go_region
    go_wp2
    go_ret
    have hm6 : Mvs (fun k => k = bc) w5.drew w6 := (Mvs.of_grown HG6.out).mono fun _ _ e => Option.some.inj e
    have hD5d := HD5.out.keep (S := fun _ => False) (Mvs.refl _ w5).drew (fun _ _ _ c => c) (fun _ c => c.elim)
    have hD6 := hD5d.chn hm6 _ HN6.out
    have hm7 : Mvs (fun k => k = d) w6 (w6.setCell ⟨d, 6, none⟩ (.int .i64 (s.opened + 1))) := (Mvs.refl (fun k => k = d) w6).setCell ⟨d, 6, none⟩ _ (fun _ => rfl)
    have hD7 := hD6.ints hm7 s.created (s.opened + 1) (s.steps + 1) s.armed s.off s.quota (hk6.out.set 6 _)
    have t1 : Turn w w1.drew ρ ρ := ⟨(HM1.out.mono fun i _ e => by subst e; exact ⟨_, HD.out.rd⟩).drew, fun k r hr _ => ⟨r, hr⟩⟩
    have t2 : Turn w5 w6 ρ5 ρ5 := ⟨((Mvs.refl _ w5).drew).trans (hm6.mono fun i _ e => by subst e; exact ⟨_, HD5.out.rc⟩), fun k r hr _ => ⟨r, hr⟩⟩
    have t3 : Turn w6 (w6.setCell ⟨d, 6, none⟩ (.int .i64 (s.opened + 1))) ρ5 ρ5 := ⟨hm7.mono fun i _ e => by subst e; exact ⟨_, HD5.out.rd⟩, fun k r hr _ => ⟨r, hr⟩⟩
    exact ⟨rfl, ρ5, ⟨_, _, _, _, _, _, _, _, hD7⟩, t1.trans (HT5.out.trans (t2.trans t3)), HK5.out⟩)
end Go.Proofs.YthhnlkbjpahjeaaGreatDoor

end
