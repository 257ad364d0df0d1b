/- A disk: one file of it turns. -/
/- A disk: a step of a file, put into its row of open steps. -/
import Derived.Test.YtcbkmcagnmpifaaGreatDoorU09
section
namespace Go.Proofs.YtcbkmcagnmpifaaGreatDoor
open Go.RowKit Go.Maps
def cutV (cf cb : Nat) : Value := .func (.func 109) #[] #[pv cf, pv cb]
set_option maxRecDepth 8000 in
set_option maxHeartbeats 2000000 in
theorem cutClo (w : World) (ρ : Nat → Option Role) (b : Nat) (fa : FA) (vb vo : Value) (Gb Go : Option Nat) (cs : List Value) (h : FileRs w ρ b fa vb vo Gb Go cs) (hl : fa.bytes.length ≤ 1000000)
    (cf cb : Nat) (hcf : Blk w cf #[pv b] 88) (hcb : Blk w cb #[.int .i64 0] 3) :
    Calls Tryz.prog 109 #[pv cf, pv cb] w fun e w' => ∃ c0 c1 c2, e = .returned (.agg #[c0, c1, c2]) ∧ Stepd w w' b Gb fa.num vo [] c0 c1 c2 .other := by
  have hF1 : FileRs (w.alloc (.cells #[.bool false, .int .i64 0, .nilFunc] 120)) ρ b fa vb vo Gb Go cs := ⟨h.role, h.blk.alloc _, h.row.keep (S := fun _ => False) ((Mvs.refl _ _).alloc _) (fun _ _ c => c), h.rb, h.orow.keep (S := fun _ => False) ((Mvs.refl _ _).alloc _) (fun _ _ c => c), h.ro, StepsR.keep (S := fun _ => False) ((Mvs.refl _ _).alloc _) (fun _ _ c => c) (fun _ h => h) _ _ h.steps⟩
  have HP := hide (cut0_any _ ρ b fa vb vo Gb Go cs hF1 hl)
  have HG := hide h.row.lt
  have hlt := h.blk.lt
  have h1 := hcf.cell
  have h2 := hcb.cell
  have h3 := hcf.lt
  have h4 := hcb.lt
  have HR := hide (Blk.new w #[.bool false, .int .i64 0, .nilFunc] 120)
  clear h hF1 hcf hcb
  unfold pv at *
  go_enter Tryz.func109, Tryz.ntmps109
  go_wp2_with (go_at_call 110; refine HP.out.mono ?_)
  rintro e w3 ⟨c0, c1, c2, rfl, hS⟩
  have hk3 := hS.mvs.blk HR.out (by
    rintro (e | e)
    · have := HG.out _ e.symm
      omega
    · omega)
  have hc3 := hk3.cell
  have hf3 := hk3.frozen
  obtain ⟨x0, n0, fn, fi, ca, rfl, rfl, rfl⟩ := hS.shape
  have HS := hide hS
  have HK := hide hk3
  clear hS hk3 HP
  go_wp2
  have qR := ((HK.out.set 0 (.bool x0)).set 1 (.int .i64 n0)).set 2 (.func fn fi ca)
  have hmm : Mvs (fun k => k = w.heap.size) w3 (((w3.setCell ⟨w.heap.size, 0, none⟩ (.bool x0)).setCell ⟨w.heap.size, 1, none⟩ (.int .i64 n0)).setCell ⟨w.heap.size, 2, none⟩ (.func fn fi ca)) :=
    (((Mvs.refl (fun k => k = w.heap.size) w3).setCell ⟨w.heap.size, 0, none⟩ _ (fun _ => rfl)).setCell ⟨w.heap.size, 1, none⟩ _ (fun _ => rfl)).setCell ⟨w.heap.size, 2, none⟩ _ (fun _ => rfl)
  generalize ((w3.setCell ⟨w.heap.size, 0, none⟩ (.bool x0)).setCell ⟨w.heap.size, 1, none⟩ (.int .i64 n0)).setCell ⟨w.heap.size, 2, none⟩ (.func fn fi ca) = W at *
  have hbc := qR.cell
  exact bodyPost_ret (v := .agg #[.bool x0, .int .i64 n0, .func fn fi ca]) (by simp [results, Tryz.results109, go_sem, hbc]) rfl ⟨_, _, _, rfl, HS.out.wrap hmm hlt HG.out⟩
section
variable {w0 w w' : World} {d : Nat} {ρ ρ' : Nat → Option Role} {s : St} {bn bs bc : Nat} {vs vl : Value} {Gs Gl : Option Nat} {cs : List Value}
/-- The state with one file put in. -/
def St.withF (s : St) (b : Nat) (fa : FA) : St := { s with φ := fun k => if k = b then some fa else s.φ k }
theorem DKs.setFile (h : DKs w0 w d ρ s bn bs bc vs vl Gs Gl cs) {b : Nat} {Gb Go : Option Nat} {fa : FA} (hm : Mvs (fun k => k = b ∨ some k = Gb ∨ some k = Go) w w') (hb : ρ b = some .file) (hGb : ∀ g, Gb = some g → ρ g = some (.bytes b)) (hGo : ∀ g, Go = some g → ρ g = some (.opened b))
    (hk : Keeps ρ ρ') (hl : ∀ k r, ρ' k = some r → w0.heap.size ≤ k ∧ k < w'.heap.size) (hF : FileR w' ρ' b fa) : DKs w0 w' d ρ' (s.withF b fa) bn bs bc vs vl Gs Gl cs := by
  have role : ∀ k, (k = b ∨ some k = Gb ∨ some k = Go) → (ρ k = some .file ∧ k = b) ∨ ρ k = some (.bytes b) ∨ ρ k = some (.opened b) := fun k hk => by
    rcases hk with rfl | e | e
    · exact .inl ⟨hb, rfl⟩
    · exact .inr (.inl (hGb k e.symm))
    · exact .inr (.inr (hGo k e.symm))
  have ne : ∀ k r, ρ k = some r → ¬ r.of b k ∨ r = .cap → ¬ (k = b ∨ some k = Gb ∨ some k = Go) := fun k r hr hno hk => by
    rcases role k hk with ⟨e, rfl⟩ | e | e <;> rw [hr] at e <;> cases Option.some.inj e
    · rcases hno with hno | hno
      · exact hno rfl
      · cases hno
    · rcases hno with hno | hno
      · exact hno rfl
      · cases hno
    · rcases hno with hno | hno
      · exact hno rfl
      · cases hno
  have hlow : ∀ k, (k = b ∨ some k = Gb ∨ some k = Go) → w0.heap.size ≤ k := fun k hk => by
    rcases role k hk with ⟨e, _⟩ | e | e <;> exact (h.low k _ e).1
  exact {
    below := h.below.trans (hm.below (fun k hk c => by have := hlow k c; omega) h.below.size)
    low := hl
    blk := hm.blk h.blk (ne _ _ h.rd (.inl (fun e => e)))
    rd := hk _ _ h.rd
    rn := hk _ _ h.rn
    rs := hk _ _ h.rs
    rc := hk _ _ h.rc
    names := h.names.mvs hm (ne _ _ h.rn (.inl (fun e => e)))
    sure := h.sure.mvs hm (ne _ _ h.rs (.inl (fun e => e)))
    chg := h.chg.mvs hm (ne _ _ h.rc (.inl (fun e => e)))
    row := h.row.keep hm (fun g hg => ne _ _ (h.rsteps g hg) (.inl (fun e => e)))
    rsteps := fun g hg => hk _ _ (h.rsteps g hg)
    lost := h.lost.keep hm (fun g hg => ne _ _ (h.rlost g hg) (.inl (fun e => e)))
    rlost := fun g hg => hk _ _ (h.rlost g hg)
    files := fun b' fa' hb' => by
      unfold St.withF at hb'
      simp only at hb'
      split at hb'
      · rename_i e
        subst e
        cases hb'
        exact hF
      · rename_i hne
        refine (h.files b' fa' hb').keep hm (fun k r hr hof => ne k r hr ?_) (fun k r hr _ => hk k r hr)
        cases r with
        | file => exact .inl (fun e => hne ((show k = b' from hof).symm.trans (show k = b from e)))
        | bytes c => exact .inl (fun e => hne ((show c = b' from hof).symm.trans (show c = b from e)))
        | opened c => exact .inl (fun e => hne ((show c = b' from hof).symm.trans (show c = b from e)))
        | cap => exact .inr rfl
        | _ => exact hof.elim
    vD := fun kl b' hb' => by
      have := h.vD kl b' hb'
      unfold St.withF
      simp only
      split
      · rfl
      · exact this
    eD := h.eD }
end
end Go.Proofs.YtcbkmcagnmpifaaGreatDoor

end
section
namespace Go.Proofs.YtcbkmcagnmpifaaGreatDoor
open Go.RowKit Go.Maps
theorem putRole_other {ρ : Nat → Option Role} {G : Option Nat} {r : Role} {k : Nat} (h : some k ≠ G) : putRole ρ G r k = ρ k := if_neg h
theorem putRole_is {ρ : Nat → Option Role} {G : Option Nat} {r : Role} {k : Nat} (h : G = some k) : putRole ρ G r k = some r := if_pos h.symm
theorem putRole_cases {ρ : Nat → Option Role} {G : Option Nat} {r r0 : Role} {k : Nat} (h : putRole ρ G r k = some r0) : G = some k ∨ ρ k = some r0 := by
  unfold putRole at h
  split at h
  · rename_i e
    exact .inl e.symm
  · exact .inr h
section
variable {w0 w w3 w4 : World} {d : Nat} {ρ : Nat → Option Role} {s : St} {bn bs bc : Nat} {vs vl : Value} {Gs Gl : Option Nat} {cs : List Value}
theorem DKs.stepped (h : DKs w0 w d ρ s bn bs bc vs vl Gs Gl cs) {b : Nat} {fa : FA} {vb vo vo' : Value} {Gb Go Go' : Option Nat} {fs : List Value} {bytes : List UInt8} {c0 c1 c2 : Value} {sa : SA} (hF : FileRs w ρ b fa vb vo Gb Go fs) (hS : Stepd w w3 b Gb fa.num vo bytes c0 c1 c2 sa)
    (hm4 : Mvs (fun k => some k = Go) w3 w4) (hr4 : Rw w4 3 vo' (fa.opn.length + 1) (fs ++ [c0, c1, c2]) Go') (hg4 : Go' = Go ∨ ∃ g, Go' = some g ∧ w3.heap.size ≤ g) :
    ∃ ρ', DKs w0 (w4.setCell ⟨b, 2, none⟩ vo') d ρ' (s.withF b ⟨fa.num, bytes, fa.opn ++ [sa]⟩) bn bs bc vs vl Gs Gl cs ∧ Turn w (w4.setCell ⟨b, 2, none⟩ vo') ρ ρ' ∧ Keeps ρ ρ' := by
  obtain ⟨vb', Gb', K, e1, e2, e3, e4, e5⟩ := hS.ex
  have hw3 := hS.mvs.size
  have hw4 := hm4.size
  have hb3 : b < w.heap.size := hF.blk.lt
  have hGo : ∀ g, Go = some g → g < w.heap.size := hF.orow.lt
  have hGb : ∀ g, Gb = some g → g < w.heap.size := hF.row.lt
  have nbo : some b ≠ Go := fun e => by have := hF.ro b e.symm; rw [hF.role] at this; cases this
  have nbb : some b ≠ Gb := fun e => by have := hF.rb b e.symm; rw [hF.role] at this; cases this
  have nbo' : ∀ g, Go' = some g → g ≠ b := fun g hg e => by
    rcases hg4 with e' | ⟨g', e', hle⟩
    · exact nbo (by rw [← e', hg, e])
    · rw [e'] at hg
      cases hg
      omega
  have nbb' : ∀ g, Gb' = some g → g ≠ b := fun g hg e => by
    rcases e3 with e' | ⟨g', e', hle⟩
    · exact nbb (by rw [← e', hg, e])
    · rw [e'] at hg
      cases hg
      omega
  have hlb' : ∀ g, Gb' = some g → g < w3.heap.size := e2.lt
  have nob : ∀ g, Gb' = some g → some g ≠ Go := fun g hg e => by
    rcases e3 with e' | ⟨g', e', hle⟩
    · have r1 := hF.rb g (by rw [← e', hg])
      have r2 := hF.ro g e.symm
      rw [r1] at r2
      cases r2
    · rw [e'] at hg
      cases hg
      have := hGo _ e.symm
      omega
  have nob' : ∀ g, Gb' = some g → some g ≠ Go' := fun g hg e => by
    rcases hg4 with e' | ⟨g', e', hle⟩
    · exact nob g hg (by rw [e, e'])
    · rw [e'] at e
      cases e
      have := hlb' _ hg
      omega
  have nKo : ∀ k, K = some k → some k ≠ Go' := fun k hk e => by
    have h4 := e4 k hk
    rcases hg4 with e' | ⟨g', e', hle⟩
    · have := hGo k (by rw [← e', e])
      omega
    · rw [e'] at e
      cases e
      omega
  have hm5 : Mvs (fun k => k = b) w4 (w4.setCell ⟨b, 2, none⟩ vo') := (Mvs.refl (fun k => k = b) w4).setCell ⟨b, 2, none⟩ _ (fun _ => rfl)
  have hm45 : Mvs (fun k => some k = Go ∨ k = b) w3 (w4.setCell ⟨b, 2, none⟩ vo') := (hm4.mono fun _ _ e => .inl e).trans (hm5.mono fun _ _ e => .inr e)
  have hmA : Mvs (fun k => k = b ∨ some k = Gb ∨ some k = Go) w (w4.setCell ⟨b, 2, none⟩ vo') := (hS.mvs.mono fun _ _ e => e.elim (fun e => .inr (.inl e)) .inl).trans (hm45.mono fun _ _ e => e.elim (fun e => .inr (.inr e)) .inl)
  have hsz5 : w4.heap.size = (w4.setCell ⟨b, 2, none⟩ vo').heap.size := by simp [World.setCell]
  have hlt : ∀ k r, ρ k = some r → k < w.heap.size := fun k r hr => h.lt hr
  have k1 : Keeps ρ (putRole ρ Gb' (.bytes b)) := keeps_put (w := w) hF.rb hlt e3
  have k2 : Keeps (putRole ρ Gb' (.bytes b)) (putRole (putRole ρ Gb' (.bytes b)) Go' (.opened b)) := fun k r hr => by
    by_cases e : Go' = some k
    · rw [putRole_is e]
      rcases putRole_cases hr with e' | e'
      · exact absurd e.symm (nob' k e')
      · rcases hg4 with e1' | ⟨g', e1', hle⟩
        · rw [hF.ro k (by rw [← e1', e])] at e'
          exact e'
        · rw [e1'] at e
          cases e
          have := hlt _ _ e'
          omega
    · rw [putRole_other (fun e' => e e'.symm)]
      exact hr
  have k3 : Keeps (putRole (putRole ρ Gb' (.bytes b)) Go' (.opened b)) (putRole (putRole (putRole ρ Gb' (.bytes b)) Go' (.opened b)) K .cap) := fun k r hr => by
    by_cases e : K = some k
    · have h4 := e4 k e
      rcases putRole_cases hr with e' | e'
      · exact absurd e'.symm (nKo k e)
      · rcases putRole_cases e' with e'' | e''
        · exact absurd e'' h4.2.2
        · have := hlt _ _ e''
          omega
    · rw [putRole_other (fun e' => e e'.symm)]
      exact hr
  have hk : Keeps ρ (putRole (putRole (putRole ρ Gb' (.bytes b)) Go' (.opened b)) K .cap) := fun k r hr => k3 k r (k2 k r (k1 k r hr))
  have hnew : ∀ k r, putRole (putRole (putRole ρ Gb' (.bytes b)) Go' (.opened b)) K .cap k = some r → (∃ r', ρ k = some r') ∨ (w.heap.size ≤ k ∧ k < w4.heap.size) := fun k r hr => by
    rcases putRole_cases hr with e | hr
    · have := e4 k e
      exact .inr ⟨this.1, by omega⟩
    · rcases putRole_cases hr with e | hr
      · rcases hg4 with e' | ⟨g', e', hle⟩
        · exact .inl ⟨_, hF.ro k (by rw [← e', e])⟩
        · have := hr4.lt k e
          rw [e'] at e
          cases e
          exact .inr ⟨by omega, this⟩
      · rcases putRole_cases hr with e | hr
        · rcases e3 with e' | ⟨g', e', hle⟩
          · exact .inl ⟨_, hF.rb k (by rw [← e', e])⟩
          · have := hlb' k e
            rw [e'] at e
            cases e
            exact .inr ⟨hle, by omega⟩
        · exact .inl ⟨_, hr⟩
  have hw0 := h.below.size
  refine ⟨_, h.setFile hmA hF.role hF.rb hF.ro hk (fun k r hr => ?_) ⟨vb', vo', Gb', Go', fs ++ [c0, c1, c2], ?_⟩, ⟨hmA.mono fun k _ e => ?_, fun k r hr hlt => ?_⟩, hk⟩
  · rcases hnew k r hr with ⟨r', hr'⟩ | ⟨h1, h2⟩
    · have := h.low k r' hr'
      omega
    · omega
  · exact {
      role := hk _ _ hF.role
      blk := (hm4.blk e1 nbo).set 2 _
      row := e2.keep hm45 (fun g hg e => by
        rcases e with e | e
        · exact nob g hg e
        · exact nbb' g hg e)
      rb := fun g hg => k3 _ _ (k2 _ _ (putRole_is hg))
      orow := by
        have := hr4.keep hm5 nbo'
        simpa using this
      ro := fun g hg => k3 _ _ (putRole_is hg)
      steps := StepsR.snoc (e5 _ _ fun k hK => ⟨putRole_is hK, by
          have h4 := e4 k hK
          exact hm45.block k h4.2.1 (fun e => by
            rcases e with e | e
            · have := hGo k e.symm
              omega
            · omega)⟩) _ _ (StepsR.keep hmA (fun k hk e => by
          rcases e with e | e | e
          · rw [e, hF.role] at hk
            cases hk
          · rw [hF.rb k e.symm] at hk
            cases hk
          · rw [hF.ro k e.symm] at hk
            cases hk) (fun k hk' => hk k _ hk') _ _ hF.steps) }
  · rcases e with rfl | e | e
    · exact ⟨_, hF.role⟩
    · exact ⟨_, hF.rb k e.symm⟩
    · exact ⟨_, hF.ro k e.symm⟩
  · rcases hnew k r hr with h1 | ⟨h1, h2⟩
    · exact h1
    · omega
end
end Go.Proofs.YtcbkmcagnmpifaaGreatDoor

end
