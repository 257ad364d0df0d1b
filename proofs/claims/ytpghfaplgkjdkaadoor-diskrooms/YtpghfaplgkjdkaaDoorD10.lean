/- A disk: a step of a file, put into its row of open steps. -/
import Derived.Test.YtpghfaplgkjdkaaDoorD9
namespace Go.Proofs.YtpghfaplgkjdkaaDoor
open Go.RowKit Go.Maps
theorem putRole_other {ρ : Nat → Option Role} {G : Option Nat} {r : Role} {k : Nat} (h : some k ≠ G) : putRole ρ G r k = ρ k := if_neg h
theorem putRole_is {ρ : Nat → Option Role} {G : Option Nat} {r : Role} {k : Nat} (h : G = some k) : putRole ρ G r k = some r := if_pos h.symm
theorem putRole_cases {ρ : Nat → Option Role} {G : Option Nat} {r r0 : Role} {k : Nat} (h : putRole ρ G r k = some r0) : G = some k ∨ ρ k = some r0 := by
  unfold putRole at h
  split at h
  · rename_i e
    exact .inl e.symm
  · exact .inr h
section
variable {w0 w w3 w4 : World} {d : Nat} {ρ : Nat → Option Role} {s : St} {bn bs bc : Nat} {vs vl : Value} {Gs Gl : Option Nat} {cs : List Value}
theorem DKs.stepped (h : DKs w0 w d ρ s bn bs bc vs vl Gs Gl cs) {b : Nat} {fa : FA} {vb vo vo' : Value} {Gb Go Go' : Option Nat} {fs : List Value} {bytes : List UInt8} {c0 c1 c2 : Value} {sa : SA} (hF : FileRs w ρ b fa vb vo Gb Go fs) (hS : Stepd w w3 b Gb fa.num vo bytes c0 c1 c2 sa)
    (hm4 : Mvs (fun k => some k = Go) w3 w4) (hr4 : Rw w4 3 vo' (fa.opn.length + 1) (fs ++ [c0, c1, c2]) Go') (hg4 : Go' = Go ∨ ∃ g, Go' = some g ∧ w3.heap.size ≤ g) :
    ∃ ρ', DKs w0 (w4.setCell ⟨b, 2, none⟩ vo') d ρ' (s.withF b ⟨fa.num, bytes, fa.opn ++ [sa]⟩) bn bs bc vs vl Gs Gl cs ∧ Turn w (w4.setCell ⟨b, 2, none⟩ vo') ρ ρ' ∧ Keeps ρ ρ' := by
  obtain ⟨vb', Gb', K, e1, e2, e3, e4, e5⟩ := hS.ex
  have hw3 := hS.mvs.size
  have hw4 := hm4.size
  have hb3 : b < w.heap.size := hF.blk.lt
  have hGo : ∀ g, Go = some g → g < w.heap.size := hF.orow.lt
  have hGb : ∀ g, Gb = some g → g < w.heap.size := hF.row.lt
  have nbo : some b ≠ Go := fun e => by have := hF.ro b e.symm; rw [hF.role] at this; cases this
  have nbb : some b ≠ Gb := fun e => by have := hF.rb b e.symm; rw [hF.role] at this; cases this
  have nbo' : ∀ g, Go' = some g → g ≠ b := fun g hg e => by
    rcases hg4 with e' | ⟨g', e', hle⟩
    · exact nbo (by rw [← e', hg, e])
    · rw [e'] at hg
      cases hg
      omega
  have nbb' : ∀ g, Gb' = some g → g ≠ b := fun g hg e => by
    rcases e3 with e' | ⟨g', e', hle⟩
    · exact nbb (by rw [← e', hg, e])
    · rw [e'] at hg
      cases hg
      omega
  have hlb' : ∀ g, Gb' = some g → g < w3.heap.size := e2.lt
  have nob : ∀ g, Gb' = some g → some g ≠ Go := fun g hg e => by
    rcases e3 with e' | ⟨g', e', hle⟩
    · have r1 := hF.rb g (by rw [← e', hg])
      have r2 := hF.ro g e.symm
      rw [r1] at r2
      cases r2
    · rw [e'] at hg
      cases hg
      have := hGo _ e.symm
      omega
  have nob' : ∀ g, Gb' = some g → some g ≠ Go' := fun g hg e => by
    rcases hg4 with e' | ⟨g', e', hle⟩
    · exact nob g hg (by rw [e, e'])
    · rw [e'] at e
      cases e
      have := hlb' _ hg
      omega
  have nKo : ∀ k, K = some k → some k ≠ Go' := fun k hk e => by
    have h4 := e4 k hk
    rcases hg4 with e' | ⟨g', e', hle⟩
    · have := hGo k (by rw [← e', e])
      omega
    · rw [e'] at e
      cases e
      omega
  have hm5 : Mvs (fun k => k = b) w4 (w4.setCell ⟨b, 2, none⟩ vo') := (Mvs.refl (fun k => k = b) w4).setCell ⟨b, 2, none⟩ _ (fun _ => rfl)
  have hm45 : Mvs (fun k => some k = Go ∨ k = b) w3 (w4.setCell ⟨b, 2, none⟩ vo') := (hm4.mono fun _ _ e => .inl e).trans (hm5.mono fun _ _ e => .inr e)
  have hmA : Mvs (fun k => k = b ∨ some k = Gb ∨ some k = Go) w (w4.setCell ⟨b, 2, none⟩ vo') := (hS.mvs.mono fun _ _ e => e.elim (fun e => .inr (.inl e)) .inl).trans (hm45.mono fun _ _ e => e.elim (fun e => .inr (.inr e)) .inl)
  have hsz5 : w4.heap.size = (w4.setCell ⟨b, 2, none⟩ vo').heap.size := by simp [World.setCell]
  have hlt : ∀ k r, ρ k = some r → k < w.heap.size := fun k r hr => h.lt hr
  have k1 : Keeps ρ (putRole ρ Gb' (.bytes b)) := keeps_put (w := w) hF.rb hlt e3
  have k2 : Keeps (putRole ρ Gb' (.bytes b)) (putRole (putRole ρ Gb' (.bytes b)) Go' (.opened b)) := fun k r hr => by
    by_cases e : Go' = some k
    · rw [putRole_is e]
      rcases putRole_cases hr with e' | e'
      · exact absurd e.symm (nob' k e')
      · rcases hg4 with e1' | ⟨g', e1', hle⟩
        · rw [hF.ro k (by rw [← e1', e])] at e'
          exact e'
        · rw [e1'] at e
          cases e
          have := hlt _ _ e'
          omega
    · rw [putRole_other (fun e' => e e'.symm)]
      exact hr
  have k3 : Keeps (putRole (putRole ρ Gb' (.bytes b)) Go' (.opened b)) (putRole (putRole (putRole ρ Gb' (.bytes b)) Go' (.opened b)) K .cap) := fun k r hr => by
    by_cases e : K = some k
    · have h4 := e4 k e
      rcases putRole_cases hr with e' | e'
      · exact absurd e'.symm (nKo k e)
      · rcases putRole_cases e' with e'' | e''
        · exact absurd e'' h4.2.2
        · have := hlt _ _ e''
          omega
    · rw [putRole_other (fun e' => e e'.symm)]
      exact hr
  have hk : Keeps ρ (putRole (putRole (putRole ρ Gb' (.bytes b)) Go' (.opened b)) K .cap) := fun k r hr => k3 k r (k2 k r (k1 k r hr))
  have hnew : ∀ k r, putRole (putRole (putRole ρ Gb' (.bytes b)) Go' (.opened b)) K .cap k = some r → (∃ r', ρ k = some r') ∨ (w.heap.size ≤ k ∧ k < w4.heap.size) := fun k r hr => by
    rcases putRole_cases hr with e | hr
    · have := e4 k e
      exact .inr ⟨this.1, by omega⟩
    · rcases putRole_cases hr with e | hr
      · rcases hg4 with e' | ⟨g', e', hle⟩
        · exact .inl ⟨_, hF.ro k (by rw [← e', e])⟩
        · have := hr4.lt k e
          rw [e'] at e
          cases e
          exact .inr ⟨by omega, this⟩
      · rcases putRole_cases hr with e | hr
        · rcases e3 with e' | ⟨g', e', hle⟩
          · exact .inl ⟨_, hF.rb k (by rw [← e', e])⟩
          · have := hlb' k e
            rw [e'] at e
            cases e
            exact .inr ⟨hle, by omega⟩
        · exact .inl ⟨_, hr⟩
  have hw0 := h.below.size
  refine ⟨_, h.setFile hmA hF.role hF.rb hF.ro hk (fun k r hr => ?_) ⟨vb', vo', Gb', Go', fs ++ [c0, c1, c2], ?_⟩, ⟨hmA.mono fun k _ e => ?_, fun k r hr hlt => ?_⟩, hk⟩
  · rcases hnew k r hr with ⟨r', hr'⟩ | ⟨h1, h2⟩
    · have := h.low k r' hr'
      omega
    · omega
  · exact {
      role := hk _ _ hF.role
      blk := (hm4.blk e1 nbo).set 2 _
      row := e2.keep hm45 (fun g hg e => by
        rcases e with e | e
        · exact nob g hg e
        · exact nbb' g hg e)
      rb := fun g hg => k3 _ _ (k2 _ _ (putRole_is hg))
      orow := by
        have := hr4.keep hm5 nbo'
        simpa using this
      ro := fun g hg => k3 _ _ (putRole_is hg)
      steps := StepsR.snoc (e5 _ _ fun k hK => ⟨putRole_is hK, by
          have h4 := e4 k hK
          exact hm45.block k h4.2.1 (fun e => by
            rcases e with e | e
            · have := hGo k e.symm
              omega
            · omega)⟩) _ _ (StepsR.keep hmA (fun k hk e => by
          rcases e with e | e | e
          · rw [e, hF.role] at hk
            cases hk
          · rw [hF.rb k e.symm] at hk
            cases hk
          · rw [hF.ro k e.symm] at hk
            cases hk) (fun k hk' => hk k _ hk') _ _ hF.steps) }
  · rcases e with rfl | e | e
    · exact ⟨_, hF.role⟩
    · exact ⟨_, hF.rb k e.symm⟩
    · exact ⟨_, hF.ro k e.symm⟩
  · rcases hnew k r hr with h1 | ⟨h1, h2⟩
    · exact h1
    · omega
end
end Go.Proofs.YtpghfaplgkjdkaaDoor
