/- A disk: one file of it turns. -/
import Derived.Test.YtpghfaplgkjdkaaDoorD8
namespace Go.Proofs.YtpghfaplgkjdkaaDoor
open Go.RowKit Go.Maps
def cutV (cf cb : Nat) : Value := .func (.func 27) #[] #[pv cf, pv cb]
set_option maxRecDepth 8000 in
set_option maxHeartbeats 2000000 in
theorem cutClo (w : World) (ρ : Nat → Option Role) (b : Nat) (fa : FA) (vb vo : Value) (Gb Go : Option Nat) (cs : List Value) (h : FileRs w ρ b fa vb vo Gb Go cs) (hl : fa.bytes.length ≤ 1000000)
    (cf cb : Nat) (hcf : Blk w cf #[pv b] 51) (hcb : Blk w cb #[.int .i64 0] 3) :
    Calls Tryd.prog 27 #[pv cf, pv cb] w fun e w' => ∃ c0 c1 c2, e = .returned (.agg #[c0, c1, c2]) ∧ Stepd w w' b Gb fa.num vo [] c0 c1 c2 .other := by
  have hF1 : FileRs (w.alloc (.cells #[.bool false, .int .i64 0, .nilFunc] 63)) ρ b fa vb vo Gb Go cs := ⟨h.role, h.blk.alloc _, h.row.keep (S := fun _ => False) ((Mvs.refl _ _).alloc _) (fun _ _ c => c), h.rb, h.orow.keep (S := fun _ => False) ((Mvs.refl _ _).alloc _) (fun _ _ c => c), h.ro, StepsR.keep (S := fun _ => False) ((Mvs.refl _ _).alloc _) (fun _ _ c => c) (fun _ h => h) _ _ h.steps⟩
  have HP := hide (cut0_any _ ρ b fa vb vo Gb Go cs hF1 hl)
  have HG := hide h.row.lt
  have hlt := h.blk.lt
  have h1 := hcf.cell
  have h2 := hcb.cell
  have h3 := hcf.lt
  have h4 := hcb.lt
  have HR := hide (Blk.new w #[.bool false, .int .i64 0, .nilFunc] 63)
  clear h hF1 hcf hcb
  unfold pv at *
  go_enter Tryd.func27, Tryd.ntmps27
  go_wp2_with (go_at_call 28; refine HP.out.mono ?_)
  rintro e w3 ⟨c0, c1, c2, rfl, hS⟩
  have hk3 := hS.mvs.blk HR.out (by
    rintro (e | e)
    · have := HG.out _ e.symm
      omega
    · omega)
  have hc3 := hk3.cell
  have hf3 := hk3.frozen
  obtain ⟨x0, n0, fn, fi, ca, rfl, rfl, rfl⟩ := hS.shape
  have HS := hide hS
  have HK := hide hk3
  clear hS hk3 HP
  go_wp2
  have qR := ((HK.out.set 0 (.bool x0)).set 1 (.int .i64 n0)).set 2 (.func fn fi ca)
  have hmm : Mvs (fun k => k = w.heap.size) w3 (((w3.setCell ⟨w.heap.size, 0, none⟩ (.bool x0)).setCell ⟨w.heap.size, 1, none⟩ (.int .i64 n0)).setCell ⟨w.heap.size, 2, none⟩ (.func fn fi ca)) :=
    (((Mvs.refl (fun k => k = w.heap.size) w3).setCell ⟨w.heap.size, 0, none⟩ _ (fun _ => rfl)).setCell ⟨w.heap.size, 1, none⟩ _ (fun _ => rfl)).setCell ⟨w.heap.size, 2, none⟩ _ (fun _ => rfl)
  generalize ((w3.setCell ⟨w.heap.size, 0, none⟩ (.bool x0)).setCell ⟨w.heap.size, 1, none⟩ (.int .i64 n0)).setCell ⟨w.heap.size, 2, none⟩ (.func fn fi ca) = W at *
  have hbc := qR.cell
  exact bodyPost_ret (v := .agg #[.bool x0, .int .i64 n0, .func fn fi ca]) (by simp [results, Tryd.results27, go_sem, hbc]) rfl ⟨_, _, _, rfl, HS.out.wrap hmm hlt HG.out⟩
section
variable {w0 w w' : World} {d : Nat} {ρ ρ' : Nat → Option Role} {s : St} {bn bs bc : Nat} {vs vl : Value} {Gs Gl : Option Nat} {cs : List Value}
/-- The state with one file put in. -/
def St.withF (s : St) (b : Nat) (fa : FA) : St := { s with φ := fun k => if k = b then some fa else s.φ k }
theorem DKs.setFile (h : DKs w0 w d ρ s bn bs bc vs vl Gs Gl cs) {b : Nat} {Gb Go : Option Nat} {fa : FA} (hm : Mvs (fun k => k = b ∨ some k = Gb ∨ some k = Go) w w') (hb : ρ b = some .file) (hGb : ∀ g, Gb = some g → ρ g = some (.bytes b)) (hGo : ∀ g, Go = some g → ρ g = some (.opened b))
    (hk : Keeps ρ ρ') (hl : ∀ k r, ρ' k = some r → w0.heap.size ≤ k ∧ k < w'.heap.size) (hF : FileR w' ρ' b fa) : DKs w0 w' d ρ' (s.withF b fa) bn bs bc vs vl Gs Gl cs := by
  have role : ∀ k, (k = b ∨ some k = Gb ∨ some k = Go) → (ρ k = some .file ∧ k = b) ∨ ρ k = some (.bytes b) ∨ ρ k = some (.opened b) := fun k hk => by
    rcases hk with rfl | e | e
    · exact .inl ⟨hb, rfl⟩
    · exact .inr (.inl (hGb k e.symm))
    · exact .inr (.inr (hGo k e.symm))
  have ne : ∀ k r, ρ k = some r → ¬ r.of b k ∨ r = .cap → ¬ (k = b ∨ some k = Gb ∨ some k = Go) := fun k r hr hno hk => by
    rcases role k hk with ⟨e, rfl⟩ | e | e <;> rw [hr] at e <;> cases Option.some.inj e
    · rcases hno with hno | hno
      · exact hno rfl
      · cases hno
    · rcases hno with hno | hno
      · exact hno rfl
      · cases hno
    · rcases hno with hno | hno
      · exact hno rfl
      · cases hno
  have hlow : ∀ k, (k = b ∨ some k = Gb ∨ some k = Go) → w0.heap.size ≤ k := fun k hk => by
    rcases role k hk with ⟨e, _⟩ | e | e <;> exact (h.low k _ e).1
  exact {
    below := h.below.trans (hm.below (fun k hk c => by have := hlow k c; omega) h.below.size)
    low := hl
    blk := hm.blk h.blk (ne _ _ h.rd (.inl (fun e => e)))
    rd := hk _ _ h.rd
    rn := hk _ _ h.rn
    rs := hk _ _ h.rs
    rc := hk _ _ h.rc
    names := h.names.mvs hm (ne _ _ h.rn (.inl (fun e => e)))
    sure := h.sure.mvs hm (ne _ _ h.rs (.inl (fun e => e)))
    chg := h.chg.mvs hm (ne _ _ h.rc (.inl (fun e => e)))
    row := h.row.keep hm (fun g hg => ne _ _ (h.rsteps g hg) (.inl (fun e => e)))
    rsteps := fun g hg => hk _ _ (h.rsteps g hg)
    lost := h.lost.keep hm (fun g hg => ne _ _ (h.rlost g hg) (.inl (fun e => e)))
    rlost := fun g hg => hk _ _ (h.rlost g hg)
    files := fun b' fa' hb' => by
      unfold St.withF at hb'
      simp only at hb'
      split at hb'
      · rename_i e
        subst e
        cases hb'
        exact hF
      · rename_i hne
        refine (h.files b' fa' hb').keep hm (fun k r hr hof => ne k r hr ?_) (fun k r hr _ => hk k r hr)
        cases r with
        | file => exact .inl (fun e => hne ((show k = b' from hof).symm.trans (show k = b from e)))
        | bytes c => exact .inl (fun e => hne ((show c = b' from hof).symm.trans (show c = b from e)))
        | opened c => exact .inl (fun e => hne ((show c = b' from hof).symm.trans (show c = b from e)))
        | cap => exact .inr rfl
        | _ => exact hof.elim
    vD := fun kl b' hb' => by
      have := h.vD kl b' hb'
      unfold St.withF
      simp only
      split
      · rfl
      · exact this
    eD := h.eD }
end
end Go.Proofs.YtpghfaplgkjdkaaDoor
