/- A disk: the steps of a file as closures. -/
import Derived.Test.YtpghfaplgkjdkaaDoorD6
namespace Go.Proofs.YtpghfaplgkjdkaaDoor
open Go.RowKit Go.Maps
theorem Stepd.wrap {w w' y : World} {o : Obj} {b : Nat} {Gb : Option Nat} {num : Int} {vo : Value} {bytes : List UInt8} {c0 c1 c2 : Value} {sa : SA} (h : Stepd (w.alloc o) w' b Gb num vo bytes c0 c1 c2 sa) (hm : Mvs (fun k => k = w.heap.size) w' y) (hb : b < w.heap.size) (hG : ∀ g, Gb = some g → g < w.heap.size) : Stepd w y b Gb num vo bytes c0 c1 c2 sa := by
  obtain ⟨vb', Gb', K, h1, h2, h3, h4, h5⟩ := h.ex
  have hs : (w.alloc o).heap.size = w.heap.size + 1 := by simp
  rw [hs] at h3 h4
  have hsz := hm.size
  refine ⟨(((Mvs.refl _ _).alloc o).trans h.mvs).trans' hm (fun i hi e => by omega), h.shape, vb', Gb', K, hm.blk h1 (by omega), h2.keep hm (fun g hg e => ?_), h3.imp id fun ⟨g, e, hg⟩ => ⟨g, e, by omega⟩, fun k hk => ⟨by have := (h4 k hk).1; omega, by have := (h4 k hk).2.1; omega, (h4 k hk).2.2⟩, fun ρ w2 hk => h5 ρ w2 fun k hK => ⟨(hk k hK).1, (hk k hK).2.trans (hm.block k (h4 k hK).2.1 (by have := (h4 k hK).1; omega))⟩⟩
  rcases h3 with e1 | ⟨g', e1, hle⟩
  · have := hG g (e1 ▸ hg)
    omega
  · rw [e1] at hg
    cases hg
    omega
def appV (cf cb : Nat) : Value := .func (.func 23) #[] #[pv cf, pv cb]
set_option maxRecDepth 8000 in
set_option maxHeartbeats 2000000 in
theorem appendClo (w : World) (ρ : Nat → Option Role) (b : Nat) (fa : FA) (vb vo : Value) (Gb Go : Option Nat) (cs : List Value) (h : FileRs w ρ b fa vb vo Gb Go cs) (x : Value) (news : List UInt8) (hx : BR w x news) (hl : fa.bytes.length + news.length ≤ 1000000000)
    (cf cb : Nat) (hcf : Blk w cf #[pv b] 51) (hcb : Blk w cb #[x] 34) :
    Calls Tryd.prog 23 #[pv cf, pv cb] w fun e w' => ∃ c0 c1 c2, e = .returned (.agg #[c0, c1, c2]) ∧ Stepd w w' b Gb fa.num vo (fa.bytes ++ news) c0 c1 c2 (.put fa.bytes.length news.length) := by
  have hb1 : Below w.heap.size w (w.alloc (.cells #[.bool false, .int .i64 0, .nilFunc] 63)) := (Below.refl _ _).alloc (Nat.le_refl _) _
  have hF1 : FileRs (w.alloc (.cells #[.bool false, .int .i64 0, .nilFunc] 63)) ρ b fa vb vo Gb Go cs := ⟨h.role, h.blk.alloc _, h.row.keep (S := fun _ => False) ((Mvs.refl _ _).alloc _) (fun _ _ c => c), h.rb, h.orow.keep (S := fun _ => False) ((Mvs.refl _ _).alloc _) (fun _ _ c => c), h.ro, StepsR.keep (S := fun _ => False) ((Mvs.refl _ _).alloc _) (fun _ _ c => c) (fun _ h => h) _ _ h.steps⟩
  have HP := hide (put_any _ ρ b fa vb vo Gb Go cs hF1 x news (hx.below hb1) hl)
  have HG := hide h.row.lt
  have hlt := h.blk.lt
  have h1 := hcf.cell
  have h2 := hcb.cell
  have h3 := hcf.lt
  have h4 := hcb.lt
  obtain ⟨A, c, rfl, _⟩ := hx.form
  have HR := hide (Blk.new w #[.bool false, .int .i64 0, .nilFunc] 63)
  clear h hx hF1 hcf hcb
  unfold pv at *
  go_enter Tryd.func23, Tryd.ntmps23
  go_wp2_with (go_at_call 24; refine HP.out.mono ?_)
  rintro e w3 ⟨c0, c1, c2, rfl, hS⟩
  have hk3 := hS.mvs.blk HR.out (by
    rintro (e | e)
    · have := HG.out _ e.symm
      omega
    · omega)
  have hc3 := hk3.cell
  have hf3 := hk3.frozen
  obtain ⟨x0, n0, fn, fi, ca, rfl, rfl, rfl⟩ := hS.shape
  have HS := hide hS
  have HK := hide hk3
  clear hS hk3 HP
  go_wp2
  have qR := ((HK.out.set 0 (.bool x0)).set 1 (.int .i64 n0)).set 2 (.func fn fi ca)
  have hmm : Mvs (fun k => k = w.heap.size) w3 (((w3.setCell ⟨w.heap.size, 0, none⟩ (.bool x0)).setCell ⟨w.heap.size, 1, none⟩ (.int .i64 n0)).setCell ⟨w.heap.size, 2, none⟩ (.func fn fi ca)) :=
    (((Mvs.refl (fun k => k = w.heap.size) w3).setCell ⟨w.heap.size, 0, none⟩ _ (fun _ => rfl)).setCell ⟨w.heap.size, 1, none⟩ _ (fun _ => rfl)).setCell ⟨w.heap.size, 2, none⟩ _ (fun _ => rfl)
  generalize ((w3.setCell ⟨w.heap.size, 0, none⟩ (.bool x0)).setCell ⟨w.heap.size, 1, none⟩ (.int .i64 n0)).setCell ⟨w.heap.size, 2, none⟩ (.func fn fi ca) = W at *
  have hbc := qR.cell
  exact bodyPost_ret (v := .agg #[.bool x0, .int .i64 n0, .func fn fi ca]) (by simp [results, Tryd.results23, go_sem, hbc]) rfl ⟨_, _, _, rfl, HS.out.wrap hmm hlt HG.out⟩
end Go.Proofs.YtpghfaplgkjdkaaDoor
