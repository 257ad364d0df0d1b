/- A disk: whether there is room; bytes put behind a file's. -/
import Derived.Test.YtpghfaplgkjdkaaDoorD5
import Derived.Laws.EntriesVeiled
namespace Go.Proofs.YtpghfaplgkjdkaaDoor
open Go.RowKit Go.Maps
set_option maxRecDepth 8000 in
set_option maxHeartbeats 2000000 in
theorem hasRoom_any (w0 w : World) (d : Nat) (ρ : Nat → Option Role) (s : St) (h : DK w0 w d ρ s) (hu : usedOf s ≤ 1000000000) (hq0 : 0 ≤ s.quota) (hq1 : s.quota ≤ 1000000000) (n : Nat) :
    Calls Tryd.prog 21 #[pv d, .int .i64 n] w fun e w' => e = .returned (.bool (decide ((n : Int) ≤ s.quota - usedOf s))) ∧ Below w.heap.size w w' := by
  have HU := hide (fun (u : Ext w) => used_any w0 u.w d ρ s (h.then u.ok) hu)
  obtain ⟨bn, bs, bc, vs, vl, Gs, Gl, cs, h⟩ := h
  have hb := h.blk.cell
  have hlt : d < w.heap.size := h.lt h.rd
  clear h
  unfold pv at *
  have hns := ext_some w
  have hc := ext_cell w
  go_enter Tryd.func21, Tryd.ntmps21
  go_wp2_with fail
  refine wp_region_ext (by kernel_rfl) (by kernel_rfl) ?_
  repeat (go_big_quiet_step (first | (go_at_call 10; exact ext_call (HU.out _))))
  refine wpQuiet_nil ?_
  rintro w1 ⟨⟨_, hb1⟩, rfl⟩
  go_wp2
  go_ret
  exact ⟨rfl, hb1⟩
/-- What a step of a file leaves: its bytes, and what the step itself is. -/
structure Stepd (w w' : World) (b : Nat) (Gb : Option Nat) (num : Int) (vo : Value) (bytes : List UInt8) (c0 c1 c2 : Value) (sa : SA) : Prop where
  mvs : Mvs (fun k => some k = Gb ∨ k = b) w w'
  shape : ∃ x n fn fi ca, c0 = .bool x ∧ c1 = .int .i64 n ∧ c2 = .func fn fi ca
  ex : ∃ vb' Gb' K, Blk w' b #[.int .i64 num, vb', vo] 56 ∧ Rw w' 1 vb' bytes.length (bytes.map bv) Gb' ∧ (Gb' = Gb ∨ ∃ g, Gb' = some g ∧ w.heap.size ≤ g) ∧
    (∀ k, K = some k → w.heap.size ≤ k ∧ k < w'.heap.size ∧ Gb' ≠ some k) ∧ ∀ (ρ : Nat → Option Role) (w2 : World), (∀ k, K = some k → ρ k = some .cap ∧ w2.heap[k]? = w'.heap[k]?) → StepR w2 ρ c0 c1 c2 sa
/-- .. where the call made something of its own ahead of it. -/
theorem Stepd.pre {w x w' : World} {b : Nat} {Gb : Option Nat} {num : Int} {vo : Value} {bytes : List UInt8} {c0 c1 c2 : Value} {sa : SA} (h : Stepd x w' b Gb num vo bytes c0 c1 c2 sa) (hb : Below w.heap.size w x) : Stepd w w' b Gb num vo bytes c0 c1 c2 sa := by
  obtain ⟨vb', Gb', K, h1, h2, h3, h4, h5⟩ := h.ex
  have := hb.size
  exact ⟨(Mvs.of_below hb).trans h.mvs, h.shape, vb', Gb', K, h1, h2, h3.imp id fun ⟨g, e, hg⟩ => ⟨g, e, by omega⟩, fun k hk => ⟨by have := (h4 k hk).1; omega, (h4 k hk).2⟩, h5⟩
set_option maxRecDepth 8000 in
set_option maxHeartbeats 2000000 in
theorem put_any (w : World) (ρ : Nat → Option Role) (b : Nat) (fa : FA) (vb vo : Value) (Gb Go : Option Nat) (cs : List Value) (h : FileRs w ρ b fa vb vo Gb Go cs) (x : Value) (news : List UInt8) (hx : BR w x news) (hl : fa.bytes.length + news.length ≤ 1000000000) :
    Calls Tryd.prog 24 #[pv b, x] w fun e w' => ∃ c0 c1 c2, e = .returned (.agg #[c0, c1, c2]) ∧ Stepd w w' b Gb fa.num vo (fa.bytes ++ news) c0 c1 c2 (.put fa.bytes.length news.length) := by
  obtain ⟨i0, hi, hz0, hz1, hz2⟩ := info_parts byteInfo
  obtain ⟨A, c, rfl, _⟩ := hx.form
  obtain ⟨Ab, cb, rfl⟩ := h.row.form
  have hc := h.blk.cell
  have hf := h.blk.frozen
  have hlt := h.blk.lt
  have HH := hide h
  have HX := hide hx
  clear h hx
  unfold pv
  go_enter Tryd.func24, Tryd.ntmps24
  go_wp2_with (at_builtin; refine wpList_append_rw rfl _ _ 34 34 rfl 5 i0 (.int .u8 0) 1 1 Tryd.underlying34 hi hz0 hz1 hz2 rfl rfl (HH.out.row.keep (S := fun _ => False) (((Mvs.refl _ _).alloc _).alloc _) (fun _ _ c => c)) _ news.length (news.map bv) rfl (BR.src (HX.out.below (((Below.refl _ _).alloc (Nat.le_refl _) _).alloc (by simp) _))) (by simp only [maxLen]; omega) (by omega) ?_)
  intro v3 w3 G3 hr3 hm3 hg3
  have hGb : ∀ k, w.heap.size ≤ k → ¬ some k = Gb := fun k hk e => by have := HH.out.row.lt k e.symm; omega
  have kb := hm3.blk ((HH.out.blk.alloc _).alloc _) (fun e => by have := HH.out.rb b e.symm; rw [HH.out.role] at this; cases this)
  have kR := hm3.blk ((Blk.new w #[.bool false, .int .i64 0, .nilFunc] 63).alloc _) (hGb _ (Nat.le_refl _))
  have kK := hm3.blk (Blk.new1 w (.cells #[.bool false, .int .i64 0, .nilFunc] 63) #[.int .i64 fa.bytes.length] 3) (hGb _ (by omega))
  obtain ⟨A3, c3, rfl⟩ := hr3.form
  have hs3 := hm3.size
  simp only [World.size_alloc] at hs3
  have hmA : Mvs (fun k => some k = Gb ∨ k = b) w w3 := (((Mvs.refl _ _).alloc _).alloc _).trans (hm3.mono fun _ _ e => .inl e)
  have hg4 : G3 = Gb ∨ ∃ g, G3 = some g ∧ w.heap.size + 1 + 1 ≤ g := hg3.imp id fun e => ⟨_, e, Nat.le_refl _⟩
  have hcb := kb.cell
  have hfb := kb.frozen
  have hcR := kR.cell
  have hfR := kR.frozen
  have hneb : b ≠ w.heap.size := by omega
  have hneb2 : w.heap.size ≠ b := by omega
  have KB := hide kb
  have KR := hide kR
  have KK := hide kK
  have HR := hide hr3
  have HM := hide hmA
  have HG := hide hg4
  clear kb kR kK hr3 hm3 hg3 hg4 hmA hi hz0 hz1 hz2
  go_wp2
  have qb := (((KB.out.set 1 (.slice A3 (fa.bytes.length + news.length) c3)).set_other ⟨w.heap.size, 0, none⟩ (.bool true) hneb2).set_other ⟨w.heap.size, 1, none⟩ (.int .i64 news.length) hneb2).set_other ⟨w.heap.size, 2, none⟩ (.func (.func 38) #[] #[pv (w.heap.size + 1)]) hneb2
  have qR := (((KR.out.set_other ⟨b, 1, none⟩ (.slice A3 (fa.bytes.length + news.length) c3) hneb).set 0 (.bool true)).set 1 (.int .i64 news.length)).set 2 (.func (.func 38) #[] #[pv (w.heap.size + 1)])
  have qK := (((KK.out.set_other ⟨b, 1, none⟩ (.slice A3 (fa.bytes.length + news.length) c3) (by show b ≠ _; omega)).set_other ⟨w.heap.size, 0, none⟩ (.bool true) (by show w.heap.size ≠ _; omega)).set_other ⟨w.heap.size, 1, none⟩ (.int .i64 news.length) (by show w.heap.size ≠ _; omega)).set_other ⟨w.heap.size, 2, none⟩ (.func (.func 38) #[] #[pv (w.heap.size + 1)]) (by show w.heap.size ≠ _; omega)
  have hmm : Mvs (fun k => k = b ∨ k = w.heap.size) w3 ((((w3.setCell ⟨b, 1, none⟩ (.slice A3 (fa.bytes.length + news.length) c3)).setCell ⟨w.heap.size, 0, none⟩ (.bool true)).setCell ⟨w.heap.size, 1, none⟩ (.int .i64 news.length)).setCell ⟨w.heap.size, 2, none⟩ (.func (.func 38) #[] #[pv (w.heap.size + 1)])) :=
    ((((Mvs.refl (fun k => k = b ∨ k = w.heap.size) w3).setCell ⟨b, 1, none⟩ _ (fun _ => .inl rfl)).setCell ⟨w.heap.size, 0, none⟩ _ (fun _ => .inr rfl)).setCell ⟨w.heap.size, 1, none⟩ _ (fun _ => .inr rfl)).setCell ⟨w.heap.size, 2, none⟩ _ (fun _ => .inr rfl)
  change bodyPost _ _ _ _ _ ((((w3.setCell ⟨b, 1, none⟩ (.slice A3 (fa.bytes.length + news.length) c3)).setCell ⟨w.heap.size, 0, none⟩ (.bool true)).setCell ⟨w.heap.size, 1, none⟩ (.int .i64 news.length)).setCell ⟨w.heap.size, 2, none⟩ (.func (.func 38) #[] #[pv (w.heap.size + 1)]))
  generalize (((w3.setCell ⟨b, 1, none⟩ (.slice A3 (fa.bytes.length + news.length) c3)).setCell ⟨w.heap.size, 0, none⟩ (.bool true)).setCell ⟨w.heap.size, 1, none⟩ (.int .i64 news.length)).setCell ⟨w.heap.size, 2, none⟩ (.func (.func 38) #[] #[pv (w.heap.size + 1)]) = W at *
  have hbc := qR.cell
  have hsz := hmm.size
  have hneG : ∀ g, G3 = some g → ¬ (g = b ∨ g = w.heap.size) := fun g hg e => by
    rcases HG.out with e1 | ⟨g', e1, hle⟩
    · rcases e with rfl | rfl
      · have := HH.out.rb g (e1 ▸ hg)
        rw [HH.out.role] at this
        cases this
      · exact hGb _ (Nat.le_refl _) (e1 ▸ hg.symm)
    · rw [e1] at hg
      cases hg
      omega
  refine bodyPost_ret (v := .agg #[.bool true, .int .i64 news.length, .func (.func 38) #[] #[pv (w.heap.size + 1)]]) (by simp [results, Tryd.results24, go_sem, hbc]) rfl ⟨_, _, _, rfl, ⟨?_, ?_, _, G3, some (w.heap.size + 1), qb, ?_, ?_, ?_, ?_⟩⟩
  · exact HM.out.trans' hmm (fun i hi e => by rcases e with rfl | rfl; exact .inr rfl; omega)
  · exact ⟨_, _, _, _, _, rfl, rfl, rfl⟩
  · have := HR.out.keep hmm hneG
    rw [List.length_append, List.map_append]
    exact this
  · exact HG.out.imp id fun ⟨g, e, hle⟩ => ⟨g, e, by omega⟩
  · rintro k hk
    cases hk
    refine ⟨by omega, by omega, fun e => ?_⟩
    rcases HG.out with e1 | ⟨g, e1, hle⟩
    · exact hGb (w.heap.size + 1) (by omega) (by rw [← e1, e])
    · rw [e1] at e
      cases e
      omega
  · intro ρ2 w2 hk
    obtain ⟨hr, hb⟩ := hk _ rfl
    exact ⟨rfl, rfl, w.heap.size + 1, rfl, hb.trans qK, hr⟩
end Go.Proofs.YtpghfaplgkjdkaaDoor
