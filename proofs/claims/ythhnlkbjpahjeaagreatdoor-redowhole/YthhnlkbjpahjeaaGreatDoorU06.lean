/- A disk: whether there is room; bytes put behind a file's. -/
/- A disk: the steps of a file as closures. -/
/- A disk: a file is cut to nothing. -/
import Derived.Test.YthhnlkbjpahjeaaGreatDoorU05
import Derived.Laws.EntriesVeiled
import Derived.Lib.LazyBuf
section
namespace Go.Proofs.YthhnlkbjpahjeaaGreatDoor
open Go.RowKit Go.Maps
set_option maxRecDepth 8000 in
set_option maxHeartbeats 2000000 in
theorem hasRoom_any (w0 w : World) (d : Nat) (ρ : Nat → Option Role) (s : St) (h : DK w0 w d ρ s) (hu : usedOf s ≤ 1000000000) (hq0 : 0 ≤ s.quota) (hq1 : s.quota ≤ 1073741824) (n : Nat) :
    Calls Tryz.prog 80 #[pv d, .int .i64 n] w fun e w' => e = .returned (.bool (decide ((n : Int) ≤ s.quota - usedOf s))) ∧ Below w.heap.size w w' := by
  have HU := hide (fun (u : Ext w) => used_any w0 u.w d ρ s (h.then u.ok) hu)
  obtain ⟨bn, bs, bc, vs, vl, Gs, Gl, cs, h⟩ := h
  have hb := h.blk.cell
  have hlt : d < w.heap.size := h.lt h.rd
  clear h
  unfold pv at *
  have hns := ext_some w
  have hc := ext_cell w
  go_enter Tryz.func80, Tryz.ntmps80
  go_wp2_with fail
  refine wp_region_ext (by kernel_rfl) (by kernel_rfl) ?_
  repeat (go_big_quiet_step (first | (go_at_call 48; exact ext_call (HU.out _))))
  refine wpQuiet_nil ?_
  rintro w1 ⟨⟨_, hb1⟩, rfl⟩
  go_wp2
  go_ret
  exact ⟨rfl, hb1⟩
/-- What a step of a file leaves: its bytes, and what the step itself is. -/
structure Stepd (w w' : World) (b : Nat) (Gb : Option Nat) (num : Int) (vo : Value) (bytes : List UInt8) (c0 c1 c2 : Value) (sa : SA) : Prop where
  mvs : Mvs (fun k => some k = Gb ∨ k = b) w w'
  shape : ∃ x n fn fi ca, c0 = .bool x ∧ c1 = .int .i64 n ∧ c2 = .func fn fi ca
  ex : ∃ vb' Gb' K, Blk w' b #[.int .i64 num, vb', vo] 100 ∧ Rw w' 1 vb' bytes.length (bytes.map bv) Gb' ∧ (Gb' = Gb ∨ ∃ g, Gb' = some g ∧ w.heap.size ≤ g) ∧
    (∀ k ∈ (K : List Nat), w.heap.size ≤ k ∧ k < w'.heap.size ∧ Gb' ≠ some k) ∧ ∀ (ρ : Nat → Option Role) (w2 : World), Mvs (fun k => k ∉ K) w' w2 → (∀ k ∈ K, ρ k = some .cap) → StepR w2 ρ c0 c1 c2 sa
/-- .. where the call made something of its own ahead of it. -/
theorem Stepd.pre {w x w' : World} {b : Nat} {Gb : Option Nat} {num : Int} {vo : Value} {bytes : List UInt8} {c0 c1 c2 : Value} {sa : SA} (h : Stepd x w' b Gb num vo bytes c0 c1 c2 sa) (hb : Below w.heap.size w x) : Stepd w w' b Gb num vo bytes c0 c1 c2 sa := by
  obtain ⟨vb', Gb', K, h1, h2, h3, h4, h5⟩ := h.ex
  have := hb.size
  exact ⟨(Mvs.of_below hb).trans h.mvs, h.shape, vb', Gb', K, h1, h2, h3.imp id fun ⟨g, e, hg⟩ => ⟨g, e, by omega⟩, fun k hk => ⟨by have := (h4 k hk).1; omega, (h4 k hk).2⟩, h5⟩
set_option maxRecDepth 8000 in
set_option maxHeartbeats 2000000 in
theorem put_any (w : World) (ρ : Nat → Option Role) (b : Nat) (fa : FA) (vb vo : Value) (Gb Go : Option Nat) (cs : List Value) (h : FileRs w ρ b fa vb vo Gb Go cs) (x : Value) (news : List UInt8) (hx : BR w x news) (hl : fa.bytes.length + news.length ≤ 1000000000) :
    Calls Tryz.prog 83 #[pv b, x] w fun e w' => ∃ c0 c1 c2, e = .returned (.agg #[c0, c1, c2]) ∧ Stepd w w' b Gb fa.num vo (fa.bytes ++ news) c0 c1 c2 (.put fa.bytes.length news.length) := by
  obtain ⟨i0, hi, hz0, hz1, hz2⟩ := info_parts byteInfo
  obtain ⟨A, c, rfl, _⟩ := hx.form
  obtain ⟨Ab, cb, rfl⟩ := h.row.form
  have hc := h.blk.cell
  have hf := h.blk.frozen
  have hlt := h.blk.lt
  have HH := hide h
  have HX := hide hx
  clear h hx
  unfold pv
  go_enter Tryz.func83, Tryz.ntmps83
  go_wp2_with (at_builtin; refine wpList_append_rw rfl _ _ 46 46 rfl 5 i0 (.int .u8 0) 1 1 Tryz.underlying46 hi hz0 hz1 hz2 rfl rfl (HH.out.row.keep (S := fun _ => False) (((Mvs.refl _ _).alloc _).alloc _) (fun _ _ c => c)) _ news.length (news.map bv) rfl (BR.src (HX.out.below (((Below.refl _ _).alloc (Nat.le_refl _) _).alloc (by simp) _))) (by simp only [maxLen]; omega) (by omega) ?_)
  intro v3 w3 G3 hr3 hm3 hg3
  have hGb : ∀ k, w.heap.size ≤ k → ¬ some k = Gb := fun k hk e => by have := HH.out.row.lt k e.symm; omega
  have kb := hm3.blk ((HH.out.blk.alloc _).alloc _) (fun e => by have := HH.out.rb b e.symm; rw [HH.out.role] at this; cases this)
  have kR := hm3.blk ((Blk.new w #[.bool false, .int .i64 0, .nilFunc] 104).alloc _) (hGb _ (Nat.le_refl _))
  have kK := hm3.blk (Blk.new1 w (.cells #[.bool false, .int .i64 0, .nilFunc] 104) #[.int .i64 fa.bytes.length] 3) (hGb _ (by omega))
  obtain ⟨A3, c3, rfl⟩ := hr3.form
  have hs3 := hm3.size
  simp only [World.size_alloc] at hs3
  have hmA : Mvs (fun k => some k = Gb ∨ k = b) w w3 := (((Mvs.refl _ _).alloc _).alloc _).trans (hm3.mono fun _ _ e => .inl e)
  have hg4 : G3 = Gb ∨ ∃ g, G3 = some g ∧ w.heap.size + 1 + 1 ≤ g := hg3.imp id fun e => ⟨_, e, Nat.le_refl _⟩
  have hcb := kb.cell
  have hfb := kb.frozen
  have hcR := kR.cell
  have hfR := kR.frozen
  have hneb : b ≠ w.heap.size := by omega
  have hneb2 : w.heap.size ≠ b := by omega
  have KB := hide kb
  have KR := hide kR
  have KK := hide kK
  have HR := hide hr3
  have HM := hide hmA
  have HG := hide hg4
  clear kb kR kK hr3 hm3 hg3 hg4 hmA hi hz0 hz1 hz2
  go_wp2
  have qb := (((KB.out.set 1 (.slice A3 (fa.bytes.length + news.length) c3)).set_other ⟨w.heap.size, 0, none⟩ (.bool true) hneb2).set_other ⟨w.heap.size, 1, none⟩ (.int .i64 news.length) hneb2).set_other ⟨w.heap.size, 2, none⟩ (.func (.func 110) #[] #[pv (w.heap.size + 1)]) hneb2
  have qR := (((KR.out.set_other ⟨b, 1, none⟩ (.slice A3 (fa.bytes.length + news.length) c3) hneb).set 0 (.bool true)).set 1 (.int .i64 news.length)).set 2 (.func (.func 110) #[] #[pv (w.heap.size + 1)])
  have qK := (((KK.out.set_other ⟨b, 1, none⟩ (.slice A3 (fa.bytes.length + news.length) c3) (by show b ≠ _; omega)).set_other ⟨w.heap.size, 0, none⟩ (.bool true) (by show w.heap.size ≠ _; omega)).set_other ⟨w.heap.size, 1, none⟩ (.int .i64 news.length) (by show w.heap.size ≠ _; omega)).set_other ⟨w.heap.size, 2, none⟩ (.func (.func 110) #[] #[pv (w.heap.size + 1)]) (by show w.heap.size ≠ _; omega)
  have hmm : Mvs (fun k => k = b ∨ k = w.heap.size) w3 ((((w3.setCell ⟨b, 1, none⟩ (.slice A3 (fa.bytes.length + news.length) c3)).setCell ⟨w.heap.size, 0, none⟩ (.bool true)).setCell ⟨w.heap.size, 1, none⟩ (.int .i64 news.length)).setCell ⟨w.heap.size, 2, none⟩ (.func (.func 110) #[] #[pv (w.heap.size + 1)])) :=
    ((((Mvs.refl (fun k => k = b ∨ k = w.heap.size) w3).setCell ⟨b, 1, none⟩ _ (fun _ => .inl rfl)).setCell ⟨w.heap.size, 0, none⟩ _ (fun _ => .inr rfl)).setCell ⟨w.heap.size, 1, none⟩ _ (fun _ => .inr rfl)).setCell ⟨w.heap.size, 2, none⟩ _ (fun _ => .inr rfl)
  change bodyPost _ _ _ _ _ ((((w3.setCell ⟨b, 1, none⟩ (.slice A3 (fa.bytes.length + news.length) c3)).setCell ⟨w.heap.size, 0, none⟩ (.bool true)).setCell ⟨w.heap.size, 1, none⟩ (.int .i64 news.length)).setCell ⟨w.heap.size, 2, none⟩ (.func (.func 110) #[] #[pv (w.heap.size + 1)]))
  generalize (((w3.setCell ⟨b, 1, none⟩ (.slice A3 (fa.bytes.length + news.length) c3)).setCell ⟨w.heap.size, 0, none⟩ (.bool true)).setCell ⟨w.heap.size, 1, none⟩ (.int .i64 news.length)).setCell ⟨w.heap.size, 2, none⟩ (.func (.func 110) #[] #[pv (w.heap.size + 1)]) = W at *
  have hbc := qR.cell
  have hsz := hmm.size
  have hneG : ∀ g, G3 = some g → ¬ (g = b ∨ g = w.heap.size) := fun g hg e => by
    rcases HG.out with e1 | ⟨g', e1, hle⟩
    · rcases e with rfl | rfl
      · have := HH.out.rb g (e1 ▸ hg)
        rw [HH.out.role] at this
        cases this
      · exact hGb _ (Nat.le_refl _) (e1 ▸ hg.symm)
    · rw [e1] at hg
      cases hg
      omega
  refine bodyPost_ret (v := .agg #[.bool true, .int .i64 news.length, .func (.func 110) #[] #[pv (w.heap.size + 1)]]) (by simp [results, Tryz.results83, go_sem, hbc]) rfl ⟨_, _, _, rfl, ⟨?_, ?_, _, G3, [w.heap.size + 1], qb, ?_, ?_, ?_, ?_⟩⟩
  · exact HM.out.trans' hmm (fun i hi e => by rcases e with rfl | rfl; exact .inr rfl; omega)
  · exact ⟨_, _, _, _, _, rfl, rfl, rfl⟩
  · have := HR.out.keep hmm hneG
    rw [List.length_append, List.map_append]
    exact this
  · exact HG.out.imp id fun ⟨g, e, hle⟩ => ⟨g, e, by omega⟩
  · rintro k hk
    cases List.mem_singleton.1 hk
    refine ⟨by omega, by omega, fun e => ?_⟩
    rcases HG.out with e1 | ⟨g, e1, hle⟩
    · exact hGb (w.heap.size + 1) (by omega) (by rw [← e1, e])
    · rw [e1] at e
      cases e
      omega
  · intro ρ2 w2 hm2 hk
    exact ⟨rfl, rfl, w.heap.size + 1, rfl, hm2.blk qK (fun c => c (by simp)), hk _ (by simp)⟩
end Go.Proofs.YthhnlkbjpahjeaaGreatDoor

end
section
namespace Go.Proofs.YthhnlkbjpahjeaaGreatDoor
open Go.RowKit Go.Maps
theorem Stepd.wrap {w w' y : World} {o : Obj} {b : Nat} {Gb : Option Nat} {num : Int} {vo : Value} {bytes : List UInt8} {c0 c1 c2 : Value} {sa : SA} (h : Stepd (w.alloc o) w' b Gb num vo bytes c0 c1 c2 sa) (hm : Mvs (fun k => k = w.heap.size) w' y) (hb : b < w.heap.size) (hG : ∀ g, Gb = some g → g < w.heap.size) : Stepd w y b Gb num vo bytes c0 c1 c2 sa := by
  obtain ⟨vb', Gb', K, h1, h2, h3, h4, h5⟩ := h.ex
  have hs : (w.alloc o).heap.size = w.heap.size + 1 := by simp
  rw [hs] at h3 h4
  have hsz := hm.size
  refine ⟨(((Mvs.refl _ _).alloc o).trans h.mvs).trans' hm (fun i hi e => by omega), h.shape, vb', Gb', K, hm.blk h1 (by omega), h2.keep hm (fun g hg e => ?_), h3.imp id fun ⟨g, e, hg⟩ => ⟨g, e, by omega⟩, fun k hk => ⟨by have := (h4 k hk).1; omega, by have := (h4 k hk).2.1; omega, (h4 k hk).2.2⟩, fun ρ w2 hm2 hk => h5 ρ w2 ((hm.mono fun k _ e hK => by have := (h4 k hK).1; omega).trans hm2) hk⟩
  rcases h3 with e1 | ⟨g', e1, hle⟩
  · have := hG g (e1 ▸ hg)
    omega
  · rw [e1] at hg
    cases hg
    omega
def appV (cf cb : Nat) : Value := .func (.func 82) #[] #[pv cf, pv cb]
set_option maxRecDepth 8000 in
set_option maxHeartbeats 2000000 in
theorem appendClo (w : World) (ρ : Nat → Option Role) (b : Nat) (fa : FA) (vb vo : Value) (Gb Go : Option Nat) (cs : List Value) (h : FileRs w ρ b fa vb vo Gb Go cs) (x : Value) (news : List UInt8) (hx : BR w x news) (hl : fa.bytes.length + news.length ≤ 1000000000)
    (cf cb : Nat) (hcf : Blk w cf #[pv b] 72) (hcb : Blk w cb #[x] 46) :
    Calls Tryz.prog 82 #[pv cf, pv cb] w fun e w' => ∃ c0 c1 c2, e = .returned (.agg #[c0, c1, c2]) ∧ Stepd w w' b Gb fa.num vo (fa.bytes ++ news) c0 c1 c2 (.put fa.bytes.length news.length) := by
  have hb1 : Below w.heap.size w (w.alloc (.cells #[.bool false, .int .i64 0, .nilFunc] 104)) := (Below.refl _ _).alloc (Nat.le_refl _) _
  have hF1 : FileRs (w.alloc (.cells #[.bool false, .int .i64 0, .nilFunc] 104)) ρ b fa vb vo Gb Go cs := ⟨h.role, h.blk.alloc _, h.row.keep (S := fun _ => False) ((Mvs.refl _ _).alloc _) (fun _ _ c => c), h.rb, h.orow.keep (S := fun _ => False) ((Mvs.refl _ _).alloc _) (fun _ _ c => c), h.ro, StepsR.keep (S := fun _ => False) ((Mvs.refl _ _).alloc _) (fun _ _ c => c) (fun _ h => h) _ _ h.steps⟩
  have HP := hide (put_any _ ρ b fa vb vo Gb Go cs hF1 x news (hx.below hb1) hl)
  have HG := hide h.row.lt
  have hlt := h.blk.lt
  have h1 := hcf.cell
  have h2 := hcb.cell
  have h3 := hcf.lt
  have h4 := hcb.lt
  obtain ⟨A, c, rfl, _⟩ := hx.form
  have HR := hide (Blk.new w #[.bool false, .int .i64 0, .nilFunc] 104)
  clear h hx hF1 hcf hcb
  unfold pv at *
  go_enter Tryz.func82, Tryz.ntmps82
  go_wp2_with (go_at_call 83; refine HP.out.mono ?_)
  rintro e w3 ⟨c0, c1, c2, rfl, hS⟩
  have hk3 := hS.mvs.blk HR.out (by
    rintro (e | e)
    · have := HG.out _ e.symm
      omega
    · omega)
  have hc3 := hk3.cell
  have hf3 := hk3.frozen
  obtain ⟨x0, n0, fn, fi, ca, rfl, rfl, rfl⟩ := hS.shape
  have HS := hide hS
  have HK := hide hk3
  clear hS hk3 HP
  go_wp2
  have qR := ((HK.out.set 0 (.bool x0)).set 1 (.int .i64 n0)).set 2 (.func fn fi ca)
  have hmm : Mvs (fun k => k = w.heap.size) w3 (((w3.setCell ⟨w.heap.size, 0, none⟩ (.bool x0)).setCell ⟨w.heap.size, 1, none⟩ (.int .i64 n0)).setCell ⟨w.heap.size, 2, none⟩ (.func fn fi ca)) :=
    (((Mvs.refl (fun k => k = w.heap.size) w3).setCell ⟨w.heap.size, 0, none⟩ _ (fun _ => rfl)).setCell ⟨w.heap.size, 1, none⟩ _ (fun _ => rfl)).setCell ⟨w.heap.size, 2, none⟩ _ (fun _ => rfl)
  generalize ((w3.setCell ⟨w.heap.size, 0, none⟩ (.bool x0)).setCell ⟨w.heap.size, 1, none⟩ (.int .i64 n0)).setCell ⟨w.heap.size, 2, none⟩ (.func fn fi ca) = W at *
  have hbc := qR.cell
  exact bodyPost_ret (v := .agg #[.bool x0, .int .i64 n0, .func fn fi ca]) (by simp [results, Tryz.results82, go_sem, hbc]) rfl ⟨_, _, _, rfl, HS.out.wrap hmm hlt HG.out⟩
end Go.Proofs.YthhnlkbjpahjeaaGreatDoor

end
section
namespace Go.Proofs.YthhnlkbjpahjeaaGreatDoor
open Go.RowKit Go.Maps

theorem clone_any (bs : List UInt8) (a : Addr) (n c : Nat) (w : World) (h : BR w (.slice (some a) n c) bs) (hb : bs.length ≤ 1000000) :
    Calls Tryz.prog 64 #[.slice (some a) n c] w fun e w' => ∃ v, e = .returned v ∧ Bts w w' v bs := by
  obtain ⟨A, c', hv, hl, hm, _⟩ := BR.form h
  simp only [Value.slice.injEq] at hv
  obtain ⟨rfl, rfl, rfl⟩ := hv
  obtain ⟨i0, hi, hz0, hz1, hz2⟩ := info_parts byteInfo
  have HB := hide h
  have hq : ∀ (w0 : World) (m : Nat), (binOp .eql 46 (.slice (some a) m c) (.slice none 0 0)).run Tryz.prog w0 = .ok (.bool false) w0 := fun w0 m => Lib.run_eql_slice_nil (P := Tryz.prog) w0 46 5 (some a) m c 0 0 Tryz.underlying46
  clear h
  go_enter Tryz.func64, Tryz.ntmps64
  go_wp2_with (at_builtin; refine wpList_append_rw rfl _ _ 46 46 rfl 5 i0 (.int .u8 0) 1 1 Tryz.underlying46 hi hz0 hz1 hz2 rfl rfl (Rw.new (e := 5) [] [] (Blk.new _ _ _) rfl rfl (Nat.le_refl _) (Nat.zero_le _)) _ bs.length (bs.map bv) rfl (BR.src (HB.out.below ((Below.refl _ _).alloc (Nat.le_refl _) _))) (by simp only [maxLen]; omega) (by omega) ?_)
  intro v3 w3 G3 hr3 hm3 hg3
  have T3 := hide (Bts.first (Below.refl _ w) (by simpa using hr3) (by simpa using hm3) (by simpa using hg3))
  clear hr3 hm3 hg3 hi hz0 hz1 hz2
  go_wp2
  go_ret
  exact ⟨_, rfl, T3.out⟩
theorem clone_nil (w : World) : Calls Tryz.prog 64 #[.slice none 0 0] w fun e w' => e = .returned (.slice none 0 0) ∧ w' = w := by
  have hq : ∀ (w0 : World), (binOp .eql 46 (.slice none 0 0) (.slice none 0 0)).run Tryz.prog w0 = .ok (.bool true) w0 := fun w0 => Lib.run_eql_slice_nil (P := Tryz.prog) w0 46 5 none 0 0 0 0 Tryz.underlying46
  go_enter Tryz.func64, Tryz.ntmps64
  go_wp2
  go_ret
  exact ⟨rfl, rfl⟩
theorem Rw.to {w : World} {n k g o cap : Nat} {cs : List Value} (h : Rw w 1 (.slice (some ⟨g, o, none⟩) n cap) n cs (some g)) (hk : k ≤ n) : Rw w 1 (.slice (some ⟨g, o, none⟩) k cap) k (cs.take k) (some g) := by
  have hl := h.1
  rcases h.2 with ⟨h, _⟩ | ⟨g', o', cap', hg, hv, h1, h2, h3, h4, h5⟩
  · cases h
  · cases hg
    cases hv
    refine ⟨by rw [List.length_take]; omega, .inr ⟨g, o, cap, rfl, rfl, by omega, by omega, h3, fun j u hu => ?_, h5⟩⟩
    have h6 := (List.getElem?_eq_some_iff.1 hu).1
    rw [List.length_take] at h6
    rw [List.getElem?_take_of_lt (by omega)] at hu
    exact h4 _ u hu
theorem cut_end {w w3 : World} {b : Nat} {num : Int} {vb vo vn gv : Value} {Gb Gg : Option Nat} {bytes gone : List UInt8} (kb : Blk w3 b #[.int .i64 num, vb, vo] 100) (kR : Blk w3 w.heap.size #[.bool false, .int .i64 0, .nilFunc] 104) (hb3 : Below w.heap.size w w3) (hlt : b < w.heap.size)
    (hr : Rw w3 1 vn bytes.length (bytes.map bv) Gb) (hG : ∀ g, Gb = some g → g < w.heap.size ∧ g ≠ b) (hg : Rw w3 1 gv gone.length (gone.map bv) Gg) (hGg : ∀ g, Gg = some g → w.heap.size < g) :
    Blk (((((w3.setCell ⟨b, 1, none⟩ vn).setCell ⟨w.heap.size, 0, none⟩ (.bool false)).setCell ⟨w.heap.size, 1, none⟩ (.int .i64 0)).setCell ⟨w.heap.size, 2, none⟩ (.func (.func 113) #[] #[pv w3.heap.size])).alloc (.cells #[gv] 46)) w.heap.size #[.bool false, .int .i64 0, .func (.func 113) #[] #[pv w3.heap.size]] 104 ∧
    Stepd w (((((w3.setCell ⟨b, 1, none⟩ vn).setCell ⟨w.heap.size, 0, none⟩ (.bool false)).setCell ⟨w.heap.size, 1, none⟩ (.int .i64 0)).setCell ⟨w.heap.size, 2, none⟩ (.func (.func 113) #[] #[pv w3.heap.size])).alloc (.cells #[gv] 46)) b Gb num vo bytes (.bool false) (.int .i64 0) (.func (.func 113) #[] #[pv w3.heap.size]) (.cut gone) := by
  have hneb : b ≠ w.heap.size := by omega
  have hneb2 : w.heap.size ≠ b := by omega
  have hmm : Mvs (fun k => k = b ∨ k = w.heap.size) w3 (((((w3.setCell ⟨b, 1, none⟩ vn).setCell ⟨w.heap.size, 0, none⟩ (.bool false)).setCell ⟨w.heap.size, 1, none⟩ (.int .i64 0)).setCell ⟨w.heap.size, 2, none⟩ (.func (.func 113) #[] #[pv w3.heap.size])).alloc (.cells #[gv] 46)) :=
    (((((Mvs.refl (fun k => k = b ∨ k = w.heap.size) w3).setCell ⟨b, 1, none⟩ _ (fun _ => .inl rfl)).setCell ⟨w.heap.size, 0, none⟩ _ (fun _ => .inr rfl)).setCell ⟨w.heap.size, 1, none⟩ _ (fun _ => .inr rfl)).setCell ⟨w.heap.size, 2, none⟩ _ (fun _ => .inr rfl)).alloc _
  have hsz : ((((w3.setCell ⟨b, 1, none⟩ vn).setCell ⟨w.heap.size, 0, none⟩ (.bool false)).setCell ⟨w.heap.size, 1, none⟩ (.int .i64 0)).setCell ⟨w.heap.size, 2, none⟩ (.func (.func 113) #[] #[pv w3.heap.size])).heap.size = w3.heap.size := by simp [World.setCell]
  have hK : Blk (((((w3.setCell ⟨b, 1, none⟩ vn).setCell ⟨w.heap.size, 0, none⟩ (.bool false)).setCell ⟨w.heap.size, 1, none⟩ (.int .i64 0)).setCell ⟨w.heap.size, 2, none⟩ (.func (.func 113) #[] #[pv w3.heap.size])).alloc (.cells #[gv] 46)) w3.heap.size #[gv] 46 := by
    have := Blk.new ((((w3.setCell ⟨b, 1, none⟩ vn).setCell ⟨w.heap.size, 0, none⟩ (.bool false)).setCell ⟨w.heap.size, 1, none⟩ (.int .i64 0)).setCell ⟨w.heap.size, 2, none⟩ (.func (.func 113) #[] #[pv w3.heap.size])) #[gv] 46
    rw [hsz] at this
    exact this
  have hs3 := hb3.size
  have hltR := kR.lt
  refine ⟨((((kR.set_other ⟨b, 1, none⟩ vn hneb).set 0 _).set 1 _).set 2 _).alloc _, ?_, ⟨_, _, _, _, _, rfl, rfl, rfl⟩, vn, Gb, w3.heap.size :: Gg.toList, ((((kb.set 1 _).set_other ⟨w.heap.size, 0, none⟩ _ hneb2).set_other ⟨w.heap.size, 1, none⟩ _ hneb2).set_other ⟨w.heap.size, 2, none⟩ _ hneb2).alloc _, hr.keep hmm (fun g hg e => ?_), .inl rfl, ?_, ?_⟩
  · exact (Mvs.of_below hb3).trans' hmm (fun i hi e => by rcases e with rfl | rfl; exact .inr rfl; omega)
  · have := hG g hg
    omega
  · intro k hk
    have h1 : w.heap.size ≤ k ∧ k ≤ w3.heap.size := by
      rcases List.mem_cons.1 hk with rfl | hk
      · omega
      · have e : Gg = some k := by simpa [Option.mem_toList] using hk
        have h1 := hGg k e
        have h2 := hg.lt k e
        omega
    refine ⟨h1.1, by rw [World.size_alloc, hsz]; omega, fun e => ?_⟩
    have := (hG k e).1
    omega
  · intro ρ2 w2 hm2 hk2
    refine ⟨rfl, rfl, w3.heap.size, gv, Gg, rfl, hm2.blk hK (fun c => c (by simp)), hk2 _ (by simp), (hg.keep hmm (fun g e => ?_)).keep hm2 (fun g e c => c ?_), fun g e => hk2 g ?_⟩
    · have := hGg g e
      omega
    · rw [e]; simp
    · rw [e]; simp
set_option maxRecDepth 8000 in
set_option maxHeartbeats 2000000 in
theorem cut_any (w : World) (ρ : Nat → Option Role) (b : Nat) (fa : FA) (vb vo : Value) (Gb Go : Option Nat) (cs : List Value) (h : FileRs w ρ b fa vb vo Gb Go cs) (hl : fa.bytes.length ≤ 1000000) (n : Nat) (hn : n ≤ fa.bytes.length) :
    Calls Tryz.prog 92 #[pv b, .int .i64 n] w fun e w' => ∃ c0 c1 c2, e = .returned (.agg #[c0, c1, c2]) ∧ Stepd w w' b Gb fa.num vo (fa.bytes.take n) c0 c1 c2 (.cut (fa.bytes.drop n)) := by
  have hlt := h.blk.lt
  have HH := hide h
  have hbr := h.row.br
  have hc := h.blk.cell
  have hf := h.blk.frozen
  have HR := hide (Blk.new w #[.bool false, .int .i64 0, .nilFunc] 104)
  rcases h.row.2 with ⟨rfl, h0, rfl⟩ | ⟨g, o, cap, rfl, rfl, h1, h2, h3, h4, h5⟩
  · have hn0 : n = 0 := by omega
    subst hn0
    have hnil : fa.bytes = [] := List.length_eq_zero_iff.1 h0
    clear h hbr
    unfold pv
    go_enter Tryz.func92, Tryz.ntmps92
    go_wp2_with fail
    refine (clone_nil _).mono ?_
    rintro e w3 ⟨rfl, hw3⟩
    have hbA : Hid (Below (w.alloc (.cells #[.bool false, .int .i64 0, .nilFunc] 104)).heap.size (w.alloc (.cells #[.bool false, .int .i64 0, .nilFunc] 104)) w3) := by rw [hw3]; exact Below.refl _ _
    have hb3 := hide (((Below.refl _ w).alloc (Nat.le_refl _) (.cells #[.bool false, .int .i64 0, .nilFunc] 104)).trans (hbA.out.mono (by simp)))
    have HW := hide hw3
    clear hw3 hc hf
    have kb := hide (HH.out.blk.below (hb3.out) hlt)
    have kR := hide (HR.out.below hbA.out (by simp))
    have hcb := kb.out.cell
    have hfb := kb.out.frozen
    have hcR := kR.out.cell
    have hfR := kR.out.frozen
    have hltR := kR.out.lt
    have hltb := kb.out.lt
    have hneb : b ≠ w.heap.size := by omega
    have hneb2 : w.heap.size ≠ b := by omega
    go_wp2
    obtain ⟨q, hS⟩ := cut_end (w := w) (bytes := []) (gone := []) kb.out kR.out hb3.out hlt (Rw.nil w3 1) (fun _ h => by cases h) (Rw.nil w3 1) (fun _ h => by cases h)
    have hbc := q.cell
    change bodyPost _ _ _ _ _ (((((w3.setCell ⟨b, 1, none⟩ (.slice none 0 0)).setCell ⟨w.heap.size, 0, none⟩ (.bool false)).setCell ⟨w.heap.size, 1, none⟩ (.int .i64 0)).setCell ⟨w.heap.size, 2, none⟩ (.func (.func 113) #[] #[pv w3.heap.size])).alloc (.cells #[.slice none 0 0] 46))
    generalize ((((w3.setCell ⟨b, 1, none⟩ _).setCell ⟨w.heap.size, 0, none⟩ (.bool false)).setCell ⟨w.heap.size, 1, none⟩ (.int .i64 0)).setCell ⟨w.heap.size, 2, none⟩ _).alloc _ = W at *
    rw [hnil]
    exact bodyPost_ret (v := .agg #[.bool false, .int .i64 0, .func (.func 113) #[] #[pv w3.heap.size]]) (by simp [results, Tryz.results92, go_sem, hbc]) rfl ⟨_, _, _, rfl, hS⟩
  · clear h
    unfold pv
    have hbA0 : Below w.heap.size w (w.alloc (.cells #[.bool false, .int .i64 0, .nilFunc] 104)) := (Below.refl _ w).alloc (Nat.le_refl _) _
    have hmid := (hbr.below hbA0).mid hn (Nat.le_refl _)
    have htk : (fa.bytes.drop n).take (fa.bytes.length - n) = fa.bytes.drop n := List.take_of_length_le (by rw [List.length_drop]; exact Nat.le_refl _)
    rw [htk] at hmid
    have hdl : (fa.bytes.drop n).length ≤ 1000000 := by rw [List.length_drop]; omega
    have hcap : cap ≤ 9223372036854775807 := h2
    have hlen : fa.bytes.length ≤ cap := by simpa using h1
    have hrow : Hid (Rw w 1 (.slice (some ⟨g, o, none⟩) n cap) (fa.bytes.take n).length ((fa.bytes.take n).map bv) (some g)) := by
      have hr := HH.out.row.to hn
      rw [List.length_take, Nat.min_eq_left hn, List.map_take]
      exact hr
    obtain ⟨gn, hgn⟩ : ∃ gn, Hid (gn = fa.bytes.drop n) := ⟨_, rfl⟩
    rw [← hgn.out] at hmid hdl ⊢
    rw [Option.map_some, _root_.Go.WideShapes.add_plain] at hmid
    replace hmid := hide hmid
    replace htk := hide htk
    replace hdl := hide hdl
    have h3' := hide h3
    clear h4 h5 hbr hbA0 h1 h2
    by_cases hcn : cap = n
    · subst hcn
      have hcl := hmid.out.1 rfl
      rw [show fa.bytes.length - cap = 0 by omega] at hcl
      replace hcl := hide hcl
      go_enter Tryz.func92, Tryz.ntmps92
      go_wp2_with fail
      refine (clone_any gn _ _ _ _ hcl.out hdl.out).mono ?_
      rintro e w3 ⟨v3, rfl, T3⟩
      obtain ⟨A3, c3, rfl, _⟩ := T3.br.form
      obtain ⟨hbA, Gg, hgr, hgl⟩ := T3
      have hb3 := hide (((Below.refl _ w).alloc (Nat.le_refl _) (.cells #[.bool false, .int .i64 0, .nilFunc] 104)).trans (hbA.mono (by simp)))
      have hrow3 := hide (hrow.out.keep (S := fun _ => False) (Mvs.of_below hb3.out) (fun _ _ c => c))
      have kb := hide (HH.out.blk.below (hb3.out) hlt)
      have kR := hide (HR.out.below hbA (by simp))
      have HGR := hide (And.intro hgr hgl)
      clear hc hf hbA hgr hgl hcl hmid
      have hcb := kb.out.cell
      have hfb := kb.out.frozen
      have hcR := kR.out.cell
      have hfR := kR.out.frozen
      have hltR := kR.out.lt
      have hltb := kb.out.lt
      have hneb : b ≠ w.heap.size := by omega
      have hneb2 : w.heap.size ≠ b := by omega
      go_wp2
      obtain ⟨q, hS⟩ := cut_end (w := w) kb.out kR.out hb3.out hlt hrow3.out (fun g' hg => by cases hg; exact ⟨h3'.out, fun e => by have := HH.out.rb g rfl; rw [e, HH.out.role] at this; cases this⟩) HGR.out.1 (fun g' hg => by have := HGR.out.2 g' hg; simp at this; omega)
      have hbc := q.cell
      change bodyPost _ _ _ _ _ (((((w3.setCell ⟨b, 1, none⟩ (.slice (some ⟨g, o, none⟩) cap cap)).setCell ⟨w.heap.size, 0, none⟩ (.bool false)).setCell ⟨w.heap.size, 1, none⟩ (.int .i64 0)).setCell ⟨w.heap.size, 2, none⟩ (.func (.func 113) #[] #[pv w3.heap.size])).alloc (.cells #[.slice A3 gn.length c3] 46))
      generalize ((((w3.setCell ⟨b, 1, none⟩ _).setCell ⟨w.heap.size, 0, none⟩ (.bool false)).setCell ⟨w.heap.size, 1, none⟩ (.int .i64 0)).setCell ⟨w.heap.size, 2, none⟩ _).alloc _ = W at *
      exact bodyPost_ret (v := .agg #[.bool false, .int .i64 0, .func (.func 113) #[] #[pv w3.heap.size]]) (by simp [results, Tryz.results92, go_sem, hbc]) rfl ⟨_, _, _, rfl, hS⟩
    · have hcl := hide (hmid.out.2 hcn)
      go_enter Tryz.func92, Tryz.ntmps92
      go_wp2_with fail
      refine (clone_any gn _ _ _ _ hcl.out hdl.out).mono ?_
      rintro e w3 ⟨v3, rfl, T3⟩
      obtain ⟨A3, c3, rfl, _⟩ := T3.br.form
      obtain ⟨hbA, Gg, hgr, hgl⟩ := T3
      have hb3 := hide (((Below.refl _ w).alloc (Nat.le_refl _) (.cells #[.bool false, .int .i64 0, .nilFunc] 104)).trans (hbA.mono (by simp)))
      have hrow3 := hide (hrow.out.keep (S := fun _ => False) (Mvs.of_below hb3.out) (fun _ _ c => c))
      have kb := hide (HH.out.blk.below (hb3.out) hlt)
      have kR := hide (HR.out.below hbA (by simp))
      have HGR := hide (And.intro hgr hgl)
      clear hc hf hbA hgr hgl hcl hmid
      have hcb := kb.out.cell
      have hfb := kb.out.frozen
      have hcR := kR.out.cell
      have hfR := kR.out.frozen
      have hltR := kR.out.lt
      have hltb := kb.out.lt
      have hneb : b ≠ w.heap.size := by omega
      have hneb2 : w.heap.size ≠ b := by omega
      go_wp2
      obtain ⟨q, hS⟩ := cut_end (w := w) kb.out kR.out hb3.out hlt hrow3.out (fun g' hg => by cases hg; exact ⟨h3'.out, fun e => by have := HH.out.rb g rfl; rw [e, HH.out.role] at this; cases this⟩) HGR.out.1 (fun g' hg => by have := HGR.out.2 g' hg; simp at this; omega)
      have hbc := q.cell
      change bodyPost _ _ _ _ _ (((((w3.setCell ⟨b, 1, none⟩ (.slice (some ⟨g, o, none⟩) n cap)).setCell ⟨w.heap.size, 0, none⟩ (.bool false)).setCell ⟨w.heap.size, 1, none⟩ (.int .i64 0)).setCell ⟨w.heap.size, 2, none⟩ (.func (.func 113) #[] #[pv w3.heap.size])).alloc (.cells #[.slice A3 gn.length c3] 46))
      generalize ((((w3.setCell ⟨b, 1, none⟩ _).setCell ⟨w.heap.size, 0, none⟩ (.bool false)).setCell ⟨w.heap.size, 1, none⟩ (.int .i64 0)).setCell ⟨w.heap.size, 2, none⟩ _).alloc _ = W at *
      exact bodyPost_ret (v := .agg #[.bool false, .int .i64 0, .func (.func 113) #[] #[pv w3.heap.size]]) (by simp [results, Tryz.results92, go_sem, hbc]) rfl ⟨_, _, _, rfl, hS⟩
end Go.Proofs.YthhnlkbjpahjeaaGreatDoor

end
