/- A disk: the steps of a file as closures. -/
/- A disk: a file is cut to nothing. -/
import Derived.Test.YtcbkmcagnmpifaaGreatDoorU08
import Derived.Lib.LazyBuf
section
namespace Go.Proofs.YtcbkmcagnmpifaaGreatDoor
open Go.RowKit Go.Maps
theorem Stepd.wrap {w w' y : World} {o : Obj} {b : Nat} {Gb : Option Nat} {num : Int} {vo : Value} {bytes : List UInt8} {c0 c1 c2 : Value} {sa : SA} (h : Stepd (w.alloc o) w' b Gb num vo bytes c0 c1 c2 sa) (hm : Mvs (fun k => k = w.heap.size) w' y) (hb : b < w.heap.size) (hG : ∀ g, Gb = some g → g < w.heap.size) : Stepd w y b Gb num vo bytes c0 c1 c2 sa := by
  obtain ⟨vb', Gb', K, h1, h2, h3, h4, h5⟩ := h.ex
  have hs : (w.alloc o).heap.size = w.heap.size + 1 := by simp
  rw [hs] at h3 h4
  have hsz := hm.size
  refine ⟨(((Mvs.refl _ _).alloc o).trans h.mvs).trans' hm (fun i hi e => by omega), h.shape, vb', Gb', K, hm.blk h1 (by omega), h2.keep hm (fun g hg e => ?_), h3.imp id fun ⟨g, e, hg⟩ => ⟨g, e, by omega⟩, fun k hk => ⟨by have := (h4 k hk).1; omega, by have := (h4 k hk).2.1; omega, (h4 k hk).2.2⟩, fun ρ w2 hk => h5 ρ w2 fun k hK => ⟨(hk k hK).1, (hk k hK).2.trans (hm.block k (h4 k hK).2.1 (by have := (h4 k hK).1; omega))⟩⟩
  rcases h3 with e1 | ⟨g', e1, hle⟩
  · have := hG g (e1 ▸ hg)
    omega
  · rw [e1] at hg
    cases hg
    omega
def appV (cf cb : Nat) : Value := .func (.func 100) #[] #[pv cf, pv cb]
set_option maxRecDepth 8000 in
set_option maxHeartbeats 2000000 in
theorem appendClo (w : World) (ρ : Nat → Option Role) (b : Nat) (fa : FA) (vb vo : Value) (Gb Go : Option Nat) (cs : List Value) (h : FileRs w ρ b fa vb vo Gb Go cs) (x : Value) (news : List UInt8) (hx : BR w x news) (hl : fa.bytes.length + news.length ≤ 1000000000)
    (cf cb : Nat) (hcf : Blk w cf #[pv b] 88) (hcb : Blk w cb #[x] 25) :
    Calls Tryz.prog 100 #[pv cf, pv cb] w fun e w' => ∃ c0 c1 c2, e = .returned (.agg #[c0, c1, c2]) ∧ Stepd w w' b Gb fa.num vo (fa.bytes ++ news) c0 c1 c2 (.put fa.bytes.length news.length) := by
  have hb1 : Below w.heap.size w (w.alloc (.cells #[.bool false, .int .i64 0, .nilFunc] 120)) := (Below.refl _ _).alloc (Nat.le_refl _) _
  have hF1 : FileRs (w.alloc (.cells #[.bool false, .int .i64 0, .nilFunc] 120)) ρ b fa vb vo Gb Go cs := ⟨h.role, h.blk.alloc _, h.row.keep (S := fun _ => False) ((Mvs.refl _ _).alloc _) (fun _ _ c => c), h.rb, h.orow.keep (S := fun _ => False) ((Mvs.refl _ _).alloc _) (fun _ _ c => c), h.ro, StepsR.keep (S := fun _ => False) ((Mvs.refl _ _).alloc _) (fun _ _ c => c) (fun _ h => h) _ _ h.steps⟩
  have HP := hide (put_any _ ρ b fa vb vo Gb Go cs hF1 x news (hx.below hb1) hl)
  have HG := hide h.row.lt
  have hlt := h.blk.lt
  have h1 := hcf.cell
  have h2 := hcb.cell
  have h3 := hcf.lt
  have h4 := hcb.lt
  obtain ⟨A, c, rfl, _⟩ := hx.form
  have HR := hide (Blk.new w #[.bool false, .int .i64 0, .nilFunc] 120)
  clear h hx hF1 hcf hcb
  unfold pv at *
  go_enter Tryz.func100, Tryz.ntmps100
  go_wp2_with (go_at_call 101; refine HP.out.mono ?_)
  rintro e w3 ⟨c0, c1, c2, rfl, hS⟩
  have hk3 := hS.mvs.blk HR.out (by
    rintro (e | e)
    · have := HG.out _ e.symm
      omega
    · omega)
  have hc3 := hk3.cell
  have hf3 := hk3.frozen
  obtain ⟨x0, n0, fn, fi, ca, rfl, rfl, rfl⟩ := hS.shape
  have HS := hide hS
  have HK := hide hk3
  clear hS hk3 HP
  go_wp2
  have qR := ((HK.out.set 0 (.bool x0)).set 1 (.int .i64 n0)).set 2 (.func fn fi ca)
  have hmm : Mvs (fun k => k = w.heap.size) w3 (((w3.setCell ⟨w.heap.size, 0, none⟩ (.bool x0)).setCell ⟨w.heap.size, 1, none⟩ (.int .i64 n0)).setCell ⟨w.heap.size, 2, none⟩ (.func fn fi ca)) :=
    (((Mvs.refl (fun k => k = w.heap.size) w3).setCell ⟨w.heap.size, 0, none⟩ _ (fun _ => rfl)).setCell ⟨w.heap.size, 1, none⟩ _ (fun _ => rfl)).setCell ⟨w.heap.size, 2, none⟩ _ (fun _ => rfl)
  generalize ((w3.setCell ⟨w.heap.size, 0, none⟩ (.bool x0)).setCell ⟨w.heap.size, 1, none⟩ (.int .i64 n0)).setCell ⟨w.heap.size, 2, none⟩ (.func fn fi ca) = W at *
  have hbc := qR.cell
  exact bodyPost_ret (v := .agg #[.bool x0, .int .i64 n0, .func fn fi ca]) (by simp [results, Tryz.results100, go_sem, hbc]) rfl ⟨_, _, _, rfl, HS.out.wrap hmm hlt HG.out⟩
end Go.Proofs.YtcbkmcagnmpifaaGreatDoor

end
section
namespace Go.Proofs.YtcbkmcagnmpifaaGreatDoor
open Go.RowKit Go.Maps

theorem clone_any (bs : List UInt8) (a : Addr) (n c : Nat) (w : World) (h : BR w (.slice (some a) n c) bs) (hb : bs.length ≤ 1000000) :
    Calls Tryz.prog 58 #[.slice (some a) n c] w fun e w' => ∃ v, e = .returned v ∧ Bts w w' v bs := by
  obtain ⟨A, c', hv, hl, hm, _⟩ := BR.form h
  simp only [Value.slice.injEq] at hv
  obtain ⟨rfl, rfl, rfl⟩ := hv
  obtain ⟨i0, hi, hz0, hz1, hz2⟩ := info_parts byteInfo
  have HB := hide h
  have hq : ∀ (w0 : World) (m : Nat), (binOp .eql 25 (.slice (some a) m c) (.slice none 0 0)).run Tryz.prog w0 = .ok (.bool false) w0 := fun w0 m => Lib.run_eql_slice_nil (P := Tryz.prog) w0 25 5 (some a) m c 0 0 Tryz.underlying25
  clear h
  go_enter Tryz.func58, Tryz.ntmps58
  go_wp2_with (at_builtin; refine wpList_append_rw rfl _ _ 25 25 rfl 5 i0 (.int .u8 0) 1 1 Tryz.underlying25 hi hz0 hz1 hz2 rfl rfl (Rw.new (e := 5) [] [] (Blk.new _ _ _) rfl rfl (Nat.le_refl _) (Nat.zero_le _)) _ bs.length (bs.map bv) rfl (BR.src (HB.out.below ((Below.refl _ _).alloc (Nat.le_refl _) _))) (by simp only [maxLen]; omega) (by omega) ?_)
  intro v3 w3 G3 hr3 hm3 hg3
  have T3 := hide (Bts.first (Below.refl _ w) (by simpa using hr3) (by simpa using hm3) (by simpa using hg3))
  clear hr3 hm3 hg3 hi hz0 hz1 hz2
  go_wp2
  go_ret
  exact ⟨_, rfl, T3.out⟩
theorem clone_nil (w : World) : Calls Tryz.prog 58 #[.slice none 0 0] w fun e w' => e = .returned (.slice none 0 0) ∧ w' = w := by
  have hq : ∀ (w0 : World), (binOp .eql 25 (.slice none 0 0) (.slice none 0 0)).run Tryz.prog w0 = .ok (.bool true) w0 := fun w0 => Lib.run_eql_slice_nil (P := Tryz.prog) w0 25 5 none 0 0 0 0 Tryz.underlying25
  go_enter Tryz.func58, Tryz.ntmps58
  go_wp2
  go_ret
  exact ⟨rfl, rfl⟩
theorem Rw.to0 {w : World} {n g o cap : Nat} {cs : List Value} (h : Rw w 1 (.slice (some ⟨g, o, none⟩) n cap) n cs (some g)) : Rw w 1 (.slice (some ⟨g, o, none⟩) 0 cap) 0 [] (some g) := by
  rcases h.2 with ⟨h, _⟩ | ⟨g', o', cap', hg, hv, h1, h2, h3, h4, h5⟩
  · cases h
  · cases hg
    cases hv
    exact ⟨by simp, .inr ⟨g, o, cap, rfl, rfl, by omega, h2, h3, (fun j u hu => by simp at hu), h5⟩⟩
theorem cut_end {w w3 : World} {b : Nat} {num : Int} {vb vo vn gv fn : Value} {Gb : Option Nat} (kb : Blk w3 b #[.int .i64 num, vb, vo] 117) (kR : Blk w3 w.heap.size #[.bool false, .int .i64 0, .nilFunc] 120) (hb3 : Below w.heap.size w w3) (hlt : b < w.heap.size)
    (hr : Rw w3 1 vn 0 [] Gb) (hG : ∀ g, Gb = some g → g < w.heap.size ∧ g ≠ b) (hfn : ∃ f fi ca, fn = .func f fi ca) :
    Blk (((((w3.setCell ⟨b, 1, none⟩ vn).setCell ⟨w.heap.size, 0, none⟩ (.bool false)).setCell ⟨w.heap.size, 1, none⟩ (.int .i64 0)).setCell ⟨w.heap.size, 2, none⟩ fn).alloc (.cells #[gv] 25)) w.heap.size #[.bool false, .int .i64 0, fn] 120 ∧
    Stepd w (((((w3.setCell ⟨b, 1, none⟩ vn).setCell ⟨w.heap.size, 0, none⟩ (.bool false)).setCell ⟨w.heap.size, 1, none⟩ (.int .i64 0)).setCell ⟨w.heap.size, 2, none⟩ fn).alloc (.cells #[gv] 25)) b Gb num vo [] (.bool false) (.int .i64 0) fn .other := by
  have hneb : b ≠ w.heap.size := by omega
  have hneb2 : w.heap.size ≠ b := by omega
  have hmm : Mvs (fun k => k = b ∨ k = w.heap.size) w3 (((((w3.setCell ⟨b, 1, none⟩ vn).setCell ⟨w.heap.size, 0, none⟩ (.bool false)).setCell ⟨w.heap.size, 1, none⟩ (.int .i64 0)).setCell ⟨w.heap.size, 2, none⟩ fn).alloc (.cells #[gv] 25)) :=
    (((((Mvs.refl (fun k => k = b ∨ k = w.heap.size) w3).setCell ⟨b, 1, none⟩ _ (fun _ => .inl rfl)).setCell ⟨w.heap.size, 0, none⟩ _ (fun _ => .inr rfl)).setCell ⟨w.heap.size, 1, none⟩ _ (fun _ => .inr rfl)).setCell ⟨w.heap.size, 2, none⟩ _ (fun _ => .inr rfl)).alloc _
  refine ⟨((((kR.set_other ⟨b, 1, none⟩ vn hneb).set 0 _).set 1 _).set 2 _).alloc _, ?_, ?_, vn, Gb, none, ((((kb.set 1 _).set_other ⟨w.heap.size, 0, none⟩ _ hneb2).set_other ⟨w.heap.size, 1, none⟩ _ hneb2).set_other ⟨w.heap.size, 2, none⟩ _ hneb2).alloc _, hr.keep hmm (fun g hg e => ?_), .inl rfl, (fun _ h => by cases h), fun _ _ _ => trivial⟩
  · exact (Mvs.of_below hb3).trans' hmm (fun i hi e => by rcases e with rfl | rfl; exact .inr rfl; omega)
  · obtain ⟨f, fi, ca, rfl⟩ := hfn
    exact ⟨_, _, _, _, _, rfl, rfl, rfl⟩
  · have := hG g hg
    omega
set_option maxRecDepth 8000 in
set_option maxHeartbeats 2000000 in
theorem cut0_any (w : World) (ρ : Nat → Option Role) (b : Nat) (fa : FA) (vb vo : Value) (Gb Go : Option Nat) (cs : List Value) (h : FileRs w ρ b fa vb vo Gb Go cs) (hl : fa.bytes.length ≤ 1000000) :
    Calls Tryz.prog 110 #[pv b, .int .i64 0] w fun e w' => ∃ c0 c1 c2, e = .returned (.agg #[c0, c1, c2]) ∧ Stepd w w' b Gb fa.num vo [] c0 c1 c2 .other := by
  have hlt := h.blk.lt
  have HH := hide h
  have hbr := h.row.br
  have hc := h.blk.cell
  have hf := h.blk.frozen
  have HR := hide (Blk.new w #[.bool false, .int .i64 0, .nilFunc] 120)
  rcases h.row.2 with ⟨rfl, h0, rfl⟩ | ⟨g, o, cap, rfl, rfl, h1, h2, h3, h4, h5⟩
  · clear h hbr
    unfold pv
    go_enter Tryz.func110, Tryz.ntmps110
    go_wp2_with fail
    refine (clone_nil _).mono ?_
    rintro e w3 ⟨rfl, hw3⟩
    have hbA : Hid (Below (w.alloc (.cells #[.bool false, .int .i64 0, .nilFunc] 120)).heap.size (w.alloc (.cells #[.bool false, .int .i64 0, .nilFunc] 120)) w3) := by rw [hw3]; exact Below.refl _ _
    have hb3 := hide (((Below.refl _ w).alloc (Nat.le_refl _) (.cells #[.bool false, .int .i64 0, .nilFunc] 120)).trans (hbA.out.mono (by simp)))
    have HW := hide hw3
    clear hw3 hc hf
    have kb := hide (HH.out.blk.below (hb3.out) hlt)
    have kR := hide (HR.out.below hbA.out (by simp))
    have hcb := kb.out.cell
    have hfb := kb.out.frozen
    have hcR := kR.out.cell
    have hfR := kR.out.frozen
    have hltR := kR.out.lt
    have hltb := kb.out.lt
    have hneb : b ≠ w.heap.size := by omega
    have hneb2 : w.heap.size ≠ b := by omega
    go_wp2
    obtain ⟨q, hS⟩ := cut_end (w := w) (gv := .slice none 0 0) (fn := .func (.func 128) #[] #[pv w3.heap.size]) kb.out kR.out hb3.out hlt (Rw.nil w3 1) (fun _ h => by cases h) ⟨_, _, _, rfl⟩
    have hbc := q.cell
    change bodyPost _ _ _ _ _ (((((w3.setCell ⟨b, 1, none⟩ (.slice none 0 0)).setCell ⟨w.heap.size, 0, none⟩ (.bool false)).setCell ⟨w.heap.size, 1, none⟩ (.int .i64 0)).setCell ⟨w.heap.size, 2, none⟩ (.func (.func 128) #[] #[pv w3.heap.size])).alloc (.cells #[.slice none 0 0] 25))
    generalize ((((w3.setCell ⟨b, 1, none⟩ _).setCell ⟨w.heap.size, 0, none⟩ (.bool false)).setCell ⟨w.heap.size, 1, none⟩ (.int .i64 0)).setCell ⟨w.heap.size, 2, none⟩ _).alloc _ = W at *
    exact bodyPost_ret (v := .agg #[.bool false, .int .i64 0, .func (.func 128) #[] #[pv w3.heap.size]]) (by simp [results, Tryz.results110, go_sem, hbc]) rfl ⟨_, _, _, rfl, hS⟩
  · clear h
    unfold pv
    have hb1 := hide (hbr.below ((Below.refl _ w).alloc (Nat.le_refl _) (.cells #[.bool false, .int .i64 0, .nilFunc] 120)))
    clear h4 h5 hbr
    go_enter Tryz.func110, Tryz.ntmps110
    go_wp2_with fail
    refine (clone_any fa.bytes _ _ _ _ hb1.out hl).mono ?_
    rintro e w3 ⟨v3, rfl, T3⟩
    obtain ⟨A3, c3, rfl, _⟩ := T3.br.form
    have hbA := hide T3.1
    have hb3 := hide (((Below.refl _ w).alloc (Nat.le_refl _) (.cells #[.bool false, .int .i64 0, .nilFunc] 120)).trans (hbA.out.mono (by simp)))
    have hrow : Hid (Rw w3 1 (.slice (some ⟨g, o, none⟩) 0 cap) 0 [] (some g)) := by
      have hr := HH.out.row.keep (S := fun _ => False) (Mvs.of_below hb3.out) (fun _ _ c => c)
      exact Rw.to0 hr
    clear hc hf T3
    have kb := hide (HH.out.blk.below (hb3.out) hlt)
    have kR := hide (HR.out.below hbA.out (by simp))
    have hcb := kb.out.cell
    have hfb := kb.out.frozen
    have hcR := kR.out.cell
    have hfR := kR.out.frozen
    have hltR := kR.out.lt
    have hltb := kb.out.lt
    have hneb : b ≠ w.heap.size := by omega
    have hneb2 : w.heap.size ≠ b := by omega
    go_wp2
    obtain ⟨q, hS⟩ := cut_end (w := w) (gv := .slice A3 fa.bytes.length c3) (fn := .func (.func 128) #[] #[pv w3.heap.size]) kb.out kR.out hb3.out hlt hrow.out (fun g' hg => by cases hg; exact ⟨h3, fun e => by have := HH.out.rb g rfl; rw [e, HH.out.role] at this; cases this⟩) ⟨_, _, _, rfl⟩
    have hbc := q.cell
    change bodyPost _ _ _ _ _ (((((w3.setCell ⟨b, 1, none⟩ (.slice (some ⟨g, o, none⟩) 0 cap)).setCell ⟨w.heap.size, 0, none⟩ (.bool false)).setCell ⟨w.heap.size, 1, none⟩ (.int .i64 0)).setCell ⟨w.heap.size, 2, none⟩ (.func (.func 128) #[] #[pv w3.heap.size])).alloc (.cells #[.slice A3 fa.bytes.length c3] 25))
    generalize ((((w3.setCell ⟨b, 1, none⟩ _).setCell ⟨w.heap.size, 0, none⟩ (.bool false)).setCell ⟨w.heap.size, 1, none⟩ (.int .i64 0)).setCell ⟨w.heap.size, 2, none⟩ _).alloc _ = W at *
    exact bodyPost_ret (v := .agg #[.bool false, .int .i64 0, .func (.func 128) #[] #[pv w3.heap.size]]) (by simp [results, Tryz.results110, go_sem, hbc]) rfl ⟨_, _, _, rfl, hS⟩
end Go.Proofs.YtcbkmcagnmpifaaGreatDoor

end
