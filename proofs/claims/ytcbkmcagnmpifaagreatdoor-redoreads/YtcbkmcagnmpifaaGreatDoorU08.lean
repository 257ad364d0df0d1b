/- A disk: how many bytes are used, and whether there is room. -/
/- A disk: whether there is room; bytes put behind a file's. -/
import Derived.Test.YtcbkmcagnmpifaaGreatDoorU07
import Derived.Laws.EntriesVeiled
section
namespace Go.Proofs.YtcbkmcagnmpifaaGreatDoor
open Go.RowKit Go.Maps
/-- How many bytes the file has that a datum points to. -/
def lenD (φ : Nat → Option FA) : DataW Unit → Nat
  | .lit (.int .i64 b) => match φ b.toNat with
    | some fa => fa.bytes.length
    | none => 0
  | _ => 0
theorem lenD_pd {φ : Nat → Option FA} {b : Nat} {fa : FA} (h : φ b = some fa) : lenD φ (pd b) = fa.bytes.length := by
  simp [lenD, pd, h]
def usedOf (s : St) : Nat := sumD (lenD s.φ) s.D
def mkP (o : Option Nat) : Value := .pointer (o.map fun b => ⟨b, 0, none⟩)
theorem mkP_inv (v : Value) (y : DataW Unit × List MemPlace) (h : ptrElem v = some y) : ∃ c, v = mkP c := by
  rcases ptrElem_inv h with ⟨rfl, _⟩ | ⟨b, rfl, _⟩
  · exact ⟨none, rfl⟩
  · exact ⟨some b, rfl⟩
theorem mkS_inv (key : Value) (kl : Lit) (h : keyOf Tryz.prog 9 key = some kl) : ∃ s : ByteArray, key = .string s := by
  obtain ⟨s, hs, _⟩ := WideMaps.string_of_keyOf Tryz.underlying9 h
  exact ⟨s, hs⟩
theorem Below.of_grown {w w' : World} {row : Option Nat} (h : w.grownBy w' row) {B : Nat} (hr : ∀ j, row = some j → B ≤ j) (hB : B ≤ w.heap.size) : Below B w w' := (Mvs.of_grown h).below (fun k hk e => by have := hr k e.symm; omega) hB
set_option maxRecDepth 8000 in
set_option maxHeartbeats 2000000 in
theorem used_any (w0 w : World) (d : Nat) (ρ : Nat → Option Role) (s : St) (h : DK w0 w d ρ s) (hu : usedOf s ≤ 1000000000) :
    Calls Tryz.prog 70 #[pv d] w fun e w' => e = .returned (.int .i64 (usedOf s)) ∧ Below w.heap.size w w' := by
  obtain ⟨bn, bs, bc, vs, vl, Gs, Gl, cs, h⟩ := h
  have hc := h.blk.cell
  have HD := hide h
  have hbn : Hid (bn < w.heap.size) := h.lt h.rn
  obtain ⟨es, hes, hpw, hkl⟩ := h.names.entries strKeyed
  replace hpw := hide hpw
  replace hkl := hide hkl
  have HU : Hid (usedOf s = sumL (lenD s.φ) (Maps.has s.D) es) := by
    show _ = _
    unfold usedOf sumD
    rw [hes]
    exact sumL_congr fun p hp => (has_of_mem hp (hkl.out p hp)).symm
  replace hes := hide hes
  clear h
  unfold pv
  go_enter Tryz.func70, Tryz.ntmps70
  go_wp2_with (at_range; refine wpList_range_own _ rfl _ 72 rfl 9 88 strKeyed Tryz.underlying72 ptrElem bn s.N s.D rfl HD.out.names ?_)
  intro w1 hrg0 hg0 hs0
  have HB0 := hide (Below.of_grown (B := w.heap.size) hg0 (fun j e => by cases e) (Nat.le_refl _))
  have HR0 := hide hrg0
  clear hrg0 hg0 hs0
  go_wp2
  go_loopw [3] (fun u wr => ∃ (left : Lit → Bool) (cnt n : Nat), u = .int .i64 n ∧ Hid (wr.ranges Tryz.prog 9 ptrElem bn w.heap.size s.N s.D left cnt) ∧ Hid (n + sumL (lenD s.φ) left es = usedOf s) ∧ n ≤ 1000000000 ∧ Hid (Below w.heap.size w wr)) (fun _ wr => wr.rangeLeft bn w.heap.size)
  case atStart => exact ⟨Maps.has s.D, Maps.size s.D, 0, rfl, HR0, by rw [HU.out]; exact Nat.zero_add _, Nat.zero_le _, HB0⟩
  case round =>
    obtain ⟨left, cnt, n, rfl, HR, HS, hn, HB⟩ := hrel
    go_wp2_with (at_next; refine wpList_next_ranges _ rfl _ rfl 9 strKeyed ptrElem Value.string mkP mkS_inv mkP_inv bn w.heap.size s.N s.D left cnt rfl HR.out ?_ ?_)
    · intro _ hl0
      have hend := HS.out
      rw [sumL_none hl0] at hend
      obtain rfl : n = usedOf s := by omega
      clear hend
      go_wp2
      go_ret
      exact ⟨rfl, HB.out⟩
    · intro x c kl y yp w2 cnt2 hkey hlk hv hat hrg2 hlt hg2 hs2 hen
      have hmem : (kl, y) ∈ es := by
        have := hat
        rw [hes.out] at this
        exact mem_of_atKey this
      obtain ⟨b, hy⟩ := HD.out.eD (kl, y) (by rw [hes.out]; exact hmem)
      obtain ⟨fa, hfa⟩ := Option.isSome_iff_exists.1 (HD.out.vD kl b ((hat .nil).trans hy))
      obtain ⟨vb, vo, Gb, Go, cs', hF⟩ := (HD.out.files b fa hfa).below HB.out
      have hbl : b < wr.heap.size := hF.blk.lt
      have hb0 : b < w.heap.size := HD.out.lt ((HD.out.files b fa hfa).choose_spec.choose_spec.choose_spec.choose_spec.choose_spec.role)
      obtain rfl : c = some b := by
        rcases ptrElem_inv hv with ⟨e1, e2⟩ | ⟨b', e1, e2⟩
        · simp only [Prod.mk.injEq] at e2
          rw [e2.1] at hy
          simp [pd] at hy
        · simp only [Prod.mk.injEq] at e2
          rw [e2.1] at hy
          rw [pd_inj hy] at e1
          cases c with
          | none => cases e1
          | some c0 =>
            simp [mkP, pv] at e1
            rw [e1]
      obtain ⟨A, cc, rfl⟩ := hF.row.form
      have hk2 := (hF.blk.below (B := w.heap.size) (w' := w2) ((Below.of_grown (B := w.heap.size) hg2 (fun j e => by cases e; exact Nat.le_refl _) HB.out.size)) hb0).cell
      have hstep := sumL_strike (len := lenD s.φ) (left := left) (kl := kl) (y := y) hlk hpw.out (hkl.out _ hmem) hmem
      rw [show y = pd b from hy, lenD_pd hfa] at hstep
      have hS2 : Hid (n + fa.bytes.length + sumL (lenD s.φ) (fun z => left z && !z.sameKey kl) es = usedOf s) := by
        show _ = _
        have := HS.out
        omega
      have hn2 : n + fa.bytes.length ≤ 1000000000 := by have := hS2.out; omega
      have HB2 := hide (HB.out.trans (Below.of_grown (B := w.heap.size) hg2 (fun j e => by cases e; exact Nat.le_refl _) HB.out.size))
      have HR2 := hide hrg2
      have hl2 := hide hlt
      have he1 : (wr.rangeLeft bn w.heap.size) = cnt := HR.out.left_eq
      have he2 : (w2.rangeLeft bn w.heap.size) = cnt2 := HR2.out.left_eq
      replace he1 := hide he1
      replace he2 := hide he2
      simp only [mkP, Option.map_some] at hen
      clear hkey hlk hv hat hrg2 hlt hg2 hs2 hmem hy hF hstep hfa
      unfold mkP
      go_wp2
      go_roundw
      case rel => exact ⟨_, cnt2, n + fa.bytes.length, by go_num, HR2, hS2, hn2, HB2⟩
      case measure =>
        rw [he1.out, he2.out]
        exact hl2.out
end Go.Proofs.YtcbkmcagnmpifaaGreatDoor

end
section
namespace Go.Proofs.YtcbkmcagnmpifaaGreatDoor
open Go.RowKit Go.Maps
set_option maxRecDepth 8000 in
set_option maxHeartbeats 2000000 in
theorem hasRoom_any (w0 w : World) (d : Nat) (ρ : Nat → Option Role) (s : St) (h : DK w0 w d ρ s) (hu : usedOf s ≤ 1000000000) (hq0 : 0 ≤ s.quota) (hq1 : s.quota ≤ 1073741824) (n : Nat) :
    Calls Tryz.prog 98 #[pv d, .int .i64 n] w fun e w' => e = .returned (.bool (decide ((n : Int) ≤ s.quota - usedOf s))) ∧ Below w.heap.size w w' := by
  have HU := hide (fun (u : Ext w) => used_any w0 u.w d ρ s (h.then u.ok) hu)
  obtain ⟨bn, bs, bc, vs, vl, Gs, Gl, cs, h⟩ := h
  have hb := h.blk.cell
  have hlt : d < w.heap.size := h.lt h.rd
  clear h
  unfold pv at *
  have hns := ext_some w
  have hc := ext_cell w
  go_enter Tryz.func98, Tryz.ntmps98
  go_wp2_with fail
  refine wp_region_ext (by kernel_rfl) (by kernel_rfl) ?_
  repeat (go_big_quiet_step (first | (go_at_call 70; exact ext_call (HU.out _))))
  refine wpQuiet_nil ?_
  rintro w1 ⟨⟨_, hb1⟩, rfl⟩
  go_wp2
  go_ret
  exact ⟨rfl, hb1⟩
/-- What a step of a file leaves: its bytes, and what the step itself is. -/
structure Stepd (w w' : World) (b : Nat) (Gb : Option Nat) (num : Int) (vo : Value) (bytes : List UInt8) (c0 c1 c2 : Value) (sa : SA) : Prop where
  mvs : Mvs (fun k => some k = Gb ∨ k = b) w w'
  shape : ∃ x n fn fi ca, c0 = .bool x ∧ c1 = .int .i64 n ∧ c2 = .func fn fi ca
  ex : ∃ vb' Gb' K, Blk w' b #[.int .i64 num, vb', vo] 117 ∧ Rw w' 1 vb' bytes.length (bytes.map bv) Gb' ∧ (Gb' = Gb ∨ ∃ g, Gb' = some g ∧ w.heap.size ≤ g) ∧
    (∀ k, K = some k → w.heap.size ≤ k ∧ k < w'.heap.size ∧ Gb' ≠ some k) ∧ ∀ (ρ : Nat → Option Role) (w2 : World), (∀ k, K = some k → ρ k = some .cap ∧ w2.heap[k]? = w'.heap[k]?) → StepR w2 ρ c0 c1 c2 sa
/-- .. where the call made something of its own ahead of it. -/
theorem Stepd.pre {w x w' : World} {b : Nat} {Gb : Option Nat} {num : Int} {vo : Value} {bytes : List UInt8} {c0 c1 c2 : Value} {sa : SA} (h : Stepd x w' b Gb num vo bytes c0 c1 c2 sa) (hb : Below w.heap.size w x) : Stepd w w' b Gb num vo bytes c0 c1 c2 sa := by
  obtain ⟨vb', Gb', K, h1, h2, h3, h4, h5⟩ := h.ex
  have := hb.size
  exact ⟨(Mvs.of_below hb).trans h.mvs, h.shape, vb', Gb', K, h1, h2, h3.imp id fun ⟨g, e, hg⟩ => ⟨g, e, by omega⟩, fun k hk => ⟨by have := (h4 k hk).1; omega, (h4 k hk).2⟩, h5⟩
set_option maxRecDepth 8000 in
set_option maxHeartbeats 2000000 in
theorem put_any (w : World) (ρ : Nat → Option Role) (b : Nat) (fa : FA) (vb vo : Value) (Gb Go : Option Nat) (cs : List Value) (h : FileRs w ρ b fa vb vo Gb Go cs) (x : Value) (news : List UInt8) (hx : BR w x news) (hl : fa.bytes.length + news.length ≤ 1000000000) :
    Calls Tryz.prog 101 #[pv b, x] w fun e w' => ∃ c0 c1 c2, e = .returned (.agg #[c0, c1, c2]) ∧ Stepd w w' b Gb fa.num vo (fa.bytes ++ news) c0 c1 c2 (.put fa.bytes.length news.length) := by
  obtain ⟨i0, hi, hz0, hz1, hz2⟩ := info_parts byteInfo
  obtain ⟨A, c, rfl, _⟩ := hx.form
  obtain ⟨Ab, cb, rfl⟩ := h.row.form
  have hc := h.blk.cell
  have hf := h.blk.frozen
  have hlt := h.blk.lt
  have HH := hide h
  have HX := hide hx
  clear h hx
  unfold pv
  go_enter Tryz.func101, Tryz.ntmps101
  go_wp2_with (at_builtin; refine wpList_append_rw rfl _ _ 25 25 rfl 5 i0 (.int .u8 0) 1 1 Tryz.underlying25 hi hz0 hz1 hz2 rfl rfl (HH.out.row.keep (S := fun _ => False) (((Mvs.refl _ _).alloc _).alloc _) (fun _ _ c => c)) _ news.length (news.map bv) rfl (BR.src (HX.out.below (((Below.refl _ _).alloc (Nat.le_refl _) _).alloc (by simp) _))) (by simp only [maxLen]; omega) (by omega) ?_)
  intro v3 w3 G3 hr3 hm3 hg3
  have hGb : ∀ k, w.heap.size ≤ k → ¬ some k = Gb := fun k hk e => by have := HH.out.row.lt k e.symm; omega
  have kb := hm3.blk ((HH.out.blk.alloc _).alloc _) (fun e => by have := HH.out.rb b e.symm; rw [HH.out.role] at this; cases this)
  have kR := hm3.blk ((Blk.new w #[.bool false, .int .i64 0, .nilFunc] 120).alloc _) (hGb _ (Nat.le_refl _))
  have kK := hm3.blk (Blk.new1 w (.cells #[.bool false, .int .i64 0, .nilFunc] 120) #[.int .i64 fa.bytes.length] 3) (hGb _ (by omega))
  obtain ⟨A3, c3, rfl⟩ := hr3.form
  have hs3 := hm3.size
  simp only [World.size_alloc] at hs3
  have hmA : Mvs (fun k => some k = Gb ∨ k = b) w w3 := (((Mvs.refl _ _).alloc _).alloc _).trans (hm3.mono fun _ _ e => .inl e)
  have hg4 : G3 = Gb ∨ ∃ g, G3 = some g ∧ w.heap.size + 1 + 1 ≤ g := hg3.imp id fun e => ⟨_, e, Nat.le_refl _⟩
  have hcb := kb.cell
  have hfb := kb.frozen
  have hcR := kR.cell
  have hfR := kR.frozen
  have hneb : b ≠ w.heap.size := by omega
  have hneb2 : w.heap.size ≠ b := by omega
  have KB := hide kb
  have KR := hide kR
  have KK := hide kK
  have HR := hide hr3
  have HM := hide hmA
  have HG := hide hg4
  clear kb kR kK hr3 hm3 hg3 hg4 hmA hi hz0 hz1 hz2
  go_wp2
  have qb := (((KB.out.set 1 (.slice A3 (fa.bytes.length + news.length) c3)).set_other ⟨w.heap.size, 0, none⟩ (.bool true) hneb2).set_other ⟨w.heap.size, 1, none⟩ (.int .i64 news.length) hneb2).set_other ⟨w.heap.size, 2, none⟩ (.func (.func 125) #[] #[pv (w.heap.size + 1)]) hneb2
  have qR := (((KR.out.set_other ⟨b, 1, none⟩ (.slice A3 (fa.bytes.length + news.length) c3) hneb).set 0 (.bool true)).set 1 (.int .i64 news.length)).set 2 (.func (.func 125) #[] #[pv (w.heap.size + 1)])
  have qK := (((KK.out.set_other ⟨b, 1, none⟩ (.slice A3 (fa.bytes.length + news.length) c3) (by show b ≠ _; omega)).set_other ⟨w.heap.size, 0, none⟩ (.bool true) (by show w.heap.size ≠ _; omega)).set_other ⟨w.heap.size, 1, none⟩ (.int .i64 news.length) (by show w.heap.size ≠ _; omega)).set_other ⟨w.heap.size, 2, none⟩ (.func (.func 125) #[] #[pv (w.heap.size + 1)]) (by show w.heap.size ≠ _; omega)
  have hmm : Mvs (fun k => k = b ∨ k = w.heap.size) w3 ((((w3.setCell ⟨b, 1, none⟩ (.slice A3 (fa.bytes.length + news.length) c3)).setCell ⟨w.heap.size, 0, none⟩ (.bool true)).setCell ⟨w.heap.size, 1, none⟩ (.int .i64 news.length)).setCell ⟨w.heap.size, 2, none⟩ (.func (.func 125) #[] #[pv (w.heap.size + 1)])) :=
    ((((Mvs.refl (fun k => k = b ∨ k = w.heap.size) w3).setCell ⟨b, 1, none⟩ _ (fun _ => .inl rfl)).setCell ⟨w.heap.size, 0, none⟩ _ (fun _ => .inr rfl)).setCell ⟨w.heap.size, 1, none⟩ _ (fun _ => .inr rfl)).setCell ⟨w.heap.size, 2, none⟩ _ (fun _ => .inr rfl)
  change bodyPost _ _ _ _ _ ((((w3.setCell ⟨b, 1, none⟩ (.slice A3 (fa.bytes.length + news.length) c3)).setCell ⟨w.heap.size, 0, none⟩ (.bool true)).setCell ⟨w.heap.size, 1, none⟩ (.int .i64 news.length)).setCell ⟨w.heap.size, 2, none⟩ (.func (.func 125) #[] #[pv (w.heap.size + 1)]))
  generalize (((w3.setCell ⟨b, 1, none⟩ (.slice A3 (fa.bytes.length + news.length) c3)).setCell ⟨w.heap.size, 0, none⟩ (.bool true)).setCell ⟨w.heap.size, 1, none⟩ (.int .i64 news.length)).setCell ⟨w.heap.size, 2, none⟩ (.func (.func 125) #[] #[pv (w.heap.size + 1)]) = W at *
  have hbc := qR.cell
  have hsz := hmm.size
  have hneG : ∀ g, G3 = some g → ¬ (g = b ∨ g = w.heap.size) := fun g hg e => by
    rcases HG.out with e1 | ⟨g', e1, hle⟩
    · rcases e with rfl | rfl
      · have := HH.out.rb g (e1 ▸ hg)
        rw [HH.out.role] at this
        cases this
      · exact hGb _ (Nat.le_refl _) (e1 ▸ hg.symm)
    · rw [e1] at hg
      cases hg
      omega
  refine bodyPost_ret (v := .agg #[.bool true, .int .i64 news.length, .func (.func 125) #[] #[pv (w.heap.size + 1)]]) (by simp [results, Tryz.results101, go_sem, hbc]) rfl ⟨_, _, _, rfl, ⟨?_, ?_, _, G3, some (w.heap.size + 1), qb, ?_, ?_, ?_, ?_⟩⟩
  · exact HM.out.trans' hmm (fun i hi e => by rcases e with rfl | rfl; exact .inr rfl; omega)
  · exact ⟨_, _, _, _, _, rfl, rfl, rfl⟩
  · have := HR.out.keep hmm hneG
    rw [List.length_append, List.map_append]
    exact this
  · exact HG.out.imp id fun ⟨g, e, hle⟩ => ⟨g, e, by omega⟩
  · rintro k hk
    cases hk
    refine ⟨by omega, by omega, fun e => ?_⟩
    rcases HG.out with e1 | ⟨g, e1, hle⟩
    · exact hGb (w.heap.size + 1) (by omega) (by rw [← e1, e])
    · rw [e1] at e
      cases e
      omega
  · intro ρ2 w2 hk
    obtain ⟨hr, hb⟩ := hk _ rfl
    exact ⟨rfl, rfl, w.heap.size + 1, rfl, hb.trans qK, hr⟩
end Go.Proofs.YtcbkmcagnmpifaaGreatDoor

end
