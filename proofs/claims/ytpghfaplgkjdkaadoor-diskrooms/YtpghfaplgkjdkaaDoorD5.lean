/- A disk: how many bytes are used, and whether there is room. -/
import Derived.Test.YtpghfaplgkjdkaaDoorD4
import Derived.Test.YtpghfaplgkjdkaaDoorCalm
namespace Go.Proofs.YtpghfaplgkjdkaaDoor
open Go.RowKit Go.Maps
/-- How many bytes the file has that a datum points to. -/
def lenD (φ : Nat → Option FA) : DataW Unit → Nat
  | .lit (.int .i64 b) => match φ b.toNat with
    | some fa => fa.bytes.length
    | none => 0
  | _ => 0
theorem lenD_pd {φ : Nat → Option FA} {b : Nat} {fa : FA} (h : φ b = some fa) : lenD φ (pd b) = fa.bytes.length := by
  simp [lenD, pd, h]
def usedOf (s : St) : Nat := sumD (lenD s.φ) s.D
def mkP (o : Option Nat) : Value := .pointer (o.map fun b => ⟨b, 0, none⟩)
theorem mkP_inv (v : Value) (y : DataW Unit × List MemPlace) (h : ptrElem v = some y) : ∃ c, v = mkP c := by
  rcases ptrElem_inv h with ⟨rfl, _⟩ | ⟨b, rfl, _⟩
  · exact ⟨none, rfl⟩
  · exact ⟨some b, rfl⟩
theorem mkS_inv (key : Value) (kl : Lit) (h : keyOf Tryd.prog 9 key = some kl) : ∃ s : ByteArray, key = .string s := by
  obtain ⟨s, hs, _⟩ := WideMaps.string_of_keyOf Tryd.underlying9 h
  exact ⟨s, hs⟩
theorem Below.of_grown {w w' : World} {row : Option Nat} (h : w.grownBy w' row) {B : Nat} (hr : ∀ j, row = some j → B ≤ j) (hB : B ≤ w.heap.size) : Below B w w' := (Mvs.of_grown h).below (fun k hk e => by have := hr k e.symm; omega) hB
set_option maxRecDepth 8000 in
set_option maxHeartbeats 2000000 in
theorem used_any (w0 w : World) (d : Nat) (ρ : Nat → Option Role) (s : St) (h : DK w0 w d ρ s) (hu : usedOf s ≤ 1000000000) :
    Calls Tryd.prog 10 #[pv d] w fun e w' => e = .returned (.int .i64 (usedOf s)) ∧ Below w.heap.size w w' := by
  obtain ⟨bn, bs, bc, vs, vl, Gs, Gl, cs, h⟩ := h
  have hc := h.blk.cell
  have HD := hide h
  have hbn : Hid (bn < w.heap.size) := h.lt h.rn
  obtain ⟨es, hes, hpw, hkl⟩ := h.names.entries strKeyed
  replace hpw := hide hpw
  replace hkl := hide hkl
  have HU : Hid (usedOf s = sumL (lenD s.φ) (Maps.has s.D) es) := by
    show _ = _
    unfold usedOf sumD
    rw [hes]
    exact sumL_congr fun p hp => (has_of_mem hp (hkl.out p hp)).symm
  replace hes := hide hes
  clear h
  unfold pv
  go_enter Tryd.func10, Tryd.ntmps10
  go_wp2_with (at_range; refine wpList_range_own _ rfl _ 44 rfl 9 51 strKeyed Tryd.underlying44 ptrElem bn s.N s.D rfl HD.out.names ?_)
  intro w1 hrg0 hg0 hs0
  have HB0 := hide (Below.of_grown (B := w.heap.size) hg0 (fun j e => by cases e) (Nat.le_refl _))
  have HR0 := hide hrg0
  clear hrg0 hg0 hs0
  go_wp2
  go_loopw [3] (fun u wr => ∃ (left : Lit → Bool) (cnt n : Nat), u = .int .i64 n ∧ Hid (wr.ranges Tryd.prog 9 ptrElem bn w.heap.size s.N s.D left cnt) ∧ Hid (n + sumL (lenD s.φ) left es = usedOf s) ∧ n ≤ 1000000000 ∧ Hid (Below w.heap.size w wr)) (fun _ wr => wr.rangeLeft bn w.heap.size)
  case atStart => exact ⟨Maps.has s.D, Maps.size s.D, 0, rfl, HR0, by rw [HU.out]; exact Nat.zero_add _, Nat.zero_le _, HB0⟩
  case round =>
    obtain ⟨left, cnt, n, rfl, HR, HS, hn, HB⟩ := hrel
    go_wp2_with (at_next; refine wpList_next_ranges _ rfl _ rfl 9 strKeyed ptrElem Value.string mkP mkS_inv mkP_inv bn w.heap.size s.N s.D left cnt rfl HR.out ?_ ?_)
    · intro _ hl0
      have hend := HS.out
      rw [sumL_none hl0] at hend
      obtain rfl : n = usedOf s := by omega
      clear hend
      go_wp2
      go_ret
      exact ⟨rfl, HB.out⟩
    · intro x c kl y yp w2 cnt2 hkey hlk hv hat hrg2 hlt hg2 hs2 hen
      have hmem : (kl, y) ∈ es := by
        have := hat
        rw [hes.out] at this
        exact mem_of_atKey this
      obtain ⟨b, hy⟩ := HD.out.eD (kl, y) (by rw [hes.out]; exact hmem)
      obtain ⟨fa, hfa⟩ := Option.isSome_iff_exists.1 (HD.out.vD kl b ((hat .nil).trans hy))
      obtain ⟨vb, vo, Gb, Go, cs', hF⟩ := (HD.out.files b fa hfa).below HB.out
      have hbl : b < wr.heap.size := hF.blk.lt
      have hb0 : b < w.heap.size := HD.out.lt ((HD.out.files b fa hfa).choose_spec.choose_spec.choose_spec.choose_spec.choose_spec.role)
      obtain rfl : c = some b := by
        rcases ptrElem_inv hv with ⟨e1, e2⟩ | ⟨b', e1, e2⟩
        · simp only [Prod.mk.injEq] at e2
          rw [e2.1] at hy
          simp [pd] at hy
        · simp only [Prod.mk.injEq] at e2
          rw [e2.1] at hy
          rw [pd_inj hy] at e1
          cases c with
          | none => cases e1
          | some c0 =>
            simp [mkP, pv] at e1
            rw [e1]
      obtain ⟨A, cc, rfl⟩ := hF.row.form
      have hk2 := (hF.blk.below (B := w.heap.size) (w' := w2) ((Below.of_grown (B := w.heap.size) hg2 (fun j e => by cases e; exact Nat.le_refl _) HB.out.size)) hb0).cell
      have hstep := sumL_strike (len := lenD s.φ) (left := left) (kl := kl) (y := y) hlk hpw.out (hkl.out _ hmem) hmem
      rw [show y = pd b from hy, lenD_pd hfa] at hstep
      have hS2 : Hid (n + fa.bytes.length + sumL (lenD s.φ) (fun z => left z && !z.sameKey kl) es = usedOf s) := by
        show _ = _
        have := HS.out
        omega
      have hn2 : n + fa.bytes.length ≤ 1000000000 := by have := hS2.out; omega
      have HB2 := hide (HB.out.trans (Below.of_grown (B := w.heap.size) hg2 (fun j e => by cases e; exact Nat.le_refl _) HB.out.size))
      have HR2 := hide hrg2
      have hl2 := hide hlt
      have he1 : (wr.rangeLeft bn w.heap.size) = cnt := HR.out.left_eq
      have he2 : (w2.rangeLeft bn w.heap.size) = cnt2 := HR2.out.left_eq
      replace he1 := hide he1
      replace he2 := hide he2
      simp only [mkP, Option.map_some] at hen
      clear hkey hlk hv hat hrg2 hlt hg2 hs2 hmem hy hF hstep hfa
      unfold mkP
      go_wp2
      go_roundw
      case rel => exact ⟨_, cnt2, n + fa.bytes.length, by go_num, HR2, hS2, hn2, HB2⟩
      case measure =>
        rw [he1.out, he2.out]
        exact hl2.out
end Go.Proofs.YtpghfaplgkjdkaaDoor
