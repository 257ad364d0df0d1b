/- The document's first and trimmed. -/
import Derived.Test.YtfebohfmpikoeaaGreatDoorU17
import Derived.Test.YtfebohfmpikoeaaGreatDoorU18
import Derived.Test.YtfebohfmpikoeaaGreatDoorU19
import Derived.Test.YtfebohfmpikoeaaGreatDoorU15
set_option linter.unusedSimpArgs false
set_option linter.unusedVariables false
namespace Go.Proofs.YtfebohfmpikoeaaGreatDoor
open Go.RowKit Go.Shelf
theorem vals_same {n k : List UInt8} (h : n.map lowB = k.map lowB) (xs : List FI) : valsOf n xs = valsOf k xs := by
  unfold valsOf sameT
  rw [h]
set_option maxRecDepth 20000 in
set_option maxHeartbeats 1000000 in
theorem rfirst_any (n : List UInt8) (v : Value) (xs : List FI) (w : World) (hv : FA w v xs) (hl : xs.length ≤ 1000) (hn : n.length ≤ 1000000) (hx : ∀ x ∈ xs, x.name.length ≤ 1000000) :
    Calls Tryz.prog 37 #[v, .string ⟨n.toArray⟩] w fun e w' => e = .returned (.string ⟨((valsOf n xs).head?.getD []).toArray⟩) ∧ Below w.heap.size w w' := by
  have HG := hide (rget_any n v xs w hv hl hn hx)
  obtain ⟨A, c, rfl, _⟩ := hv
  generalize valsOf n xs = L at *
  go_enter Tryz.func37, Tryz.ntmps37
  go_wp2_with fail
  refine HG.out.mono ?_
  rintro e w2 ⟨u, rfl, ht⟩
  have HB := hide ht.1
  obtain ⟨A2, c2, rfl, hr⟩ := ht.tx
  clear ht HG
  cases L with
  | nil =>
    clear hr
    go_wp2
    go_ret
    exact ⟨rfl, HB.out⟩
  | cons x r =>
    obtain ⟨g, o, rfl, hg, hc⟩ := hr 0 (by simp)
    rw [Nat.add_zero] at hc
    have hc' : w2.cell? ⟨g, o, none⟩ = some (.string ⟨x.toArray⟩) := hc
    obtain ⟨k, hk⟩ : ∃ k, (x :: r).length = k := ⟨_, rfl⟩
    have hk0 : 0 < k := by rw [← hk]; simp
    rw [hk]
    have hk1 : ¬ ((k : Int) = 0) := by omega
    clear hr hc hk
    go_wp2
    go_ret
    exact ⟨rfl, HB.out⟩
set_option maxRecDepth 20000 in
set_option maxHeartbeats 1000000 in
theorem rtrimmed_any (s : List UInt8) (w : World) (hl0 : s.length ≤ 1000000) : Calls Tryz.prog 69 #[.string ⟨s.toArray⟩] w fun e w' => e = .returned (.string ⟨(trimE s).toArray⟩) ∧ w' = w := by
  have HTx := hide (rtext_any s w hl0)
  have HTE : Hid (trimE s = Lib.trimRightS (txt s) [32, 9]) := rfl
  have htl : (txt s).length ≤ 1000000 := Nat.le_trans (txt_len s) hl0
  generalize trimE s = TS at *
  generalize txt s = T at *
  go_enter Tryz.func69, Tryz.ntmps69
  go_wp2_with fail
  refine HTx.out.ret ?_
  clear HTx
  go_wp2
  go_loopw [3] (fun v wr => wr = w ∧ ∃ u : List UInt8, v = .string ⟨u.toArray⟩ ∧ u.length ≤ 1000000 ∧ Hid (TS = Lib.trimRightS u [32, 9])) (fun v _ => Lib.strSize v)
  case atStart => exact ⟨rfl, T, rfl, htl, HTE⟩
  case round =>
    obtain ⟨rfl, u, rfl, hul, HU⟩ := hrel
    clear HTE
    rcases List.eq_nil_or_concat u with rfl | ⟨q, c, hq⟩
    · have HV : Hid (TS = []) := HU.out
      clear HU
      go_wp2
      go_ret
      exact ⟨by rw [HV.out]; rfl, rfl⟩
    · rw [List.concat_eq_append] at hq
      have hat : ∀ h, (⟨u.toArray⟩ : ByteArray)[q.length]'h = c := by
        subst hq
        exact at_snoc q c []
      have hsz := size_lit u
      have hln : u.length = q.length + 1 := by rw [hq]; simp
      have eT : (⟨u.toArray⟩ : ByteArray).extract 0 q.length = ⟨q.toArray⟩ := by rw [ext_take, hq, List.take_left' rfl]
      have HB := hide (rbl10_any c)
      have HU2 : Hid (TS = if bkB c then Lib.trimRightS q [32, 9] else u) := by
        show _ = _
        rw [HU.out, hq, right_snoc]
      rw [show bkB c = isBl c from rfl] at HU2
      rw [hln] at hsz hul
      have hzq : Lib.strSize (.string ⟨q.toArray⟩) < Lib.strSize (.string ⟨u.toArray⟩) := by
        show (⟨q.toArray⟩ : ByteArray).size < (⟨u.toArray⟩ : ByteArray).size
        rw [size_lit, size_lit, hln]
        omega
      have HZ := hide hzq
      obtain ⟨n, hn⟩ : ∃ n, q.length = n := ⟨_, rfl⟩
      have HQ := hide hn
      rw [hn] at hat hsz eT hul
      have hi2 : ((n : Int) + 1 - 1) = n := by omega
      clear hq hln hn HU hzq
      cases hb : isBl c with
      | true =>
        rw [hb] at HB HU2
        clear hb
        go_wp2_with (first
          | (go_at_call 57; refine (HB.out _).mono ?_; rintro e w2 ⟨rfl, rfl⟩))
        go_roundw
        case rel => exact ⟨trivial, q, rfl, by have := HQ.out; omega, HU2.out⟩
        case measure => exact HZ.out
      | false =>
        rw [hb] at HB HU2
        have HV : Hid (TS = u) := HU2.out
        clear hb HU2
        go_wp2_with (first
          | (go_at_call 57; refine (HB.out _).mono ?_; rintro e w2 ⟨rfl, rfl⟩))
        go_ret
        exact ⟨by rw [HV.out]; rfl, rfl⟩
end Go.Proofs.YtfebohfmpikoeaaGreatDoor
