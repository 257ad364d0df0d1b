/- Split of package lines. -/
import Derived.Test.YtkcailfpanmhdaaDoorLSplitMath
import Derived.Test.YtkcailfpanmhdaaDoorLAlive
namespace Go.Proofs.YtkcailfpanmhdaaDoor
open Go.RowKit
/-- The texts xs, in a row of this call's own. -/
def Texts (w wr : World) (v : Value) (xs : List (List UInt8)) : Prop := Below w.heap.size w wr ∧ ∃ G, Rw wr 1 v xs.length (xs.map sv) G ∧ ∀ g, G = some g → w.heap.size ≤ g
theorem size_lit (l : List UInt8) : (⟨l.toArray⟩ : ByteArray).size = l.length := by simp [ByteArray.size]
def lenS : Value → Nat | .string s => s.size | _ => 0
theorem info_parts {i : Option TypeInfo} {z : Value} {n m : Nat} (h : i.map (fun i => (i.zero, i.size, i.bytes)) = some (some z, n, m)) : ∃ i0, i = some i0 ∧ i0.zero = some z ∧ i0.size = n ∧ i0.bytes = m := by
  obtain ⟨i0, hi, h⟩ := Option.map_eq_some_iff.1 h
  simp only [Prod.mk.injEq] at h
  exact ⟨i0, hi, h⟩
theorem Texts.grow {w wr w1 : World} {v1 : Value} {xs : List (List UInt8)} {x : List UInt8} {G G1 : Option Nat} {o : Obj} (hb : Below w.heap.size w wr) (hg : ∀ g, G = some g → w.heap.size ≤ g)
    (hr : Rw w1 1 v1 (xs.length + 1) (xs.map sv ++ [sv x]) G1) (hm : Mvs (fun k => some k = G) (wr.alloc o) w1) (hG : G1 = G ∨ G1 = some (wr.alloc o).heap.size) : Texts w w1 v1 (xs ++ [x]) := by
  refine ⟨below_mvs (hb.alloc hb.size _) hm (fun k hk e => by have := hg k e.symm; omega) (Nat.le_refl _), G1, ?_, ?_⟩
  · rw [List.length_append, List.map_append]
    exact hr
  · rintro g rfl
    have := hb.size
    rcases hG with h | h
    · exact hg g h.symm
    · cases h
      simp
      omega
theorem index_str {t : List UInt8} {x : Int} (hx : Lib.indexByte t 10 = x) (w : World) : Calls Tryd.prog 28 #[.string ⟨t.toArray⟩, .int .u8 10] w fun e w' => e = .returned (.int .i64 x) ∧ w' = w := by
  subst hx
  exact Tryd.strings_IndexByte ⟨t.toArray⟩ 10 w

set_option maxRecDepth 20000 in
set_option maxHeartbeats 1000000 in
theorem split_any (l : List UInt8) (w : World) (hl : l.length ≤ 20000) :
    Calls Tryd.prog 20 #[.string ⟨l.toArray⟩] w fun e w' => ∃ v, e = .returned v ∧ Texts w w' v (splitS l) := by
  obtain ⟨i0, hi, hz0, hz1, hz2⟩ := info_parts strInfo
  go_enter Tryd.func20, Tryd.ntmps20
  go_wp2
  go_loopw [0, 3] (fun s v wr => ∃ (t : List UInt8) (xs : List (List UInt8)), s = .string ⟨t.toArray⟩ ∧ t.length ≤ 20000 ∧ xs.length + t.length ≤ 20000 ∧ Hid (Texts w wr v xs) ∧ Hid (xs ++ splitS t = splitS l)) (fun s _ _ => lenS s)
  case atStart => exact ⟨l, [], rfl, hl, by simpa using hl, ⟨Below.refl _ _, none, Rw.nil _ _, by simp⟩, rfl⟩
  case round =>
    obtain ⟨t, xs, rfl, ht, hxt, HT, HX⟩ := hrel
    by_cases h0 : t = []
    · subst h0
      go_wp2
      go_ret
      refine ⟨_, rfl, ?_⟩
      have := HX.out
      rw [splitS, List.append_nil] at this
      rw [← this]
      exact HT.out
    · have hE : t.isEmpty = false := by
        cases t with
        | nil => exact absurd rfl h0
        | cons _ _ => rfl
      cases hcut : cut10 t with
      | none =>
        have h10 := cut10_none hcut
        have HI := hide (index_str (index_none h10))
        have HX2 : Hid ((xs ++ [t]) ++ splitS [] = splitS l) := by
          show _ = _
          rw [← HX.out, splitS_end t h10 h0]
          simp [splitS]
        have e1 := ext_take t t.length
        rw [List.take_length] at e1
        have e2 := ext_drop t t.length
        rw [List.drop_length] at e2
        obtain ⟨hb, G, hr, hg⟩ := HT.out
        obtain ⟨A, c, rfl⟩ := hr.form
        replace hb := hide hb
        replace hr := hide hr
        replace hg := hide hg
        clear h10 hcut
        go_wp2_with (first | (go_at_call 28; refine (HI.out _).mono ?_; rintro e w' ⟨rfl, rfl⟩) | (at_builtin; refine wpList_append_rw rfl _ _ 52 52 rfl 9 i0 (.string ⟨#[]⟩) 1 16 Tryd.underlying52 hi hz0 hz1 hz2 rfl rfl (hr.out.keep (S := fun _ => False) ((Mvs.refl _ _).alloc _) (fun _ _ c => c)) _ 1 _ rfl (src_one _ Tryd.underlying52) (by simp only [maxLen]; omega) (by omega) ?_))
        intro v1 w1 G1 hr1 hm1 hg1
        have HT1 := hide (Texts.grow hb.out hg.out hr1 hm1 (by simpa using hg1))
        obtain ⟨A1, c1, rfl⟩ := hr1.form
        clear hr1 hm1 hg1 hr hb hg hi hz0 hz1 hz2
        go_wp2
        go_roundw
        case rel => exact ⟨_, _, rfl, by simp, by simp; have := List.length_pos_iff.2 h0; omega, HT1, HX2⟩
        case measure => simp [lenS]; exact List.length_pos_iff.2 h0
      | some pr =>
        obtain ⟨p, r⟩ := pr
        obtain ⟨ht2, h10⟩ := cut10_some hcut
        have hix : Lib.indexByte t 10 = p.length := by rw [ht2]; exact index_mid r h10
        have HI := hide (index_str hix)
        have HX2 : Hid ((xs ++ [p ++ [10]]) ++ splitS r = splitS l) := by
          show _ = _
          rw [← HX.out, ht2, splitS_mid p r h10]
          simp
        have htl : t.length = p.length + 1 + r.length := by rw [ht2]; simp; omega
        have e1 : (⟨t.toArray⟩ : ByteArray).extract 0 (p.length + 1) = ⟨(p ++ [10]).toArray⟩ := by
          rw [ext_take, ht2]
          simp [List.take_append, List.take_of_length_le]
        have e2 : (⟨t.toArray⟩ : ByteArray).extract (p.length + 1) t.length = ⟨r.toArray⟩ := by
          rw [ext_drop, ht2]
          simp [List.drop_append]
        have hle : (p.length : Int) + 1 ≤ t.length := by omega
        have hle2 : p.length + 1 ≤ t.length := by omega
        have HL := hide htl
        obtain ⟨hb, G, hr, hg⟩ := HT.out
        obtain ⟨A, c, rfl⟩ := hr.form
        replace hb := hide hb
        replace hr := hide hr
        replace hg := hide hg
        clear h10 hcut ht2 hix htl
        go_wp2_with (first | (go_at_call 28; refine (HI.out _).mono ?_; rintro e w' ⟨rfl, rfl⟩) | (at_builtin; refine wpList_append_rw rfl _ _ 52 52 rfl 9 i0 (.string ⟨#[]⟩) 1 16 Tryd.underlying52 hi hz0 hz1 hz2 rfl rfl (hr.out.keep (S := fun _ => False) ((Mvs.refl _ _).alloc _) (fun _ _ c => c)) _ 1 _ rfl (src_one _ Tryd.underlying52) (by simp only [maxLen]; omega) (by omega) ?_))
        intro v1 w1 G1 hr1 hm1 hg1
        have HT1 := hide (Texts.grow hb.out hg.out hr1 hm1 (by simpa using hg1))
        obtain ⟨A1, c1, rfl⟩ := hr1.form
        clear hr1 hm1 hg1 hr hb hg hi hz0 hz1 hz2
        go_wp2
        go_roundw
        case rel => exact ⟨_, _, rfl, by have := HL.out; omega, by have := HL.out; simp; omega, HT1, HX2⟩
        case measure => have := HL.out; simp only [lenS, size_lit]; omega
end Go.Proofs.YtkcailfpanmhdaaDoor
