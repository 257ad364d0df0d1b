/- marks of the document's layer 11. -/
import Derived.Test.YtkppeejbmalefaaGreatDoorU22
import Derived.Laws.OwnMore
set_option linter.unusedSimpArgs false
namespace Go.Proofs.YtkppeejbmalefaaGreatDoor
open Go.RowKit Go.Shelf
/-- The marks of the first i bytes, 0 behind them. -/
def mrow (s : List UInt8) (i : Nat) : List Value := ((mks .o s).take i ++ List.replicate (s.length - i) 0).map (fun k : Nat => Value.int .i64 (k : Int))
theorem mrow_len (s : List UInt8) {i : Nat} (hi : i ≤ s.length) : (mrow s i).length = s.length := by
  unfold mrow
  rw [List.length_map, List.length_append, List.length_take, List.length_replicate, mks_len]
  omega
theorem mrow_next {s : List UInt8} {i m : Nat} (hi : i < s.length) (hm : (mks .o s)[i]? = some m) : (mrow s i).toArray.setIfInBounds i (.int .i64 (m : Int)) = (mrow s (i + 1)).toArray := by
  rw [List.setIfInBounds_toArray]
  congr 1
  unfold mrow
  have h1 : s.length - i = (s.length - (i + 1)) + 1 := by omega
  have h2 : i < (mks .o s).length := by rw [mks_len]; exact hi
  rw [List.getElem?_eq_getElem h2] at hm
  have h3 : (mks .o s).take (i + 1) = (mks .o s).take i ++ [m] := by rw [List.take_succ_eq_append_getElem h2, Option.some.inj hm]
  have h4 : ((mks .o s).take i).length = i := by rw [List.length_take]; omega
  rw [h3, h1, List.replicate_succ, List.map_append, List.map_append, List.map_append, List.map_cons]
  rw [List.set_append, if_neg (by rw [List.length_map, h4]; omega), List.length_map, h4, Nat.sub_self]
  simp
theorem mrow_zero {s : List UInt8} {i : Nat} (hi : i < s.length) (hm : (mks .o s)[i]? = some 0) : mrow s i = mrow s (i + 1) := by
  unfold mrow
  have h1 : s.length - i = (s.length - (i + 1)) + 1 := by omega
  have h2 : i < (mks .o s).length := by rw [mks_len]; exact hi
  rw [List.getElem?_eq_getElem h2] at hm
  have h3 : (mks .o s).take (i + 1) = (mks .o s).take i ++ [0] := by rw [List.take_succ_eq_append_getElem h2, Option.some.inj hm]
  rw [h3, h1, List.replicate_succ]
  simp
/-- The row of marks in memory, in block g. -/
structure MK (w : World) (g : Nat) (s : List UInt8) (i : Nat) (wr : World) : Prop where
  blk : Blk wr g (mrow s i).toArray 3
  bel : Below w.heap.size w wr
  ge : w.heap.size ≤ g
  le : i ≤ s.length
theorem MK.set {w wr : World} {g i m : Nat} {s : List UInt8} (h : MK w g s i wr) (hi : i < s.length) (hm : (mks .o s)[i]? = some m) {k : Int} (hk : (m : Int) = k) : MK w g s (i + 1) (wr.setCell ⟨g, i, none⟩ (.int .i64 k)) := by
  subst hk
  refine ⟨?_, h.bel.setCell h.ge _, h.ge, by omega⟩
  rw [← mrow_next hi hm]
  exact h.blk.set i _
theorem MK.skip {w wr : World} {g i : Nat} {s : List UInt8} (h : MK w g s i wr) (hi : i < s.length) (hm : (mks .o s)[i]? = some 0) : MK w g s (i + 1) wr :=
  ⟨by rw [← mrow_zero hi hm]; exact h.blk, h.bel, h.ge, by omega⟩
theorem MK.cell {w wr : World} {g i : Nat} {s : List UInt8} (h : MK w g s i wr) (j : Nat) (hj : j < s.length) : ∃ v, wr.cell? ⟨g, j, none⟩ = some v := by
  rw [h.blk.cell, List.getElem?_toArray]
  exact ⟨_, List.getElem?_eq_getElem (by rw [mrow_len s h.le]; exact hj)⟩
def Sta (s : List UInt8) (i : Nat) (t : Sq) : Prop := i < s.length → rn .o (s.take i) = t
theorem rn_take {s : List UInt8} {i : Nat} (hi : i < s.length) : rn .o (s.take (i + 1)) = nx (rn .o (s.take i)) s[i] := by
  rw [List.take_succ_eq_append_getElem hi, rn_append]
  rfl
theorem Sta.next {s : List UInt8} {i : Nat} {t t' : Sq} {c : UInt8} (h : Sta s i t) (hi : i < s.length) (hc : s[i] = c) (hn : nx t c = t') : Sta s (i + 1) t' := fun _ => by
  rw [rn_take hi, h hi, hc, hn]
theorem Sta.mark {s : List UInt8} {i m : Nat} {t : Sq} {c : UInt8} (h : Sta s i t) (hi : i < s.length) (hc : s[i] = c) (hn : mkN t c = m) : (mks .o s)[i]? = some m := by
  rw [mks_at _ _ _ hi, h hi, hc, hn]
theorem intInfo : (Tryz.prog.info? 3).map (fun i => (i.zero, i.size, i.bytes)) = some (some (.int .i64 0), 1, 8) := by kernel_rfl
theorem MK.start (s : List UInt8) (w w5 : World) (h : w5.ownsRow w.heap.size 3 1 (.slice (some ⟨w.heap.size, 0, none⟩) s.length s.length) s.length (madeCells (Value.int .i64 0).cells (s.length * 1)).toList) (hg : w.grownBy w5 none) : MK w w.heap.size s 0 w5 := by
  refine ⟨?_, ⟨hg.os, hg.tape, hg.output, hg.size, fun k hk => hg.block k hk (by simp)⟩, Nat.le_refl _, Nat.zero_le _⟩
  rcases h.2 with ⟨h, _⟩ | ⟨g, cap, cur, e, _, hb, _, _, h3, h4⟩
  · cases h
  · cases e
    unfold Blk
    rw [hb]
    congr 2
    have h5 : cur.toList = (madeCells (Value.int .i64 0).cells (s.length * 1)).toList := by
      rw [← h4, List.take_of_length_le (by rw [Array.length_toList, h3]; exact Nat.le_refl _)]
    rw [show (Value.int IntKind.i64 0).cells = #[.int .i64 0] from rfl, toList_madeCells_one] at h5
    rw [← Array.toArray_toList (xs := cur), h5]
    unfold mrow
    simp
set_option maxRecDepth 20000 in
set_option maxHeartbeats 4000000 in
theorem marks_any (s : List UInt8) (w : World) (hl : s.length ≤ 1000000) :
    Calls Tryz.prog 46 #[.string ⟨s.toArray⟩] w fun e w' => e = .returned (.slice (some ⟨w.heap.size, 0, none⟩) s.length s.length) ∧ MK w w.heap.size s s.length w' := by
  obtain ⟨i0, hi0, hz0, hz1, hz2⟩ := info_three intInfo
  have hsz := size_lit s
  obtain ⟨w5, hrun5, hr5, hg5⟩ := run_make_full (P := Tryz.prog) w w.heap.size 29 3 i0 (.int .i64 0) 1 Tryz.underlying29 hi0 hz0 hz1 .i64 .i64 s.length (by rw [hz2]; omega) (by simp only [maxLen]; omega) (Nat.le_refl _)
  have HM0 := hide (MK.start s w w5 hr5 hg5)
  have HSt : Hid (Sta s 0 .o) := fun _ => rfl
  clear hr5 hg5
  obtain ⟨g, hg⟩ : ∃ g, w.heap.size = g := ⟨_, rfl⟩
  rw [hg] at HM0 hrun5 ⊢
  clear hg
  go_enter Tryz.func46, Tryz.ntmps46
  go_wp2
  go_loopw [4] (fun v wr => ∃ i : Nat, v = .int .i64 i ∧ i ≤ s.length ∧ Hid (MK w g s i wr) ∧ Hid (Sta s i .o)) (fun v _ => s.length - (intOf v).toNat)
  case atStart => exact ⟨0, rfl, Nat.zero_le _, HM0, HSt⟩
  case round =>
    obtain ⟨i, rfl, hi, HM, HT⟩ := hrel
    clear HM0 HSt hrun5
    by_cases hlt : i < s.length
    · have hlt' : (i : Int) < s.length := by omega
      obtain ⟨c, hc, hat⟩ := at_str s i hlt
      by_cases h34 : c = 34
      · subst h34
        have HMn := hide (HM.out.set hlt (HT.out.mark hlt hc (m := 1) rfl) (k := 1) rfl)
        have HTn := hide (HT.out.next hlt hc (t' := .q) rfl)
        obtain ⟨u0, hu0⟩ := HM.out.cell i hlt
        have hf0 := HM.out.blk.frozen i
        have hlg := HM.out.blk.lt
        clear HM HT
        go_wp2
        go_loopw [4] (fun v wx => ∃ j : Nat, v = .int .i64 j ∧ i + 1 ≤ j ∧ j ≤ s.length ∧ Hid (MK w g s j wx) ∧ Hid (Sta s j .q)) (fun v _ => s.length - (intOf v).toNat)
        case atStart => exact ⟨i + 1, by go_num, Nat.le_refl _, hlt, HMn, HTn⟩
        case round =>
          obtain ⟨j, rfl, hij, hj, HM, HT⟩ := hrel
          clear HMn HTn hu0 hf0 hlg
          by_cases hjl : j < s.length
          · have hjl' : (j : Int) < s.length := by omega
            obtain ⟨d, hd, hat2⟩ := at_str s j hjl
            obtain ⟨u1, hu1⟩ := HM.out.cell j hjl
            have hf1 := HM.out.blk.frozen j
            have hlg := HM.out.blk.lt
            by_cases d34 : d = 34
            · subst d34
              have HMn := hide (HM.out.set hjl (HT.out.mark hjl hd (m := 1) rfl) (k := 1) rfl)
              have HTn := hide (HT.out.next hjl hd (t' := .o) rfl)
              clear HM HT
              go_wp2
              go_roundw
              case rel => exact ⟨j + 1, by go_num, by omega, HMn, HTn⟩
              case measure => simp [intOf]; omega
            · have d34' := u8_ne (k := 34) rfl d34
              have HMn := hide (HM.out.set hjl (HT.out.mark hjl hd (m := 1) rfl) (k := 1) rfl)
              by_cases d92 : d = 92
              · subst d92
                have HTn := hide (HT.out.next hjl hd (t' := .e) rfl)
                by_cases hj2 : j + 1 < s.length
                · have hj2' : (j : Int) + 1 < s.length := by omega
                  obtain ⟨x, hx, hat3⟩ := at_str s (j + 1) hj2
                  obtain ⟨u2, hu2⟩ := HMn.out.cell (j + 1) hj2
                  have hf2 := HMn.out.blk.frozen (j + 1)
                  have HM2 := hide (HMn.out.set hj2 (HTn.out.mark hj2 hx (m := 1) rfl) (k := 1) rfl)
                  have HT2 := hide (HTn.out.next hj2 hx (t' := .q) rfl)
                  clear HM HT HMn HTn
                  go_wp2
                  go_roundw
                  case rel => exact ⟨j + 2, by go_num, by omega, by omega, HM2, HT2⟩
                  case measure => simp [intOf]; omega
                · have hj2' : ¬ ((j : Int) + 1 < s.length) := by omega
                  have HT2 : Hid (Sta s (j + 1) .q) := fun h => absurd h hj2
                  clear HM HT HTn
                  go_wp2
                  go_roundw
                  case rel => exact ⟨j + 1, by go_num, by omega, by omega, HMn, HT2⟩
                  case measure => simp [intOf]; omega
              · have d92' := u8_ne (k := 92) rfl d92
                have HTn := hide (HT.out.next hjl hd (t' := .q) (by simp [nx, d34, d92]))
                clear HM HT
                go_wp2
                go_roundw
                case rel => exact ⟨j + 1, by go_num, by omega, by omega, HMn, HTn⟩
                case measure => simp [intOf]; omega
          · have hjl' : ¬ ((j : Int) < s.length) := by omega
            have HT2 : Hid (Sta s j .o) := fun h => absurd h hjl
            clear HT
            go_wp2
            go_roundw
            case rel => exact ⟨j, rfl, by omega, HM, HT2⟩
            case measure => simp [intOf]; omega
      · have h34' := u8_ne (k := 34) rfl h34
        by_cases h60 : c = 60
        · subst h60
          have HMn := hide (HM.out.skip hlt (HT.out.mark hlt hc rfl))
          have HTn := hide (HT.out.next hlt hc (t' := .a) rfl)
          clear HM HT
          go_wp2
          go_loopw [4] (fun v wx => ∃ j : Nat, v = .int .i64 j ∧ i + 1 ≤ j ∧ j ≤ s.length ∧ Hid (MK w g s j wx) ∧ Hid (Sta s j .a)) (fun v _ => s.length - (intOf v).toNat)
          case atStart => exact ⟨i + 1, by go_num, Nat.le_refl _, hlt, HMn, HTn⟩
          case round =>
            obtain ⟨j, rfl, hij, hj, HM, HT⟩ := hrel
            clear HMn HTn
            by_cases hjl : j < s.length
            · have hjl' : (j : Int) < s.length := by omega
              obtain ⟨d, hd, hat2⟩ := at_str s j hjl
              obtain ⟨u1, hu1⟩ := HM.out.cell j hjl
              have hf1 := HM.out.blk.frozen j
              have hlg := HM.out.blk.lt
              have HMn := hide (HM.out.set hjl (HT.out.mark hjl hd (m := 2) rfl) (k := 2) rfl)
              by_cases d62 : d = 62
              · subst d62
                have HTn := hide (HT.out.next hjl hd (t' := .o) rfl)
                clear HM HT
                go_wp2
                go_roundw
                case rel => exact ⟨j + 1, by go_num, by omega, HMn, HTn⟩
                case measure => simp [intOf]; omega
              · have d62' := u8_ne (k := 62) rfl d62
                have HTn := hide (HT.out.next hjl hd (t' := .a) (by simp [nx, d62]))
                clear HM HT
                go_wp2
                go_roundw
                case rel => exact ⟨j + 1, by go_num, by omega, by omega, HMn, HTn⟩
                case measure => simp [intOf]; omega
            · have hjl' : ¬ ((j : Int) < s.length) := by omega
              have HT2 : Hid (Sta s j .o) := fun h => absurd h hjl
              clear HT
              go_wp2
              go_roundw
              case rel => exact ⟨j, rfl, by omega, HM, HT2⟩
              case measure => simp [intOf]; omega
        · have h60' := u8_ne (k := 60) rfl h60
          have HMn := hide (HM.out.skip hlt (HT.out.mark hlt hc (by simp [mkN, h34])))
          have HTn := hide (HT.out.next hlt hc (t' := .o) (by simp [nx, h34, h60]))
          clear HM HT
          go_wp2
          go_roundw
          case rel => exact ⟨i + 1, by go_num, by omega, HMn, HTn⟩
          case measure => simp [intOf]; omega
    · obtain rfl : i = s.length := by omega
      clear HT
      go_wp2
      go_ret
      exact ⟨rfl, HM.out⟩
end Go.Proofs.YtkppeejbmalefaaGreatDoor
