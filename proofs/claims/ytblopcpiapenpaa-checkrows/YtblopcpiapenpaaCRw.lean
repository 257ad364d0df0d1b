/- The law CheckRows. -/
import Derived.Test.YtblopcpiapenpaaCL2
import Derived.Test.YtblopcpiapenpaaCLA
import Derived.Test.YtblopcpiapenpaaCW
import Derived.Test.YtblopcpiapenpaaCK
import Derived.Test.YtblopcpiapenpaaC3
namespace Go.Proofs.Ytblopcpiapenpaa
open Go.RowKit
def snds (xs : List (Value × List UInt8)) : List (List UInt8) := xs.map (·.2)
theorem snds_take (xs : List (Value × List UInt8)) (k : Nat) (h : k < xs.length) : allB (snds (xs.take (k + 1))) = allB (snds (xs.take k)) ++ recB (xs[k]).2 := by
  rw [List.take_succ_eq_append_getElem h]
  unfold snds
  rw [List.map_append, allB_append]
  simp [allB]
theorem snds_len (xs : List (Value × List UInt8)) : (snds xs).length = xs.length := by simp [snds]
set_option maxRecDepth 20000 in
set_option maxHeartbeats 4000000 in
theorem rows_walk (xs : List (Value × List UInt8)) (tail : List UInt8) (v1 v2 : Value) (w : World) (h1 : LR w v1 xs) (h2 : BR w v2 tail) :
    Calls Try.prog 6 #[v1, v2] w fun e w' => e = .returned (.bool true) ∧ Below w.heap.size w w' := by
  obtain ⟨A1, c1, rfl, hl1, hm1, hc1, hr1⟩ := h1
  obtain ⟨A2, c2, rfl, hl2, hm2, _⟩ := BR.form h2
  have HB : Hid (∀ (w' : World), Below w.heap.size w w' → BR w' (.slice A2 tail.length c2) tail) := fun w' hb => h2.below hb
  replace hc1 := hide hc1
  replace hr1 := hide hr1
  unfold maxLen at hm1
  clear h2
  obtain ⟨i0, hi, hz0, hz1, hz2⟩ := info_parts byteInfo
  go_enter Try.func6, Try.ntmps6
  go_wp2_with (go_at_call 7; refine (alive_yes _).mono ?_; rintro e w1 ⟨rfl, hw1⟩; replace hw1 := hide hw1)
  go_loopw [5, 16] (fun b i wr => ∃ k : Nat, k ≤ xs.length ∧ k ≤ 51 ∧ i = .int .i64 k ∧ Hid (Bts w wr b (allB (snds (xs.take k)))) ∧ Hid (∀ d ∈ snds (xs.take k), d.length ≤ 2000)) (fun _ i _ => xs.length - (intOf i).toNat)
  case atStart => exact ⟨0, Nat.zero_le _, by omega, rfl, (bts_none w1).weaken hw1.out, (fun d hd => by simp [snds] at hd)⟩
  case round =>
    obtain ⟨k, hk, hk51, rfl, HT, HD⟩ := hrel
    have HLn := hide (allB_len _ HD.out)
    have HS := hide (fun h => snds_take xs k h)
    obtain ⟨D, hDe⟩ : ∃ D, Hid (D = allB (snds (xs.take k))) := ⟨_, rfl⟩
    rw [← hDe.out] at HT HS HLn
    have hDl : D.length ≤ 200000 := by
      have := HLn.out
      rw [snds_len, List.length_take] at this
      omega
    obtain ⟨G, A, c, rfl, Tr, Tb, Tg⟩ := HT.out.parts
    by_cases hlt : k < xs.length
    · have hlt' : (k : Int) < xs.length := by omega
      obtain ⟨g, o, rfl, hg, hcell⟩ := hc1.out (List.ne_nil_of_length_pos (by omega))
      have hck : wr.cell? ⟨g, o + k, none⟩ = some (xs[k]).1 := (Tb.out.cell (p := ⟨g, o + k, none⟩) hg).trans (hcell k hlt)
      have hbr : Hid (BR wr (xs[k]).1 (xs[k]).2) := (hr1.out _ (List.getElem_mem hlt)).below Tb.out
      have HS2 := hide (HS.out hlt)
      have HD2 : Hid ((xs[k]).2.length ≤ 2000 → ∀ d ∈ snds (xs.take (k + 1)), d.length ≤ 2000) := by
        intro hd d hm
        rw [List.take_succ_eq_append_getElem hlt] at hm
        unfold snds at hm
        rw [List.map_append] at hm
        rcases List.mem_append.1 hm with hm | hm
        · exact HD.out d hm
        · simp at hm
          rw [hm]
          exact hd
      generalize hp : xs[k] = p at *
      obtain ⟨u, d⟩ := p
      simp only at hck hbr HS2 HD2
      obtain ⟨Au, cu, rfl, _⟩ := BR.form hbr.out
      have hcap : (k : Int) < c1 := by omega
      clear hcell hp
      by_cases hok : k ≤ 50 ∧ d.length ≤ 2000
      · obtain ⟨hk50, hd2⟩ := hok
        have hk50' : ¬ (50 : Int) < k := by omega
        have hd2' : ¬ (2000 : Int) < d.length := by omega
        go_wp2_with fail
        refine (rrecord_any d _ _ hbr.out (by omega)).mono ?_
        rintro e w2 ⟨v2, rfl, T2⟩
        have hs2 := hide T2.br.src
        obtain ⟨A3, c3, rfl, _⟩ := BR.form T2.br
        rw [recB_length] at hs2
        have Tr2 := hide (Tr.out.keep (S := fun _ => False) (Mvs.of_below T2.1) (fun _ _ c => c))
        have Tb2 := hide (Tb.out.trans (T2.1.mono Tb.out.size))
        rw [recB_length]
        clear T2 Tr
        go_wp2_with (at_builtin; refine wpList_append_rw rfl _ _ 23 23 rfl 5 i0 (.int .u8 0) 1 1 Try.underlying23 hi hz0 hz1 hz2 rfl rfl Tr2.out _ (d.length + 8) ((recB d).map bv) rfl hs2.out (by simp only [maxLen]; omega) (by omega) ?_)
        intro v4 w4 G4 hr4 hm4 hg4
        have T4 := hide (Bts.grow (bs := D) (news := recB d) Tb2.out Tg.out (recB_length d).symm rfl hr4 hm4 hg4)
        obtain ⟨A4, c4, rfl⟩ := hr4.form
        clear hr4 hm4 hg4 hi hz0 hz1 hz2 Tr2 Tb2 hs2
        go_wp2
        go_roundw
        case rel => exact ⟨k + 1, by omega, by omega, by go_num, by rw [HS2.out]; exact T4, HD2.out hd2⟩
        case measure => simp [intOf]; omega
      · have hbad : (50 : Int) < k ∨ (2000 : Int) < d.length := by omega
        go_wp2
        all_goals go_ret
        all_goals exact ⟨rfl, Tb.out⟩
    · obtain rfl : k = xs.length := by omega
      rw [List.take_length] at hDe HD
      have hnk : ¬ (xs.length : Int) < xs.length := by omega
      clear HS HLn HT
      by_cases htl : tail.length ≤ 2000
      · have htl' : ¬ (2000 : Int) < tail.length := by omega
        cases hwn : wholeN tail with
        | some n =>
          have HW : Hid (Calls Try.prog 14 #[.slice A2 tail.length c2] wr fun e w'' => e = .returned (.int .i64 n) ∧ ∃ m, w'' = wr.drewN m) := by
            have := whole_any tail _ wr (HB.out wr Tb.out)
            rwa [wholeI_yes hwn] at this
          have hn0 : (0 : Int) ≤ n := by omega
          clear hi hz0 hz1 hz2
          go_wp2_with (go_at_call 14; refine HW.out.mono ?_; rintro e w2 ⟨rfl, m, rfl⟩)
          go_ret
          exact ⟨rfl, Tb.out.trans ((below_drewN _ _).mono Tb.out.size)⟩
        | none =>
          have HW : Hid (Calls Try.prog 14 #[.slice A2 tail.length c2] wr fun e w'' => e = .returned (.int .i64 (-1)) ∧ ∃ m, w'' = wr.drewN m) := by
            have := whole_any tail _ wr (HB.out wr Tb.out)
            rwa [wholeI_no hwn] at this
          replace hwn := hide hwn
          go_wp2_with fail
          refine HW.out.mono ?_
          rintro e w2 ⟨rfl, m, rfl⟩
          have Tb2 := hide (Tb.out.trans ((below_drewN wr m).mono Tb.out.size))
          have Tr2 := hide (Tr.out.keep (S := fun _ => False) (Mvs.of_below (below_drewN wr m)) (fun _ _ c => c))
          have hs2 := hide (BR.src (HB.out _ Tb2.out))
          go_wp2_with (at_builtin; refine wpList_append_rw rfl _ _ 23 23 rfl 5 i0 (.int .u8 0) 1 1 Try.underlying23 hi hz0 hz1 hz2 rfl rfl Tr2.out _ tail.length (tail.map bv) rfl hs2.out (by simp only [maxLen]; omega) (by omega) ?_)
          intro v4 w4 G4 hr4 hm4 hg4
          have T4 := hide (Bts.grow (bs := D) (news := tail) Tb2.out Tg.out rfl rfl hr4 hm4 hg4)
          clear hr4 hm4 hg4 hi hz0 hz1 hz2 Tr2 Tb2 hs2
          go_wp2_with fail
          refine (recordsL_any (snds xs) tail _ _ (by have := T4.out.br; rwa [hDe.out] at this) hwn.out HD.out (by rw [snds_len]; omega)).mono ?_
          rintro e w5 ⟨vl, rfl, G5, vs, hG⟩
          obtain ⟨Al, cl, rfl⟩ := hG.row.form
          have hw5 := hide (T4.out.1.trans (hG.below.mono T4.out.1.size))
          have hvl := hG.len
          replace hG := hide hG
          rw [snds_len] at hvl ⊢
          go_wp2
          go_loopw [61] (fun i wq => ∃ j : Nat, j ≤ xs.length ∧ i = .int .i64 j ∧ Hid (Below w5.heap.size w5 wq)) (fun i _ => xs.length - (intOf i).toNat)
          case atStart => exact ⟨0, Nat.zero_le _, rfl, Below.refl _ _⟩
          case round =>
            obtain ⟨j, hj, rfl, HQ⟩ := hrel
            by_cases hjl : j < xs.length
            · have hjl' : (j : Int) < xs.length := by omega
              obtain ⟨g, o, rfl, hg, hcell⟩ := hc1.out (List.ne_nil_of_length_pos (by omega))
              have hrow := hG.out.row
              rw [snds_len] at hrow
              obtain ⟨g5, o5, e5, _, hv5, hle5, hg5, hcell5, _⟩ := hrow.blk (by omega)
              simp only [Value.slice.injEq] at hv5
              obtain ⟨rfl, _, rfl⟩ := hv5
              have hjv : j < vs.length := by omega
              have hq1 : wr.cell? ⟨g5, o5 + j, none⟩ = some vs[j] := (HQ.out.cell (p := ⟨g5, o5 + j, none⟩) hg5).trans (hcell5 j _ (List.getElem?_eq_getElem hjv))
              have hq2 : wr.cell? ⟨g, o + j, none⟩ = some (xs[j]).1 := ((hw5.out.trans (HQ.out.mono hw5.out.size)).cell (p := ⟨g, o + j, none⟩) hg).trans (hcell j hjl)
              have hb1 := (hG.out.reads j hjv (by rw [snds_len]; exact hjl)).below HQ.out
              have hb2 := (hr1.out _ (List.getElem_mem hjl)).below (hw5.out.trans (HQ.out.mono hw5.out.size))
              have hsj : (snds xs)[j]'(by rw [snds_len]; exact hjl) = (xs[j]).2 := by simp [snds]
              rw [hsj] at hb1
              have HSm : Hid (∀ n, Calls Try.prog 16 #[vs[j], (xs[j]).1] (wr.drewN n) fun e w' => e = .returned (.bool true) ∧ w' = wr.drewN n) := fun n => sameBytes_yes _ _ _ _ (hb1.drewN n) (hb2.drewN n)
              clear hb1 hb2 hsj hcell hcell5 hrow
              have hcap5 : (j : Int) < c1 := by omega
              go_wp2_with fail
              go_quiet ((go_at_call 16; exact Calls.quiet_of_same (HSm.out _)))
              go_wp2
              go_roundw
              case rel => exact ⟨j + 1, by omega, by go_num, HQ.out.trans ((below_drewN _ _).mono HQ.out.size)⟩
              case measure => simp [intOf]; omega
            · obtain rfl : j = xs.length := by omega
              go_wp2
              go_ret
              exact ⟨rfl, hw5.out.trans (HQ.out.mono hw5.out.size)⟩
      · have htl' : (2000 : Int) < tail.length := by omega
        clear hi hz0 hz1 hz2
        go_wp2
        go_ret
        exact ⟨rfl, Tb.out⟩
end Go.Proofs.Ytblopcpiapenpaa
