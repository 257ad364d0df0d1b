/- The document's reader: Line. -/
import Derived.Test.YtkcailfpanmhdaaDoorLRf1
import Derived.Test.YtkcailfpanmhdaaDoorLRSplit
namespace Go.Proofs.YtkcailfpanmhdaaDoor
open Go.RowKit
theorem suffix_last (pre : List UInt8) (h : pre ≠ []) : Lib.hasSuffix pre [13] = decide (pre[pre.length - 1]? = some 13) := by
  obtain ⟨q, x, rfl⟩ : ∃ q x, pre = q ++ [x] := ⟨pre.dropLast, pre.getLast h, (List.dropLast_concat_getLast h).symm⟩
  unfold Lib.hasSuffix
  have e1 : (q ++ [x])[(q ++ [x]).length - 1]? = some x := by simp
  rw [e1]
  by_cases hx : x = 13
  · subst hx
    simp [List.isSuffixOf_iff_suffix]
  · have : List.isSuffixOf [13] (q ++ [x]) = false := by
      rw [Bool.eq_false_iff]
      intro h13
      rw [List.isSuffixOf_iff_suffix] at h13
      obtain ⟨t, ht⟩ := h13
      have := List.append_inj_right' ht rfl
      simp at this
      exact hx this.symm
    rw [this]
    simp [hx]
section
variable (w : World) (b : Nat) (G : Option Nat) (L : List UInt8) (p a : Nat)
set_option maxHeartbeats 1000000 in
theorem rline_waits (h : RF w b G L p a) (ha : 0 < a) : Calls Tryd.prog 13 #[.pointer (some ⟨b, 0, none⟩)] w fun e w' => e = .returned (.tuple #[lineV [] false, .bool false]) ∧ Below w.heap.size w w' := by
  obtain ⟨v, h⟩ := h
  have hb := Blk.alloc h.blk (.cells #[.string ⟨#[]⟩, .bool false] 36)
  have hc := hb.cell
  have ha' : (0 : Int) < a := by omega
  clear h hb
  unfold lineV
  go_enter Tryd.func13, Tryd.ntmps13
  go_wp2
  exact bodyPost_ret (v := .tuple #[.agg #[.string ⟨#[]⟩, .bool false], .bool false]) (by simp [results, Tryd.results13, go_sem]) rfl ⟨rfl, (Below.refl _ _).alloc (Nat.le_refl _) _⟩

theorem cut_none_of {l : List UInt8} (h : (10 : UInt8) ∉ l) : cut10 l = none := by
  cases hc : cut10 l with
  | none => rfl
  | some pr =>
    obtain ⟨p, r⟩ := pr
    exact absurd (by rw [(cut10_some hc).1]; simp) h
theorem cut_some_of : ∀ {p : List UInt8} (r : List UInt8), (10 : UInt8) ∉ p → cut10 (p ++ 10 :: r) = some (p, r)
  | [], r, _ => by simp [cut10]
  | c :: p, r, h => by
    simp only [List.mem_cons, not_or] at h
    show cut10 (c :: (p ++ 10 :: r)) = _
    rw [cut10, if_neg (fun e => h.1 e.symm), cut_some_of r h.2]
    rfl

set_option maxRecDepth 20000 in
set_option maxHeartbeats 2000000 in
theorem rline_asks (h : RF w b G L p 0) (hm : L.length ≤ 20000) : Calls Tryd.prog 13 #[.pointer (some ⟨b, 0, none⟩)] w fun e w' => e = .returned (.tuple #[(lineOut (L.drop p) 0).1, .bool (lineOut (L.drop p) 0).2.1]) ∧ RTold w w' b G L (lineOut (L.drop p) 0).2.2 0 := by
  obtain ⟨v, h⟩ := h
  have hm1 : Mvs (fun _ => False) w (w.alloc (.cells #[.string ⟨#[]⟩, .bool false] 36)) := (Mvs.refl _ _).alloc _
  have hk : RFs (w.alloc (.cells #[.string ⟨#[]⟩, .bool false] 36)) b G L p 0 v := h.keep hm1 (fun _ _ c => c)
  have ht := h.told
  have hbw := h.blk.lt
  have hbne : w.heap.size ≠ b := by omega
  have HL : Hid (∀ g, G = some g → g ≠ w.heap.size) := fun g hg => Nat.ne_of_lt (h.row.lt g hg)
  have hB := Blk.new w #[.string ⟨#[]⟩, .bool false] 36
  obtain ⟨A, c, rfl⟩ := h.row.form
  have hbc := hB.cell
  have hbf := hB.frozen
  generalize hW : w.alloc (.cells #[.string ⟨#[]⟩, .bool false] 36) = W at hm1 hk hB hbc hbf
  have hc := hk.blk.cell
  have hf := hk.blk.frozen
  have H := hide hk
  have HM := hide hm1
  have HB := hide hB
  clear h hm1 hk hB
  go_enter Tryd.func13, Tryd.ntmps13
  go_wp2
  clear hW
  go_loopw [4] (fun k wr => ∃ e : Nat, k = .int .i64 e ∧ p ≤ e ∧ e ≤ L.length ∧ Hid (no10 L p e) ∧ wr = W) (fun k _ => L.length - (intOf k).toNat)
  case atStart => exact ⟨p, rfl, Nat.le_refl _, ht, by simp [Hid, no10], rfl⟩
  case round =>
    obtain ⟨e, rfl, hpe, hel, HN, rfl⟩ := hrel
    by_cases hlt : e < L.length
    · have hlt' : (e : Int) < L.length := by omega
      obtain ⟨g, o, cap, rfl, hv, h1, _, h3, h4, _⟩ : ∃ g o cap, G = some g ∧ Value.slice A L.length c = .slice (some ⟨g, o, none⟩) L.length cap ∧ L.length ≤ cap ∧ cap ≤ maxLen ∧ g < wr.heap.size ∧ (∀ j u, (L.map bv)[j]? = some u → wr.cell? ⟨g, o + j, none⟩ = some u) ∧ True := by
        rcases H.out.row.2 with ⟨_, hl0, _⟩ | ⟨g, o, cap, k1, k2, k3, k4, k5, k6, _⟩
        · omega
        · exact ⟨g, o, cap, k1, k2, k3, k4, k5, k6, trivial⟩
      simp only [Value.slice.injEq] at hv
      obtain ⟨rfl, _, rfl⟩ := hv
      have hce : wr.cell? ⟨g, o + e, none⟩ = some (.int .u8 (L[e].toNat : Int)) := h4 e _ (by simp [List.getElem?_eq_getElem hlt, bv])
      obtain ⟨x, hx⟩ : ∃ x, L[e] = x := ⟨_, rfl⟩
      rw [hx] at hce
      replace h4 := hide h4
      by_cases h10 : x = 10
      · subst h10
        obtain ⟨k, rfl⟩ : ∃ k, e = p + k := ⟨e - p, by omega⟩
        have hcut : cut10 (L.drop p) = some ((L.drop p).take k, L.drop (p + k + 1)) := by
          have h := HN.out
          unfold no10 at h
          have hd := drop_cut hpe hlt hx
          rw [Nat.add_sub_cancel_left] at h hd
          have := cut_some_of (L.drop (p + k + 1)) h
          rw [← hd] at this
          exact this
        have hpl : ((L.drop p).take k).length = k := by simp; omega
        have hmid := H.out.row.from (k := p) ht
        have hne : ¬ c = p := by omega
        unfold fromV at hmid
        rw [if_neg hne] at hmid
        have hto := hmid.to (k := k) (by omega)
        rw [← List.map_drop, ← List.map_take] at hto
        obtain ⟨pre, hpre⟩ : ∃ pre, (L.drop p).take k = pre := ⟨_, rfl⟩
        rw [hpre] at hcut hpl hto
        clear hpre hx HN hmid
        subst hpl
        have hlo : lineOut (L.drop p) 0 = (lineT pre, true, L.drop (p + pre.length + 1)) := by
          unfold lineOut
          rw [if_neg (by omega), hcut]
        have HLO := hide hlo
        have FIN : Hid (∀ n x y0 y1, x = ((p + pre.length + 1 : Nat) : Int) → RTold w ((((wr.drewN n).setCell ⟨b, 1, none⟩ (.int .i64 x)).setCell ⟨w.heap.size, 0, none⟩ y0).setCell ⟨w.heap.size, 1, none⟩ y1) b (some g) L (L.drop (p + pre.length + 1)) 0) := by
          rintro n x y0 y1 rfl
          have h1 : RFs ((wr.drewN n).setCell ⟨b, 1, none⟩ (.int .i64 ((p + pre.length + 1 : Nat) : Int))) b (some g) L (p + pre.length + 1) 0 (.slice (some ⟨g, o, none⟩) L.length c) :=
            ⟨(Blk.drewN H.out.blk n).set 1 _, (H.out.row.keep (S := fun _ => False) ((Mvs.refl _ _).drewN n) (fun _ _ c => c)).set_b H.out.apart _ _, H.out.apart, by omega⟩
          refine ⟨p + pre.length + 1, ⟨_, h1.keep (S := fun k => k = w.heap.size) (((Mvs.refl (fun k => k = w.heap.size) _).setCell _ _ (fun _ => rfl)).setCell _ _ (fun _ => rfl)) ?_⟩, rfl, ((((HM.out.mono (fun _ _ c => c.elim)).drewN n).set_b _ _).setCell _ _ (fun h => absurd h (by simp))).setCell _ _ (fun h => absurd h (by simp))⟩
          rintro k (rfl | hk) e
          · exact hbne e.symm
          · exact HL.out k hk.symm e
        have hRw : Hid (∀ n x, Rw ((wr.drewN n).setCell ⟨b, 1, none⟩ (.int .i64 x)) 1 (.slice (some ⟨g, o + p, none⟩) pre.length (c - p)) pre.length (pre.map bv) (some g)) := fun n x => (hto.keep (S := fun _ => False) ((Mvs.refl _ _).drewN n) (fun _ _ c => c)).set_b H.out.apart _ _
        have hcv := fun n x => convert_rw (hRw.out n x)
        have q1 : (p : Int) ≤ (p : Int) + pre.length := by omega
        have q2 : (p : Int) + pre.length ≤ c := by omega
        clear hlo hcut hto
        by_cases hlong : 1000 < pre.length
        · have hlong' : (1000 : Int) < pre.length := by omega
          have hT : lineT pre = .agg #[.string ⟨#[]⟩, .bool true] := by
            unfold lineT lineV
            rw [if_pos hlong]
          have HTT := hide hT
          clear hT
          go_wp2_with fail
          go_quiet (fail)
          go_wp2
          refine bodyPost_ret (v := .tuple #[.agg #[.string ⟨#[]⟩, .bool true], .bool true]) (by simp [results, Tryd.results13, go_sem, hbc]) rfl ⟨by rw [HLO.out, HTT.out], ?_⟩
          rw [HLO.out]
          exact FIN.out _ _ _ _ (by omega)
        · have hlong' : ¬ (1000 : Int) < pre.length := by omega
          have hT : lineT pre = .agg #[.string ⟨(trimCr pre).toArray⟩, .bool false] := by
            unfold lineT lineV
            rw [if_neg hlong]
          have HTT := hide hT
          clear hT
          by_cases h0 : pre = []
          · subst h0
            have HTr : Hid (trimCr [] = []) := by rfl
            simp only [List.length_nil, Nat.add_zero, Int.natCast_zero, Int.add_zero] at hce hcv q1 q2 hlt' hlt
            go_wp2_with fail
            go_quiet (fail)
            go_wp2
            refine bodyPost_ret (v := .tuple #[.agg #[.string ⟨#[]⟩, .bool false], .bool true]) (by simp [results, Tryd.results13, go_sem, hbc]) rfl ⟨by rw [HLO.out, HTT.out, HTr.out], ?_⟩
            rw [HLO.out]
            exact FIN.out _ _ _ _ (by simp)
          · obtain ⟨m, hm'⟩ : ∃ m, pre.length = m + 1 := ⟨pre.length - 1, by have := List.length_pos_iff.2 h0; omega⟩
            have hml : m < pre.length := by omega
            obtain ⟨z, hz⟩ : ∃ z, pre[m] = z := ⟨_, rfl⟩
            have hsf := suffix_last pre h0
            rw [hm', Nat.add_sub_cancel, List.getElem?_eq_getElem hml, hz] at hsf
            have hcz : ∀ n x, ((wr.drewN n).setCell ⟨b, 1, none⟩ (.int .i64 x)).cell? ⟨g, o + p + m, none⟩ = some (.int .u8 (z.toNat : Int)) := fun n x => by
              rcases (hRw.out n x).2 with ⟨h, _⟩ | ⟨g', o', cap', k1, k2, _, _, _, k6, _⟩
              · cases h
              · cases k1
                simp only [Value.slice.injEq, Option.some.injEq, Addr.mk.injEq] at k2
                obtain ⟨⟨_, rfl, _⟩, _, _⟩ := k2
                exact k6 m _ (by simp [List.getElem?_eq_getElem hml, hz, bv])
            have HT13 : Hid (z = 13 → trimCr pre = pre.take m) := by
              rintro rfl
              unfold trimCr
              rw [hsf, hm']
              simp
            have HTno : Hid (¬ z = 13 → trimCr pre = pre) := by
              intro hz13
              unfold trimCr
              rw [hsf]
              simp [hz13]
            have hcv13 : ∀ n x, (convert 27 9 (.slice (some ⟨g, o + p, none⟩) m (c - p))).run Tryd.prog ((wr.drewN n).setCell ⟨b, 1, none⟩ (.int .i64 x)) = .ok (.string ⟨(pre.take m).toArray⟩) ((wr.drewN n).setCell ⟨b, 1, none⟩ (.int .i64 x)) := fun n x => by
              have := (hRw.out n x).to (k := m) (by omega)
              rw [← List.map_take] at this
              exact convert_rw (G := some g) (by rw [List.length_take, Nat.min_eq_left (by omega)]; exact this)
            clear hsf hz h4
            replace hRw := hRw.out
            simp only [hm'] at hce hcv q1 q2 hlt' hlt FIN HLO hlong' hpe ⊢
            clear hRw hm' hml
            by_cases hz13 : z = 13
            · have hzz : ((z.toNat : Int) == 13) = true := by rw [hz13]; rfl
              have hz2 : (z.toNat : Int) = 13 := by rw [hz13]; rfl
              have HTr := hide (HT13.out hz13)
              clear hz13
              go_wp2_with fail
              go_quiet (fail)
              go_wp2
              refine bodyPost_ret (v := .tuple #[.agg #[.string ⟨(pre.take m).toArray⟩, .bool false], .bool true]) (by simp [results, Tryd.results13, go_sem, hbc]) rfl ⟨by rw [HLO.out, HTT.out, HTr.out], ?_⟩
              rw [HLO.out]
              exact FIN.out _ _ _ _ (by omega)
            · have hzz : ((z.toNat : Int) == 13) = false := by
                simp
                intro e
                exact hz13 (UInt8.toNat_inj.1 (by simpa using (by omega : z.toNat = 13)))
              have hz2 : ¬ (z.toNat : Int) = 13 := by simpa using hzz
              have HTr := hide (HTno.out hz13)
              clear hz13
              go_wp2_with fail
              go_quiet (fail)
              go_wp2
              refine bodyPost_ret (v := .tuple #[.agg #[.string ⟨pre.toArray⟩, .bool false], .bool true]) (by simp [results, Tryd.results13, go_sem, hbc]) rfl ⟨by rw [HLO.out, HTT.out, HTr.out], ?_⟩
              rw [HLO.out]
              exact FIN.out _ _ _ _ (by omega)
      · have h10' : ¬ ((x.toNat : Int) = 10) := by
          intro e'
          exact h10 (UInt8.toNat_inj.1 (by simpa using (by omega : x.toNat = 10)))
        have HN2 := hide (no10_next HN.out hpe hlt (by rw [hx]; exact h10))
        clear hx h10
        go_wp2
        go_roundw
        case rel => exact ⟨e + 1, by go_num, by omega, by omega, HN2, by trivial⟩
        case measure => simp [intOf]; omega
    · obtain rfl : e = L.length := by omega
      have hcn : cut10 (L.drop p) = none := by
        refine cut_none_of ?_
        have := HN.out
        unfold no10 at this
        rw [List.take_of_length_le (by rw [List.length_drop]; omega)] at this
        exact this
      have hlo : lineOut (L.drop p) 0 = (lineV [] false, false, L.drop p) := by
        unfold lineOut
        rw [if_neg (by omega), hcn]
      have HLO := hide hlo
      clear hlo hcn
      go_wp2
      refine bodyPost_ret (v := .tuple #[.agg #[.string ⟨#[]⟩, .bool false], .bool false]) (by simp [results, Tryd.results13, go_sem, hbc]) rfl ⟨by rw [HLO.out]; rfl, ?_⟩
      rw [HLO.out]
      refine ⟨p, ⟨_, H.out.keep (S := fun k => k = w.heap.size) (((Mvs.refl (fun k => k = w.heap.size) _).setCell _ _ (fun _ => rfl)).setCell _ _ (fun _ => rfl)) ?_⟩, rfl, ((HM.out.mono (fun _ _ c => c.elim)).setCell _ _ (fun h => absurd h (by simp))).setCell _ _ (fun h => absurd h (by simp))⟩
      rintro k (rfl | hk) e
      · exact hbne e.symm
      · exact HL.out k hk.symm e
theorem rline_any (h : RF w b G L p a) (hm : L.length ≤ 20000) : Calls Tryd.prog 13 #[.pointer (some ⟨b, 0, none⟩)] w fun e w' => e = .returned (.tuple #[(lineOut (L.drop p) a).1, .bool (lineOut (L.drop p) a).2.1]) ∧ RTold w w' b G L (lineOut (L.drop p) a).2.2 a := by
  rcases Nat.eq_zero_or_pos a with rfl | ha
  · exact rline_asks w b G L p h hm
  · unfold lineOut
    rw [if_pos ha]
    refine (rline_waits w b G L p a h ha).mono ?_
    rintro e w' ⟨rfl, hb⟩
    exact ⟨rfl, p, h.keep (S := fun _ => False) (Mvs.of_below hb) (fun _ _ c => c), rfl, Mvs.of_below hb⟩
end
end Go.Proofs.YtkcailfpanmhdaaDoor
