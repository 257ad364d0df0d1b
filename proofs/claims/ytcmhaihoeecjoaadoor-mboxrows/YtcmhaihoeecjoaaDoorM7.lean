/- MboxRows: the walk. -/
import Derived.Test.YtcmhaihoeecjoaaDoorM7a
import Derived.Test.YtcmhaihoeecjoaaDoorStrsArg
namespace Go.Proofs.YtcmhaihoeecjoaaDoor
open Go.RowKit Go.Shelf
theorem wrap_small31 (n : Nat) (h : n ≤ 2147483647) : IntKind.i64.wrap (n : Int) = (n : Int) := by
  have e : (n : Int) % 2 ^ 64 = n := Int.emod_eq_of_lt (by omega) (by omega)
  simp only [IntKind.wrap, IntKind.bits, IntKind.signed, e]
  rw [if_neg]
  simp
  omega
theorem and31 (t : Int) : 0 ≤ bits .and .i64 t 2147483647 ∧ bits .and .i64 t 2147483647 ≤ 2147483647 := by
  have e : bits .and .i64 t 2147483647 = IntKind.i64.wrap ((BitVec.ofInt 64 t &&& BitVec.ofInt 64 2147483647).toNat : Int) := rfl
  have h2 : (BitVec.ofInt 64 t &&& BitVec.ofInt 64 2147483647).toNat ≤ 2147483647 := by
    rw [BitVec.toNat_and]
    exact Nat.le_trans Nat.and_le_right (by decide)
  rw [e, wrap_small31 _ h2]
  omega
/-- Rows of entries of one separator line. -/
def entsO (sep : List UInt8) (ms : List (List UInt8)) : List (List UInt8 × List UInt8) := ms.map fun m => (sep, m)
theorem entsO_take {sep : List UInt8} {ms : List (List UInt8)} {k : Nat} (hk : k < ms.length) : rowsT (entsO sep (ms.take (k + 1))) = rowsT (entsO sep (ms.take k)) ++ (sep ++ encL ms[k]) := by
  rw [List.take_succ_eq_append_getElem hk]
  unfold entsO
  rw [List.map_append, List.map_singleton, rowsT_snoc]
theorem entsO_bound {sep : List UInt8} {ms : List (List UInt8)} (hs : sep.length ≤ 307) (hm : ∀ m ∈ ms, m.length ≤ 2000) (hl : ms.length ≤ 30) : (rowsT (entsO sep ms)).length ≤ 129240 := by
  have := rowsT_bound (entsO sep ms) (by
    intro e he
    obtain ⟨m, hm', rfl⟩ := List.mem_map.1 he
    exact ⟨hs, hm m hm'⟩)
  have e : (entsO sep ms).length = ms.length := by simp [entsO]
  omega
set_option maxRecDepth 8000 in
set_option maxHeartbeats 1000000 in
theorem rows_walk (ms : List (List UInt8)) (v : Value) (t : Int) (w : World) (ht : Da.Tab w) (ha : AR w v (ms.map tv)) :
    Calls Tryd.prog 4 #[v, .int .i64 t] w fun x w' => x = .returned (.bool true) ∧ Below w.heap.size w w' := by
  obtain ⟨A, cap, rfl, hml⟩ := ha.len
  unfold maxLen at hml
  have HT := hide ht
  have HA := hide ha
  clear ht ha
  by_cases hl : 30 < ms.length
  · have hl' : (30 : Int) < ms.length := by omega
    go_enter Tryd.func4, Tryd.ntmps4
    go_wp2_with (first
      | (go_at_call 6; refine (alive7 _ HT.out).mono ?_; rintro e w1 ⟨rfl, hb1⟩; replace hb1 := hide hb1))
    go_ret
    exact ⟨rfl, hb1.out⟩
  · have hl' : ¬ (30 : Int) < ms.length := by omega
    go_enter Tryd.func4, Tryd.ntmps4
    go_wp2_with (first
      | (go_at_call 6; refine (alive7 _ HT.out).mono ?_; rintro e w1 ⟨rfl, hb1⟩; replace hb1 := hide hb1))
    obtain ⟨h0, h1⟩ := and31 t
    generalize bits .and .i64 t 2147483647 = T at h0 h1
    have hR : rightS [120, 64, 121] = true := by decide
    obtain ⟨sep, hsep⟩ : ∃ sep, sepT [120, 64, 121] T = sep := ⟨_, rfl⟩
    have hsl := sepT_len T hR
    obtain ⟨hst, hsb⟩ := sepT_term hR h0 (by omega)
    have HEN := hide (fun m w (hm : m.length ≤ 400000) ht => entry_yes [120, 64, 121] T m w hR h0 (by omega) hm ht)
    rw [hsep] at hsl hst hsb HEN
    have HST := hide (And.intro hst hsb)
    clear hst hsb hsep hR
    have HT1 := hide (HT.out.below hb1.out)
    have HA1 := hide (HA.out.below hb1.out)
    go_loopw [25, 5] (fun i f wr => ∃ k : Nat, k ≤ ms.length ∧ i = .int .i64 k ∧ f = .string ⟨(rowsT (entsO sep (ms.take k))).toArray⟩ ∧ Hid (∀ m ∈ ms.take k, m.length ≤ 2000) ∧ Hid (Below w1.heap.size w1 wr)) (fun i _ _ => ms.length - (intOf i).toNat)
    case atStart => exact ⟨0, Nat.zero_le _, rfl, rfl, fun m hm => by simp at hm, Below.refl _ _⟩
    case round =>
      obtain ⟨k, hk, rfl, rfl, HM, HB⟩ := hrel
      have hcat := cat_lit
      have hfl : (rowsT (entsO sep (ms.take k))).length ≤ 129240 := entsO_bound hsl HM.out (by rw [List.length_take]; omega)
      by_cases hlt : k < ms.length
      · obtain ⟨g, o, cap', ev, q1, q2, q3, q4⟩ := (HA1.out.below HB.out).at (by intro e; rw [e] at hlt; simp at hlt)
        obtain ⟨rfl, rfl⟩ : A = some ⟨g, o, none⟩ ∧ cap = cap' := by cases ev; exact ⟨rfl, rfl⟩
        have hc := q4 k hlt
        unfold tv at hc
        have HX := hide (entsO_take (sep := sep) hlt)
        have HTK := hide (List.take_succ_eq_append_getElem hlt)
        obtain ⟨m, hm⟩ : ∃ m, ms[k] = m := ⟨_, rfl⟩
        rw [hm] at hc HX HTK
        have hlt' : (k : Int) < ms.length := by omega
        clear ev q4 hm
        by_cases h2 : 2000 < m.length
        · have h2' : (2000 : Int) < m.length := by omega
          go_wp2
          go_ret
          exact ⟨rfl, hb1.out.trans (HB.out.mono hb1.out.size)⟩
        · have h2' : ¬ (2000 : Int) < m.length := by omega
          have hel := enc_bound m
          generalize rowsT (entsO sep (ms.take k)) = F at *
          have hx := hide (HEN.out m wr (by omega) (HT1.out.below HB.out))
          go_wp2_with (first
            | (go_at_call 10; refine hx.out.mono ?_; rintro e w2 ⟨rfl, hb2⟩; replace hb2 := hide hb2))
          go_roundw
          case rel =>
            refine ⟨k + 1, by omega, by go_num, by rw [HX.out], fun x hx' => ?_, HB.out.trans (hb2.out.mono HB.out.size)⟩
            rw [HTK.out] at hx'
            rcases List.mem_append.1 hx' with h | h
            · exact HM.out x h
            · rw [List.mem_singleton.1 h]; omega
          case measure => simp [intOf]; omega
      · obtain rfl : k = ms.length := by omega
        have HM' := HM.out
        rw [List.take_length] at hfl HM'
        have e0 : entsO sep (ms.take ms.length) = entsO sep ms := by rw [List.take_length]
        rw [e0]
        obtain ⟨es, hes⟩ : ∃ es, entsO sep ms = es := ⟨_, rfl⟩
        rw [hes]
        have hel : es.length = ms.length := by rw [← hes]; simp [entsO]
        have hee : ∀ e ∈ es, Term e.1 ∧ sepB e.1 = true := by
          intro e he
          rw [← hes] at he
          obtain ⟨m, _, rfl⟩ := List.mem_map.1 he
          exact HST.out
        have HS := hide (rows_scan hee)
        have HC := hide (rows_cut hee)
        have HI := hide (rows_in hee)
        have HES : Hid (∀ j (hj : j < ms.length) (hj' : j < es.length), es[j].2 = ms[j]) := by
          intro j hj hj'
          subst hes
          simp [entsO]
        have HLS : Hid ((spans 0 (rowsG es)).length = ms.length) := by
          show _ = _
          rw [spans_len, ← hel]
          simp [rowsG]
        rw [hes] at hfl
        have HSC := hide (scan_any (rowsT es) wr (fun _ => ⟨0, 0, none⟩) (by omega) (fun h => by rw [HS.out] at h; cases h))
        generalize rowsT es = F at *
        obtain ⟨xs, hxs⟩ : ∃ xs, spans 0 (rowsG es) = xs := ⟨_, rfl⟩
        rw [hxs] at HS HC HI HLS
        have HEL := hide hel
        clear hes e0 hee hxs HM HM' HEN HST hel
        go_wp2_with (first
          | (go_at_call 11; refine HSC.out.mono ?_; rintro e w2 ⟨hb2, hm⟩; rw [HS.out] at hm; obtain ⟨v2, rfl, hsp⟩ := hm
             obtain ⟨A2, c2, rfl⟩ : ∃ A2 c2, v2 = .slice A2 xs.length c2 := by
               obtain ⟨G, hr, _⟩ := hsp
               exact hr.form
             have hxl := HLS.out
             replace hb2 := hide hb2
             replace hsp := hide hsp))
        have hsp' := hsp.out
        rw [HLS.out] at hsp'
        have HSP := hide hsp'
        clear hsp hsp'
        have HB2 := hide (HB.out.trans (hb2.out.mono HB.out.size))
        have HA2 := hide (HA1.out.below HB2.out)
        go_loopw [60] (fun i wr2 => ∃ k : Nat, k ≤ ms.length ∧ i = .int .i64 k ∧ Hid (Below w2.heap.size w2 wr2)) (fun i _ => ms.length - (intOf i).toNat)
        case atStart => exact ⟨0, Nat.zero_le _, rfl, Below.refl _ _⟩
        case round =>
          obtain ⟨k, hk2, rfl, HB3⟩ := hrel
          by_cases hlt2 : k < ms.length
          · have hltx : k < xs.length := by rw [HLS.out]; exact hlt2
            have hlte : k < es.length := by rw [HEL.out]; exact hlt2
            obtain ⟨g, o, cap', ev, q1, q2, q3, q4⟩ := (HA2.out.below HB3.out).at (by intro e; rw [e] at hlt2; simp at hlt2)
            obtain ⟨rfl, rfl⟩ : A = some ⟨g, o, none⟩ ∧ cap = cap' := by cases ev; exact ⟨rfl, rfl⟩
            have hc := q4 k hlt2
            unfold tv at hc
            obtain ⟨g2, o2, cap2, ev2, r1, r2, r3, r4, r5, r6, r7, _⟩ := (HSP.out.below HB3.out).read k hltx
            obtain ⟨rfl, rfl⟩ : A2 = some ⟨g2, o2, none⟩ ∧ c2 = cap2 := by simp only [Value.slice.injEq] at ev2; exact ⟨ev2.1, ev2.2.2⟩
            rw [HLS.out] at r1
            obtain ⟨t1, t2, t3⟩ := HI.out _ (List.getElem_mem hltx)
            have hcut : cutB F xs[k] = encL ms[k] := by
              have h1 := congrArg (fun l => l[k]?) HC.out
              simp only [List.getElem?_map, List.getElem?_eq_getElem hltx, List.getElem?_eq_getElem hlte, Option.map_some, Option.some.injEq] at h1
              rw [h1, HES.out k hlt2 hlte]
            have hlen : (encL ms[k]).length ≤ 1000000 := by
              rw [← hcut]
              unfold cutB
              rw [List.length_take, List.length_drop]
              omega
            obtain ⟨m, hm⟩ : ∃ m, ms[k] = m := ⟨_, rfl⟩
            obtain ⟨p, hp⟩ : ∃ p, xs[k] = p := ⟨_, rfl⟩
            rw [hm] at hc hcut hlen
            rw [hp] at r5 r6 r7 t2 t3 hcut
            have HMs := hide (fun w => message_in F p.h p.b p.e (encL m) (.string ⟨m.toArray⟩) .nilIface w t2 t3 hcut (fun w' _ => decode_enc m w' hlen))
            have hlt' : (k : Int) < ms.length := by omega
            clear ev ev2 q4 hm hp hcut hlen t1 t2 t3
            go_wp2_with (first
              | (go_at_call 7; refine (HMs.out _).mono ?_; rintro e w4 ⟨rfl, hb4⟩
                 have hcc := (hb4.cell (p := ⟨g, o + k, none⟩) (by simp; omega))
                 replace hb4 := hide hb4))
            have hb5 : Below wr.heap.size wr w4 := ((Below.refl _ _).alloc (Nat.le_refl _) _).trans (hb4.out.mono (by simp))
            go_roundw
            case rel => exact ⟨k + 1, by omega, by go_num, HB3.out.trans (hb5.mono HB3.out.size)⟩
            case measure => simp [intOf]; omega
          · obtain rfl : k = ms.length := by omega
            go_wp2
            go_ret
            refine ⟨rfl, hb1.out.trans ((HB2.out.trans (HB3.out.mono HB2.out.size)).mono hb1.out.size)⟩
end Go.Proofs.YtcmhaihoeecjoaaDoor
