/- MboxKeeps: the walk. -/
import Derived.Test.YtcmhaihoeecjoaaDoorM9
import Derived.Test.YtcmhaihoeecjoaaDoorStrsArg
namespace Go.Proofs.YtcmhaihoeecjoaaDoor
open Go.RowKit Go.Shelf
/-- Entries of one sender, each at the moment of its place. -/
def entsI (sd : List UInt8) (ms : List (List UInt8)) : List (List UInt8 × List UInt8) := ms.mapIdx fun i m => (sepT sd i, m)
theorem entsI_len (sd : List UInt8) (ms : List (List UInt8)) : (entsI sd ms).length = ms.length := by simp [entsI]
theorem entsI_at {sd : List UInt8} {ms : List (List UInt8)} {k : Nat} (h : k < (entsI sd ms).length) : (entsI sd ms)[k] = (sepT sd k, ms[k]'(by rw [entsI_len] at h; exact h)) := by simp [entsI]
theorem entsI_snd (sd : List UInt8) (ms : List (List UInt8)) : (entsI sd ms).map (fun e => e.2) = ms := by
  apply List.ext_getElem?
  intro i
  simp [entsI, List.getElem?_map, List.getElem?_mapIdx]
  cases ms[i]? <;> rfl
theorem rowsT_next {es : List (List UInt8 × List UInt8)} {k : Nat} (h : k < es.length) : rowsT (es.take (k + 1)) = rowsT (es.take k) ++ (es[k].1 ++ encL es[k].2) := by
  rw [List.take_succ_eq_append_getElem h, rowsT_snoc]
/-- Texts in a row of this call's own. -/
def Txs (B : Nat) (w : World) (v : Value) (xs : List (List UInt8)) : Prop := ∃ G, Rw w 1 v xs.length (xs.map tv) G ∧ ∀ g, G = some g → B ≤ g
theorem Txs.keep {B : Nat} {w w' : World} {v : Value} {xs : List (List UInt8)} {S : Nat → Prop} (h : Txs B w v xs) (hm : Mvs S w w') (hs : ∀ k, B ≤ k → k < w.heap.size → ¬ S k) : Txs B w' v xs := by
  obtain ⟨G, hr, hg⟩ := h
  exact ⟨G, hr.keep hm fun g e => hs g (hg g e) (hr.lt g e), hg⟩
theorem Txs.below {B : Nat} {w w' : World} {v : Value} {xs : List (List UInt8)} (h : Txs B w v xs) (hb : Below w.heap.size w w') : Txs B w' v xs := h.keep (S := fun _ => False) (Mvs.of_below hb) (fun _ _ _ c => c)
theorem Txs.form {B : Nat} {w : World} {v : Value} {xs : List (List UInt8)} (h : Txs B w v xs) : ∃ A c, v = .slice A xs.length c := by
  obtain ⟨G, hr, hg⟩ := h
  exact hr.form
theorem Txs.read {B : Nat} {w : World} {v : Value} {xs : List (List UInt8)} (h : Txs B w v xs) (i : Nat) (hi : i < xs.length) : ∃ g o cap, v = .slice (some ⟨g, o, none⟩) xs.length cap ∧ xs.length ≤ cap ∧ cap ≤ maxLen ∧ g < w.heap.size ∧ w.cell? ⟨g, o + i, none⟩ = some (.string ⟨(xs[i]).toArray⟩) := by
  obtain ⟨G, hr, hg⟩ := h
  rcases hr.2 with ⟨_, h0, _⟩ | ⟨g, o, cap, rfl, rfl, h1, h2, h3, h4, h5⟩
  · omega
  · exact ⟨g, o, cap, rfl, h1, h2, h3, h4 i _ (by rw [List.getElem?_map, List.getElem?_eq_getElem hi]; rfl)⟩
theorem src_tx {w : World} (x : List UInt8) {c : Nat} : Src Tryd.prog 1 33 (.slice (some ⟨w.heap.size, 0, none⟩) 1 c) 1 [tv x] (w.alloc (.cells #[.string ⟨x.toArray⟩] 9)) := by
  refine Src.ofSlice _ Tryd.underlying33 ⟨w.heap.size, 0, none⟩ 1 c _ (by simp) (fun j u hu => ?_) (by simp [Value.oneCell', tv])
  rw [Go.WideShapes.add_plain, Nat.zero_add, World.cell?_alloc_mark]
  rw [← hu, ← List.getElem?_toArray]
  rfl
theorem txInfo : (Tryd.prog.info? 9).map (fun i => (i.zero, i.size, i.bytes)) = some (some (.string ⟨#[]⟩), 1, 16) := by kernel_rfl
theorem keepB_in {ks : List Bool} {k : Nat} (h : k < ks.length) : keepB ks k = ks[k] := by
  unfold keepB
  rw [List.getD_eq_getElem?_getD, List.getElem?_eq_getElem h]
  rfl
theorem keepB_out {ks : List Bool} {k : Nat} (h : ¬ k < ks.length) : keepB ks k = false := by
  unfold keepB
  rw [List.getD_eq_getElem?_getD, List.getElem?_eq_none (by omega)]
  rfl
theorem Txs.snoc {B : Nat} {w1 w' : World} {v' : Value} {xs : List (List UInt8)} {x : List UInt8} {G G' : Option Nat} (hg : ∀ g, G = some g → B ≤ g) (hr : Rw w' 1 v' (xs.length + 1) (xs.map tv ++ [tv x]) G') (hG : G' = G ∨ G' = some w1.heap.size) (hB : B ≤ w1.heap.size) : Txs B w' v' (xs ++ [x]) := by
  refine ⟨G', ?_, ?_⟩
  · rw [List.length_append, List.map_append]
    exact hr
  · rintro g rfl
    rcases hG with e | e
    · exact hg g e.symm
    · have := Option.some.inj e
      omega
set_option maxRecDepth 8000 in
set_option maxHeartbeats 2000000 in
theorem keeps_walk (ms : List (List UInt8)) (ks : List Bool) (v kv : Value) (w : World) (ht : Da.Tab w) (ha : AR w v (ms.map tv)) (hk : AR w kv (ks.map Value.bool)) :
    Calls Tryd.prog 5 #[v, kv] w fun x w' => x = .returned (.bool true) ∧ Below w.heap.size w w' := by
  obtain ⟨i0, hi, hz0, hz1, hz2⟩ := info_three txInfo
  obtain ⟨A, cap, rfl, hml⟩ := ha.len
  obtain ⟨KA, kcap, rfl, hkl⟩ := hk.len
  unfold maxLen at hml hkl
  have hbA : Below w.heap.size w (w.alloc (.cells #[.slice KA ks.length kcap] 39)) := (Below.refl _ _).alloc (Nat.le_refl _) _
  have HT := hide (ht.below hbA)
  have HA := hide (ha.below hbA)
  have HKV := hide (hk.below hbA)
  have HKlow : Hid (∀ A n c, Value.slice KA ks.length kcap = .slice (some A) n c → ks ≠ [] → A.block < w.heap.size) := by
    rintro A n c e hne
    obtain ⟨g, o, cap', ev, _, _, q3, _⟩ := hk.at hne
    rw [e] at ev
    cases ev
    exact q3
  have HBX := hide (Blk.new w #[.slice KA ks.length kcap] 39)
  have HbA := hide hbA
  clear ht ha hk hbA
  by_cases hl : 30 < ms.length
  · have hl' : (30 : Int) < ms.length := by omega
    go_enter Tryd.func5, Tryd.ntmps5
    go_wp2_with (first
      | (go_at_call 6; refine (alive7 _ HT.out).mono ?_; rintro e w1 ⟨rfl, hb1⟩; replace hb1 := hide hb1))
    go_ret
    exact ⟨rfl, HbA.out.trans (hb1.out.mono HbA.out.size)⟩
  · have hl' : ¬ (30 : Int) < ms.length := by omega
    go_enter Tryd.func5, Tryd.ntmps5
    go_wp2_with (first
      | (go_at_call 6; refine (alive7 _ HT.out).mono ?_; rintro e w1 ⟨rfl, hb1⟩; replace hb1 := hide hb1))
    have hR : rightS [120, 64, 121] = true := by decide
    obtain ⟨es, hes⟩ : ∃ es, entsI [120, 64, 121] ms = es := ⟨_, rfl⟩
    have hel : es.length = ms.length := by rw [← hes]; exact entsI_len _ _
    have HAT : Hid (∀ k (hk : k < es.length) (hk' : k < ms.length), es[k] = (sepT [120, 64, 121] k, ms[k])) := by
      intro k hk hk'
      subst hes
      exact entsI_at hk
    have HSND : Hid (es.map (fun e => e.2) = ms) := by
      show _ = _
      rw [← hes]
      exact entsI_snd _ _
    have HEE : Hid (∀ e ∈ es, (Term e.1 ∧ sepB e.1 = true) ∧ e.1.length ≤ 307) := by
      intro e he
      obtain ⟨k, hk, rfl⟩ := List.mem_iff_getElem.1 he
      rw [HAT.out k hk (by omega)]
      exact ⟨sepT_term hR (by omega) (by omega), sepT_len _ hR⟩
    have HEN := hide (fun (k : Nat) m w (hk : k ≤ 30) (hm : m.length ≤ 400000) ht => entry_yes [120, 64, 121] k m w hR (by omega) (by omega) hm ht)
    have HEL := hide hel
    clear hes hel hR
    have HT1 := hide (HT.out.below hb1.out)
    have HA1 := hide (HA.out.below hb1.out)
    have HK1 := hide (HKV.out.below hb1.out)
    have HX1 := hide (HBX.out.below hb1.out (by simp))
    have hlx := HX1.out.lt
    go_loopw [28, 5, 6] (fun i f q wr => ∃ k : Nat, k ≤ ms.length ∧ i = .int .i64 k ∧ f = .string ⟨(rowsT (es.take k)).toArray⟩ ∧ Hid (∀ m ∈ ms.take k, m.length ≤ 2000) ∧ Hid (Below w1.heap.size w1 wr) ∧ Hid (Txs w1.heap.size wr q (keptN ms ks k))) (fun i _ _ _ => ms.length - (intOf i).toNat)
    case atStart => exact ⟨0, Nat.zero_le _, rfl, rfl, fun m hm => by simp at hm, (Below.refl _ _).alloc (Nat.le_refl _) _, some w1.heap.size, Rw.new (e := 9) [] [] (Blk.new _ _ _) rfl rfl (Nat.le_refl _) (Nat.zero_le _), fun g e => by cases e; exact Nat.le_refl _⟩
    case round =>
      obtain ⟨k, hk, rfl, rfl, HM, HB, HTX⟩ := hrel
      have hcat := cat_lit
      have hfl : (rowsT (es.take k)).length ≤ 129240 := by
        have := rowsT_bound (es.take k) (by
          intro e he
          obtain ⟨j, hj, rfl⟩ := List.mem_iff_getElem.1 he
          rw [List.length_take] at hj
          have hje : j < es.length := by omega
          have hjm : j < ms.length := by have := HEL.out; omega
          rw [List.getElem_take]
          refine ⟨(HEE.out _ (List.getElem_mem hje)).2, ?_⟩
          rw [HAT.out j hje hjm]
          refine HM.out _ ?_
          rw [List.mem_take_iff_getElem]
          exact ⟨j, by omega, rfl⟩)
        rw [List.length_take] at this
        have := HEL.out
        omega
      obtain ⟨WA, wc, rfl⟩ := HTX.out.form
      have hwl := keptN_len ms ks k
      have hsz := HB.out.size
      by_cases hlt : k < ms.length
      · obtain ⟨g, o, cap', ev, q1, q2, q3, q4⟩ := (HA1.out.below HB.out).at (by intro e; rw [e] at hlt; simp at hlt)
        obtain ⟨rfl, rfl⟩ : A = some ⟨g, o, none⟩ ∧ cap = cap' := by cases ev; exact ⟨rfl, rfl⟩
        have hc := q4 k hlt
        unfold tv at hc
        have hlte : k < es.length := by rw [HEL.out]; exact hlt
        have HX := hide (rowsT_next hlte)
        rw [HAT.out k hlte hlt] at HX
        have HTK := hide (List.take_succ_eq_append_getElem hlt)
        have HKY := hide (fun h => keptN_yes (ks := ks) hlt h)
        obtain ⟨m, hm⟩ : ∃ m, ms[k] = m := ⟨_, rfl⟩
        rw [hm] at hc HX HTK HKY
        have hlt' : (k : Int) < ms.length := by omega
        clear ev q4 hm
        by_cases h2 : 2000 < m.length
        · have h2' : (2000 : Int) < m.length := by omega
          go_wp2
          go_ret
          exact ⟨rfl, HbA.out.trans ((hb1.out.trans (HB.out.mono hb1.out.size)).mono HbA.out.size)⟩
        · have h2' : ¬ (2000 : Int) < m.length := by omega
          have hel := enc_bound m
          have hsl : (sepT [120, 64, 121] k).length ≤ 307 := sepT_len _ (by decide)
          have hx := hide (HEN.out k m wr (by omega) (by omega) (HT1.out.below HB.out))
          dsimp only at HX
          generalize rowsT (es.take k) = F at *
          generalize sepT [120, 64, 121] k = sp at *
          have HBX2 := hide (HX1.out.below HB.out hlx)
          have HK2 := hide (HK1.out.below HB.out)
          have HMN : Hid (∀ x ∈ ms.take (k + 1), x.length ≤ 2000) := by
            intro x hx'
            rw [HTK.out] at hx'
            rcases List.mem_append.1 hx' with h | h
            · exact HM.out x h
            · rw [List.mem_singleton.1 h]; omega
          by_cases hkk : k < ks.length
          · have HKB := hide (keepB_in hkk)
            obtain ⟨g3, o3, cap3, ev3, s1, s2, s3, s4⟩ := HK2.out.at (by intro e; rw [e] at hkk; simp at hkk)
            obtain ⟨rfl, rfl⟩ : KA = some ⟨g3, o3, none⟩ ∧ kcap = cap3 := by cases ev3; exact ⟨rfl, rfl⟩
            have hkc := s4 k hkk
            have hkk' : (k : Int) < ks.length := by omega
            clear ev3 s4
            cases hb : ks[k] with
            | true =>
              rw [hb] at hkc HKB
              clear hb
              go_wp2_with (first
                | (go_at_call 10; refine hx.out.mono ?_; rintro e w2 ⟨rfl, hb2⟩
                   have bx := (HBX2.out.below hb2 HBX2.out.lt).cell 0
                   have bxl := (HBX2.out.below hb2 HBX2.out.lt).lt
                   have kc := (hb2.cell (p := ⟨g3, o3 + k, none⟩) s3).trans hkc
                   have hsz2 := hb2.size
                   obtain ⟨G, hr, hg⟩ := HTX.out.below hb2
                   replace hr := hide hr
                   replace hg := hide hg
                   replace hb2 := hide hb2)
                | (at_builtin; refine wpList_append_rw rfl _ _ 33 33 rfl 9 i0 (.string ⟨#[]⟩) 1 16 Tryd.underlying33 hi hz0 hz1 hz2 rfl rfl (hr.out.keep (S := fun _ => False) ((Mvs.refl _ _).alloc _) (fun _ _ c => c)) _ 1 _ rfl (src_tx _) (by simp only [maxLen]; omega) (by omega) ?_))
              intro v1 w3 G1 hr1 hm1 hg1
              have hmw : Mvs (fun k => some k = G) w2 w3 := ((Mvs.refl _ _).alloc _).trans' hm1 (fun _ _ h => h)
              have HTX1 := hide (Txs.snoc (w1 := w2.alloc (.cells #[.string ⟨m.toArray⟩] 9)) hg.out hr1 (by simpa using hg1) (by simp; omega))
              have HB3 := hide (below_mvs (HB.out.trans (hb2.out.mono HB.out.size)) hmw (fun j hj e => by have := hg.out j e.symm; omega) (Nat.le_refl _))
              obtain ⟨A1, c1, rfl⟩ := hr1.form
              clear hr1 hm1 hg1 hr hmw
              go_wp2
              go_roundw
              case rel => exact ⟨k + 1, by omega, by go_num, by rw [HX.out], HMN, HB3, by rw [HKY.out HKB.out]; exact HTX1⟩
              case measure => simp [intOf]; omega
            | false =>
              rw [hb] at hkc HKB
              clear hb
              go_wp2_with (first
                | (go_at_call 10; refine hx.out.mono ?_; rintro e w2 ⟨rfl, hb2⟩
                   have bx := (HBX2.out.below hb2 HBX2.out.lt).cell 0
                   have bxl := (HBX2.out.below hb2 HBX2.out.lt).lt
                   have kc := (hb2.cell (p := ⟨g3, o3 + k, none⟩) s3).trans hkc
                   replace hb2 := hide hb2))
              go_roundw
              case rel => exact ⟨k + 1, by omega, by go_num, by rw [HX.out], HMN, HB.out.trans (hb2.out.mono HB.out.size), by rw [keptN_no HKB.out]; exact HTX.out.below hb2.out⟩
              case measure => simp [intOf]; omega
          · have HKB := hide (keepB_out hkk)
            have hkk' : ¬ (k : Int) < ks.length := by omega
            go_wp2_with (first
              | (go_at_call 10; refine hx.out.mono ?_; rintro e w2 ⟨rfl, hb2⟩
                 have bx := (HBX2.out.below hb2 HBX2.out.lt).cell 0
                 have bxl := (HBX2.out.below hb2 HBX2.out.lt).lt
                 replace hb2 := hide hb2))
            go_roundw
            case rel => exact ⟨k + 1, by omega, by go_num, by rw [HX.out], HMN, HB.out.trans (hb2.out.mono HB.out.size), by rw [keptN_no HKB.out]; exact HTX.out.below hb2.out⟩
            case measure => simp [intOf]; omega
      · obtain rfl : k = ms.length := by omega
        have hmf : ∀ (fn : Fn) (first cap : Array Value) (w : World), (Instr.makeFunc fn first cap).run Tryd.prog w = .ok (.func fn first cap) w := fun _ _ _ _ => rfl
        have HM' := HM.out
        rw [List.take_length] at HM'
        have e0 : es.take ms.length = es := by rw [← HEL.out]; exact List.take_length
        rw [e0] at hfl ⊢
        have hll : ∀ e ∈ es, e.1.length ≤ 307 ∧ e.2.length ≤ 2000 := by
          intro e he
          refine ⟨(HEE.out e he).2, HM' _ ?_⟩
          have : e.2 ∈ es.map (fun e => e.2) := List.mem_map.2 ⟨e, he, rfl⟩
          rwa [HSND.out] at this
        have hszA : wr.heap.size < (wr.alloc (.cells #[.int .i64 0] 3)).heap.size := by simp
        have hlw : w.heap.size < wr.heap.size := by omega
        have HBal := hide ((Below.refl wr.heap.size wr).alloc (Nat.le_refl _) (.cells #[.int .i64 0] 3))
        have hKC : KC (wr.alloc (.cells #[.int .i64 0] 3)) wr.heap.size w.heap.size 0 (.slice KA ks.length kcap) ks := by
          refine ⟨Blk.new _ _ _, (HX1.out.below HB.out hlx).alloc _, (HK1.out.below HB.out).below HBal.out, ?_⟩
          intro hne A n c e
          have := HKlow.out A n c e hne
          omega
        have HCo := hide (compact_any es wr.heap.size w.heap.size _ ks _ (fun e he => (HEE.out e he).1) hll (by have := HEL.out; omega) hKC)
        unfold keeperV at HCo
        obtain ⟨EK, hEK⟩ : ∃ EK, keptN es ks es.length = EK := ⟨_, rfl⟩
        have hWK : keptN ms ks ms.length = EK.map (fun e => e.2) := by
          rw [← hEK, keptN_map, HSND.out, HEL.out]
        have hee2 : ∀ e ∈ EK, Term e.1 ∧ sepB e.1 = true := by
          intro e he
          rw [← hEK] at he
          exact (HEE.out e (keptN_mem es ks _ e he)).1
        have hkl2 : EK.length ≤ 30 := by
          have h1 := keptN_len es ks es.length
          rw [hEK] at h1
          have := HEL.out
          omega
        have hfl2 : (rowsT EK).length ≤ 200000 := by
          have h1 := rowsT_bound EK (fun e he => hll e (by rw [← hEK] at he; exact keptN_mem es ks _ e he))
          omega
        rw [hEK] at HCo
        rw [hWK] at HTX hwl ⊢
        have HS := hide (rows_scan hee2)
        have HC := hide (rows_cut hee2)
        have HI := hide (rows_in hee2)
        have HLS : Hid ((spans 0 (rowsG EK)).length = EK.length) := by
          show _ = _
          rw [spans_len]
          simp [rowsG]
        have HSC := hide (fun w => scan_any (rowsT EK) w (fun _ => ⟨0, 0, none⟩) (by omega) (fun h => by rw [HS.out] at h; cases h))
        have hWl : (EK.map (fun e => e.2)).length = EK.length := List.length_map _
        rw [hWl] at *
        obtain ⟨xs, hxs⟩ : ∃ xs, spans 0 (rowsG EK) = xs := ⟨_, rfl⟩
        rw [hxs] at HS HC HI HLS
        generalize rowsT EK = F2 at *
        generalize rowsT es = F at *
        have hel := HEL.out
        clear hll hEK hWK hee2 hxs e0 HM HM' HEN HEE hWl
        go_wp2_with (first
          | (go_at_call 12; refine HCo.out.mono ?_; rintro e w4 ⟨rfl, hm4, ha4⟩
             have HTX4 := hide (HTX.out.keep (((Mvs.refl _ _).alloc _).trans' hm4 (fun _ _ c => c)) (fun j _ hj e => by omega))
             replace hm4 := hide hm4; replace ha4 := hide ha4)
          | (go_at_call 11; refine (HSC.out _).mono ?_; rintro e w5 ⟨hb5, hm⟩; rw [HS.out] at hm; obtain ⟨v2, rfl, hsp⟩ := hm
             obtain ⟨A2, c2, rfl⟩ : ∃ A2 c2, v2 = .slice A2 xs.length c2 := by
               obtain ⟨G, hr, _⟩ := hsp
               exact hr.form
             rw [HLS.out] at hsp ⊢
             have ha5 := (ha4.out.below hb5 ha4.out.lt).cell 0
             replace hb5 := hide hb5
             replace hsp := hide hsp))
        have HTX5 := hide (HTX4.out.below hb5.out)
        have HBF : Hid (Below w.heap.size w w5) := by
          have b1 : Below w.heap.size w wr := HbA.out.trans ((hb1.out.trans (HB.out.mono hb1.out.size)).mono HbA.out.size)
          have b2 : Below w.heap.size w w4 := below_mvs (b1.trans (HBal.out.mono (by omega))) hm4.out (fun j hj e => by omega) (Nat.le_refl _)
          exact b2.trans (hb5.out.mono (by have := b2.size; omega))
        have hwl' : EK.length ≤ 30 := hkl2
        go_loopw [94] (fun i wr2 => ∃ k : Nat, k ≤ EK.length ∧ i = .int .i64 k ∧ Hid (Below w5.heap.size w5 wr2)) (fun i _ => EK.length - (intOf i).toNat)
        case atStart => exact ⟨0, Nat.zero_le _, rfl, Below.refl _ _⟩
        case round =>
          obtain ⟨k, hk2, rfl, HB3⟩ := hrel
          by_cases hlt2 : k < EK.length
          · have hltx : k < xs.length := by rw [HLS.out]; exact hlt2
            have hltw : k < (EK.map (fun e => e.2)).length := by rw [List.length_map]; exact hlt2
            obtain ⟨g, o, cap', ev, q1, q2, q3, hc⟩ := (HTX5.out.below HB3.out).read k hltw
            obtain ⟨rfl, rfl⟩ : WA = some ⟨g, o, none⟩ ∧ wc = cap' := by simp only [Value.slice.injEq] at ev; exact ⟨ev.1, ev.2.2⟩
            rw [List.length_map] at q1
            rw [List.getElem_map] at hc
            obtain ⟨g2, o2, cap2, ev2, r1, r2, r3, r4, r5, r6, r7, _⟩ := (hsp.out.below HB3.out).read k hltx
            obtain ⟨rfl, rfl⟩ : A2 = some ⟨g2, o2, none⟩ ∧ c2 = cap2 := by simp only [Value.slice.injEq] at ev2; exact ⟨ev2.1, ev2.2.2⟩
            rw [HLS.out] at r1
            obtain ⟨t1, t2, t3⟩ := HI.out _ (List.getElem_mem hltx)
            have hcut : cutB F2 xs[k] = encL EK[k].2 := by
              have h1 := congrArg (fun l => l[k]?) HC.out
              simpa only [List.getElem?_map, List.getElem?_eq_getElem hltx, List.getElem?_eq_getElem hlt2, Option.map_some, Option.some.injEq] using h1
            obtain ⟨m, hm⟩ : ∃ m, EK[k].2 = m := ⟨_, rfl⟩
            obtain ⟨p, hp⟩ : ∃ p, xs[k] = p := ⟨_, rfl⟩
            rw [hm] at hc hcut
            rw [hp] at r5 r6 r7 t2 t3 hcut
            have hlen : (encL m).length ≤ 1000000 := by
              rw [← hcut]
              unfold cutB
              rw [List.length_take, List.length_drop]
              omega
            have HMs := hide (fun w => message_in F2 p.h p.b p.e (encL m) (.string ⟨m.toArray⟩) .nilIface w t2 t3 hcut (fun w' _ => decode_enc m w' hlen))
            have hlt' : (k : Int) < EK.length := by omega
            clear ev ev2 hm hp hcut hlen t1 t2 t3
            go_wp2_with (first
              | (go_at_call 7; refine (HMs.out _).mono ?_; rintro e w6 ⟨rfl, hb6⟩
                 have hcc := (hb6.cell (p := ⟨g, o + k, none⟩) (by simp; omega))
                 replace hb6 := hide hb6))
            have hb7 : Below wr.heap.size wr w6 := ((Below.refl _ _).alloc (Nat.le_refl _) _).trans (hb6.out.mono (by simp))
            go_roundw
            case rel => exact ⟨k + 1, by omega, by go_num, HB3.out.trans (hb7.mono HB3.out.size)⟩
            case measure => simp [intOf]; omega
          · obtain rfl : k = EK.length := by omega
            go_wp2
            go_ret
            exact ⟨rfl, HBF.out.trans (HB3.out.mono HBF.out.size)⟩
end Go.Proofs.YtcmhaihoeecjoaaDoor
