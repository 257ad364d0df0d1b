/- The document's words of a content type's text. -/
/- The document's Text, colon, blank, trim of layer 9. -/
import Derived.Test.YtfebohfmpikoeaaGreatDoorU09
import Derived.Test.YtfebohfmpikoeaaGreatDoorU10
import Derived.Test.YtfebohfmpikoeaaGreatDoorU12
import Derived.Shelf.Bytes.SlSmallAll
import Derived.Test.YtfebohfmpikoeaaGreatDoorU13
section
namespace Go.Proofs.YtfebohfmpikoeaaGreatDoor
open Go.RowKit Go.Shelf
theorem sp_cases (c : UInt8) : (specL.contains c = true ∧ (c = 40 ∨ c = 41 ∨ c = 60 ∨ c = 62 ∨ c = 64 ∨ c = 44 ∨ c = 59 ∨ c = 58 ∨ c = 92 ∨ c = 34 ∨ c = 47 ∨ c = 91 ∨ c = 93 ∨ c = 63 ∨ c = 61)) ∨ (specL.contains c = false ∧ ((c.toNat : Int) == 40) = false ∧ ((c.toNat : Int) == 41) = false ∧ ((c.toNat : Int) == 60) = false ∧ ((c.toNat : Int) == 62) = false ∧ ((c.toNat : Int) == 64) = false ∧ ((c.toNat : Int) == 44) = false ∧ ((c.toNat : Int) == 59) = false ∧ ((c.toNat : Int) == 58) = false ∧ ((c.toNat : Int) == 92) = false ∧ ((c.toNat : Int) == 34) = false ∧ ((c.toNat : Int) == 47) = false ∧ ((c.toNat : Int) == 91) = false ∧ ((c.toNat : Int) == 93) = false ∧ ((c.toNat : Int) == 63) = false ∧ ((c.toNat : Int) == 61) = false) := by
  unfold specL
  cases h : ([40, 41, 60, 62, 64, 44, 59, 58, 92, 34, 47, 91, 93, 63, 61] : List UInt8).contains c with
  | true =>
    left
    refine ⟨rfl, ?_⟩
    simpa using h
  | false =>
    right
    refine ⟨rfl, ?_⟩
    simp only [List.contains_eq_mem, List.mem_cons, List.not_mem_nil, or_false, decide_eq_false_iff_not, not_or] at h
    have key : ∀ (d : UInt8) (k : Int), d.toNat = k → ¬ c = d → ((c.toNat : Int) == k) = false := by
      intro d k hk hne
      rw [beq_eq_false_iff_ne]
      intro e
      exact hne (UInt8.toNat_inj.1 (by omega))
    obtain ⟨q0, q1, q2, q3, q4, q5, q6, q7, q8, q9, q10, q11, q12, q13, q14⟩ := h
    exact ⟨key 40 _ rfl q0, key 41 _ rfl q1, key 60 _ rfl q2, key 62 _ rfl q3, key 64 _ rfl q4, key 44 _ rfl q5, key 59 _ rfl q6, key 58 _ rfl q7, key 92 _ rfl q8, key 34 _ rfl q9, key 47 _ rfl q10, key 91 _ rfl q11, key 93 _ rfl q12, key 63 _ rfl q13, key 61 _ rfl q14⟩
set_option maxHeartbeats 2000000 in
theorem rplain_any (c : UInt8) (w : World) : Calls Tryz.prog 58 #[.int .u8 c.toNat] w fun e w' => e = .returned (.bool (tokB c)) ∧ w' = w := by
  by_cases h1 : c.toNat < 33
  · have b1 : (c.toNat : Int) < 33 := by omega
    have HV : Hid (tokB c = false) := by
      show _ = _
      unfold tokB
      rw [decide_eq_false (by omega : ¬ 33 ≤ c.toNat)]
      rfl
    go_enter Tryz.func58, Tryz.ntmps58
    go_wp2
    go_ret
    exact ⟨by rw [HV.out]; rfl, rfl⟩
  · have b1 : ¬ (c.toNat : Int) < 33 := by omega
    by_cases h2 : c.toNat > 126
    · have b2 : (c.toNat : Int) > 126 := by omega
      have HV : Hid (tokB c = false) := by
        show _ = _
        unfold tokB
        rw [decide_eq_false (by omega : ¬ c.toNat ≤ 126)]
        simp
      go_enter Tryz.func58, Tryz.ntmps58
      go_wp2
      go_ret
      exact ⟨by rw [HV.out]; rfl, rfl⟩
    · have b2 : ¬ (c.toNat : Int) > 126 := by omega
      have HV : Hid (tokB c = !(specL.contains c)) := by
        show _ = _
        unfold tokB
        rw [decide_eq_true (by omega : 33 ≤ c.toNat), decide_eq_true (by omega : c.toNat ≤ 126)]
        rfl
      rcases sp_cases c with ⟨hv, hc⟩ | ⟨hv, q0, q1, q2, q3, q4, q5, q6, q7, q8, q9, q10, q11, q12, q13, q14⟩
      · rw [hv] at HV
        have HV2 : Hid (tokB c = false) := HV.out
        clear HV hv
        clear h1 h2 b1 b2
        rcases hc with rfl | rfl | rfl | rfl | rfl | rfl | rfl | rfl | rfl | rfl | rfl | rfl | rfl | rfl | rfl <;>
          (go_enter Tryz.func58, Tryz.ntmps58; go_wp2; go_ret; exact ⟨by rw [HV2.out]; rfl, rfl⟩)
      · rw [hv] at HV
        have HV2 : Hid (tokB c = true) := HV.out
        clear HV hv
        go_enter Tryz.func58, Tryz.ntmps58
        go_wp2
        go_ret
        exact ⟨by rw [HV2.out]; rfl, rfl⟩
theorem rbl10_any (c : UInt8) (w : World) : Calls Tryz.prog 57 #[.int .u8 c.toNat] w fun e w' => e = .returned (.bool (isBl c)) ∧ w' = w := by
  by_cases h1 : c = 32
  · subst h1
    go_enter Tryz.func57, Tryz.ntmps57
    go_wp2
    go_ret
    exact ⟨rfl, rfl⟩
  · have h1' : ((c.toNat : Int) == 32) = false := by
      rw [beq_eq_false_iff_ne]
      intro e
      exact h1 (UInt8.toNat_inj.1 (by simpa using (by omega : c.toNat = 32)))
    by_cases h2 : c = 9
    · subst h2
      go_enter Tryz.func57, Tryz.ntmps57
      go_wp2
      go_ret
      exact ⟨rfl, rfl⟩
    · have h2' : ((c.toNat : Int) == 9) = false := by
        rw [beq_eq_false_iff_ne]
        intro e
        exact h2 (UInt8.toNat_inj.1 (by simpa using (by omega : c.toNat = 9)))
      have HV : Hid (isBl c = false) := by
        show _ = _
        unfold isBl
        simp [h1, h2]
      go_enter Tryz.func57, Tryz.ntmps57
      go_wp2
      go_ret
      exact ⟨by rw [HV.out]; rfl, rfl⟩
theorem callsRet {P : Program} {f : FuncId} {args : Array Value} {w : World} {v : Value} {R : Ending → World → Prop} (h : Calls P f args w fun e w' => e = .returned v ∧ w' = w) (hr : R (.returned v) w) : Calls P f args w R :=
  h.mono fun e w' ⟨h1, h2⟩ => by subst h1; subst h2; exact hr
def Wd.cs (p : Wd) : List Value := [.int .i64 (p.kind : Nat), .string ⟨p.text.toArray⟩]
theorem wd_len (p : Wd) : p.cs.length = 2 := rfl
theorem src_wd {w : World} (p : Wd) {k : Nat} : Src Tryz.prog 2 55 (.slice (some ⟨w.heap.size, 0, none⟩) 1 k) 1 p.cs (w.alloc (.cells #[.int .i64 (p.kind : Nat), .string ⟨p.text.toArray⟩] 59)) := by
  refine Src.ofSlice _ Tryz.underlying55 ⟨w.heap.size, 0, none⟩ 1 k _ (by simp [Wd.cs]) (fun j u hu => ?_) (by simp [Value.oneCell', Wd.cs])
  rw [Go.WideShapes.add_plain, Nat.zero_add, World.cell?_alloc_mark]
  rw [← hu, ← List.getElem?_toArray]
  rfl
theorem wdInfo : (Tryz.prog.info? 59).map (fun i => (i.zero, i.size, i.bytes)) = some (some (.agg #[.int .i64 0, .string ⟨#[]⟩]), 2, 24) := by kernel_rfl
/-- A byte as a cell holds it. -/
def bvM (b : UInt8) : Value := .int .u8 (b.toNat : Int)
theorem src_by {w : World} (x : UInt8) {k : Nat} : Src Tryz.prog 1 76 (.slice (some ⟨w.heap.size, 0, none⟩) 1 k) 1 [bvM x] (w.alloc (.cells #[.int .u8 (x.toNat : Int)] 5)) := by
  refine Src.ofSlice _ Tryz.underlying76 ⟨w.heap.size, 0, none⟩ 1 k _ (by simp) (fun j u hu => ?_) (by simp [Value.oneCell', bvM])
  rw [Go.WideShapes.add_plain, Nat.zero_add, World.cell?_alloc_mark]
  rw [← hu, ← List.getElem?_toArray]
  rfl
theorem byInfo : (Tryz.prog.info? 5).map (fun i => (i.zero, i.size, i.bytes)) = some (some (.int .u8 0), 1, 1) := by kernel_rfl
theorem convertM {w : World} {v : Value} {bs : List UInt8} {G : Option Nat} (h : Rw w 1 v bs.length (bs.map bvM) G) : (convert 76 9 v).run Tryz.prog w = .ok (.string ⟨bs.toArray⟩) w := by
  rcases h.2 with ⟨rfl, h0, _⟩ | ⟨g, o, cap, _, rfl, _, _, _, h4, _⟩
  · have : bs = [] := List.length_eq_zero_iff.1 h0
    subst this
    exact run_convert_bytes_zero w 76 5 Tryz.underlying76 Tryz.underlying5 none 0 9 Tryz.underlying9
  · exact run_convert_bytes_back (P := Tryz.prog) w 76 9 5 ⟨g, o, none⟩ cap bs Tryz.underlying76 Tryz.underlying5 Tryz.underlying9 (fun j hj => by
      rw [Go.WideShapes.add_plain]
      exact h4 j _ (by rw [List.getElem?_map, List.getElem?_eq_getElem hj]; rfl))
/-- What words answers. -/
def WdOut (l : List UInt8) (w : World) (e : Ending) (w' : World) : Prop := Below w.heap.size w w' ∧ match wds l with
  | some ws => ∃ v, e = .returned (.tuple #[v, .bool true]) ∧ RowOf Wd.cs 2 w.heap.size w' v ws
  | none => e = .returned (.tuple #[.slice none 0 0, .bool false])
theorem wdNo {l : List UInt8} {w w' : World} (h : wds l = none) (hb : Below w.heap.size w w') : WdOut l w (.returned (.tuple #[.slice none 0 0, .bool false])) w' := by
  unfold WdOut
  rw [h]
  exact ⟨hb, rfl⟩
theorem wdYes {l : List UInt8} {w w' : World} {v : Value} {ws : List Wd} (h : wds l = some ws) (hb : Below w.heap.size w w') (hr : RowOf Wd.cs 2 w.heap.size w' v ws) : WdOut l w (.returned (.tuple #[v, .bool true])) w' := by
  unfold WdOut
  rw [h]
  exact ⟨hb, v, rfl, hr⟩
theorem wds_shift {r : List UInt8} {ws : List Wd} {x : Wd} {WS : Option (List Wd)} (h : ((wds r).map (x :: ·)).map (ws ++ ·) = WS) : (wds r).map ((ws ++ [x]) ++ ·) = WS := by
  rw [← h]
  cases wds r with
  | none => rfl
  | some l => simp
theorem quo_shift {r : List UInt8} {ts : List UInt8} {c : UInt8} {Q : Option (List UInt8 × List UInt8)} (h : ((quoS false r).map fun x => (c :: x.1, x.2)).map (fun x => (ts ++ x.1, x.2)) = Q) : (quoS false r).map (fun x => ((ts ++ [c]) ++ x.1, x.2)) = Q := by
  rw [← h]
  cases quoS false r with
  | none => rfl
  | some x => simp
theorem atB (l : List UInt8) (i : Nat) (hi : i < l.length) : ∃ c, l[i] = c ∧ l.drop i = c :: l.drop (i + 1) ∧ ∀ h : i < (⟨l.toArray⟩ : ByteArray).size, (⟨l.toArray⟩ : ByteArray)[i]'h = c := ⟨_, rfl, List.drop_eq_getElem_cons hi, fun _ => rfl⟩
theorem takeW_step {l : List UInt8} {i k : Nat} {c : UInt8} (hd : l.drop k = c :: l.drop (k + 1)) (hc : tokB c = true) (h : (k - i) + ((l.drop k).takeWhile tokB).length = ((l.drop i).takeWhile tokB).length) (hik : i ≤ k) : (k + 1 - i) + ((l.drop (k + 1)).takeWhile tokB).length = ((l.drop i).takeWhile tokB).length := by
  rw [hd, List.takeWhile_cons_of_pos hc, List.length_cons] at h
  omega
theorem twSplit {t d r : List UInt8} (h : t ++ d = r) : r.take t.length = t ∧ r.drop t.length = d := by
  subst h
  simp
theorem takeW_end {l : List UInt8} {i k : Nat} (h : (k - i) = ((l.drop i).takeWhile tokB).length) (hik : i ≤ k) : (l.drop i).take (k - i) = (l.drop i).takeWhile tokB ∧ l.drop k = (l.drop i).dropWhile tokB := by
  have happ := List.takeWhile_append_dropWhile (p := tokB) (l := l.drop i)
  have e : l.drop k = (l.drop i).drop (k - i) := by rw [List.drop_drop]; congr 1; omega
  rw [e, h]
  exact twSplit happ

set_option maxRecDepth 20000 in
set_option maxHeartbeats 4000000 in
theorem words_any (l : List UInt8) (w : World) (hl : l.length ≤ 1000000) : Calls Tryz.prog 32 #[.string ⟨l.toArray⟩] w (WdOut l w) := by
  obtain ⟨i0, hi, hz0, hz1, hz2⟩ := info_three wdInfo
  obtain ⟨j0, ji, jz0, jz1, jz2⟩ := info_three byInfo
  have hsz := size_lit l
  have HBl := hide rbl10_any
  have HPl := hide rplain_any
  obtain ⟨WS, hWS⟩ : ∃ WS, wds l = WS := ⟨_, rfl⟩
  have HWS := hide hWS
  clear hWS
  go_enter Tryz.func32, Tryz.ntmps32
  go_wp2
  go_loopw [4, 5] (fun v4 v5 wr => ∃ (i : Nat) (ws : List Wd), v5 = .int .i64 i ∧ i ≤ l.length ∧ ws.length ≤ i ∧ Hid (Below w.heap.size w wr) ∧ Hid (RowOf Wd.cs 2 w.heap.size wr v4 ws) ∧ Hid ((wds (l.drop i)).map (ws ++ ·) = WS)) (fun _ v5 _ => l.length - (intOf v5).toNat)
  case atStart => exact ⟨0, [], rfl, Nat.zero_le _, Nat.le_refl _, (Below.refl _ _).alloc (Nat.le_refl _) _, ⟨some w.heap.size, Rw.new (e := 59) [] [] (Blk.new _ _ _) rfl rfl (Nat.le_refl _) (Nat.zero_le _), by simp⟩, by rw [← HWS.out]; cases h : wds l <;> simp [Hid, h]⟩
  case round =>
    obtain ⟨i, ws, rfl, hil, hwi, HB, HRow, HE⟩ := hrel
    rename World => wo
    obtain ⟨G, hrw, hg⟩ := HRow.out
    obtain ⟨A, cp, rfl⟩ := hrw.form
    have HRw := hide hrw
    have HG := hide hg
    have hbs := HB.out.size
    clear hrw hg
    by_cases hlt : i < l.length
    · obtain ⟨c, hcc, hd, hat⟩ := atB l i hlt
      have hlt' : (i : Int) < l.length := by omega
      have HD := hide hd
      clear hcc hd
      cases hb : isBl c with
      | true =>
        have HE2 : Hid ((wds (l.drop (i + 1))).map (ws ++ ·) = WS) := by
          have := HE.out
          rw [HD.out, wds_bl hb] at this
          exact this
        have HBc : Hid (∀ w, Calls Tryz.prog 57 #[.int .u8 c.toNat] w fun e w' => e = .returned (.bool true) ∧ w' = w) := fun w => by rw [← hb]; exact HBl.out c w
        clear hb HE HRw HG
        go_wp2_with (first
          | (go_at_call 57; refine callsRet (HBc.out _) ?_))
        go_roundw
        case rel => exact ⟨i + 1, ws, by go_num, by omega, by omega, HB, HRow, HE2⟩
        case measure => simp [intOf]; omega
      | false =>
        have HBc : Hid (∀ w, Calls Tryz.prog 57 #[.int .u8 c.toNat] w fun e w' => e = .returned (.bool false) ∧ w' = w) := fun w => by rw [← hb]; exact HBl.out c w
        cases ht : tokB c with
        | true =>
          have HPc : Hid (∀ w, Calls Tryz.prog 58 #[.int .u8 c.toNat] w fun e w' => e = .returned (.bool true) ∧ w' = w) := fun w => by rw [← ht]; exact HPl.out c w
          have HE2 : Hid (((wds ((l.drop i).dropWhile tokB)).map (⟨1, (l.drop i).takeWhile tokB⟩ :: ·)).map (ws ++ ·) = WS) := by
            have := HE.out
            rw [HD.out, wds_tok ht] at this
            rw [HD.out]
            exact this
          have hpos : 0 < ((l.drop i).takeWhile tokB).length := by
            rw [HD.out, List.takeWhile_cons_of_pos ht]
            simp
          have HPos := hide hpos
          clear hb ht HE hpos
          go_wp2_with (first
            | (go_at_call 57; refine callsRet (HBc.out _) ?_)
            | (go_at_call 58; refine callsRet (HPc.out _) ?_))
          go_loopw [6] (fun v6 wx => wo = wx ∧ ∃ k : Nat, v6 = .int .i64 k ∧ i ≤ k ∧ k ≤ l.length ∧ Hid ((k - i) + ((l.drop k).takeWhile tokB).length = ((l.drop i).takeWhile tokB).length)) (fun v6 _ => l.length - (intOf v6).toNat)
          case atStart => exact ⟨rfl, i, rfl, Nat.le_refl _, by omega, by simp [Hid]⟩
          case round =>
            obtain ⟨rfl, k, rfl, hik, hkl, HK⟩ := hrel
            have fin : ∀ (hno : (l.drop k).takeWhile tokB = []), Hid ((l.drop i).take (k - i) = (l.drop i).takeWhile tokB ∧ l.drop k = (l.drop i).dropWhile tokB ∧ 0 < k - i) := fun hno => by
              have h1 := HK.out
              rw [hno] at h1
              have h2 : k - i = ((l.drop i).takeWhile tokB).length := by simpa using h1
              have h3 := takeW_end h2 hik
              exact ⟨h3.1, h3.2, by rw [h2]; exact HPos.out⟩
            by_cases hlk : k < l.length
            · obtain ⟨d, hdd, hdk, hatk⟩ := atB l k hlk
              have hlk' : (k : Int) < l.length := by omega
              have HDk := hide hdk
              clear hdd hdk
              cases htk : tokB d with
              | true =>
                have HPk : Hid (∀ w, Calls Tryz.prog 58 #[.int .u8 d.toNat] w fun e w' => e = .returned (.bool true) ∧ w' = w) := fun w => by rw [← htk]; exact HPl.out d w
                have HK2 := hide (takeW_step HDk.out htk HK.out hik)
                clear htk fin
                go_wp2_with (first
                  | (go_at_call 58; refine callsRet (HPk.out _) ?_))
                go_roundw
                case rel => exact ⟨trivial, k + 1, by go_num, by omega, by omega, HK2⟩
                case measure => simp [intOf]; omega
              | false =>
                have HPk : Hid (∀ w, Calls Tryz.prog 58 #[.int .u8 d.toNat] w fun e w' => e = .returned (.bool false) ∧ w' = w) := fun w => by rw [← htk]; exact HPl.out d w
                have HF := fin (by rw [HDk.out, List.takeWhile_cons_of_neg (by simp [htk])])
                have hik' : (i : Int) ≤ k := by omega
                have hkl' : (k : Int) ≤ l.length := by omega
                have e1 : (⟨l.toArray⟩ : ByteArray).extract i k = ⟨((l.drop i).take (k - i)).toArray⟩ := ext_mid l i k
                obtain ⟨T, hT⟩ : ∃ T, (l.drop i).take (k - i) = T := ⟨_, rfl⟩
                have HE3 : Hid ((wds (l.drop k)).map ((ws ++ [⟨1, T⟩]) ++ ·) = WS) := by
                  have := HE2.out
                  rw [← HF.out.1, ← HF.out.2.1, hT] at this
                  exact wds_shift this
                have hki : i < k := by have := HF.out.2.2; omega
                rw [hT] at e1
                clear htk fin hT HF HK
                go_wp2_with (first
                  | (go_at_call 58; refine callsRet (HPk.out _) ?_)
                  | (at_builtin; refine wpList_append_rw rfl _ _ 55 55 rfl 59 i0 (.agg #[.int .i64 0, .string ⟨#[]⟩]) 2 24 Tryz.underlying55 hi hz0 hz1 hz2 rfl rfl (HRw.out.keep (S := fun _ => False) ((Mvs.refl _ _).alloc _) (fun _ _ c => c)) _ 1 _ rfl (src_wd ⟨1, T⟩) (by simp only [maxLen]; omega) (by omega) ?_))
                intro v1 w1 G1 hr1 hm1 hg1
                have HT1 := hide (RowOf.growN HG.out hr1 hg1 (by omega))
                have HB1 := hide (below_mvs (HB.out.alloc hbs _) hm1 (fun q hq e => by have := HG.out q e.symm; omega) (Nat.le_refl _))
                obtain ⟨A1, c1, rfl⟩ := hr1.form
                clear hr1 hm1 hg1
                go_wp2
                go_roundw
                case rel => exact ⟨k, _, rfl, hkl, by simp; omega, HB1, HT1, HE3⟩
                case measure => simp [intOf]; omega
            · obtain rfl : k = l.length := by omega
              have HF := fin (by rw [List.drop_of_length_le (Nat.le_refl _)]; rfl)
              have hik' : (i : Int) ≤ l.length := by omega
              have e1 : (⟨l.toArray⟩ : ByteArray).extract i l.length = ⟨((l.drop i).take (l.length - i)).toArray⟩ := ext_mid l i l.length
              obtain ⟨T, hT⟩ : ∃ T, (l.drop i).take (l.length - i) = T := ⟨_, rfl⟩
              have HE3 : Hid ((wds (l.drop l.length)).map ((ws ++ [⟨1, T⟩]) ++ ·) = WS) := by
                have := HE2.out
                rw [← HF.out.1, ← HF.out.2.1, hT] at this
                exact wds_shift this
              rw [hT] at e1
              clear fin hT HF HK
              go_wp2_with (first
                | (at_builtin; refine wpList_append_rw rfl _ _ 55 55 rfl 59 i0 (.agg #[.int .i64 0, .string ⟨#[]⟩]) 2 24 Tryz.underlying55 hi hz0 hz1 hz2 rfl rfl (HRw.out.keep (S := fun _ => False) ((Mvs.refl _ _).alloc _) (fun _ _ c => c)) _ 1 _ rfl (src_wd ⟨1, T⟩) (by simp only [maxLen]; omega) (by omega) ?_))
              intro v1 w1 G1 hr1 hm1 hg1
              have HT1 := hide (RowOf.growN HG.out hr1 hg1 (by omega))
              have HB1 := hide (below_mvs (HB.out.alloc hbs _) hm1 (fun q hq e => by have := HG.out q e.symm; omega) (Nat.le_refl _))
              obtain ⟨A1, c1, rfl⟩ := hr1.form
              clear hr1 hm1 hg1
              go_wp2
              go_roundw
              case rel => exact ⟨l.length, _, rfl, Nat.le_refl _, by simp; omega, HB1, HT1, HE3⟩
              case measure => simp [intOf]; omega
        | false =>
          have HPc : Hid (∀ w, Calls Tryz.prog 58 #[.int .u8 c.toNat] w fun e w' => e = .returned (.bool false) ∧ w' = w) := fun w => by rw [← ht]; exact HPl.out c w
          by_cases h34 : c = 34
          · have HE2 : Hid (((quoS false (l.drop (i + 1))).bind fun x => (wds x.2).map (⟨2, x.1⟩ :: ·)).map (ws ++ ·) = WS) := by
              have := HE.out
              rw [HD.out, h34, wds_quo] at this
              exact this
            subst h34
            obtain ⟨Q, hQ⟩ : ∃ Q, quoS false (l.drop (i + 1)) = Q := ⟨_, rfl⟩
            rw [hQ] at HE2
            have HQ := hide hQ
            clear hb ht HE hQ
            go_wp2_with (first
              | (go_at_call 57; refine callsRet (HBc.out _) ?_)
              | (go_at_call 58; refine callsRet (HPc.out _) ?_))
            go_loopw [5, 7] (fun v5 v7 wx => ∃ (j : Nat) (ts : List UInt8), v5 = .int .i64 j ∧ i + 1 ≤ j ∧ j ≤ l.length + 1 ∧ ts.length ≤ j ∧ Hid (Below wo.heap.size wo wx) ∧ Hid (∃ G7, Rw wx 1 v7 ts.length (ts.map bvM) G7 ∧ ∀ g, G7 = some g → wo.heap.size ≤ g) ∧ Hid ((quoS false (l.drop j)).map (fun x => (ts ++ x.1, x.2)) = Q)) (fun v5 _ _ => l.length + 1 - (intOf v5).toNat)
            case atStart => exact ⟨i + 1, [], by go_num, Nat.le_refl _, by omega, Nat.zero_le _, (Below.refl _ _).alloc (Nat.le_refl _) _, ⟨some wo.heap.size, Rw.new (e := 5) [] [] (Blk.new _ _ _) rfl rfl (Nat.le_refl _) (Nat.zero_le _), by simp⟩, by rw [HQ.out]; cases Q <;> simp [Hid]⟩
            case round =>
              obtain ⟨j, ts, rfl, hij, hjl, htj, HBx, HR7, HQ2⟩ := hrel
              obtain ⟨G7, hr7, hg7⟩ := HR7.out
              obtain ⟨A7, c7, rfl⟩ := hr7.form
              have HRt := hide hr7
              have HGt := hide hg7
              have hbx := HBx.out.size
              clear hr7 hg7 HR7
              by_cases hlj : j < l.length
              · obtain ⟨d, hdd, hdj, hatj⟩ := atB l j hlj
                have hlj' : (j : Int) < l.length := by omega
                have HDj := hide hdj
                clear hdd hdj
                by_cases hd34 : d = 34
                · have HV : Hid (Q = some (ts, l.drop (j + 1))) := by
                    have := HQ2.out
                    rw [HDj.out, quoS, if_pos hd34] at this
                    rw [← this]
                    simp [Hid]
                  have HE3 : Hid ((wds (l.drop (j + 1))).map ((ws ++ [⟨2, ts⟩]) ++ ·) = WS) := by
                    have := HE2.out
                    rw [HV.out] at this
                    exact wds_shift this
                  subst hd34
                  have hcv := convertM HRt.out
                  have HRx := hide (HRw.out.keep (S := fun _ => False) (Mvs.of_below HBx.out) (fun _ _ c => c))
                  clear HV HQ2
                  go_wp2_with (first
                    | (at_builtin; refine wpList_append_rw rfl _ _ 55 55 rfl 59 i0 (.agg #[.int .i64 0, .string ⟨#[]⟩]) 2 24 Tryz.underlying55 hi hz0 hz1 hz2 rfl rfl (HRx.out.keep (S := fun _ => False) ((Mvs.refl _ _).alloc _) (fun _ _ c => c)) _ 1 _ rfl (src_wd ⟨2, ts⟩) (by simp only [maxLen]; omega) (by omega) ?_))
                  intro v1 w1 G1 hr1 hm1 hg1
                  have HT1 := hide (RowOf.growN HG.out hr1 hg1 (by omega))
                  have hbw := HB.out.trans (HBx.out.mono hbs)
                  have HB1 := hide (below_mvs (hbw.alloc hbw.size _) hm1 (fun q hq e => by have := HG.out q e.symm; omega) (Nat.le_refl _))
                  obtain ⟨A1, c1, rfl⟩ := hr1.form
                  clear hr1 hm1 hg1 hcv hbw
                  go_wp2
                  go_roundw
                  case rel => exact ⟨j + 1, _, by go_num, by omega, by simp; omega, HB1, HT1, HE3⟩
                  case measure => simp [intOf]; omega
                · have hd34' : ¬ ((d.toNat : Int) = 34) := fun e => hd34 (UInt8.toNat_inj.1 (by simpa using (by omega : d.toNat = 34)))
                  by_cases hd92 : d = 92
                  · subst hd92
                    by_cases hj1 : j + 1 < l.length
                    · obtain ⟨f, hff, hdf, hatf⟩ := atB l (j + 1) hj1
                      have hj1' : (j : Int) + 1 < l.length := by omega
                      have HQ3 : Hid ((quoS false (l.drop (j + 2))).map (fun x => ((ts ++ [f]) ++ x.1, x.2)) = Q) := by
                        have := HQ2.out
                        rw [HDj.out, quoS, if_neg (by decide), if_pos rfl, hdf, quoS] at this
                        exact quo_shift this
                      clear hff hdf HQ2
                      go_wp2_with (first
                        | (at_builtin; refine wpList_append_rw rfl _ _ 76 76 rfl 5 j0 (.int .u8 0) 1 1 Tryz.underlying76 ji jz0 jz1 jz2 rfl rfl (HRt.out.keep (S := fun _ => False) ((Mvs.refl _ _).alloc _) (fun _ _ c => c)) _ 1 _ rfl (src_by f) (by simp only [maxLen]; omega) (by omega) ?_))
                      intro v1 w1 G1 hr1 hm1 hg1
                      have HT1 : Hid (∃ G7, Rw w1 1 v1 (ts ++ [f]).length ((ts ++ [f]).map bvM) G7 ∧ ∀ g, G7 = some g → wo.heap.size ≤ g) := ⟨G1, by rw [List.length_append, List.map_append]; exact hr1, fun g e => by
                        rcases hg1 with h | h
                        · exact HGt.out g (h ▸ e)
                        · rw [h] at e
                          cases e
                          omega⟩
                      have HB1 := hide (below_mvs (HBx.out.alloc hbx _) hm1 (fun q hq e => by have := HGt.out q e.symm; omega) (Nat.le_refl _))
                      obtain ⟨A1, c1, rfl⟩ := hr1.form
                      clear hr1 hm1 hg1
                      go_wp2
                      go_roundw
                      case rel => exact ⟨j + 2, ts ++ [f], by go_num, by omega, by omega, by simp; omega, HB1, HT1, HQ3⟩
                      case measure => simp [intOf]; omega
                    · have hj1' : ¬ (j : Int) + 1 < l.length := by omega
                      have HQ3 : Hid ((quoS false (l.drop (j + 2))).map (fun x => (ts ++ x.1, x.2)) = Q) := by
                        have := HQ2.out
                        rw [HDj.out, quoS, if_neg (by decide), if_pos rfl, List.drop_of_length_le (by omega : l.length ≤ j + 1), quoS] at this
                        rw [List.drop_of_length_le (by omega : l.length ≤ j + 2), quoS]
                        exact this
                      clear HQ2
                      go_wp2
                      go_roundw
                      case rel => exact ⟨j + 2, ts, by go_num, by omega, by omega, by omega, HBx, ⟨G7, HRt.out, HGt.out⟩, HQ3⟩
                      case measure => simp [intOf]; omega
                  · have hd92' : ¬ ((d.toNat : Int) = 92) := fun e => hd92 (UInt8.toNat_inj.1 (by simpa using (by omega : d.toNat = 92)))
                    have HQ3 : Hid ((quoS false (l.drop (j + 1))).map (fun x => ((ts ++ [d]) ++ x.1, x.2)) = Q) := by
                      have := HQ2.out
                      rw [HDj.out, quoS, if_neg hd34, if_neg hd92] at this
                      exact quo_shift this
                    clear HQ2
                    go_wp2_with (first
                      | (at_builtin; refine wpList_append_rw rfl _ _ 76 76 rfl 5 j0 (.int .u8 0) 1 1 Tryz.underlying76 ji jz0 jz1 jz2 rfl rfl (HRt.out.keep (S := fun _ => False) ((Mvs.refl _ _).alloc _) (fun _ _ c => c)) _ 1 _ rfl (src_by d) (by simp only [maxLen]; omega) (by omega) ?_))
                    intro v1 w1 G1 hr1 hm1 hg1
                    have HT1 : Hid (∃ G7, Rw w1 1 v1 (ts ++ [d]).length ((ts ++ [d]).map bvM) G7 ∧ ∀ g, G7 = some g → wo.heap.size ≤ g) := ⟨G1, by rw [List.length_append, List.map_append]; exact hr1, fun g e => by
                      rcases hg1 with h | h
                      · exact HGt.out g (h ▸ e)
                      · rw [h] at e
                        cases e
                        omega⟩
                    have HB1 := hide (below_mvs (HBx.out.alloc hbx _) hm1 (fun q hq e => by have := HGt.out q e.symm; omega) (Nat.le_refl _))
                    obtain ⟨A1, c1, rfl⟩ := hr1.form
                    clear hr1 hm1 hg1
                    go_wp2
                    go_roundw
                    case rel => exact ⟨j + 1, ts ++ [d], by go_num, by omega, by omega, by simp; omega, HB1, HT1, HQ3⟩
                    case measure => simp [intOf]; omega
              · have hlj' : ¬ (j : Int) < l.length := by omega
                have hge : (j : Int) ≥ l.length := by omega
                have HV : Hid (wds l = none) := by
                  have h1 := HQ2.out
                  rw [List.drop_of_length_le (by omega : l.length ≤ j), quoS] at h1
                  have h2 := HE2.out
                  rw [← h1] at h2
                  show _ = _
                  rw [HWS.out, ← h2]
                  rfl
                go_wp2
                exact bodyPost_ret (v := .tuple #[.slice none 0 0, .bool false]) (by simp [results, Tryz.results32, go_sem]) rfl (wdNo HV.out (HB.out.trans (HBx.out.mono hbs)))
          · have h34' : ¬ ((c.toNat : Int) = 34) := fun e => h34 (UInt8.toNat_inj.1 (by simpa using (by omega : c.toNat = 34)))
            have HE2 : Hid ((wds (l.drop (i + 1))).map ((ws ++ [⟨3, [c]⟩]) ++ ·) = WS) := by
              have := HE.out
              rw [HD.out, wds_oth hb ht h34] at this
              exact wds_shift this
            have e1 : (⟨l.toArray⟩ : ByteArray).extract i (i + 1) = ⟨[c].toArray⟩ := by
              rw [ext_mid, HD.out, show i + 1 - i = 1 by omega]
              rfl
            have hi1 : (i : Int) + 1 ≤ l.length := by omega
            have hi2 : (i : Int) ≤ (i : Int) + 1 := by omega
            obtain ⟨T, hT⟩ : ∃ T, [c] = T := ⟨_, rfl⟩
            rw [hT] at e1 HE2
            clear hb ht HE hT
            go_wp2_with (first
              | (go_at_call 57; refine callsRet (HBc.out _) ?_)
              | (go_at_call 58; refine callsRet (HPc.out _) ?_)
              | (at_builtin; refine wpList_append_rw rfl _ _ 55 55 rfl 59 i0 (.agg #[.int .i64 0, .string ⟨#[]⟩]) 2 24 Tryz.underlying55 hi hz0 hz1 hz2 rfl rfl (HRw.out.keep (S := fun _ => False) ((Mvs.refl _ _).alloc _) (fun _ _ c => c)) _ 1 _ rfl (src_wd ⟨3, T⟩) (by simp only [maxLen]; omega) (by omega) ?_))
            intro v1 w1 G1 hr1 hm1 hg1
            have HT1 := hide (RowOf.growN HG.out hr1 hg1 (by omega))
            have HB1 := hide (below_mvs (HB.out.alloc hbs _) hm1 (fun q hq e => by have := HG.out q e.symm; omega) (Nat.le_refl _))
            obtain ⟨A1, c1, rfl⟩ := hr1.form
            clear hr1 hm1 hg1
            go_wp2
            go_roundw
            case rel => exact ⟨i + 1, _, by go_num, by omega, by simp; omega, HB1, HT1, HE2⟩
            case measure => simp [intOf]; omega
    · obtain rfl : i = l.length := by omega
      have HV : Hid (wds l = some ws) := by
        show _ = _
        rw [HWS.out, ← HE.out, List.drop_of_length_le (Nat.le_refl _), wds_nil]
        simp
      clear HE
      go_wp2
      exact bodyPost_ret (v := .tuple #[.slice A ws.length cp, .bool true]) (by simp [results, Tryz.results32, go_sem]) rfl (wdYes HV.out HB.out HRow.out)
end Go.Proofs.YtfebohfmpikoeaaGreatDoor

end
section
namespace Go.Proofs.YtfebohfmpikoeaaGreatDoor
open Go.RowKit Go.Shelf
theorem txt_snoc (q : List UInt8) (c : UInt8) : txt (q ++ [c]) = if c = 10 then cr q else q ++ [c] := by
  unfold txt
  simp
theorem cr_snoc (q : List UInt8) (c : UInt8) : cr (q ++ [c]) = if c = 13 then q else q ++ [c] := by
  unfold cr
  simp
theorem at_snoc (q : List UInt8) (c : UInt8) (r : List UInt8) (h : q.length < (⟨(q ++ c :: r).toArray⟩ : ByteArray).size) : (⟨(q ++ c :: r).toArray⟩ : ByteArray)[q.length]'h = c := by
  show (q ++ c :: r)[q.length]'(by simp) = c
  rw [List.getElem_append_right (Nat.le_refl _)]
  simp
theorem not_byte {x : UInt8} {n : Nat} (hn : n < 256) (h : x ≠ n.toUInt8) : ¬ ((x.toNat : Int) = n) := by
  intro e
  apply h
  apply UInt8.toNat_inj.1
  have : x.toNat = n := by omega
  rw [this]
  simp
  omega
set_option maxRecDepth 20000 in
set_option maxHeartbeats 1000000 in
theorem rtext_any (l : List UInt8) (w : World) (hl : l.length ≤ 1000000) : Calls Tryz.prog 64 #[.string ⟨l.toArray⟩] w fun e w' => e = .returned (.string ⟨(txt l).toArray⟩) ∧ w' = w := by
  rcases List.eq_nil_or_concat l with rfl | ⟨q, c, rfl⟩
  · go_enter Tryz.func64, Tryz.ntmps64
    go_wp2
    go_ret
    exact ⟨rfl, rfl⟩
  · rw [List.concat_eq_append] at hl ⊢
    have hat := at_snoc q c []
    have hsz := size_lit (q ++ [c])
    have hln : (q ++ [c]).length = q.length + 1 := by simp
    by_cases hc : c = 10
    · subst hc
      rw [txt_snoc, if_pos rfl]
      rcases List.eq_nil_or_concat q with rfl | ⟨r, d, rfl⟩
      · go_enter Tryz.func64, Tryz.ntmps64
        go_wp2
        go_ret
        exact ⟨rfl, rfl⟩
      · rw [List.concat_eq_append] at *
        rw [cr_snoc]
        have hat2 := at_snoc r d [10]
        have e0 : r ++ [d] ++ [10] = r ++ d :: [10] := by simp
        have hq : (r ++ [d]).length = r.length + 1 := by simp
        rw [hq] at hat
        rw [e0] at hat hsz hln ⊢
        rw [hln, hq] at hsz
        have hl2 : r.length + 1 + 1 ≤ 1000000 := by rw [e0, hln, hq] at hl; exact hl
        have eT : (⟨(r ++ d :: [10]).toArray⟩ : ByteArray).extract 0 (r.length + 1) = ⟨(r ++ [d]).toArray⟩ := by
          rw [ext_take, ← e0, ← hq, List.take_left' rfl]
        have eR : (⟨(r ++ d :: [10]).toArray⟩ : ByteArray).extract 0 r.length = ⟨r.toArray⟩ := by
          rw [ext_take, List.take_left' rfl]
        obtain ⟨L, hL⟩ : ∃ L, r ++ d :: [10] = L := ⟨_, rfl⟩
        rw [hL] at hat hat2 hsz eT eR ⊢
        obtain ⟨R, hR⟩ : ∃ R, r ++ [d] = R := ⟨_, rfl⟩
        rw [hR] at eT ⊢
        obtain ⟨n, hn⟩ : ∃ n, r.length = n := ⟨_, rfl⟩
        rw [hn] at hat hat2 hsz eT eR hl2
        have hi1 : ((n : Int) + 1 + 1 - 1) = n + 1 := by omega
        have hi2 : ((n : Int) + 1 - 1) = n := by omega
        clear hL hn e0 hq hln hl hR
        by_cases hd : d = 13
        · subst hd
          rw [if_pos rfl]
          go_enter Tryz.func64, Tryz.ntmps64
          go_wp2
          go_ret
          exact ⟨rfl, rfl⟩
        · rw [if_neg hd]
          have hd' := not_byte (n := 13) (by decide) hd
          go_enter Tryz.func64, Tryz.ntmps64
          go_wp2
          go_ret
          exact ⟨rfl, rfl⟩
    · rw [txt_snoc, if_neg hc]
      have hc' := not_byte (n := 10) (by decide) hc
      rw [hln] at hsz
      have eT : (⟨(q ++ [c]).toArray⟩ : ByteArray).extract 0 (q.length + 1) = ⟨(q ++ [c]).toArray⟩ := by
        rw [ext_take, ← hln, List.take_length]
      have hl2 : q.length + 1 ≤ 1000000 := by rw [hln] at hl; exact hl
      obtain ⟨L, hL⟩ : ∃ L, q ++ [c] = L := ⟨_, rfl⟩
      rw [hL] at hat hsz eT ⊢
      obtain ⟨n, hn⟩ : ∃ n, q.length = n := ⟨_, rfl⟩
      rw [hn] at hat hsz eT hl2
      have hi2 : ((n : Int) + 1 - 1) = n := by omega
      clear hL hn hln hl
      go_enter Tryz.func64, Tryz.ntmps64
      go_wp2
      go_ret
      exact ⟨rfl, rfl⟩
/-- A blank. -/
def bkB (c : UInt8) : Bool := c == 32 || c == 9
theorem rblank_any (c : UInt8) (w : World) : Calls Tryz.prog 66 #[.int .u8 (c.toNat : Nat)] w fun e w' => e = .returned (.bool (bkB c)) ∧ w' = w := by
  by_cases h1 : c = 32
  · subst h1
    go_enter Tryz.func66, Tryz.ntmps66
    go_wp2
    go_ret
    exact ⟨rfl, rfl⟩
  · have h1' := not_byte (n := 32) (by decide) h1
    by_cases h2 : c = 9
    · subst h2
      go_enter Tryz.func66, Tryz.ntmps66
      go_wp2
      go_ret
      exact ⟨rfl, rfl⟩
    · have h2' := not_byte (n := 9) (by decide) h2
      have HV : Hid (bkB c = false) := by
        show _ = _
        simp [bkB, h1, h2]
      have k1 : ((c.toNat : Int) == 32) = false := beq_eq_false_iff_ne.2 h1'
      have k2 : ((c.toNat : Int) == 9) = false := beq_eq_false_iff_ne.2 h2'
      clear h1' h2' h1 h2
      go_enter Tryz.func66, Tryz.ntmps66
      go_wp2
      go_ret
      exact ⟨by rw [HV.out]; rfl, rfl⟩
/-- Where a field's name ends. -/
def colN (t : List UInt8) : Int := match nameO t with
  | some p => (p.length : Nat)
  | none => -1
theorem nameO_none_of {t : List UInt8} (h : ∀ p q, t = p ++ 58 :: q → (58 : UInt8) ∉ p → p ≠ [] → p.all nbB = true → False) : nameO t = none := by
  cases hn : nameO t with
  | none => rfl
  | some p =>
    obtain ⟨q, h1, h2, h3, h4⟩ := nameO_some hn
    exact (h p q h1 h2 h3 h4).elim
theorem colN_none {t : List UInt8} (h : nameO t = none) : colN t = -1 := by
  unfold colN
  rw [h]
theorem colN_some {t p : List UInt8} (h : nameO t = some p) : colN t = (p.length : Nat) := by
  unfold colN
  rw [h]
theorem take_ne {t : List UInt8} {j : Nat} (hlt : j < t.length) (h0 : ¬ j = 0) : t.take j ≠ [] := by
  intro h
  have h8 : (t.take j).length = 0 := by
    rw [h]
    rfl
  rw [List.length_take] at h8
  omega
def ncB (c : UInt8) : Bool := nbB c && c != 58
theorem ncB_at {t : List UInt8} {i j : Nat} (h : (t.take i).all ncB = true) (hj : j < i) (hjt : j < t.length) : ncB t[j] = true := by
  rw [List.all_eq_true] at h
  have hk : j < (t.take i).length := by rw [List.length_take]; omega
  have := h ((t.take i)[j]'hk) (List.getElem_mem hk)
  rwa [List.getElem_take] at this
theorem take_ncB_next {p : List UInt8} {k : Nat} (hk : k < p.length) (h : (p.take k).all ncB = true) (hc : ncB p[k] = true) : (p.take (k + 1)).all ncB = true := by
  rw [List.take_succ_eq_append_getElem hk, List.all_append, h]
  simp [hc]
set_option maxRecDepth 20000 in
set_option maxHeartbeats 1000000 in
theorem rcolon_any (t : List UInt8) (w : World) (hl : t.length ≤ 1000000) : Calls Tryz.prog 65 #[.string ⟨t.toArray⟩] w fun e w' => e = .returned (.int .i64 (colN t)) ∧ w' = w := by
  have hsz := size_lit t
  go_enter Tryz.func65, Tryz.ntmps65
  go_wp2
  go_loopw [3] (fun v wr => wr = w ∧ ∃ j : Nat, v = .int .i64 j ∧ j ≤ t.length ∧ Hid ((t.take j).all ncB = true)) (fun v _ => t.length - (intOf v).toNat)
  case atStart => exact ⟨rfl, 0, rfl, Nat.zero_le _, by simp [Hid]⟩
  case round =>
    obtain ⟨rfl, j, rfl, hj, HA⟩ := hrel
    by_cases hlt : j < t.length
    · obtain ⟨c, hc, hat⟩ : ∃ c, t[j] = c ∧ ∀ h : j < (⟨t.toArray⟩ : ByteArray).size, (⟨t.toArray⟩ : ByteArray)[j]'h = c := ⟨_, rfl, fun _ => rfl⟩
      have hlt' : (j : Int) < t.length := by omega
      by_cases h58 : c = 58
      · subst h58
        by_cases h0 : j = 0
        · subst h0
          have HV : Hid (colN t = -1) := by
            refine colN_none (nameO_none_of fun p q e h1 h2 _ => ?_)
            cases p with
            | nil => exact h2 rfl
            | cons x p =>
              subst e
              simp at hc
              exact h1 (by simp [hc])
          clear hc
          go_wp2
          go_ret
          exact ⟨by rw [HV.out]; rfl, rfl⟩
        · have HV : Hid (colN t = (j : Int)) := by
            show _ = _
            have e : t = t.take j ++ 58 :: t.drop (j + 1) := by
              conv => lhs; rw [← List.take_append_drop j t, List.drop_eq_getElem_cons hlt, hc]
            have hn : nameO t = some (t.take j) := by
              have h9 := HA.out
              rw [List.all_eq_true] at h9
              rw [e]
              have h58 : (58 : UInt8) ∉ t.take j := fun hm => by
                have := h9 _ hm
                simp [ncB] at this
              have := nameO_of (q := t.drop (j + 1)) h58 (take_ne hlt h0) (by
                rw [List.all_eq_true]
                intro x hx
                have := h9 x hx
                simp only [ncB, Bool.and_eq_true] at this
                exact this.1)
              rw [this, ← e]
            rw [colN_some hn, List.length_take]
            omega
          have h0' : ¬ ((j : Int) = 0) := by omega
          clear hc
          go_wp2
          go_ret
          exact ⟨by rw [HV.out]; rfl, rfl⟩
      · have h58' := not_byte (n := 58) (by decide) h58
        cases hb : nbB c with
        | true =>
          have HA2 := hide (take_ncB_next hlt HA.out (by rw [hc]; simp [ncB, hb, h58]))
          obtain ⟨g1, g2⟩ := nbB_lo hb
          have g1' : ¬ ((c.toNat : Int) < 33) := by omega
          have g2' : ¬ ((c.toNat : Int) > 126) := by omega
          clear hc hb
          go_wp2
          go_roundw
          case rel => exact ⟨trivial, j + 1, by go_num, by omega, HA2⟩
          case measure => simp [intOf]; omega
        | false =>
          have HV : Hid (colN t = -1) := by
            refine colN_none (nameO_none_of fun p q e h1 _ h3 => ?_)
            by_cases hjp : j < p.length
            · have h4 : p[j] = c := by
                subst e
                rw [← hc, List.getElem_append_left hjp]
              rw [List.all_eq_true] at h3
              have := h3 _ (List.getElem_mem hjp)
              rw [h4, hb] at this
              cases this
            · by_cases he : j = p.length
              · subst e
                subst he
                rw [List.getElem_append_right (Nat.le_refl _)] at hc
                simp at hc
                exact h58 hc.symm
              · have hpt : p.length < t.length := by omega
                have := ncB_at HA.out (j := p.length) (by omega) hpt
                have h5 : t[p.length] = 58 := by
                  subst e
                  rw [List.getElem_append_right (Nat.le_refl _)]
                  simp
                rw [h5] at this
                cases this
          rcases nbB_hi hb with g | g
          · have g1' : (c.toNat : Int) < 33 := by omega
            clear hc hb
            go_wp2
            go_ret
            exact ⟨by rw [HV.out]; rfl, rfl⟩
          · have g0' : ¬ ((c.toNat : Int) < 33) := by omega
            have g1' : (c.toNat : Int) > 126 := by omega
            clear hc hb
            go_wp2
            go_ret
            exact ⟨by rw [HV.out]; rfl, rfl⟩
    · obtain rfl : j = t.length := by omega
      have HV : Hid (colN t = -1) := by
        refine colN_none (nameO_none_of fun p q e _ _ _ => ?_)
        have h9 := HA.out
        rw [List.take_length, List.all_eq_true] at h9
        have := h9 58 (by rw [e]; simp)
        cases this
      go_wp2
      go_ret
      exact ⟨by rw [HV.out]; rfl, rfl⟩
theorem right_cons (c : UInt8) (l : List UInt8) : Lib.trimRightS (c :: l) [32, 9] = if Lib.trimRightS l [32, 9] = [] then (if bkB c then [] else [c]) else c :: Lib.trimRightS l [32, 9] := by
  unfold Lib.trimRightS
  rw [List.reverse_cons, List.dropWhile_append]
  have hp : ∀ x : UInt8, ([32, 9] : List UInt8).contains x = bkB x := fun x => by
    unfold bkB
    rw [Bool.eq_iff_iff]
    simp
  by_cases h : (l.reverse.dropWhile fun x => ([32, 9] : List UInt8).contains x) = []
  · rw [h]
    simp only [List.isEmpty_nil, if_true, List.reverse_nil]
    rw [List.dropWhile_cons, hp]
    split <;> simp
  · have h2 : (l.reverse.dropWhile fun x => ([32, 9] : List UInt8).contains x).isEmpty = false := by simpa using h
    rw [if_neg (by rw [h2]; simp), if_neg (by simpa using h)]
    simp
theorem left_cons (c : UInt8) (l : List UInt8) : Lib.trimLeftS (c :: l) [32, 9] = if bkB c then Lib.trimLeftS l [32, 9] else c :: l := by
  unfold Lib.trimLeftS
  have hp : ([32, 9] : List UInt8).contains c = bkB c := by
    unfold bkB
    rw [Bool.eq_iff_iff]
    simp
  rw [List.dropWhile_cons, hp]
theorem trim_swap : ∀ (l : List UInt8), Lib.trimRightS (Lib.trimLeftS l [32, 9]) [32, 9] = Lib.trimS l [32, 9]
  | [] => rfl
  | c :: l => by
    have ih := trim_swap l
    unfold Lib.trimS at *
    rw [left_cons]
    by_cases hc : bkB c = true
    · rw [if_pos hc, ih, right_cons, if_pos hc]
      by_cases h : Lib.trimRightS l [32, 9] = []
      · rw [if_pos h, h]
      · rw [if_neg h, left_cons, if_pos hc]
    · rw [if_neg hc, right_cons, if_neg hc]
      by_cases h : Lib.trimRightS l [32, 9] = []
      · rw [if_pos h, left_cons, if_neg hc]
      · rw [if_neg h, left_cons, if_neg hc]
theorem right_snoc (q : List UInt8) (c : UInt8) : Lib.trimRightS (q ++ [c]) [32, 9] = if bkB c then Lib.trimRightS q [32, 9] else q ++ [c] := by
  unfold Lib.trimRightS
  have hp : ([32, 9] : List UInt8).contains c = bkB c := by
    unfold bkB
    rw [Bool.eq_iff_iff]
    simp
  rw [List.reverse_append, List.reverse_singleton, List.singleton_append, List.dropWhile_cons, hp]
  split <;> simp
set_option maxRecDepth 20000 in
set_option maxHeartbeats 1000000 in
theorem rtrim_any (s : List UInt8) (w : World) (hl0 : s.length ≤ 1000000) : Calls Tryz.prog 67 #[.string ⟨s.toArray⟩] w fun e w' => e = .returned (.string ⟨(Lib.trimS s [32, 9]).toArray⟩) ∧ w' = w := by
  go_enter Tryz.func67, Tryz.ntmps67
  go_wp2
  go_loopw [0] (fun v wr => wr = w ∧ ∃ t : List UInt8, v = .string ⟨t.toArray⟩ ∧ t.length ≤ 1000000 ∧ Hid (Lib.trimLeftS t [32, 9] = Lib.trimLeftS s [32, 9])) (fun v _ => Lib.strSize v)
  case atStart => exact ⟨rfl, s, rfl, hl0, rfl⟩
  case round =>
    obtain ⟨rfl, t, rfl, hl, HT⟩ := hrel
    cases t with
    | nil =>
      have HR : Hid (Lib.trimRightS [] [32, 9] = Lib.trimS s [32, 9]) := by
        show _ = _
        rw [← trim_swap s, ← HT.out]
        rfl
      clear HT
      go_wp2
      go_loopw [0] (fun v wq => wq = wr ∧ ∃ u : List UInt8, v = .string ⟨u.toArray⟩ ∧ u.length ≤ 1000000 ∧ Hid (Lib.trimRightS u [32, 9] = Lib.trimS s [32, 9])) (fun v _ => Lib.strSize v)
      case atStart => exact ⟨rfl, [], rfl, by simp, HR.out⟩
      case round =>
        clear HR
        obtain ⟨rfl, u, rfl, hul, HU⟩ := hrel
        rcases List.eq_nil_or_concat u with rfl | ⟨q, c, hq⟩
        · have HV : Hid (Lib.trimS s [32, 9] = []) := by
            show _ = _
            rw [← HU.out]
            rfl
          go_wp2
          go_ret
          exact ⟨by rw [HV.out]; rfl, rfl⟩
        · rw [List.concat_eq_append] at hq
          have hat : ∀ h, (⟨u.toArray⟩ : ByteArray)[q.length]'h = c := by
            subst hq
            exact at_snoc q c []
          have hsz := size_lit u
          have hln : u.length = q.length + 1 := by rw [hq]; simp
          have eT : (⟨u.toArray⟩ : ByteArray).extract 0 q.length = ⟨q.toArray⟩ := by rw [ext_take, hq, List.take_left' rfl]
          have HB := hide (rblank_any c)
          have HU2 : Hid (Lib.trimS s [32, 9] = if bkB c then Lib.trimRightS q [32, 9] else u) := by
            show _ = _
            rw [← HU.out, hq, right_snoc]
          rw [hln] at hsz hul
          have hzq : Lib.strSize (.string ⟨q.toArray⟩) < Lib.strSize (.string ⟨u.toArray⟩) := by
            show (⟨q.toArray⟩ : ByteArray).size < (⟨u.toArray⟩ : ByteArray).size
            rw [size_lit, size_lit, hln]
            omega
          have HZ := hide hzq
          obtain ⟨n, hn⟩ : ∃ n, q.length = n := ⟨_, rfl⟩
          have HQ := hide hn
          rw [hn] at hat hsz eT hul
          have hi2 : ((n : Int) + 1 - 1) = n := by omega
          clear hq hln hn HU hzq
          cases hb : bkB c with
          | true =>
            rw [hb] at HB HU2
            clear hb
            go_wp2_with (first
              | (go_at_call 66; refine (HB.out _).mono ?_; rintro e w2 ⟨rfl, rfl⟩))
            go_roundw
            case rel => exact ⟨trivial, q, rfl, by have := HQ.out; omega, HU2.out.symm⟩
            case measure => exact HZ.out
          | false =>
            rw [hb] at HB HU2
            have HV : Hid (Lib.trimS s [32, 9] = u) := HU2.out
            clear hb HU2
            go_wp2_with (first
              | (go_at_call 66; refine (HB.out _).mono ?_; rintro e w2 ⟨rfl, rfl⟩))
            go_ret
            exact ⟨by rw [HV.out]; rfl, rfl⟩
    | cons c r =>
      have hat : ∀ h, (⟨(c :: r).toArray⟩ : ByteArray)[0]'h = c := fun _ => rfl
      have hsz := size_lit (c :: r)
      have hln : (c :: r).length = r.length + 1 := rfl
      have eD := ext_drop (c :: r) 1
      rw [show (c :: r).drop 1 = r from rfl] at eD
      have HB := hide (rblank_any c)
      have HT2 : Hid (Lib.trimLeftS s [32, 9] = if bkB c then Lib.trimLeftS r [32, 9] else c :: r) := by
        show _ = _
        rw [← HT.out, left_cons]
      have hzq : Lib.strSize (.string ⟨r.toArray⟩) < Lib.strSize (.string ⟨(c :: r).toArray⟩) := by
        show (⟨r.toArray⟩ : ByteArray).size < (⟨(c :: r).toArray⟩ : ByteArray).size
        rw [size_lit, size_lit, hln]
        omega
      have HZ := hide hzq
      have hlr : r.length ≤ 1000000 := by omega
      have HLR := hide hlr
      have hpos : 0 < (c :: r).length := by simp
      generalize c :: r = t at *
      clear hln HT hzq hlr
      cases hb : bkB c with
      | true =>
        rw [hb] at HB HT2
        clear hb
        go_wp2_with (first
          | (go_at_call 66; refine (HB.out _).mono ?_; rintro e w2 ⟨rfl, rfl⟩))
        go_roundw
        case rel => exact ⟨trivial, r, rfl, HLR.out, HT2.out.symm⟩
        case measure => exact HZ.out
      | false =>
        rw [hb] at HB HT2
        have HR : Hid (Lib.trimRightS t [32, 9] = Lib.trimS s [32, 9]) := by
          show _ = _
          rw [← trim_swap s, HT2.out]
          rfl
        clear hb HT2
        go_wp2_with (first
          | (go_at_call 66; refine (HB.out _).mono ?_; rintro e w2 ⟨rfl, rfl⟩))
        clear hat hsz eD HB HZ HLR hpos
        go_loopw [0] (fun v wq => wq = w2 ∧ ∃ u : List UInt8, v = .string ⟨u.toArray⟩ ∧ u.length ≤ 1000000 ∧ Hid (Lib.trimRightS u [32, 9] = Lib.trimS s [32, 9])) (fun v _ => Lib.strSize v)
        case atStart => exact ⟨rfl, t, rfl, hl, HR.out⟩
        case round =>
          clear HR
          obtain ⟨rfl, u, rfl, hul, HU⟩ := hrel
          rcases List.eq_nil_or_concat u with rfl | ⟨q, c, hq⟩
          · have HV : Hid (Lib.trimS s [32, 9] = []) := by
              show _ = _
              rw [← HU.out]
              rfl
            go_wp2
            go_ret
            exact ⟨by rw [HV.out]; rfl, rfl⟩
          · rw [List.concat_eq_append] at hq
            have hat : ∀ h, (⟨u.toArray⟩ : ByteArray)[q.length]'h = c := by
              subst hq
              exact at_snoc q c []
            have hsz := size_lit u
            have hln : u.length = q.length + 1 := by rw [hq]; simp
            have eT : (⟨u.toArray⟩ : ByteArray).extract 0 q.length = ⟨q.toArray⟩ := by rw [ext_take, hq, List.take_left' rfl]
            have HB := hide (rblank_any c)
            have HU2 : Hid (Lib.trimS s [32, 9] = if bkB c then Lib.trimRightS q [32, 9] else u) := by
              show _ = _
              rw [← HU.out, hq, right_snoc]
            rw [hln] at hsz hul
            have hzq : Lib.strSize (.string ⟨q.toArray⟩) < Lib.strSize (.string ⟨u.toArray⟩) := by
              show (⟨q.toArray⟩ : ByteArray).size < (⟨u.toArray⟩ : ByteArray).size
              rw [size_lit, size_lit, hln]
              omega
            have HZ := hide hzq
            obtain ⟨n, hn⟩ : ∃ n, q.length = n := ⟨_, rfl⟩
            have HQ := hide hn
            rw [hn] at hat hsz eT hul
            have hi2 : ((n : Int) + 1 - 1) = n := by omega
            clear hq hln hn HU hzq
            cases hb : bkB c with
            | true =>
              rw [hb] at HB HU2
              clear hb
              go_wp2_with (first
                | (go_at_call 66; refine (HB.out _).mono ?_; rintro e w2 ⟨rfl, rfl⟩))
              go_roundw
              case rel => exact ⟨trivial, q, rfl, by have := HQ.out; omega, HU2.out.symm⟩
              case measure => exact HZ.out
            | false =>
              rw [hb] at HB HU2
              have HV : Hid (Lib.trimS s [32, 9] = u) := HU2.out
              clear hb HU2
              go_wp2_with (first
                | (go_at_call 66; refine (HB.out _).mono ?_; rintro e w2 ⟨rfl, rfl⟩))
              go_ret
              exact ⟨by rw [HV.out]; rfl, rfl⟩
end Go.Proofs.YtfebohfmpikoeaaGreatDoor

end
