/- The day's name in the document's ParseMail, and all of it. -/
import Derived.Test.YtcmhaihoeecjoaaGreatDoorU44
import Derived.Test.YtcmhaihoeecjoaaGreatDoorU45
import Derived.Deep.Cut
import Derived.Deep.CutRange
namespace Go.Proofs.YtcmhaihoeecjoaaGreatDoor.Da
open Go.RowKit
set_option maxRecDepth 20000 in
/-- A row of texts: its first, and the rest. -/
theorem texts_cons {w wr : World} {v : Value} {x : List UInt8} {t : List (List UInt8)} (h : Texts w wr v (x :: t)) : ∃ g o o1 cap, v = .slice (some ⟨g, o, none⟩) (t.length + 1) cap ∧ t.length + 1 ≤ cap ∧ g < wr.heap.size ∧ wr.cell? ⟨g, o, none⟩ = some (.string ⟨x.toArray⟩) ∧ (∀ w0, (Instr.slice 59 (.slice (some ⟨g, o, none⟩) (t.length + 1) cap) (some (.int .i64 1)) none none).run Tryz.prog w0 = .ok (.slice (some ⟨g, o1, none⟩) t.length (cap - 1)) w0) ∧ Texts w wr (.slice (some ⟨g, o1, none⟩) t.length (cap - 1)) t := by
  obtain ⟨hb, G, hr, hG⟩ := h
  have hl := hr.1
  rcases hr.2 with ⟨_, h0, _⟩ | ⟨g, o, cap, hg, hv, h1, h2, h3, h4, h5⟩
  · cases h0
  · simp only [List.length_cons] at h1
    refine ⟨g, o, if cap = 1 then o else o + 1, cap, hv, h1, h3, h4 0 _ rfl, fun w0 => ?_, hb, some g, ⟨by simp, .inr ⟨g, _, cap - 1, rfl, rfl, by omega, by omega, h3, fun j u hu => ?_, fun j hj => ?_⟩⟩, fun g' hg' => by cases hg'; exact hG g hg⟩
    · rw [run_slice_l w0 59 _ _ _ Tryz.underlying59 .i64 1 (by omega) (by omega)]
      have hz : (sizeOf (Tryz.prog.elem 59)).run Tryz.prog w0 = .ok 1 w0 := by simp [go_sem]
      rw [hz]
      simp only [Result.andThen, sliced]
      by_cases hc : cap = 1
      · rw [if_pos (by simpa using hc), if_pos hc]; simp
      · rw [if_neg (by simpa using hc), if_neg hc]; simp [Go.WideShapes.add_plain]
    · have hj := (List.getElem?_eq_some_iff.1 hu).1
      simp at hj
      rw [if_neg (by omega), Nat.add_assoc, Nat.add_comm 1 j]
      exact h4 (j + 1) u (by simpa using hu)
    · rw [if_neg (by omega), Nat.add_assoc, Nat.add_comm 1 j]
      exact h5 (j + 1) (by omega)
theorem texts_src {w wr w1 : World} {g o1 c : Nat} {t : List (List UInt8)} {S : Nat → Prop} (h : Texts w wr (.slice (some ⟨g, o1, none⟩) t.length c) t) (hm : Mvs S wr w1) (hS : ¬ S g) : Src Tryz.prog 1 59 (.slice (some ⟨g, o1, none⟩) t.length c) t.length (t.map sv) w1 := by
  obtain ⟨_, G, hr, _⟩ := h
  have hr' := hr.keep hm (fun g' hg' => by
    rcases hr.2 with ⟨h0, _⟩ | ⟨g2, o2, cap, hg, hv, _⟩
    · cases h0
    · cases hv; rw [hg] at hg'; cases hg'; exact hS)
  rcases hr'.2 with ⟨h0, _⟩ | ⟨g2, o2, cap, hg, hv, h1, h2, h3, h4, h5⟩
  · cases h0
  · cases hv
    refine Src.ofSlice _ Tryz.underlying59 ⟨g, o1, none⟩ _ _ (t.map sv) (by simp) (fun j u hu => ?_) (sv_oneCell t)
    rw [Go.WideShapes.add_plain]
    exact h4 j u hu
/-- A text put before the rest. -/
theorem texts_put {w wr w1 : World} {v1 v0 : Value} {r : List UInt8} {t : List (List UInt8)} {G1 : Option Nat} {ob : Obj} (h : Texts w wr v0 t)
    (hr : Rw w1 1 v1 (1 + t.length) ([sv r] ++ t.map sv) G1) (hm : Mvs (fun k => k = wr.heap.size) (wr.alloc ob) w1) (hG : G1 = some wr.heap.size ∨ G1 = some (wr.alloc ob).heap.size) : Texts w w1 v1 (r :: t) := by
  have hb := h.1
  have hsz := hb.size
  refine ⟨below_mvs (hb.alloc hb.size _) hm (fun k hk e => by omega) (Nat.le_refl _), G1, ?_, ?_⟩
  · rw [List.length_cons, Nat.add_comm, List.map_cons]
    exact hr
  · rintro g rfl
    rcases hG with h | h
    · cases h; exact hsz
    · cases h
      simp
      omega
theorem wplace_calls {s : List UInt8} {z : Int} (hz : findEq wkdB s 7 0 = z) (w : World) : Calls Tryz.prog 58 #[.string ⟨s.toArray⟩, .string ⟨#[83, 117, 110, 77, 111, 110, 84, 117, 101, 87, 101, 100, 84, 104, 117, 70, 114, 105, 83, 97, 116]⟩] w fun e w' => e = .returned (.int .i64 z) ∧ w' = w := by
  subst hz
  exact place_any wkdB s 7 rfl (by decide) w
theorem words_len : ∀ (l cur : List UInt8) (x : List UInt8), x ∈ wordsA cur l → x.length ≤ cur.length + l.length
  | [], cur, x, h => by
    rw [wordsA] at h
    split at h
    · cases h
    · simp at h; subst h; simp
  | c :: l, cur, x, h => by
    rw [wordsA] at h
    split at h
    · split at h
      · have := words_len l [] x h; simp at this ⊢; omega
      · rcases List.mem_cons.1 h with rfl | h
        · simp
        · have := words_len l [] x h; simp at this ⊢; omega
    · have := words_len l (cur ++ [c]) x h
      simp at this ⊢; omega
theorem words_count : ∀ (l cur : List UInt8), (wordsA cur l).length ≤ l.length + 1
  | [], cur => by
    rw [wordsA]
    split <;> simp
  | c :: l, cur => by
    rw [wordsA]
    split
    · split
      · have := words_count l []; simp; omega
      · have := words_count l []; simp; omega
    · have := words_count l (cur ++ [c]); simp; omega
set_option maxRecDepth 20000 in
set_option maxHeartbeats 16000000 in
theorem rmail_any (s : List UInt8) (w : World) (hs : s.length ≤ 900) :
    Calls Tryz.prog 32 #[.string ⟨s.toArray⟩] w fun e w' => e = .returned (docR ((pmailF (σz s)).bind endF)) ∧ Below w.heap.size w w' := by
  have hM := mail_doc s
  obtain ⟨R, hR⟩ : ∃ R, docR ((pmailF (σz s)).bind endF) = R := ⟨_, rfl⟩
  rw [hR] at hM ⊢
  clear hR
  obtain ⟨i0, hi, hz0, hz1, hz2⟩ := info_parts strInfo
  have HI := hide (And.intro hi (And.intro hz0 (And.intro hz1 hz2)))
  clear hi hz0 hz1 hz2
  have hlen : ∀ x ∈ wordsA [] s, x.length ≤ 900 := fun x hx => by
    have := words_len s [] x hx
    simp at this
    omega
  have hcnt : (wordsA [] s).length ≤ 901 := Nat.le_trans (words_count s []) (by omega)
  have HW := hide (words_any s w hs)
  have HM := hide hM
  have HL := hide hlen
  clear hM hlen
  go_enter Tryz.func32, Tryz.ntmps32
  go_upto_region 3 with (first | (go_at_call 57; refine HW.out.mono ?_; rintro e wX ⟨v, rfl, HT⟩; replace HT := hide HT))
  rename_i KT aT KC aC
  have HAT := hide aT
  clear aT HW
  obtain ⟨ws, hws⟩ : ∃ ws, wordsA [] s = ws := ⟨_, rfl⟩
  rw [hws] at HM HT HL hcnt
  clear hws
  have HSome : ∀ ws', dowW ws = some ws' → DocM ws' R := fun ws' h => by
    rcases HM.out with ⟨h0, _⟩ | ⟨ws2, h0, hd⟩
    · rw [h] at h0; cases h0
    · rw [h] at h0; cases h0; exact hd
  have HNone : dowW ws = none → R = .tuple #[.int .i64 0, .int .i64 2] := fun h => by
    rcases HM.out with ⟨_, h0⟩ | ⟨ws2, h0, _⟩
    · exact h0
    · rw [h] at h0; cases h0
  replace HSome := hide HSome
  replace HNone := hide HNone
  clear HM
  cases ws with
  | nil =>
    have hT := HT.out
    obtain ⟨_, G, hr, _⟩ := hT
    obtain ⟨A, c, rfl⟩ := hr.form
    clear hr
    simp only [List.length_nil] at *
    go_wp2
    refine HAT.out _ _ ?_
    exact tail_all s w R _ _ _ _ _ _ _ _ _ _ _ _ _ _ _ _ _ _ _ _ _ _ _ _ _ _ _ _ _ _ _ _ _ _ _ _ _ _ _ _ _ _ _ _ _ _ _ _ _ _ _ _ _ _ _ _ _ ([]) (HL.out) (HT.out) (HSome.out _ rfl)
  | cons x t =>
    obtain ⟨g, o, o1, cap, rfl, hcap, hg, c0, hsl, HT1⟩ := texts_cons HT.out
    replace HT1 := hide HT1
    by_cases h3 : 3 ≤ x.length
    · have e1 : (⟨x.toArray⟩ : ByteArray).extract 0 3 = ⟨(x.take 3).toArray⟩ := by rw [ext_mid']; simp
      obtain ⟨x3, hx3⟩ : ∃ x3, x3 = x.take 3 := ⟨_, rfl⟩
      rw [← hx3] at e1
      rcases wfind_inv x3 7 0 with hm | ⟨j, _, hj, hn, hm⟩
      · have HP := hide (wplace_calls hm)
        have HD : Hid (dowW (x :: t) = some (x :: t)) := by
          show dowW (x :: t) = some (x :: t)
          rw [dowW, if_neg (fun h => by rw [← hx3, hm] at h; omega)]
        clear hm hx3
        go_wp2_with (go_at_call 58; refine (HP.out _).mono ?_; rintro e w' ⟨rfl, rfl⟩)
        refine HAT.out _ _ ?_
        exact tail_all s w R _ _ _ _ _ _ _ _ _ _ _ _ _ _ _ _ _ _ _ _ _ _ _ _ _ _ _ _ _ _ _ _ _ _ _ _ _ _ _ _ _ _ _ _ _ _ _ _ _ _ _ _ _ _ _ _ _ (x :: t) (HL.out) (HT.out) (HSome.out _ HD.out)
      · have HP := hide (wplace_calls hm)
        have e2 : (⟨x.toArray⟩ : ByteArray).extract 3 x.length = ⟨(x.drop 3).toArray⟩ := by rw [ext_mid', List.take_of_length_le (by simp)]
        obtain ⟨q, hq⟩ : ∃ q, q = x.drop 3 := ⟨_, rfl⟩
        have HD : Hid (dowW (x :: t) = (match (if q = [] then t else q :: t) with
            | [] => none
            | [] :: _ => none
            | (c :: r) :: t' => if c = 44 then some (if r = [] then t' else r :: t') else none)) := by
          show dowW (x :: t) = _
          rw [dowW, if_pos ⟨h3, by rw [← hx3, hm]; omega⟩, ← hq]
          rfl
        rw [← hq] at e2
        have hql : q.length ≤ 900 := by
          have := HL.out x (by simp)
          rw [hq]; simp; omega
        replace HL : Hid (∀ y ∈ t, y.length ≤ 900) := fun y hy => HL.out y (by simp [hy])
        clear hq hm hn hx3 hj HT
        cases q with
        | nil =>
          rw [if_pos rfl] at HD
          cases t with
          | nil =>
            have hR := HNone.out HD.out
            clear HSome HNone HD HL HAT
            have HB := hide HT1.out.1
            clear HT1
            simp only [List.length_nil] at *
            go_wp2_with (go_at_call 58; refine (HP.out _).mono ?_; rintro e w' ⟨rfl, rfl⟩)
            go_ret2
            exact ⟨by rw [hR]; rfl, HB.out⟩
          | cons r0 t' =>
            obtain ⟨g2, o2, o3, cap2, hv2, hcap2, hg2, c2, hsl2, HT2⟩ := texts_cons HT1.out
            cases hv2
            replace HT2 := hide HT2
            simp only [List.length_cons] at *
            replace HL : Hid (r0.length ≤ 900 ∧ ∀ y ∈ t', y.length ≤ 900) := ⟨HL.out r0 (by simp), fun y hy => HL.out y (by simp [hy])⟩
            cases r0 with
            | nil =>
              have hR := HNone.out HD.out
              clear HSome HNone HD HL HAT
              have HB := hide HT1.out.1
              clear HT1 HT2
              go_wp2_with (go_at_call 58; refine (HP.out _).mono ?_; rintro e w' ⟨rfl, rfl⟩)
              go_ret2
              exact ⟨by rw [hR]; rfl, HB.out⟩
            | cons c r =>
              have hql0 : (c :: r).length ≤ 900 := HL.out.1
              have eb : ∀ h : 0 < (⟨(c :: r).toArray⟩ : ByteArray).size, (⟨(c :: r).toArray⟩ : ByteArray)[0]'h = c := fun _ => rfl
              have er : (⟨(c :: r).toArray⟩ : ByteArray).extract 1 (r.length + 1) = ⟨r.toArray⟩ := by rw [ext_mid']; simp
              have hqn : ((c :: r) == []) = false := rfl
              obtain ⟨q, hq⟩ : ∃ q, q = c :: r := ⟨_, rfl⟩
              have hqL : q.length = r.length + 1 := by rw [hq]; rfl
              rw [← hq] at eb er hqn hql0 c2
              by_cases hc : c = 44
              · have hcc : ((c.toNat : Int) != 44) = false := by rw [hc]; rfl
                by_cases hr0 : r = []
                · have HD2 := hide (HD.out.trans (show _ = some t' by simp only [hc, if_true, hr0]))
                  have hr1 : r.length = 0 := by rw [hr0]; rfl
                  clear hr0 hc hq HD
                  go_wp2_with (go_at_call 58; refine (HP.out _).mono ?_; rintro e w' ⟨rfl, rfl⟩)
                  refine HAT.out _ _ ?_
                  exact tail_all s w R _ _ _ _ _ _ _ _ _ _ _ _ _ _ _ _ _ _ _ _ _ _ _ _ _ _ _ _ _ _ _ _ _ _ _ _ _ _ _ _ _ _ _ _ _ _ _ _ _ _ _ _ _ _ _ _ _ (t') (HL.out.2) (HT2.out) (HSome.out _ HD2.out)
                · have HD2 := hide (HD.out.trans (show _ = some (r :: t') by simp only [hc, if_true, if_neg hr0]))
                  have hr1 : 1 ≤ r.length := by cases r with | nil => exact absurd rfl hr0 | cons _ _ => simp
                  clear hr0 hc hq HD
                  have htl : t'.length ≤ 901 := by (try simp only [List.length_cons] at hcnt); omega
                  go_wp2_with (first | (go_at_call 58; refine (HP.out _).mono ?_; rintro e w' ⟨rfl, rfl⟩) | (at_builtin; refine wpList_append_rw rfl _ _ 59 59 rfl 9 i0 (.string ⟨#[]⟩) 1 16 Tryz.underlying59 HI.out.1 HI.out.2.1 HI.out.2.2.1 HI.out.2.2.2 rfl rfl (Rw.new (e := 9) [sv r] [] (Blk.new _ _ 9) rfl rfl (Nat.le_refl _) (by simp [maxLen])) _ _ _ rfl (texts_src HT2.out ((Mvs.refl (fun _ => False) _).alloc _) (fun c => c)) (by simp only [maxLen]; omega) (by omega) ?_))
                  intro v1 w1 G1 hr1 hm1 hg1
                  have HTp := hide (texts_put HT2.out hr1 hm1 (by simpa using hg1))
                  obtain ⟨A1, c1, rfl⟩ := hr1.form
                  clear hr1 hm1 hg1
                  go_wp2
                  refine HAT.out _ _ ?_
                  exact tail_all s w R _ _ _ _ _ _ _ _ _ _ _ _ _ _ _ _ _ _ _ _ _ _ _ _ _ _ _ _ _ _ _ _ _ _ _ _ _ _ _ _ _ _ _ _ _ _ _ _ _ _ _ _ _ _ _ _ _ (r :: t') (fun y hy => by rcases List.mem_cons.1 hy with rfl | hy; exact Nat.le_trans (by omega) hql0; exact HL.out.2 y hy) (HTp.out) (HSome.out _ HD2.out)
              · have hcc : ((c.toNat : Int) != 44) = true := bne_iff_ne.2 (fun h => hc (UInt8.toNat_inj.1 (show c.toNat = 44 by omega)))
                have hR := HNone.out (HD.out.trans (show _ = none by simp only [if_neg hc]))
                have HB := hide HT2.out.1
                clear HSome HNone HD HL HAT hc hq
                go_wp2_with (go_at_call 58; refine (HP.out _).mono ?_; rintro e w' ⟨rfl, rfl⟩)
                go_ret2
                exact ⟨by rw [hR]; rfl, HB.out⟩
        | cons c r =>
          rw [if_neg (by simp)] at HD
          have hql0 : (c :: r).length ≤ 900 := hql
          have eb : ∀ h : 0 < (⟨(c :: r).toArray⟩ : ByteArray).size, (⟨(c :: r).toArray⟩ : ByteArray)[0]'h = c := fun _ => rfl
          have er : (⟨(c :: r).toArray⟩ : ByteArray).extract 1 (r.length + 1) = ⟨r.toArray⟩ := by rw [ext_mid']; simp
          have hqn : ((c :: r) == []) = false := rfl
          obtain ⟨q, hq⟩ : ∃ q, q = c :: r := ⟨_, rfl⟩
          have hqL : q.length = r.length + 1 := by rw [hq]; rfl
          rw [← hq] at eb er hqn hql0 e2
          by_cases hc : c = 44
          · have hcc : ((c.toNat : Int) != 44) = false := by rw [hc]; rfl
            by_cases hr0 : r = []
            · have HD2 := hide (HD.out.trans (show _ = some t by simp only [hc, if_true, hr0]))
              have hr1 : r.length = 0 := by rw [hr0]; rfl
              clear hr0 hc hq HD
              go_wp2_with (go_at_call 58; refine (HP.out _).mono ?_; rintro e w' ⟨rfl, rfl⟩)
              refine HAT.out _ _ ?_
              exact tail_all s w R _ _ _ _ _ _ _ _ _ _ _ _ _ _ _ _ _ _ _ _ _ _ _ _ _ _ _ _ _ _ _ _ _ _ _ _ _ _ _ _ _ _ _ _ _ _ _ _ _ _ _ _ _ _ _ _ _ (t) (HL.out) (HT1.out) (HSome.out _ HD2.out)
            · have HD2 := hide (HD.out.trans (show _ = some (r :: t) by simp only [hc, if_true, if_neg hr0]))
              have hr1 : 1 ≤ r.length := by cases r with | nil => exact absurd rfl hr0 | cons _ _ => simp
              clear hr0 hc hq HD
              have htl : t.length ≤ 901 := by (try simp only [List.length_cons] at hcnt); omega
              go_wp2_with (first | (go_at_call 58; refine (HP.out _).mono ?_; rintro e w' ⟨rfl, rfl⟩) | (at_builtin; refine wpList_append_rw rfl _ _ 59 59 rfl 9 i0 (.string ⟨#[]⟩) 1 16 Tryz.underlying59 HI.out.1 HI.out.2.1 HI.out.2.2.1 HI.out.2.2.2 rfl rfl (Rw.new (e := 9) [sv r] [] (Blk.new _ _ 9) rfl rfl (Nat.le_refl _) (by simp [maxLen])) _ _ _ rfl (texts_src HT1.out ((Mvs.refl (fun _ => False) _).alloc _) (fun c => c)) (by simp only [maxLen]; omega) (by omega) ?_))
              intro v1 w1 G1 hr1 hm1 hg1
              have HTp := hide (texts_put HT1.out hr1 hm1 (by simpa using hg1))
              obtain ⟨A1, c1, rfl⟩ := hr1.form
              clear hr1 hm1 hg1
              go_wp2
              refine HAT.out _ _ ?_
              exact tail_all s w R _ _ _ _ _ _ _ _ _ _ _ _ _ _ _ _ _ _ _ _ _ _ _ _ _ _ _ _ _ _ _ _ _ _ _ _ _ _ _ _ _ _ _ _ _ _ _ _ _ _ _ _ _ _ _ _ _ (r :: t) (fun y hy => by rcases List.mem_cons.1 hy with rfl | hy; exact Nat.le_trans (by omega) hql0; exact HL.out y hy) (HTp.out) (HSome.out _ HD2.out)
          · have hcc : ((c.toNat : Int) != 44) = true := bne_iff_ne.2 (fun h => hc (UInt8.toNat_inj.1 (show c.toNat = 44 by omega)))
            have hR := HNone.out (HD.out.trans (show _ = none by simp only [if_neg hc]))
            have HB := hide HT1.out.1
            clear HSome HNone HD HL HAT hc hq
            go_wp2_with (go_at_call 58; refine (HP.out _).mono ?_; rintro e w' ⟨rfl, rfl⟩)
            go_ret2
            exact ⟨by rw [hR]; rfl, HB.out⟩
    · have HD : Hid (dowW (x :: t) = some (x :: t)) := by
        show dowW (x :: t) = some (x :: t)
        rw [dowW, if_neg (fun h => h3 h.1)]
      go_wp2
      refine HAT.out _ _ ?_
      exact tail_all s w R _ _ _ _ _ _ _ _ _ _ _ _ _ _ _ _ _ _ _ _ _ _ _ _ _ _ _ _ _ _ _ _ _ _ _ _ _ _ _ _ _ _ _ _ _ _ _ _ _ _ _ _ _ _ _ _ _ (x :: t) (HL.out) (HT.out) (HSome.out _ HD.out)
end Go.Proofs.YtcmhaihoeecjoaaGreatDoor.Da
