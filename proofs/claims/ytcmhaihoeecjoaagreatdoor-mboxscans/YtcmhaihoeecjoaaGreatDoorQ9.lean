/- The document's Decode. -/
import Derived.Test.YtcmhaihoeecjoaaGreatDoorQ8
namespace Go.Proofs.YtcmhaihoeecjoaaGreatDoor
open Go.RowKit
/-- The message that stands in a file so. -/
def decD (s : List UInt8) : Option (List UInt8) := if s.getLast? = some 10 ∧ anySep s = false then some (unqL s).dropLast else none
theorem decD_eq (t : List UInt8) : decR true t = decD (t ++ [10]) := by
  rw [decR_eq t.length t (Nat.le_refl _)]
  unfold decD
  cases h : anySep (t ++ [10]) <;> simp
theorem last_form' {s : List UInt8} (h : s.getLast? = some 10) : ∃ t, s = t ++ [10] := by
  rcases List.eq_nil_or_concat s with rfl | ⟨t, c, rfl⟩
  · simp at h
  · simp at h
    exact ⟨t, by rw [h, List.concat_eq_append]⟩
theorem at_ten (t : List UInt8) (i : Nat) (h : i < t.length) : (t ++ [10])[i]'(by simp; omega) = t[i] := List.getElem_append_left h
theorem drop_ten (t : List UInt8) (i : Nat) (h : i < t.length) : (t ++ [10]).drop i = t.drop i ++ 10 :: [] := by rw [List.drop_append_of_le_length (by omega)]
theorem dec_step (t : List UInt8) (i : Nat) (h : i < t.length) (b : Bool) (bs : List UInt8) (T : Option (List UInt8)) (hx : (decR b (t.drop i)).map (bs ++ ·) = T) :
    if b && sepB (t.drop i) then T = none else if b && quoB (t.drop i) then (decR (t[i] == 10) (t.drop (i + 1))).map (bs ++ ·) = T else (decR (t[i] == 10) (t.drop (i + 1))).map (bs ++ [t[i]] ++ ·) = T := by
  have hd := List.drop_eq_getElem_cons h
  rw [hd, decR, ← hd] at hx
  split
  · next h1 => rw [if_pos h1] at hx; exact hx.symm
  · next h1 =>
    rw [if_neg h1] at hx
    split
    · next h2 => rw [if_pos h2] at hx; exact hx
    · next h2 =>
      rw [if_neg h2] at hx
      rw [← hx]
      simp [Function.comp_def]
/-- What the document's Decode answers. -/
def decDT (s : List UInt8) : Value := match decD s with
  | some m => .tuple #[.string ⟨m.toArray⟩, .bool true]
  | none => .tuple #[.string ⟨#[]⟩, .bool false]
set_option maxRecDepth 20000 in
set_option maxHeartbeats 2000000 in
theorem rdecode_no (s : List UInt8) (w : World) (hs : s.length ≤ 1000000) (he : s.getLast? ≠ some 10) :
    Calls Tryz.prog 18 #[.string ⟨s.toArray⟩] w fun e w' => e = .returned (.tuple #[.string ⟨#[]⟩, .bool false]) ∧ w' = w := by
  by_cases h0 : s = []
  · subst h0
    go_enter Tryz.func18, Tryz.ntmps18
    go_wp2
    go_ret2
    exact ⟨rfl, rfl⟩
  · have hpos := List.length_pos_iff.2 h0
    obtain ⟨k, hk⟩ : ∃ k, s.length = k + 1 := ⟨s.length - 1, by omega⟩
    have hkl : k < s.length := by omega
    have hb0 : ((s.length : Int) == 0) = false := by simp; omega
    have hj : ((s.length : Int) - 1) = (k : Int) := by omega
    have hne : s[k] ≠ 10 := by
      intro e
      apply he
      rw [List.getLast?_eq_getElem?, hk, show k + 1 - 1 = k from rfl, List.getElem?_eq_getElem hkl, e]
    have hbyte : ((⟨s.toArray⟩ : ByteArray)[k]'(by rwa [size_lit])) = s[k] := rfl
    have hcc : ((((⟨s.toArray⟩ : ByteArray)[k]'(by rwa [size_lit])).toNat : Int) == 10) = false := by
      rw [hbyte, beq_eq_false_iff_ne]
      intro h
      exact hne (UInt8.toNat_inj.1 (show s[k].toNat = 10 by omega))
    clear hbyte hne h0 he
    have HK := hide hk
    clear hk
    go_enter Tryz.func18, Tryz.ntmps18
    go_wp2
    go_ret2
    exact ⟨rfl, rfl⟩
set_option maxRecDepth 20000 in
set_option maxHeartbeats 2000000 in
theorem rdecode_yes (s t : List UInt8) (w : World) (hs : s.length ≤ 1000000) (hst : s = t ++ [10]) :
    Calls Tryz.prog 18 #[.string ⟨s.toArray⟩] w fun e w' => e = .returned (decDT s) ∧ Below w.heap.size w w' := by
  obtain ⟨i0, hi, hz0, hz1, hz2⟩ := info_parts byteInfo
  have hlen : s.length = t.length + 1 := by rw [hst]; simp
  have hkl : t.length < s.length := by omega
  have hb0 : ((s.length : Int) == 0) = false := beq_eq_false_iff_ne.2 (by omega)
  have hj : ((s.length : Int) - 1) = (t.length : Int) := by omega
  have hbyte : ((⟨s.toArray⟩ : ByteArray)[t.length]'(by rwa [size_lit])) = s[t.length] := rfl
  have hcc : ((((⟨s.toArray⟩ : ByteArray)[t.length]'(by rwa [size_lit])).toNat : Int) == 10) = true := by
    have : s[t.length] = 10 := by subst hst; simp
    rw [hbyte, this]
    rfl
  have hcn : ((((⟨s.toArray⟩ : ByteArray)[t.length]'(by rwa [size_lit])).toNat : Int) != 10) = false := by
    rw [bne, hcc]
    rfl
  have HDX : Hid (decR true t = decD s) := by rw [hst]; exact decD_eq t
  have HST := hide hst
  have HLN := hide hlen
  clear hst hlen hbyte
  go_enter Tryz.func18, Tryz.ntmps18
  go_wp2
  go_loopw [4, 5] (fun v n wr => ∃ (i : Nat) (bs : List UInt8), n = .int .i64 i ∧ i ≤ t.length ∧ bs.length ≤ i ∧ Hid (Byts w wr v bs) ∧ Hid ((decR (beg s i) (t.drop i)).map (bs ++ ·) = decD s)) (fun _ n _ => t.length - (intOf n).toNat)
  case atStart =>
    refine ⟨0, [], rfl, by omega, by simp, ⟨(Below.refl _ _).alloc (Nat.le_refl _) _, some w.heap.size, ?_, fun g hg => by cases hg; exact Nat.le_refl _⟩, ?_⟩
    · exact Rw.new (e := 5) [] [] (Blk.new w #[] 5) rfl rfl (Nat.le_refl _) (by simp [maxLen])
    · show _ = _
      rw [← HDX.out]
      simp [beg]
  case round =>
    obtain ⟨i, bs, rfl, hil, hbl, HT, HX⟩ := hrel
    obtain ⟨hb, G, hr, hg⟩ := HT.out
    obtain ⟨A, c, rfl⟩ := hr.form
    replace hb := hide hb
    replace hr := hide hr
    replace hg := hide hg
    by_cases hlt : i < t.length
    · have his : i < s.length := by omega
      have hbyte2 : ((⟨s.toArray⟩ : ByteArray)[i]'(by rwa [size_lit])) = t[i] := by
        show s[i] = t[i]
        have := HST.out
        subst this
        exact at_ten t i hlt
      have HS0 := dec_step t i hlt _ bs _ HX.out
      have hbs : beg s (i + 1) = (t[i] == 10) := by
        rw [beg_succ s i his]
        congr 1
      have hsd : s.drop i = t.drop i ++ 10 :: [] := by rw [HST.out]; exact drop_ten t i hlt
      rw [← hbs] at HS0
      clear hbs
      cases hbg : beg s i with
      | false =>
        have HB := hide (begins_calls (by omega) hs hbg)
        rw [hbg] at HS0
        have HS : Hid ((decR (beg s (i + 1)) (t.drop (i + 1))).map (bs ++ [t[i]] ++ ·) = decD s) := by
          show _ = _
          simpa using HS0
        clear hbg HS0 hsd
        go_wp2_with (first
          | (go_at_call 27; refine (HB.out _).mono ?_; rintro e w' ⟨rfl, rfl⟩)
          | (at_builtin; refine wpList_append_rw rfl _ _ 56 56 rfl 5 i0 (.int .u8 0) 1 1 Tryz.underlying56 hi hz0 hz1 hz2 rfl rfl (hr.out.keep (S := fun _ => False) ((Mvs.refl _ _).alloc _) (fun _ _ c => c)) _ 1 _ rfl (src_byte _) (by simp only [maxLen]; omega) (by omega) ?_))
        intro v1 w1 G1 hr1 hm1 hg1
        have HT1 := hide (Byts.grow hb.out hg.out hr1 hm1 (by simpa using hg1))
        obtain ⟨A1, c1, rfl⟩ := hr1.form
        clear hr1 hm1 hg1 hr hb hg
        go_wp2
        go_roundw
        case rel => exact ⟨i + 1, _, by go_num, by omega, by simp; omega, HT1, HS⟩
        case measure => simp [intOf]; omega
      | true =>
        have HB := hide (begins_calls (by omega) hs hbg)
        rw [hbg] at HS0
        clear hbg
        obtain ⟨m, hm⟩ : ∃ m, marksN (s.drop i) = m := ⟨_, rfl⟩
        have HM := hide (marks_calls (by omega) hs hm)
        have hz := @marks_zero (s.drop i)
        have hp := @marks_pos (s.drop i)
        rw [hm, hsd, sep_mid] at hz
        rw [hm, hsd, quo_mid] at hp
        clear hm hsd
        by_cases hm0 : m = 0
        · have HN : Hid (decD s = none) := by
            rw [hz.1 hm0] at HS0
            show _ = _
            simpa using HS0
          have hmb : (m == 0) = true := by simp [hm0]
          clear hz hp hm0 HS0
          go_wp2_with (first
            | (go_at_call 27; refine (HB.out _).mono ?_; rintro e w' ⟨rfl, rfl⟩)
            | (go_at_call 28; refine (HM.out _).mono ?_; rintro e w' ⟨rfl, rfl⟩))
          go_ret2
          exact ⟨by unfold decDT; rw [HN.out]; rfl, hb.out⟩
        · have hmb : (m == 0) = false := by simpa using hm0
          have hsf : sepB (t.drop i) = false := by
            cases h : sepB (t.drop i) with
            | false => rfl
            | true => exact absurd (hz.2 h) hm0
          rw [hsf] at HS0
          by_cases hmp : 0 < m
          · have HS : Hid ((decR (beg s (i + 1)) (t.drop (i + 1))).map (bs ++ ·) = decD s) := by
              rw [hp.1 hmp] at HS0
              show _ = _
              simpa using HS0
            clear hz hp hm0 HS0 hsf
            go_wp2_with (first
              | (go_at_call 27; refine (HB.out _).mono ?_; rintro e w' ⟨rfl, rfl⟩)
              | (go_at_call 28; refine (HM.out _).mono ?_; rintro e w' ⟨rfl, rfl⟩))
            go_roundw
            case rel => exact ⟨i + 1, bs, by go_num, by omega, by omega, HT, HS⟩
            case measure => simp [intOf]; omega
          · have hqf : quoB (t.drop i) = false := by
              cases h : quoB (t.drop i) with
              | false => rfl
              | true => exact absurd (hp.2 h) hmp
            have HS : Hid ((decR (beg s (i + 1)) (t.drop (i + 1))).map (bs ++ [t[i]] ++ ·) = decD s) := by
              rw [hqf] at HS0
              show _ = _
              simpa using HS0
            clear hz hp hm0 HS0 hsf hqf
            go_wp2_with (first
              | (go_at_call 27; refine (HB.out _).mono ?_; rintro e w' ⟨rfl, rfl⟩)
              | (go_at_call 28; refine (HM.out _).mono ?_; rintro e w' ⟨rfl, rfl⟩)
              | (at_builtin; refine wpList_append_rw rfl _ _ 56 56 rfl 5 i0 (.int .u8 0) 1 1 Tryz.underlying56 hi hz0 hz1 hz2 rfl rfl (hr.out.keep (S := fun _ => False) ((Mvs.refl _ _).alloc _) (fun _ _ c => c)) _ 1 _ rfl (src_byte _) (by simp only [maxLen]; omega) (by omega) ?_))
            intro v1 w1 G1 hr1 hm1 hg1
            have HT1 := hide (Byts.grow hb.out hg.out hr1 hm1 (by simpa using hg1))
            obtain ⟨A1, c1, rfl⟩ := hr1.form
            clear hr1 hm1 hg1 hr hb hg
            go_wp2
            go_roundw
            case rel => exact ⟨i + 1, _, by go_num, by omega, by simp; omega, HT1, HS⟩
            case measure => simp [intOf]; omega
    · have hE : i = t.length := by omega
      have HE : Hid (decD s = some bs) := by
        show _ = _
        have hx := HX.out
        rw [hE, List.drop_length] at hx
        rw [← hx]
        simp [decR]
      have hcv := convert_rw hr.out
      clear hE
      go_wp2
      go_ret2
      exact ⟨by unfold decDT; rw [HE.out]; rfl, hb.out⟩
theorem rdecode_any (s : List UInt8) (w : World) (hs : s.length ≤ 1000000) :
    Calls Tryz.prog 18 #[.string ⟨s.toArray⟩] w fun e w' => e = .returned (decDT s) ∧ Below w.heap.size w w' := by
  by_cases he : s.getLast? = some 10
  · obtain ⟨t, ht⟩ := last_form' he
    exact rdecode_yes s t w hs ht
  · refine (rdecode_no s w hs he).mono ?_
    rintro e w' ⟨rfl, rfl⟩
    refine ⟨?_, Below.refl _ _⟩
    unfold decDT decD
    rw [if_neg (fun h => he h.1)]
end Go.Proofs.YtcmhaihoeecjoaaGreatDoor
