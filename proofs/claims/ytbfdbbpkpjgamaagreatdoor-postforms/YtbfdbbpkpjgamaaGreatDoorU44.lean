/- The document's Marks, begins. -/
/- The document's Encode and Decode. -/
/- The document's name and Bytes of layer 15. -/
import Derived.Test.YtbfdbbpkpjgamaaGreatDoorU20
import Derived.Test.YtbfdbbpkpjgamaaGreatDoorU01
import Derived.Lib.SlBytesConst
import Derived.Shelf.Bytes.SlSmallAll
import Derived.Test.YtbfdbbpkpjgamaaGreatDoorU41
import Derived.Test.YtbfdbbpkpjgamaaGreatDoorU06
import Derived.Test.YtbfdbbpkpjgamaaGreatDoorU43
section
namespace Go.Proofs.YtbfdbbpkpjgamaaGreatDoor
open Go.RowKit
theorem marks_rep : ∀ (k : Nat) (r : List UInt8), r.head? ≠ some 62 → marksN (List.replicate k 62 ++ r) = if sepB r then (k : Int) else -1
  | 0, r, h => by
    cases r with
    | nil => simp [marksN, sep_nil]
    | cons c r =>
      have : c ≠ 62 := by simpa using h
      simp [marksN, this]
  | k + 1, r, h => by
    have ih := marks_rep k r h
    show marksN (62 :: (List.replicate k 62 ++ r)) = _
    unfold marksN
    rw [if_pos rfl]
    cases hs : sepB r with
    | true =>
      rw [hs] at ih
      have : nm (List.replicate k 62 ++ r) = true := marks_nonneg.1 (by rw [ih]; simp)
      rw [if_pos this, ih]
      simp
    | false =>
      rw [hs] at ih
      have : nm (List.replicate k 62 ++ r) = false := by
        cases hn : nm (List.replicate k 62 ++ r) with
        | false => rfl
        | true => have := marks_nonneg.2 hn; rw [ih] at this; simp at this
      rw [this]
      simp
theorem sep_take (r : List UInt8) : sepB r = decide (r.take 5 = fromS) := by
  rw [Bool.eq_iff_iff, decide_eq_true_iff]
  unfold sepB
  rw [List.isPrefixOf_iff_prefix, List.prefix_iff_eq_take]
  constructor
  · intro h; exact h.symm
  · intro h; exact h.symm
theorem sep_short {r : List UInt8} (h : r.length < 5) : sepB r = false := by
  rw [sep_take, decide_eq_false_iff_not]
  intro he
  have := congrArg List.length he
  rw [List.length_take] at this
  simp [fromS] at this
  omega
theorem getElem_lit (l : List UInt8) (i : Nat) (h : i < (⟨l.toArray⟩ : ByteArray).size) : (⟨l.toArray⟩ : ByteArray)[i] = l[i]'(by simpa [ByteArray.size] using h) := rfl
theorem slice5 (s : List UInt8) (j : Nat) (h : j + 5 ≤ s.length) (w : World) : (Instr.slice 9 (.string ⟨s.toArray⟩) (some (.int .i64 j)) (some (.int .i64 ((j : Int) + 5))) none).run Tryz.prog w = .ok (.string ⟨((s.drop j).take 5).toArray⟩) w := by
  have := run_slice_string (P := Tryz.prog) w 9 ⟨s.toArray⟩ .i64 .i64 (j : Int) ((j : Int) + 5) Tryz.underlying9 (by omega) (by omega) (by rw [size_lit]; omega)
  rw [this]
  have e1 := ext_mid s j (j + 5)
  rw [show j + 5 - j = 5 from by omega] at e1
  rw [← e1]
  rfl
set_option maxRecDepth 20000 in
set_option maxHeartbeats 1000000 in
theorem marks_any (s : List UInt8) (a : Nat) (w : World) (ha : a ≤ s.length) (hs : s.length ≤ 1000000) :
    Calls Tryz.prog 53 #[.string ⟨s.toArray⟩, .int .i64 a] w fun e w' => e = .returned (.int .i64 (marksN (s.drop a))) ∧ w' = w := by
  go_enter Tryz.func53, Tryz.ntmps53
  go_wp2
  go_loop [5] (fun n => ∃ k : Nat, n = .int .i64 k ∧ a + k ≤ s.length ∧ Hid (s.drop a = List.replicate k 62 ++ s.drop (a + k))) (fun n => s.length - (intOf n).toNat)
  case atStart => exact ⟨0, rfl, ha, by show _ = _; simp⟩
  case round =>
    obtain ⟨k, rfl, hk, HD⟩ := hrel
    obtain ⟨j, hja⟩ : ∃ j, a + k = j := ⟨_, rfl⟩
    have hj : (a : Int) + (k : Int) = (j : Int) := by omega
    rw [hja] at HD
    by_cases hlt : j < s.length
    · have hbyte : ((⟨s.toArray⟩ : ByteArray)[j]'(by rwa [size_lit])) = s[j] := rfl
      by_cases hc : s[j] = 62
      · have hcc : ((((⟨s.toArray⟩ : ByteArray)[j]'(by rwa [size_lit])).toNat : Int) == 62) = true := by rw [hbyte, hc]; rfl
        have HD2 : Hid (s.drop a = List.replicate (k + 1) 62 ++ s.drop (a + (k + 1))) := by
          show _ = _
          rw [HD.out, List.drop_eq_getElem_cons hlt, hc, List.replicate_succ', List.append_assoc, ← Nat.add_assoc, hja]
          rfl
        have hk2 : a + (k + 1) ≤ s.length := by omega
        clear hbyte hc hja
        go_wp2
        go_round
        case rel => exact ⟨k + 1, by go_num, hk2, HD2⟩
        case measure => simp [intOf]; omega
      · have hcc : ((((⟨s.toArray⟩ : ByteArray)[j]'(by rwa [size_lit])).toNat : Int) == 62) = false := by
          rw [hbyte, beq_eq_false_iff_ne]
          intro h
          exact hc (UInt8.toNat_inj.1 (show s[j].toNat = 62 by omega))
        have hh : (s.drop j).head? ≠ some 62 := by
          rw [List.drop_eq_getElem_cons hlt, List.head?_cons]
          intro e
          exact hc (Option.some.inj e)
        have HM := hide (marks_rep k _ hh)
        rw [← HD.out] at HM
        clear hbyte hc hh
        by_cases h5 : s.length - a - k < 5
        · have h5' : ((s.length : Int) - a - k < 5) := by omega
          have HF : Hid (marksN (s.drop a) = -1) := by
            show _ = _
            rw [HM.out, sep_short (by rw [List.length_drop]; omega)]
            rfl
          clear hja h5
          go_wp2
          go_ret
          exact ⟨by rw [HF.out]; rfl, rfl⟩
        · have h5' : ¬ ((s.length : Int) - a - k < 5) := by omega
          have hsl := slice5 s j (by omega)
          have HT := hide (sep_take (s.drop j))
          generalize (s.drop j).take 5 = x at hsl HT
          clear hja h5
          by_cases hx : x = fromS
          · have HF : Hid (marksN (s.drop a) = k) := by
              show _ = _
              rw [HM.out, HT.out, hx]
              rfl
            have hxb : (x == [70, 114, 111, 109, 32]) = true := by rw [hx]; rfl
            clear hx
            go_wp2
            go_ret
            exact ⟨by rw [HF.out]; rfl, rfl⟩
          · have HF : Hid (marksN (s.drop a) = -1) := by
              show _ = _
              rw [HM.out, HT.out, decide_eq_false hx]
              rfl
            have hxb : (x == [70, 114, 111, 109, 32]) = false := by
              rw [beq_eq_false_iff_ne]
              exact hx
            clear hx
            go_wp2
            go_ret
            exact ⟨by rw [HF.out]; rfl, rfl⟩
    · have h5' : ((s.length : Int) - a - k < 5) := by omega
      have HF : Hid (marksN (s.drop a) = -1) := by
        show _ = _
        rw [HD.out, List.drop_of_length_le (by omega), marks_rep k [] (by simp)]
        rfl
      clear hja
      go_wp2
      go_ret
      exact ⟨by rw [HF.out]; rfl, rfl⟩
/-- Does a line begin here? -/
def beg (s : List UInt8) (i : Nat) : Bool := i == 0 || s[i - 1]? == some 10
set_option maxHeartbeats 1000000 in
theorem begins_any (s : List UInt8) (i : Nat) (w : World) (hi : i ≤ s.length) (hs : s.length ≤ 1000000) :
    Calls Tryz.prog 52 #[.string ⟨s.toArray⟩, .int .i64 i] w fun e w' => e = .returned (.bool (beg s i)) ∧ w' = w := by
  by_cases h0 : i = 0
  · subst h0
    go_enter Tryz.func52, Tryz.ntmps52
    go_wp2
    go_ret
    exact ⟨rfl, rfl⟩
  · obtain ⟨k, rfl⟩ : ∃ k, i = k + 1 := ⟨i - 1, by omega⟩
    have hb0 : (((k + 1 : Nat) : Int) == 0) = false := by simp; omega
    have hk : k < s.length := by omega
    have hj : ((k + 1 : Nat) : Int) - 1 = (k : Int) := by omega
    have hbyte : ((⟨s.toArray⟩ : ByteArray)[k]'(by rwa [size_lit])) = s[k] := rfl
    have HB : Hid (beg s (k + 1) = (((s[k].toNat : Int) == 10))) := by
      show _ = _
      unfold beg
      rw [show k + 1 - 1 = k from rfl, List.getElem?_eq_getElem hk, Bool.eq_iff_iff]
      simp only [beq_iff_eq, Option.some.injEq, Bool.or_eq_true]
      constructor
      · rintro (h | h)
        · omega
        · rw [h]; rfl
      · intro h
        exact .inr (UInt8.toNat_inj.1 (show s[k].toNat = 10 by omega))
    go_enter Tryz.func52, Tryz.ntmps52
    go_wp2
    go_ret
    exact ⟨by rw [HB.out]; rfl, rfl⟩
end Go.Proofs.YtbfdbbpkpjgamaaGreatDoor

end
section
namespace Go.Proofs.YtbfdbbpkpjgamaaGreatDoor
open Go.RowKit
def bv (b : UInt8) : Value := .int .u8 (b.toNat : Int)
theorem bv_oneCell (ds : List UInt8) : ∀ u ∈ ds.map bv, u.oneCell' = true := by
  intro u hu
  obtain ⟨b, _, rfl⟩ := List.mem_map.1 hu
  rfl
theorem byteInfo : (Tryz.prog.info? 5).map (fun i => (i.zero, i.size, i.bytes)) = some (some (.int .u8 0), 1, 1) := by kernel_rfl
theorem info_parts {i : Option TypeInfo} {z : Value} {n m : Nat} (h : i.map (fun i => (i.zero, i.size, i.bytes)) = some (some z, n, m)) : ∃ i0, i = some i0 ∧ i0.zero = some z ∧ i0.size = n ∧ i0.bytes = m := by
  obtain ⟨i0, hi, h⟩ := Option.map_eq_some_iff.1 h
  simp only [Prod.mk.injEq] at h
  exact ⟨i0, hi, h⟩
theorem src_byte {w : World} (x : UInt8) {c : Nat} : Src Tryz.prog 1 101 (.slice (some ⟨w.heap.size, 0, none⟩) 1 c) 1 [bv x] (w.alloc (.cells #[.int .u8 (x.toNat : Int)] 5)) := by
  refine Src.ofSlice _ Tryz.underlying101 ⟨w.heap.size, 0, none⟩ 1 c [bv x] (by simp) (fun j u hu => ?_) (bv_oneCell [x])
  have hj := (List.getElem?_eq_some_iff.1 hu).1
  obtain rfl : j = 0 := by simpa using hj
  rw [Go.WideShapes.add_plain, Nat.zero_add, (Blk.new w _ _).cell]
  simp at hu
  rw [← hu]
  rfl
theorem convert_rw {w : World} {v : Value} {bs : List UInt8} {G : Option Nat} (h : Rw w 1 v bs.length (bs.map bv) G) : (convert 101 9 v).run Tryz.prog w = .ok (.string ⟨bs.toArray⟩) w := by
  rcases h.2 with ⟨rfl, h0, _⟩ | ⟨g, o, cap, rfl, rfl, h1, h2, h3, h4, h5⟩
  · have : bs = [] := List.length_eq_zero_iff.1 h0
    subst this
    exact run_convert_bytes_zero w 101 5 Tryz.underlying101 Tryz.underlying5 none 0 9 Tryz.underlying9
  · exact run_convert_bytes_back (P := Tryz.prog) w 101 9 5 ⟨g, o, none⟩ cap bs Tryz.underlying101 Tryz.underlying5 Tryz.underlying9 (fun j hj => by
      rw [Go.WideShapes.add_plain]
      have := h4 j (bv bs[j]) (by simp [List.getElem?_eq_getElem hj])
      exact this)
theorem below_mvs' {B : Nat} {w x y : World} {S : Nat → Prop} (h : Below B w x) (hm : Mvs S x y) (hs : ∀ k, k < B → ¬ S k) (hB : B ≤ w.heap.size) : Below B w y := h.trans (hm.below hs (Nat.le_trans hB h.size))
/-- The bytes bs, in a row of this call's own. -/
def Byts (w wr : World) (v : Value) (bs : List UInt8) : Prop := Below w.heap.size w wr ∧ ∃ G, Rw wr 1 v bs.length (bs.map bv) G ∧ ∀ g, G = some g → w.heap.size ≤ g
theorem Byts.grow {w wr w1 : World} {v1 : Value} {bs : List UInt8} {x : UInt8} {G G1 : Option Nat} {o : Obj} (hb : Below w.heap.size w wr) (hg : ∀ g, G = some g → w.heap.size ≤ g)
    (hr : Rw w1 1 v1 (bs.length + 1) (bs.map bv ++ [bv x]) G1) (hm : Mvs (fun k => some k = G) (wr.alloc o) w1) (hG : G1 = G ∨ G1 = some (wr.alloc o).heap.size) : Byts w w1 v1 (bs ++ [x]) := by
  refine ⟨below_mvs' (hb.alloc hb.size _) hm (fun k hk e => by have := hg k e.symm; omega) (Nat.le_refl _), G1, ?_, ?_⟩
  · rw [List.length_append, List.map_append]
    exact hr
  · rintro g rfl
    have := hb.size
    rcases hG with h | h
    · exact hg g h.symm
    · cases h
      simp
      omega
theorem beg_succ (s : List UInt8) (i : Nat) (h : i < s.length) : beg s (i + 1) = (s[i] == 10) := by
  unfold beg
  rw [show i + 1 - 1 = i from rfl, List.getElem?_eq_getElem h]
  simp
theorem marks_calls {s : List UInt8} {i : Nat} {m : Int} (hi : i ≤ s.length) (hs : s.length ≤ 1000000) (hm : marksN (s.drop i) = m) (w : World) :
    Calls Tryz.prog 53 #[.string ⟨s.toArray⟩, .int .i64 i] w fun e w' => e = .returned (.int .i64 m) ∧ w' = w := by
  subst hm
  exact marks_any s i w hi hs
theorem begins_calls {s : List UInt8} {i : Nat} {b : Bool} (hi : i ≤ s.length) (hs : s.length ≤ 1000000) (hb : beg s i = b) (w : World) :
    Calls Tryz.prog 52 #[.string ⟨s.toArray⟩, .int .i64 i] w fun e w' => e = .returned (.bool b) ∧ w' = w := by
  subst hb
  exact begins_any s i w hi hs
theorem encR_step (s : List UInt8) (i : Nat) (h : i < s.length) (bs t : List UInt8) (hx : bs ++ encR (beg s i) (s.drop i) = t) :
    (if beg s i && nm (s.drop i) then bs ++ [62] else bs) ++ [s[i]] ++ encR (beg s (i + 1)) (s.drop (i + 1)) = t := by
  have hd := List.drop_eq_getElem_cons h
  rw [← hx, beg_succ s i h]
  conv => rhs; rw [hd]
  rw [encR, ← hd]
  split <;> simp
set_option maxRecDepth 20000 in
set_option maxHeartbeats 2000000 in
theorem rencode_any (s : List UInt8) (w : World) (hs : s.length ≤ 1000000) :
    Calls Tryz.prog 37 #[.string ⟨s.toArray⟩] w fun e w' => e = .returned (.string ⟨(encL s).toArray⟩) ∧ Below w.heap.size w w' := by
  obtain ⟨i0, hi, hz0, hz1, hz2⟩ := info_parts byteInfo
  go_enter Tryz.func37, Tryz.ntmps37
  go_wp2
  go_loopw [3, 4] (fun v n wr => ∃ (i : Nat) (bs : List UInt8), n = .int .i64 i ∧ i ≤ s.length ∧ bs.length ≤ 2 * i ∧ Hid (Byts w wr v bs) ∧ Hid (bs ++ encR (beg s i) (s.drop i) = encR true s)) (fun _ n _ => s.length - (intOf n).toNat)
  case atStart =>
    refine ⟨0, [], rfl, by omega, by simp, ⟨(Below.refl _ _).alloc (Nat.le_refl _) _, some w.heap.size, ?_, fun g hg => by cases hg; exact Nat.le_refl _⟩, ?_⟩
    · exact Rw.new (e := 5) [] [] (Blk.new w #[] 5) rfl rfl (Nat.le_refl _) (by simp [maxLen])
    · show _ = _
      rfl
  case round =>
    obtain ⟨i, bs, rfl, hil, hbl, HT, HX⟩ := hrel
    obtain ⟨hb, G, hr, hg⟩ := HT.out
    obtain ⟨A, c, rfl⟩ := hr.form
    replace hb := hide hb
    replace hr := hide hr
    replace hg := hide hg
    by_cases hlt : i < s.length
    · have hbyte : ((⟨s.toArray⟩ : ByteArray)[i]'(by rwa [size_lit])) = s[i] := rfl
      have HS := hide (encR_step s i hlt bs _ HX.out)
      cases hbg : beg s i with
      | false =>
        have HB := hide (begins_calls hil hs hbg)
        rw [hbg] at HS
        clear hbg
        go_wp2_with (first
          | (go_at_call 52; refine (HB.out _).mono ?_; rintro e w' ⟨rfl, rfl⟩)
          | (at_builtin; refine wpList_append_rw rfl _ _ 101 101 rfl 5 i0 (.int .u8 0) 1 1 Tryz.underlying101 hi hz0 hz1 hz2 rfl rfl (hr.out.keep (S := fun _ => False) ((Mvs.refl _ _).alloc _) (fun _ _ c => c)) _ 1 _ rfl (src_byte _) (by simp only [maxLen]; omega) (by omega) ?_))
        intro v1 w1 G1 hr1 hm1 hg1
        have HT1 := hide (Byts.grow hb.out hg.out hr1 hm1 (by simpa using hg1))
        obtain ⟨A1, c1, rfl⟩ := hr1.form
        clear hr1 hm1 hg1 hr hb hg
        go_wp2
        go_roundw
        case rel => exact ⟨i + 1, _, by go_num, by omega, by simp; omega, HT1, HS⟩
        case measure => simp [intOf]; omega
      | true =>
        have HB := hide (begins_calls hil hs hbg)
        rw [hbg] at HS
        clear hbg
        cases hn : nm (s.drop i) with
        | false =>
          have HM := hide (marks_calls hil hs (marks_no hn))
          rw [hn] at HS
          clear hn
          go_wp2_with (first
            | (go_at_call 52; refine (HB.out _).mono ?_; rintro e w' ⟨rfl, rfl⟩)
            | (go_at_call 53; refine (HM.out _).mono ?_; rintro e w' ⟨rfl, rfl⟩)
            | (at_builtin; refine wpList_append_rw rfl _ _ 101 101 rfl 5 i0 (.int .u8 0) 1 1 Tryz.underlying101 hi hz0 hz1 hz2 rfl rfl (hr.out.keep (S := fun _ => False) ((Mvs.refl _ _).alloc _) (fun _ _ c => c)) _ 1 _ rfl (src_byte _) (by simp only [maxLen]; omega) (by omega) ?_))
          intro v1 w1 G1 hr1 hm1 hg1
          have HT1 := hide (Byts.grow hb.out hg.out hr1 hm1 (by simpa using hg1))
          obtain ⟨A1, c1, rfl⟩ := hr1.form
          clear hr1 hm1 hg1 hr hb hg
          go_wp2
          go_roundw
          case rel => exact ⟨i + 1, _, by go_num, by omega, by simp; omega, HT1, HS⟩
          case measure => simp [intOf]; omega
        | true =>
          have h0 := marks_yes hn
          obtain ⟨m, hm⟩ : ∃ m, marksN (s.drop i) = m := ⟨_, rfl⟩
          rw [hm] at h0
          have HM := hide (marks_calls hil hs hm)
          rw [hn] at HS
          clear hn hm
          go_wp2_with (first
            | (go_at_call 52; refine (HB.out _).mono ?_; rintro e w' ⟨rfl, rfl⟩)
            | (go_at_call 53; refine (HM.out _).mono ?_; rintro e w' ⟨rfl, rfl⟩)
            | (at_builtin; refine wpList_append_rw rfl _ _ 101 101 rfl 5 i0 (.int .u8 0) 1 1 Tryz.underlying101 hi hz0 hz1 hz2 rfl rfl (hr.out.keep (S := fun _ => False) ((Mvs.refl _ _).alloc _) (fun _ _ c => c)) _ 1 _ rfl (src_byte 62) (by simp only [maxLen]; omega) (by omega) ?_))
          intro v1 w1 G1 hr1 hm1 hg1
          have HT1 := hide (Byts.grow hb.out hg.out hr1 hm1 (by simpa using hg1))
          obtain ⟨A1, c1, rfl⟩ := hr1.form
          clear hr1 hm1 hg1 hr hb hg
          obtain ⟨bs2, hbs2⟩ : ∃ bs2, bs ++ [62] = bs2 := ⟨_, rfl⟩
          have hl2 : bs.length + 1 = bs2.length := by rw [← hbs2]; simp
          rw [hl2, hbs2] at HT1
          rw [hl2]
          replace HS : Hid (bs2 ++ [s[i]] ++ encR (beg s (i + 1)) (s.drop (i + 1)) = encR true s) := by
            rw [← hbs2]
            exact HS.out
          have hl3 : bs2.length ≤ 2 * i + 1 := by omega
          clear hbs2 hl2
          obtain ⟨hb, G, hr, hg⟩ := HT1.out
          replace hb := hide hb
          replace hr := hide hr
          replace hg := hide hg
          go_wp2_with (first
            | (at_builtin; refine wpList_append_rw rfl _ _ 101 101 rfl 5 i0 (.int .u8 0) 1 1 Tryz.underlying101 hi hz0 hz1 hz2 rfl rfl (hr.out.keep (S := fun _ => False) ((Mvs.refl _ _).alloc _) (fun _ _ c => c)) _ 1 _ rfl (src_byte _) (by simp only [maxLen]; omega) (by omega) ?_))
          intro v2 w2 G1 hr1 hm1 hg1
          have HT1 := hide (Byts.grow hb.out hg.out hr1 hm1 (by simpa using hg1))
          obtain ⟨A2, c2, rfl⟩ := hr1.form
          clear hr1 hm1 hg1 hr hb hg
          go_wp2
          go_roundw
          case rel => exact ⟨i + 1, _, by go_num, by omega, by simp; omega, HT1, HS⟩
          case measure => simp [intOf]; omega
    · have hE : i = s.length := by omega
      have HE : Hid (bs ++ [10] = encL s) := by
        show _ = _
        have hx := HX.out
        rw [hE, List.drop_length, encR, List.append_nil] at hx
        rw [hx, encR_eq s.length s (Nat.le_refl _)]
      clear hE
      go_wp2_with (first
        | (at_builtin; refine wpList_append_rw rfl _ _ 101 101 rfl 5 i0 (.int .u8 0) 1 1 Tryz.underlying101 hi hz0 hz1 hz2 rfl rfl (hr.out.keep (S := fun _ => False) ((Mvs.refl _ _).alloc _) (fun _ _ c => c)) _ 1 _ rfl (src_byte 10) (by simp only [maxLen]; omega) (by omega) ?_))
      intro v1 w1 G1 hr1 hm1 hg1
      have HT1 := hide (Byts.grow hb.out hg.out hr1 hm1 (by simpa using hg1))
      obtain ⟨A1, c1, rfl⟩ := hr1.form
      obtain ⟨hb1, G2, hr2, hg2⟩ := HT1.out
      have hcv := convert_rw hr2
      have HB1 := hide hb1
      clear hr1 hm1 hg1 hr hb hg hb1 hr2 hg2
      go_wp2
      go_ret
      exact ⟨by rw [← HE.out]; rfl, HB1.out⟩
end Go.Proofs.YtbfdbbpkpjgamaaGreatDoor

end
section
set_option linter.unusedVariables false
set_option linter.unusedSimpArgs false
namespace Go.Proofs.YtbfdbbpkpjgamaaGreatDoor
open Go.RowKit Go.Shelf
set_option maxRecDepth 20000 in
set_option maxHeartbeats 1000000 in
theorem rname15_any (s : List UInt8) (w : World) (hs : s.length ≤ 1000000) : Calls Tryz.prog 25 #[.string ⟨s.toArray⟩] w fun e w' => e = .returned (.bool (poName s)) ∧ Below w.heap.size w w' := by
  have H := hide (rname_any s w hs)
  obtain ⟨T, HT⟩ : ∃ T, Hid (T = poName s) := ⟨_, hide rfl⟩
  rw [← HT.out]
  cases ho : boxO s with
  | none =>
    rw [ho] at H
    change Hid (Calls _ _ _ _ fun e w' => e = .returned (.tuple #[.string ⟨#[]⟩, .bool false]) ∧ _) at H
    have HF : Hid (T = false) := by show _ = _; rw [HT.out]; unfold poName; rw [ho]; simp
    clear ho
    go_enter Tryz.func25, Tryz.ntmps25
    go_wp2_with (go_at_call 45; refine H.out.mono ?_; rintro e w1 ⟨rfl, hb1⟩; replace hb1 := hide hb1)
    exact bodyPost_ret (v := .bool false) (by simp [results, Tryz.results25, go_sem]) rfl ⟨by rw [HF.out], hb1.out⟩
  | some n =>
    rw [ho] at H
    change Hid (Calls _ _ _ _ fun e w' => e = .returned (.tuple #[.string ⟨n.toArray⟩, .bool true]) ∧ _) at H
    have HF : Hid (T = decide (n = s)) := by show _ = _; rw [HT.out]; unfold poName; rw [ho]; simp
    clear ho
    by_cases hn : n = s
    · subst hn
      have HF' : Hid (T = true) := by show _ = _; rw [HF.out]; simp
      clear HF
      go_enter Tryz.func25, Tryz.ntmps25
      go_wp2_with (go_at_call 45; refine H.out.mono ?_; rintro e w1 ⟨rfl, hb1⟩; replace hb1 := hide hb1)
      exact bodyPost_ret (v := .bool true) (by simp [results, Tryz.results25, go_sem]) rfl ⟨by rw [HF'.out], hb1.out⟩
    · have hb : (n == s) = false := beq_eq_false_iff_ne.2 hn
      have HF' : Hid (T = false) := by show _ = _; rw [HF.out]; simp [hn]
      clear HF
      go_enter Tryz.func25, Tryz.ntmps25
      go_wp2_with (go_at_call 45; refine H.out.mono ?_; rintro e w1 ⟨rfl, hb1⟩; replace hb1 := hide hb1)
      exact bodyPost_ret (v := .bool false) (by simp [results, Tryz.results25, go_sem, hn]) rfl ⟨by rw [HF'.out], hb1.out⟩
theorem poEnc_len (s : List UInt8) : (encL s).length ≤ 2 * s.length + 2 := by
  rw [enc_len]
  have h1 := List.length_filter_le nm (splitS s)
  have h2 := splitS_len s
  omega
theorem wrap_po {x : Int} (h0 : 0 ≤ x) (h1 : x ≤ 4000000000000000) : IntKind.i64.wrap x = x := by
  rw [IntKind.wrap_i64]
  omega
def poSum (ms : List Msg) : Nat := (ms.map fun m => 44 + (encL m.body).length).sum
theorem poSum_next {ms : List Msg} {k : Nat} (hk : k < ms.length) : poSum (ms.take (k + 1)) = poSum (ms.take k) + (44 + (encL ms[k].body).length) := by
  unfold poSum
  rw [List.take_succ_eq_append_getElem hk, List.map_append, List.sum_append]
  simp
theorem poSum_le {ms : List Msg} (h : ∀ m ∈ ms, m.body.length ≤ 1000000) (k : Nat) (hk : k ≤ ms.length) : poSum (ms.take k) ≤ k * 2000100 := by
  induction k with
  | zero => simp [poSum]
  | succ k ih =>
    have hk' : k < ms.length := by omega
    rw [poSum_next hk']
    have h1 := ih (by omega)
    have h2 := poEnc_len ms[k].body
    have h3 := h ms[k] (List.getElem_mem hk')
    omega
set_option maxRecDepth 20000 in
set_option maxHeartbeats 2000000 in
theorem rbytes15_any {w : World} {v : Value} {b : Bx} (h : BxV w v b) (hl : b.msgs.length ≤ 1000000) (hbd : ∀ m ∈ b.msgs, m.body.length ≤ 1000000) :
    Calls Tryz.prog 17 #[v] w fun e w' => e = .returned (.int .i64 ((poBytes b : Nat) : Int)) ∧ Below w.heap.size w w' := by
  obtain ⟨mv, rfl, hm⟩ := h
  obtain ⟨A, c, rfl⟩ := hm.form
  have HV : Hid (poBytes b = poSum b.msgs) := rfl
  obtain ⟨u, n, va, nx, ms⟩ := b
  dsimp only at *
  generalize poBytes ⟨u, n, va, nx, ms⟩ = O at *
  have HX := hide hm
  have HBD := hide hbd
  clear hm hbd
  have HK := hide (Blk.new w #[.int .i64 u, .string ⟨n.toArray⟩, .int .i64 va, .int .i64 nx, .slice A ms.length c] 39)
  have HB := hide ((Below.refl w.heap.size w).alloc (Nat.le_refl _) (.cells #[.int .i64 u, .string ⟨n.toArray⟩, .int .i64 va, .int .i64 nx, .slice A ms.length c] 39))
  go_enter Tryz.func17, Tryz.ntmps17
  go_wp2
  obtain ⟨W0, HW0⟩ : ∃ W0, Hid (w.alloc (.cells #[.int .i64 u, .string ⟨n.toArray⟩, .int .i64 va, .int .i64 nx, .slice A ms.length c] 39) = W0) := ⟨_, hide rfl⟩
  rw [HW0.out] at HB HK ⊢
  have HX0 := hide (HX.out.below stb_msg HB.out)
  clear HX HK
  go_loopw [3, 9] (fun v3 v9 wr => ∃ k : Nat, v9 = .int .i64 k ∧ k ≤ ms.length ∧ v3 = .int .i64 ((poSum (ms.take k) : Nat) : Int) ∧ Hid (Below W0.heap.size W0 wr)) (fun _ v9 _ => ms.length - (intOf v9).toNat)
  case atStart => exact ⟨0, rfl, Nat.zero_le _, rfl, Below.refl _ _⟩
  case round =>
    obtain ⟨k, rfl, hk, rfl, HBr⟩ := hrel
    by_cases hlt : k < ms.length
    · have hlt' : (k : Int) < ms.length := by omega
      obtain ⟨g, o, rfl, hg, q0, q1, q2, q3⟩ := (HX0.out.below stb_msg HBr.out).at hlt
      have q0' : wr.cell? ⟨g, o + k * 4, none⟩ = some (.int .i64 ms[k].uid) := q0
      have q1' : wr.cell? ⟨g, o + k * 4 + 1, none⟩ = some (.int .i64 ms[k].flags) := q1
      have q2' : wr.cell? ⟨g, o + k * 4 + 2, none⟩ = some (.int .i64 ms[k].date) := q2
      have q3' : wr.cell? ⟨g, o + k * 4 + 3, none⟩ = some (.string ⟨ms[k].body.toArray⟩) := q3
      have HN := hide (poSum_next hlt)
      have hp := poSum_le HBD.out k hk
      have hbl := HBD.out ms[k] (List.getElem_mem hlt)
      have hel := poEnc_len ms[k].body
      have HEn := hide (fun W => rencode_any ms[k].body W hbl)
      clear q0 q1 q2 q3
      generalize ms[k] = m at *
      obtain ⟨mu, mf, md, mb⟩ := m
      dsimp only at *
      have hsz := size_lit (encL mb)
      generalize poSum (ms.take k) = p at *
      generalize encL mb = e at *
      have w1 : IntKind.i64.wrap (44 + (e.length : Int)) = 44 + (e.length : Int) := wrap_po (by omega) (by omega)
      have w2 : IntKind.i64.wrap ((p : Int) + (44 + (e.length : Int))) = (p : Int) + (44 + (e.length : Int)) := wrap_po (by omega) (by omega)
      clear hp hbl hel
      go_wp2_with (go_at_call 37; refine (HEn.out _).mono ?_; rintro en wq ⟨rfl, hbq⟩
                   have HBq := hide (HBr.out.trans ((((Below.refl wr.heap.size wr).alloc (Nat.le_refl _) _).trans (hbq.mono (by simp))).mono HBr.out.size))
                   clear hbq)
      go_roundw
      case rel => exact ⟨k + 1, by go_num, by omega, by rw [HN.out]; push_cast; rfl, HBq.out⟩
      case measure => simp [intOf] <;> omega
    · obtain rfl : k = ms.length := by omega
      have HF : Hid (O = poSum (ms.take ms.length)) := by show _ = _; rw [HV.out, List.take_length]
      generalize poSum (ms.take ms.length) = p at *
      go_wp2
      go_ret
      exact ⟨by rw [HF.out]; rfl, HB.out.trans (HBr.out.mono HB.out.size)⟩
end Go.Proofs.YtbfdbbpkpjgamaaGreatDoor

end
