/- The document's Encode and Decode. -/
import Derived.Test.YtcmhaihoeecjoaaGreatDoorQ7
import Derived.Test.YtcmhaihoeecjoaaGreatDoorOwn
import Derived.Lib.SlBytesConst
import Derived.Shelf.Bytes.SlSmallAll
namespace Go.Proofs.YtcmhaihoeecjoaaGreatDoor
open Go.RowKit
def bv (b : UInt8) : Value := .int .u8 (b.toNat : Int)
theorem bv_oneCell (ds : List UInt8) : ∀ u ∈ ds.map bv, u.oneCell' = true := by
  intro u hu
  obtain ⟨b, _, rfl⟩ := List.mem_map.1 hu
  rfl
theorem byteInfo : (Tryz.prog.info? 5).map (fun i => (i.zero, i.size, i.bytes)) = some (some (.int .u8 0), 1, 1) := by kernel_rfl
theorem info_parts {i : Option TypeInfo} {z : Value} {n m : Nat} (h : i.map (fun i => (i.zero, i.size, i.bytes)) = some (some z, n, m)) : ∃ i0, i = some i0 ∧ i0.zero = some z ∧ i0.size = n ∧ i0.bytes = m := by
  obtain ⟨i0, hi, h⟩ := Option.map_eq_some_iff.1 h
  simp only [Prod.mk.injEq] at h
  exact ⟨i0, hi, h⟩
theorem src_byte {w : World} (x : UInt8) {c : Nat} : Src Tryz.prog 1 56 (.slice (some ⟨w.heap.size, 0, none⟩) 1 c) 1 [bv x] (w.alloc (.cells #[.int .u8 (x.toNat : Int)] 5)) := by
  refine Src.ofSlice _ Tryz.underlying56 ⟨w.heap.size, 0, none⟩ 1 c [bv x] (by simp) (fun j u hu => ?_) (bv_oneCell [x])
  have hj := (List.getElem?_eq_some_iff.1 hu).1
  obtain rfl : j = 0 := by simpa using hj
  rw [Go.WideShapes.add_plain, Nat.zero_add, (Blk.new w _ _).cell]
  simp at hu
  rw [← hu]
  rfl
theorem convert_rw {w : World} {v : Value} {bs : List UInt8} {G : Option Nat} (h : Rw w 1 v bs.length (bs.map bv) G) : (convert 56 9 v).run Tryz.prog w = .ok (.string ⟨bs.toArray⟩) w := by
  rcases h.2 with ⟨rfl, h0, _⟩ | ⟨g, o, cap, rfl, rfl, h1, h2, h3, h4, h5⟩
  · have : bs = [] := List.length_eq_zero_iff.1 h0
    subst this
    exact run_convert_bytes_zero w 56 5 Tryz.underlying56 Tryz.underlying5 none 0 9 Tryz.underlying9
  · exact run_convert_bytes_back (P := Tryz.prog) w 56 9 5 ⟨g, o, none⟩ cap bs Tryz.underlying56 Tryz.underlying5 Tryz.underlying9 (fun j hj => by
      rw [Go.WideShapes.add_plain]
      have := h4 j (bv bs[j]) (by simp [List.getElem?_eq_getElem hj])
      exact this)
theorem below_mvs' {B : Nat} {w x y : World} {S : Nat → Prop} (h : Below B w x) (hm : Mvs S x y) (hs : ∀ k, k < B → ¬ S k) (hB : B ≤ w.heap.size) : Below B w y := h.trans (hm.below hs (Nat.le_trans hB h.size))
/-- The bytes bs, in a row of this call's own. -/
def Byts (w wr : World) (v : Value) (bs : List UInt8) : Prop := Below w.heap.size w wr ∧ ∃ G, Rw wr 1 v bs.length (bs.map bv) G ∧ ∀ g, G = some g → w.heap.size ≤ g
theorem Byts.grow {w wr w1 : World} {v1 : Value} {bs : List UInt8} {x : UInt8} {G G1 : Option Nat} {o : Obj} (hb : Below w.heap.size w wr) (hg : ∀ g, G = some g → w.heap.size ≤ g)
    (hr : Rw w1 1 v1 (bs.length + 1) (bs.map bv ++ [bv x]) G1) (hm : Mvs (fun k => some k = G) (wr.alloc o) w1) (hG : G1 = G ∨ G1 = some (wr.alloc o).heap.size) : Byts w w1 v1 (bs ++ [x]) := by
  refine ⟨below_mvs' (hb.alloc hb.size _) hm (fun k hk e => by have := hg k e.symm; omega) (Nat.le_refl _), G1, ?_, ?_⟩
  · rw [List.length_append, List.map_append]
    exact hr
  · rintro g rfl
    have := hb.size
    rcases hG with h | h
    · exact hg g h.symm
    · cases h
      simp
      omega
theorem beg_succ (s : List UInt8) (i : Nat) (h : i < s.length) : beg s (i + 1) = (s[i] == 10) := by
  unfold beg
  rw [show i + 1 - 1 = i from rfl, List.getElem?_eq_getElem h]
  simp
theorem marks_calls {s : List UInt8} {i : Nat} {m : Int} (hi : i ≤ s.length) (hs : s.length ≤ 1000000) (hm : marksN (s.drop i) = m) (w : World) :
    Calls Tryz.prog 28 #[.string ⟨s.toArray⟩, .int .i64 i] w fun e w' => e = .returned (.int .i64 m) ∧ w' = w := by
  subst hm
  exact marks_any s i w hi hs
theorem begins_calls {s : List UInt8} {i : Nat} {b : Bool} (hi : i ≤ s.length) (hs : s.length ≤ 1000000) (hb : beg s i = b) (w : World) :
    Calls Tryz.prog 27 #[.string ⟨s.toArray⟩, .int .i64 i] w fun e w' => e = .returned (.bool b) ∧ w' = w := by
  subst hb
  exact begins_any s i w hi hs
theorem encR_step (s : List UInt8) (i : Nat) (h : i < s.length) (bs t : List UInt8) (hx : bs ++ encR (beg s i) (s.drop i) = t) :
    (if beg s i && nm (s.drop i) then bs ++ [62] else bs) ++ [s[i]] ++ encR (beg s (i + 1)) (s.drop (i + 1)) = t := by
  have hd := List.drop_eq_getElem_cons h
  rw [← hx, beg_succ s i h]
  conv => rhs; rw [hd]
  rw [encR, ← hd]
  split <;> simp
set_option maxRecDepth 20000 in
set_option maxHeartbeats 2000000 in
theorem rencode_any (s : List UInt8) (w : World) (hs : s.length ≤ 1000000) :
    Calls Tryz.prog 12 #[.string ⟨s.toArray⟩] w fun e w' => e = .returned (.string ⟨(encL s).toArray⟩) ∧ Below w.heap.size w w' := by
  obtain ⟨i0, hi, hz0, hz1, hz2⟩ := info_parts byteInfo
  go_enter Tryz.func12, Tryz.ntmps12
  go_wp2
  go_loopw [3, 4] (fun v n wr => ∃ (i : Nat) (bs : List UInt8), n = .int .i64 i ∧ i ≤ s.length ∧ bs.length ≤ 2 * i ∧ Hid (Byts w wr v bs) ∧ Hid (bs ++ encR (beg s i) (s.drop i) = encR true s)) (fun _ n _ => s.length - (intOf n).toNat)
  case atStart =>
    refine ⟨0, [], rfl, by omega, by simp, ⟨(Below.refl _ _).alloc (Nat.le_refl _) _, some w.heap.size, ?_, fun g hg => by cases hg; exact Nat.le_refl _⟩, ?_⟩
    · exact Rw.new (e := 5) [] [] (Blk.new w #[] 5) rfl rfl (Nat.le_refl _) (by simp [maxLen])
    · show _ = _
      rfl
  case round =>
    obtain ⟨i, bs, rfl, hil, hbl, HT, HX⟩ := hrel
    obtain ⟨hb, G, hr, hg⟩ := HT.out
    obtain ⟨A, c, rfl⟩ := hr.form
    replace hb := hide hb
    replace hr := hide hr
    replace hg := hide hg
    by_cases hlt : i < s.length
    · have hbyte : ((⟨s.toArray⟩ : ByteArray)[i]'(by rwa [size_lit])) = s[i] := rfl
      have HS := hide (encR_step s i hlt bs _ HX.out)
      cases hbg : beg s i with
      | false =>
        have HB := hide (begins_calls hil hs hbg)
        rw [hbg] at HS
        clear hbg
        go_wp2_with (first
          | (go_at_call 27; refine (HB.out _).mono ?_; rintro e w' ⟨rfl, rfl⟩)
          | (at_builtin; refine wpList_append_rw rfl _ _ 56 56 rfl 5 i0 (.int .u8 0) 1 1 Tryz.underlying56 hi hz0 hz1 hz2 rfl rfl (hr.out.keep (S := fun _ => False) ((Mvs.refl _ _).alloc _) (fun _ _ c => c)) _ 1 _ rfl (src_byte _) (by simp only [maxLen]; omega) (by omega) ?_))
        intro v1 w1 G1 hr1 hm1 hg1
        have HT1 := hide (Byts.grow hb.out hg.out hr1 hm1 (by simpa using hg1))
        obtain ⟨A1, c1, rfl⟩ := hr1.form
        clear hr1 hm1 hg1 hr hb hg
        go_wp2
        go_roundw
        case rel => exact ⟨i + 1, _, by go_num, by omega, by simp; omega, HT1, HS⟩
        case measure => simp [intOf]; omega
      | true =>
        have HB := hide (begins_calls hil hs hbg)
        rw [hbg] at HS
        clear hbg
        cases hn : nm (s.drop i) with
        | false =>
          have HM := hide (marks_calls hil hs (marks_no hn))
          rw [hn] at HS
          clear hn
          go_wp2_with (first
            | (go_at_call 27; refine (HB.out _).mono ?_; rintro e w' ⟨rfl, rfl⟩)
            | (go_at_call 28; refine (HM.out _).mono ?_; rintro e w' ⟨rfl, rfl⟩)
            | (at_builtin; refine wpList_append_rw rfl _ _ 56 56 rfl 5 i0 (.int .u8 0) 1 1 Tryz.underlying56 hi hz0 hz1 hz2 rfl rfl (hr.out.keep (S := fun _ => False) ((Mvs.refl _ _).alloc _) (fun _ _ c => c)) _ 1 _ rfl (src_byte _) (by simp only [maxLen]; omega) (by omega) ?_))
          intro v1 w1 G1 hr1 hm1 hg1
          have HT1 := hide (Byts.grow hb.out hg.out hr1 hm1 (by simpa using hg1))
          obtain ⟨A1, c1, rfl⟩ := hr1.form
          clear hr1 hm1 hg1 hr hb hg
          go_wp2
          go_roundw
          case rel => exact ⟨i + 1, _, by go_num, by omega, by simp; omega, HT1, HS⟩
          case measure => simp [intOf]; omega
        | true =>
          have h0 := marks_yes hn
          obtain ⟨m, hm⟩ : ∃ m, marksN (s.drop i) = m := ⟨_, rfl⟩
          rw [hm] at h0
          have HM := hide (marks_calls hil hs hm)
          rw [hn] at HS
          clear hn hm
          go_wp2_with (first
            | (go_at_call 27; refine (HB.out _).mono ?_; rintro e w' ⟨rfl, rfl⟩)
            | (go_at_call 28; refine (HM.out _).mono ?_; rintro e w' ⟨rfl, rfl⟩)
            | (at_builtin; refine wpList_append_rw rfl _ _ 56 56 rfl 5 i0 (.int .u8 0) 1 1 Tryz.underlying56 hi hz0 hz1 hz2 rfl rfl (hr.out.keep (S := fun _ => False) ((Mvs.refl _ _).alloc _) (fun _ _ c => c)) _ 1 _ rfl (src_byte 62) (by simp only [maxLen]; omega) (by omega) ?_))
          intro v1 w1 G1 hr1 hm1 hg1
          have HT1 := hide (Byts.grow hb.out hg.out hr1 hm1 (by simpa using hg1))
          obtain ⟨A1, c1, rfl⟩ := hr1.form
          clear hr1 hm1 hg1 hr hb hg
          obtain ⟨bs2, hbs2⟩ : ∃ bs2, bs ++ [62] = bs2 := ⟨_, rfl⟩
          have hl2 : bs.length + 1 = bs2.length := by rw [← hbs2]; simp
          rw [hl2, hbs2] at HT1
          rw [hl2]
          replace HS : Hid (bs2 ++ [s[i]] ++ encR (beg s (i + 1)) (s.drop (i + 1)) = encR true s) := by
            rw [← hbs2]
            exact HS.out
          have hl3 : bs2.length ≤ 2 * i + 1 := by omega
          clear hbs2 hl2
          obtain ⟨hb, G, hr, hg⟩ := HT1.out
          replace hb := hide hb
          replace hr := hide hr
          replace hg := hide hg
          go_wp2_with (first
            | (at_builtin; refine wpList_append_rw rfl _ _ 56 56 rfl 5 i0 (.int .u8 0) 1 1 Tryz.underlying56 hi hz0 hz1 hz2 rfl rfl (hr.out.keep (S := fun _ => False) ((Mvs.refl _ _).alloc _) (fun _ _ c => c)) _ 1 _ rfl (src_byte _) (by simp only [maxLen]; omega) (by omega) ?_))
          intro v2 w2 G1 hr1 hm1 hg1
          have HT1 := hide (Byts.grow hb.out hg.out hr1 hm1 (by simpa using hg1))
          obtain ⟨A2, c2, rfl⟩ := hr1.form
          clear hr1 hm1 hg1 hr hb hg
          go_wp2
          go_roundw
          case rel => exact ⟨i + 1, _, by go_num, by omega, by simp; omega, HT1, HS⟩
          case measure => simp [intOf]; omega
    · have hE : i = s.length := by omega
      have HE : Hid (bs ++ [10] = encL s) := by
        show _ = _
        have hx := HX.out
        rw [hE, List.drop_length, encR, List.append_nil] at hx
        rw [hx, encR_eq s.length s (Nat.le_refl _)]
      clear hE
      go_wp2_with (first
        | (at_builtin; refine wpList_append_rw rfl _ _ 56 56 rfl 5 i0 (.int .u8 0) 1 1 Tryz.underlying56 hi hz0 hz1 hz2 rfl rfl (hr.out.keep (S := fun _ => False) ((Mvs.refl _ _).alloc _) (fun _ _ c => c)) _ 1 _ rfl (src_byte 10) (by simp only [maxLen]; omega) (by omega) ?_))
      intro v1 w1 G1 hr1 hm1 hg1
      have HT1 := hide (Byts.grow hb.out hg.out hr1 hm1 (by simpa using hg1))
      obtain ⟨A1, c1, rfl⟩ := hr1.form
      obtain ⟨hb1, G2, hr2, hg2⟩ := HT1.out
      have hcv := convert_rw hr2
      have HB1 := hide hb1
      clear hr1 hm1 hg1 hr hb hg hb1 hr2 hg2
      go_wp2
      go_ret
      exact ⟨by rw [← HE.out]; rfl, HB1.out⟩
end Go.Proofs.YtcmhaihoeecjoaaGreatDoor
