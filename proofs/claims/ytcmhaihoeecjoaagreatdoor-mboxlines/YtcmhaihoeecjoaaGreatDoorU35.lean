/- The document's Encode and Decode. -/
/- MboxEntries: refusals, the document's half. -/
import Derived.Test.YtcmhaihoeecjoaaGreatDoorU34
import Derived.Test.YtcmhaihoeecjoaaGreatDoorU03
import Derived.Lib.SlBytesConst
import Derived.Shelf.Bytes.SlSmallAll
section
namespace Go.Proofs.YtcmhaihoeecjoaaGreatDoor
open Go.RowKit
def bv (b : UInt8) : Value := .int .u8 (b.toNat : Int)
theorem bv_oneCell (ds : List UInt8) : ∀ u ∈ ds.map bv, u.oneCell' = true := by
  intro u hu
  obtain ⟨b, _, rfl⟩ := List.mem_map.1 hu
  rfl
theorem byteInfo : (Tryz.prog.info? 5).map (fun i => (i.zero, i.size, i.bytes)) = some (some (.int .u8 0), 1, 1) := by kernel_rfl
theorem info_parts {i : Option TypeInfo} {z : Value} {n m : Nat} (h : i.map (fun i => (i.zero, i.size, i.bytes)) = some (some z, n, m)) : ∃ i0, i = some i0 ∧ i0.zero = some z ∧ i0.size = n ∧ i0.bytes = m := by
  obtain ⟨i0, hi, h⟩ := Option.map_eq_some_iff.1 h
  simp only [Prod.mk.injEq] at h
  exact ⟨i0, hi, h⟩
theorem src_byte {w : World} (x : UInt8) {c : Nat} : Src Tryz.prog 1 56 (.slice (some ⟨w.heap.size, 0, none⟩) 1 c) 1 [bv x] (w.alloc (.cells #[.int .u8 (x.toNat : Int)] 5)) := by
  refine Src.ofSlice _ Tryz.underlying56 ⟨w.heap.size, 0, none⟩ 1 c [bv x] (by simp) (fun j u hu => ?_) (bv_oneCell [x])
  have hj := (List.getElem?_eq_some_iff.1 hu).1
  obtain rfl : j = 0 := by simpa using hj
  rw [Go.WideShapes.add_plain, Nat.zero_add, (Blk.new w _ _).cell]
  simp at hu
  rw [← hu]
  rfl
theorem convert_rw {w : World} {v : Value} {bs : List UInt8} {G : Option Nat} (h : Rw w 1 v bs.length (bs.map bv) G) : (convert 56 9 v).run Tryz.prog w = .ok (.string ⟨bs.toArray⟩) w := by
  rcases h.2 with ⟨rfl, h0, _⟩ | ⟨g, o, cap, rfl, rfl, h1, h2, h3, h4, h5⟩
  · have : bs = [] := List.length_eq_zero_iff.1 h0
    subst this
    exact run_convert_bytes_zero w 56 5 Tryz.underlying56 Tryz.underlying5 none 0 9 Tryz.underlying9
  · exact run_convert_bytes_back (P := Tryz.prog) w 56 9 5 ⟨g, o, none⟩ cap bs Tryz.underlying56 Tryz.underlying5 Tryz.underlying9 (fun j hj => by
      rw [Go.WideShapes.add_plain]
      have := h4 j (bv bs[j]) (by simp [List.getElem?_eq_getElem hj])
      exact this)
theorem below_mvs' {B : Nat} {w x y : World} {S : Nat → Prop} (h : Below B w x) (hm : Mvs S x y) (hs : ∀ k, k < B → ¬ S k) (hB : B ≤ w.heap.size) : Below B w y := h.trans (hm.below hs (Nat.le_trans hB h.size))
/-- The bytes bs, in a row of this call's own. -/
def Byts (w wr : World) (v : Value) (bs : List UInt8) : Prop := Below w.heap.size w wr ∧ ∃ G, Rw wr 1 v bs.length (bs.map bv) G ∧ ∀ g, G = some g → w.heap.size ≤ g
theorem Byts.grow {w wr w1 : World} {v1 : Value} {bs : List UInt8} {x : UInt8} {G G1 : Option Nat} {o : Obj} (hb : Below w.heap.size w wr) (hg : ∀ g, G = some g → w.heap.size ≤ g)
    (hr : Rw w1 1 v1 (bs.length + 1) (bs.map bv ++ [bv x]) G1) (hm : Mvs (fun k => some k = G) (wr.alloc o) w1) (hG : G1 = G ∨ G1 = some (wr.alloc o).heap.size) : Byts w w1 v1 (bs ++ [x]) := by
  refine ⟨below_mvs' (hb.alloc hb.size _) hm (fun k hk e => by have := hg k e.symm; omega) (Nat.le_refl _), G1, ?_, ?_⟩
  · rw [List.length_append, List.map_append]
    exact hr
  · rintro g rfl
    have := hb.size
    rcases hG with h | h
    · exact hg g h.symm
    · cases h
      simp
      omega
theorem beg_succ (s : List UInt8) (i : Nat) (h : i < s.length) : beg s (i + 1) = (s[i] == 10) := by
  unfold beg
  rw [show i + 1 - 1 = i from rfl, List.getElem?_eq_getElem h]
  simp
theorem marks_calls {s : List UInt8} {i : Nat} {m : Int} (hi : i ≤ s.length) (hs : s.length ≤ 1000000) (hm : marksN (s.drop i) = m) (w : World) :
    Calls Tryz.prog 28 #[.string ⟨s.toArray⟩, .int .i64 i] w fun e w' => e = .returned (.int .i64 m) ∧ w' = w := by
  subst hm
  exact marks_any s i w hi hs
theorem begins_calls {s : List UInt8} {i : Nat} {b : Bool} (hi : i ≤ s.length) (hs : s.length ≤ 1000000) (hb : beg s i = b) (w : World) :
    Calls Tryz.prog 27 #[.string ⟨s.toArray⟩, .int .i64 i] w fun e w' => e = .returned (.bool b) ∧ w' = w := by
  subst hb
  exact begins_any s i w hi hs
theorem encR_step (s : List UInt8) (i : Nat) (h : i < s.length) (bs t : List UInt8) (hx : bs ++ encR (beg s i) (s.drop i) = t) :
    (if beg s i && nm (s.drop i) then bs ++ [62] else bs) ++ [s[i]] ++ encR (beg s (i + 1)) (s.drop (i + 1)) = t := by
  have hd := List.drop_eq_getElem_cons h
  rw [← hx, beg_succ s i h]
  conv => rhs; rw [hd]
  rw [encR, ← hd]
  split <;> simp
set_option maxRecDepth 20000 in
set_option maxHeartbeats 2000000 in
theorem rencode_any (s : List UInt8) (w : World) (hs : s.length ≤ 1000000) :
    Calls Tryz.prog 12 #[.string ⟨s.toArray⟩] w fun e w' => e = .returned (.string ⟨(encL s).toArray⟩) ∧ Below w.heap.size w w' := by
  obtain ⟨i0, hi, hz0, hz1, hz2⟩ := info_parts byteInfo
  go_enter Tryz.func12, Tryz.ntmps12
  go_wp2
  go_loopw [3, 4] (fun v n wr => ∃ (i : Nat) (bs : List UInt8), n = .int .i64 i ∧ i ≤ s.length ∧ bs.length ≤ 2 * i ∧ Hid (Byts w wr v bs) ∧ Hid (bs ++ encR (beg s i) (s.drop i) = encR true s)) (fun _ n _ => s.length - (intOf n).toNat)
  case atStart =>
    refine ⟨0, [], rfl, by omega, by simp, ⟨(Below.refl _ _).alloc (Nat.le_refl _) _, some w.heap.size, ?_, fun g hg => by cases hg; exact Nat.le_refl _⟩, ?_⟩
    · exact Rw.new (e := 5) [] [] (Blk.new w #[] 5) rfl rfl (Nat.le_refl _) (by simp [maxLen])
    · show _ = _
      rfl
  case round =>
    obtain ⟨i, bs, rfl, hil, hbl, HT, HX⟩ := hrel
    obtain ⟨hb, G, hr, hg⟩ := HT.out
    obtain ⟨A, c, rfl⟩ := hr.form
    replace hb := hide hb
    replace hr := hide hr
    replace hg := hide hg
    by_cases hlt : i < s.length
    · have hbyte : ((⟨s.toArray⟩ : ByteArray)[i]'(by rwa [size_lit])) = s[i] := rfl
      have HS := hide (encR_step s i hlt bs _ HX.out)
      cases hbg : beg s i with
      | false =>
        have HB := hide (begins_calls hil hs hbg)
        rw [hbg] at HS
        clear hbg
        go_wp2_with (first
          | (go_at_call 27; refine (HB.out _).mono ?_; rintro e w' ⟨rfl, rfl⟩)
          | (at_builtin; refine wpList_append_rw rfl _ _ 56 56 rfl 5 i0 (.int .u8 0) 1 1 Tryz.underlying56 hi hz0 hz1 hz2 rfl rfl (hr.out.keep (S := fun _ => False) ((Mvs.refl _ _).alloc _) (fun _ _ c => c)) _ 1 _ rfl (src_byte _) (by simp only [maxLen]; omega) (by omega) ?_))
        intro v1 w1 G1 hr1 hm1 hg1
        have HT1 := hide (Byts.grow hb.out hg.out hr1 hm1 (by simpa using hg1))
        obtain ⟨A1, c1, rfl⟩ := hr1.form
        clear hr1 hm1 hg1 hr hb hg
        go_wp2
        go_roundw
        case rel => exact ⟨i + 1, _, by go_num, by omega, by simp; omega, HT1, HS⟩
        case measure => simp [intOf]; omega
      | true =>
        have HB := hide (begins_calls hil hs hbg)
        rw [hbg] at HS
        clear hbg
        cases hn : nm (s.drop i) with
        | false =>
          have HM := hide (marks_calls hil hs (marks_no hn))
          rw [hn] at HS
          clear hn
          go_wp2_with (first
            | (go_at_call 27; refine (HB.out _).mono ?_; rintro e w' ⟨rfl, rfl⟩)
            | (go_at_call 28; refine (HM.out _).mono ?_; rintro e w' ⟨rfl, rfl⟩)
            | (at_builtin; refine wpList_append_rw rfl _ _ 56 56 rfl 5 i0 (.int .u8 0) 1 1 Tryz.underlying56 hi hz0 hz1 hz2 rfl rfl (hr.out.keep (S := fun _ => False) ((Mvs.refl _ _).alloc _) (fun _ _ c => c)) _ 1 _ rfl (src_byte _) (by simp only [maxLen]; omega) (by omega) ?_))
          intro v1 w1 G1 hr1 hm1 hg1
          have HT1 := hide (Byts.grow hb.out hg.out hr1 hm1 (by simpa using hg1))
          obtain ⟨A1, c1, rfl⟩ := hr1.form
          clear hr1 hm1 hg1 hr hb hg
          go_wp2
          go_roundw
          case rel => exact ⟨i + 1, _, by go_num, by omega, by simp; omega, HT1, HS⟩
          case measure => simp [intOf]; omega
        | true =>
          have h0 := marks_yes hn
          obtain ⟨m, hm⟩ : ∃ m, marksN (s.drop i) = m := ⟨_, rfl⟩
          rw [hm] at h0
          have HM := hide (marks_calls hil hs hm)
          rw [hn] at HS
          clear hn hm
          go_wp2_with (first
            | (go_at_call 27; refine (HB.out _).mono ?_; rintro e w' ⟨rfl, rfl⟩)
            | (go_at_call 28; refine (HM.out _).mono ?_; rintro e w' ⟨rfl, rfl⟩)
            | (at_builtin; refine wpList_append_rw rfl _ _ 56 56 rfl 5 i0 (.int .u8 0) 1 1 Tryz.underlying56 hi hz0 hz1 hz2 rfl rfl (hr.out.keep (S := fun _ => False) ((Mvs.refl _ _).alloc _) (fun _ _ c => c)) _ 1 _ rfl (src_byte 62) (by simp only [maxLen]; omega) (by omega) ?_))
          intro v1 w1 G1 hr1 hm1 hg1
          have HT1 := hide (Byts.grow hb.out hg.out hr1 hm1 (by simpa using hg1))
          obtain ⟨A1, c1, rfl⟩ := hr1.form
          clear hr1 hm1 hg1 hr hb hg
          obtain ⟨bs2, hbs2⟩ : ∃ bs2, bs ++ [62] = bs2 := ⟨_, rfl⟩
          have hl2 : bs.length + 1 = bs2.length := by rw [← hbs2]; simp
          rw [hl2, hbs2] at HT1
          rw [hl2]
          replace HS : Hid (bs2 ++ [s[i]] ++ encR (beg s (i + 1)) (s.drop (i + 1)) = encR true s) := by
            rw [← hbs2]
            exact HS.out
          have hl3 : bs2.length ≤ 2 * i + 1 := by omega
          clear hbs2 hl2
          obtain ⟨hb, G, hr, hg⟩ := HT1.out
          replace hb := hide hb
          replace hr := hide hr
          replace hg := hide hg
          go_wp2_with (first
            | (at_builtin; refine wpList_append_rw rfl _ _ 56 56 rfl 5 i0 (.int .u8 0) 1 1 Tryz.underlying56 hi hz0 hz1 hz2 rfl rfl (hr.out.keep (S := fun _ => False) ((Mvs.refl _ _).alloc _) (fun _ _ c => c)) _ 1 _ rfl (src_byte _) (by simp only [maxLen]; omega) (by omega) ?_))
          intro v2 w2 G1 hr1 hm1 hg1
          have HT1 := hide (Byts.grow hb.out hg.out hr1 hm1 (by simpa using hg1))
          obtain ⟨A2, c2, rfl⟩ := hr1.form
          clear hr1 hm1 hg1 hr hb hg
          go_wp2
          go_roundw
          case rel => exact ⟨i + 1, _, by go_num, by omega, by simp; omega, HT1, HS⟩
          case measure => simp [intOf]; omega
    · have hE : i = s.length := by omega
      have HE : Hid (bs ++ [10] = encL s) := by
        show _ = _
        have hx := HX.out
        rw [hE, List.drop_length, encR, List.append_nil] at hx
        rw [hx, encR_eq s.length s (Nat.le_refl _)]
      clear hE
      go_wp2_with (first
        | (at_builtin; refine wpList_append_rw rfl _ _ 56 56 rfl 5 i0 (.int .u8 0) 1 1 Tryz.underlying56 hi hz0 hz1 hz2 rfl rfl (hr.out.keep (S := fun _ => False) ((Mvs.refl _ _).alloc _) (fun _ _ c => c)) _ 1 _ rfl (src_byte 10) (by simp only [maxLen]; omega) (by omega) ?_))
      intro v1 w1 G1 hr1 hm1 hg1
      have HT1 := hide (Byts.grow hb.out hg.out hr1 hm1 (by simpa using hg1))
      obtain ⟨A1, c1, rfl⟩ := hr1.form
      obtain ⟨hb1, G2, hr2, hg2⟩ := HT1.out
      have hcv := convert_rw hr2
      have HB1 := hide hb1
      clear hr1 hm1 hg1 hr hb hg hb1 hr2 hg2
      go_wp2
      go_ret
      exact ⟨by rw [← HE.out]; rfl, HB1.out⟩
end Go.Proofs.YtcmhaihoeecjoaaGreatDoor

end
section
namespace Go.Proofs.YtcmhaihoeecjoaaGreatDoor
open Go.RowKit Go.Shelf
theorem boxT_inj {t t' : Int} (h0 : 0 ≤ t) (h1 : t ≤ 4102444799) (g0 : 0 ≤ t') (g1 : t' ≤ 4102444799) (h : boxT t = boxT t') : t = t' := by
  have e1 := read_back t h0 h1 (fun _ => ⟨0, 0, none⟩)
  have e2 := read_back t' g0 g1 (fun _ => ⟨0, 0, none⟩)
  rw [h, e2] at e1
  simp at e1
  exact e1.symm
theorem sepT_inj {s s' : List UInt8} {t t' : Int} (hs : rightS s = true) (hs' : rightS s' = true) (h0 : 0 ≤ t) (h1 : t ≤ 4102444799) (g0 : 0 ≤ t') (g1 : t' ≤ 4102444799) (h : sepT s t = sepT s' t') : s = s' ∧ t = t' := by
  rw [sepT_form, sepT_form] at h
  have e2 := List.append_cancel_right (List.append_cancel_left h)
  obtain ⟨a, b⟩ := split_uniq (right_32 hs) (right_32 hs') e2
  exact ⟨a, boxT_inj h0 h1 g0 g1 b⟩
theorem sep_exact (s : List UInt8) (t : Int) (w : World) (a : Nat → Addr) (hE : Errs w a) (ht : Da.Tab w) (hs : rightS s = true) (h0 : 0 ≤ t) (h1 : t ≤ 4102444799) :
    Calls Tryz.prog 11 #[.string ⟨(sepT s t).toArray⟩] w fun e w' => e = .returned (.tuple #[.string ⟨s.toArray⟩, .int .i64 t, .nilIface]) ∧ Below w.heap.size w w' := by
  refine (sep_any (sepT s t) w a hE ht (by have := sepT_len t hs; omega)).mono ?_
  rintro e w' ⟨hb, (⟨s', t', hs', g0, g1, he, rfl⟩ | ⟨hno, rfl⟩)⟩
  · obtain ⟨rfl, rfl⟩ := sepT_inj hs hs' h0 h1 g0 g1 he
    exact ⟨rfl, hb⟩
  · exact absurd rfl (hno s t hs h0 h1)
set_option maxHeartbeats 1000000 in
theorem sepOf_name (s : List UInt8) (t : Int) (w : World) (a : Nat → Addr) (hE : Errs w a) (hs : rightS s = false) (hl : s.length ≤ 100000) :
    Calls Tryz.prog 20 #[.string ⟨s.toArray⟩, .int .i64 t] w fun e w' => e = .returned (.tuple #[.string ⟨#[]⟩, errV a 3]) ∧ Below w.heap.size w w' := by
  have HR := hide (isRight_any s w (by unfold maxLen; omega))
  rw [hs] at HR
  have hc : w.cell? ⟨3, 0, none⟩ = some (errV a 3) := hE.cell 3 (by decide)
  unfold errV at hc
  clear hE hs
  go_enter Tryz.func20, Tryz.ntmps20
  go_wp2_with (first
    | (go_at_call 25; refine HR.out.mono ?_; rintro e w1 ⟨rfl, rfl⟩))
  go_region
  go_wp2
  go_ret2
  exact ⟨rfl, (Below.refl _ _).drew⟩
set_option maxHeartbeats 1000000 in
theorem sepOf_range (s : List UInt8) (t : Int) (w : World) (a : Nat → Addr) (hE : Errs w a) (hs : rightS s = true) (ht : t < 0 ∨ 4102444799 < t) :
    Calls Tryz.prog 20 #[.string ⟨s.toArray⟩, .int .i64 t] w fun e w' => e = .returned (.tuple #[.string ⟨#[]⟩, errV a 0]) ∧ Below w.heap.size w w' := by
  have hl := right_len hs
  have HR := hide (isRight_any s w (by unfold maxLen; omega))
  rw [hs] at HR
  have HB := hide (Da.box_no t w a hE ht)
  clear hE hs ht
  go_enter Tryz.func20, Tryz.ntmps20
  go_wp2_with (first
    | (go_at_call 25; refine HR.out.mono ?_; rintro e w1 ⟨rfl, rfl⟩)
    | (go_at_call 33; refine HB.out.mono ?_; rintro e w2 ⟨rfl, hb2⟩; replace hb2 := hide hb2))
  go_ret2
  exact ⟨rfl, hb2.out⟩
set_option maxHeartbeats 1000000 in
theorem entry_no (s : List UInt8) (t : Int) (m : List UInt8) (w : World) (p : Addr) (HS : Hid (Calls Tryz.prog 20 #[.string ⟨s.toArray⟩, .int .i64 t] w fun e w' => e = .returned (.tuple #[.string ⟨#[]⟩, .iface 167 (.pointer (some p))]) ∧ Below w.heap.size w w')) :
    Calls Tryz.prog 7 #[.string ⟨s.toArray⟩, .int .i64 t, .string ⟨m.toArray⟩] w fun e w' => e = .returned (.tuple #[.string ⟨#[]⟩, .iface 167 (.pointer (some p))]) ∧ Below w.heap.size w w' := by
  go_enter Tryz.func7, Tryz.ntmps7
  go_wp2_with (first
    | (go_at_call 20; refine HS.out.mono ?_; rintro e w1 ⟨rfl, hb1⟩; replace hb1 := hide hb1))
  go_ret2
  exact ⟨rfl, hb1.out⟩
set_option maxHeartbeats 1000000 in
theorem sender_any (l : List UInt8) (w : World) (hl : l.length ≤ 100000) :
    Calls Tryz.prog 8 #[.string ⟨l.toArray⟩] w fun e w' => e = .returned (.bool (rightS l)) ∧ w' = w := by
  have hsz := size_lit l
  go_enter Tryz.func8, Tryz.ntmps8
  go_wp2
  go_loop [3] (fun i => ∃ k : Nat, k ≤ l.length ∧ i = .int .i64 k ∧ Hid ((l.take k).all okC = true)) (fun i => l.length - (intOf i).toNat)
  case atStart => exact ⟨0, Nat.zero_le _, rfl, by simp [Hid]⟩
  case round =>
    obtain ⟨k, hk, rfl, HA⟩ := hrel
    by_cases hlt : k < l.length
    · obtain ⟨c, hc, hat⟩ := at_lit l k hlt
      have hlt' : (k : Int) < l.length := by omega
      have HC := hide hc
      clear hc
      by_cases h33 : (c.toNat : Int) < 33
      · go_wp2
        go_ret
        exact ⟨ret_bool (not_right hlt HC.out (decide_eq_false (by omega))).symm, rfl⟩
      · by_cases h126 : (126 : Int) < (c.toNat : Int)
        · go_wp2
          go_ret
          exact ⟨ret_bool (not_right hlt HC.out (decide_eq_false (by omega))).symm, rfl⟩
        · go_wp2
          go_round
          case rel => exact ⟨k + 1, by omega, by go_num, all_next hlt HC.out HA.out (decide_eq_true (by omega))⟩
          case measure => simp [intOf]; omega
    · obtain rfl : k = l.length := by omega
      have HL : Hid (l.all okC = true) := by
        have := HA.out
        rwa [List.take_length] at this
      have HR : Hid (rightS l = decide (1 ≤ l.length ∧ l.length ≤ 200)) := by
        show _ = _
        unfold rightS
        rw [HL.out, Bool.and_true]
      clear HA
      by_cases h0 : 0 < (l.length : Int)
      · by_cases h200 : (l.length : Int) ≤ 200
        · go_wp2
          go_ret
          exact ⟨ret_bool (by rw [HR.out]; simp; omega), rfl⟩
        · go_wp2
          go_ret
          exact ⟨ret_bool (by rw [HR.out]; simp; omega), rfl⟩
      · go_wp2
        go_ret
        exact ⟨ret_bool (by rw [HR.out]; simp; omega), rfl⟩
theorem rbox_in (t : Int) (w : World) (h0 : 0 ≤ t) (h1 : t ≤ 4102444799) : Calls Tryz.prog 23 #[.int .i64 t] w fun e w' => e = .returned (.string ⟨(boxT t).toArray⟩) ∧ Below w.heap.size w w' := by
  refine Da.rbox_yes t _ _ _ _ _ _ _ w (dt_of t h0 h1) (fun w => ?_)
  obtain ⟨y1, y2, m1, m2, d1, d2, _⟩ := Da.Cal.date_spec (t / 86400) (by omega) (by omega)
  have hc := Da.rcivil_yes t w h0 h1
  rw [Int.toNat_of_nonneg (show 0 ≤ Da.Cal.cy (t / 86400) by omega), Int.toNat_of_nonneg (show 0 ≤ Da.Cal.cm (t / 86400) by omega), Int.toNat_of_nonneg (show 0 ≤ Da.Cal.cd (t / 86400) by omega), Int.toNat_of_nonneg (show 0 ≤ t % 86400 / 3600 by omega), Int.toNat_of_nonneg (show 0 ≤ t % 3600 / 60 by omega), Int.toNat_of_nonneg (show 0 ≤ t % 60 by omega), Int.toNat_of_nonneg (show 0 ≤ (4 + t / 86400) % 7 by omega)]
  exact hc
set_option maxHeartbeats 1000000 in
theorem rentry_any (s : List UInt8) (t : Int) (m : List UInt8) (w : World) (hs : s.length ≤ 100000) (h0 : 0 ≤ t) (h1 : t ≤ 4102444799) (hm : m.length ≤ 100000) :
    Calls Tryz.prog 10 #[.string ⟨s.toArray⟩, .int .i64 t, .string ⟨m.toArray⟩] w fun e w' => e = .returned (.string ⟨(sepT s t ++ encL m).toArray⟩) ∧ Below w.heap.size w w' := by
  have hcat := cat_lit
  have hb := boxT_len t
  have he := enc_bound m
  have HB := hide (fun w => rbox_in t w h0 h1)
  have HE := hide (fun w => rencode_any m w (by omega))
  have HS : Hid (sepT s t ++ encL m = 70 :: 114 :: 111 :: 109 :: 32 :: (s ++ 32 :: (boxT t ++ 10 :: encL m))) := by show _ = _; unfold sepT; simp
  generalize boxT t = b at *
  generalize encL m = y at *
  clear h0 h1
  go_enter Tryz.func10, Tryz.ntmps10
  go_wp2_with (first
    | (go_at_call 23; refine (HB.out _).mono ?_; rintro e w1 ⟨rfl, hb1⟩; replace hb1 := hide hb1)
    | (go_at_call 12; refine (HE.out _).mono ?_; rintro e w2 ⟨rfl, hb2⟩; replace hb2 := hide hb2))
  go_ret
  exact ⟨by rw [HS.out]; simp, hb1.out.trans (hb2.out.mono hb1.out.size)⟩
end Go.Proofs.YtcmhaihoeecjoaaGreatDoor

end
