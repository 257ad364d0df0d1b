/- The law LinesLong. -/
import Derived.Test.YtkcailfpanmhdaaDoorLSplit
namespace Go.Proofs.YtkcailfpanmhdaaDoor
open Go.RowKit
/-- The bytes bs, in a row of this call's own. -/
def Bts (w wr : World) (v : Value) (bs : List UInt8) : Prop := Below w.heap.size w wr ∧ ∃ G, Rw wr 1 v bs.length (bs.map bv) G ∧ ∀ g, G = some g → w.heap.size ≤ g
theorem Bts.grow {w wr w1 : World} {v1 : Value} {bs news : List UInt8} {G G1 : Option Nat} {o : Obj} (hb : Below w.heap.size w wr) (hg : ∀ g, G = some g → w.heap.size ≤ g)
    (hr : Rw w1 1 v1 (bs.length + news.length) (bs.map bv ++ news.map bv) G1) (hm : Mvs (fun k => some k = G) (wr.alloc o) w1) (hG : G1 = G ∨ G1 = some (wr.alloc o).heap.size) : Bts w w1 v1 (bs ++ news) := by
  refine ⟨below_mvs (hb.alloc hb.size _) hm (fun k hk e => by have := hg k e.symm; omega) (Nat.le_refl _), G1, ?_, ?_⟩
  · rw [List.length_append, List.map_append]
    exact hr
  · rintro g rfl
    have := hb.size
    rcases hG with h | h
    · exact hg g h.symm
    · cases h
      simp
      omega
theorem Lined.base {w w1 w2 : World} {b B : Nat} {G : Option Nat} {l : List UInt8} {a : Nat} (h : Lined w1 w2 b G l a) (h1 : Below B w w1) (hB : B ≤ w.heap.size) (hb : B ≤ b) : Below B w w2 := by
  obtain ⟨G', _, hm, _⟩ := h
  exact below_mvs h1 hm (fun k hk e => by omega) hB
theorem rep_snoc (i : Nat) (c : UInt8) : List.replicate i c ++ [c] = List.replicate (i + 1) c := by
  rw [List.replicate_succ']

theorem small_of (n : Int) : ∃ k : Nat, k < 2100 ∧ wrap64 ((IntKind.u64.wrap n).tmod 2100) = k := by
  have h0 : IntKind.u64.wrap n = n % 18446744073709551616 := by simp [IntKind.wrap, IntKind.signed, IntKind.bits]
  rw [h0]
  have h1 : 0 ≤ n % 18446744073709551616 := Int.emod_nonneg _ (by decide)
  rw [Int.tmod_eq_emod_of_nonneg h1]
  refine ⟨(n % 18446744073709551616 % 2100).toNat, by omega, ?_⟩
  unfold wrap64
  omega
/-- The end of the line in hand. -/
def endOf (ended : Bool) : List UInt8 := if ended then [13] else []
theorem cut_line (k : Nat) (ended : Bool) (r : List UInt8) : cut10 (List.replicate k 120 ++ (endOf ended ++ 10 :: r)) = some (List.replicate k 120 ++ endOf ended, r) := by
  induction k with
  | zero => cases ended <;> rfl
  | succ k ih =>
    rw [List.replicate_succ]
    show cut10 (120 :: (List.replicate k 120 ++ (endOf ended ++ 10 :: r))) = _
    rw [cut10, if_neg (by decide), ih]
    rfl
theorem trim_line (k : Nat) (ended : Bool) : trimCr (List.replicate k 120 ++ endOf ended) = List.replicate k 120 := by
  unfold trimCr Lib.hasSuffix
  cases ended with
  | true =>
    have : List.isSuffixOf [13] (List.replicate k (120 : UInt8) ++ endOf true) = true := by
      rw [List.isSuffixOf_iff_suffix]
      exact ⟨_, rfl⟩
    rw [if_pos this]
    simp [endOf]
  | false =>
    have : ¬ List.isSuffixOf [13] (List.replicate k (120 : UInt8) ++ endOf false) = true := by
      rw [List.isSuffixOf_iff_suffix]
      rintro ⟨t, ht⟩
      have hm : (13 : UInt8) ∈ List.replicate k (120 : UInt8) ++ endOf false := by rw [← ht]; simp
      simp [endOf] at hm
    rw [if_neg this]
    simp [endOf]
theorem next_line : lineOut [110, 101, 120, 116, 10] 0 = (lineV [110, 101, 120, 116] false, true, []) := by rfl
theorem long_line {w : World} {b : Nat} {G : Option Nat} {bs m : List UInt8} {ended : Bool} (hbs : bs = List.replicate bs.length 120) (hm : m = bs ++ endOf ended) (h : RD w b G ([] ++ (m ++ [10]) ++ [110, 101, 120, 116, 10]) 0) :
    Calls Tryd.prog 12 #[.pointer (some ⟨b, 0, none⟩)] w fun e w' => e = .returned (.tuple #[if 1000 < m.length then .agg #[.string ⟨#[]⟩, .bool true] else .agg #[.string ⟨bs.toArray⟩, .bool false], .bool true]) ∧ Lined w w' b G [110, 101, 120, 116, 10] 0 := by
  have e1 : [] ++ (m ++ [10]) ++ [110, 101, 120, 116, 10] = List.replicate bs.length 120 ++ (endOf ended ++ 10 :: [110, 101, 120, 116, 10]) := by
    rw [hm]
    conv => lhs; rw [hbs]
    simp
  have hT : lineT (List.replicate bs.length 120 ++ endOf ended) = if 1000 < m.length then .agg #[.string ⟨#[]⟩, .bool true] else .agg #[.string ⟨bs.toArray⟩, .bool false] := by
    unfold lineT
    rw [trim_line, ← hbs, ← hm]
    rfl
  have := line_some w b G _ _ _ h (by rw [e1]; exact cut_line _ _ _)
  rw [hT] at this
  exact this
theorem line_next {w : World} {b : Nat} {G : Option Nat} (h : RD w b G [110, 101, 120, 116, 10] 0) : Calls Tryd.prog 12 #[.pointer (some ⟨b, 0, none⟩)] w fun e w' => e = .returned (.tuple #[.agg #[.string ⟨#[110, 101, 120, 116]⟩, .bool false], .bool true]) ∧ Lined w w' b G [] 0 := by
  have := line_any w b G _ _ h
  rw [next_line] at this
  exact this

set_option maxRecDepth 20000 in
set_option maxHeartbeats 1000000 in
theorem long_walk (n : Int) (ended : Bool) (w : World) :
    Calls Tryd.prog 6 #[.int .i64 n, .bool ended] w fun e w' => e = .returned (.bool true) ∧ Below w.heap.size w w' := by
  obtain ⟨i0, hi, hz0, hz1, hz2⟩ := info_parts byteInfo
  obtain ⟨k, hk, hK⟩ := small_of n
  go_enter Tryd.func6, Tryd.ntmps6
  go_wp2_with (go_at_call 7; refine (alive_yes _).mono ?_; rintro e w1 ⟨rfl, hb1⟩; replace hb1 := hide hb1)
  rw [hK]
  clear hK
  go_loopw [5, 20] (fun v c wr => ∃ bs : List UInt8, bs.length ≤ k ∧ c = .int .i64 bs.length ∧ Hid (bs = List.replicate bs.length 120) ∧ Hid (Bts w wr v bs)) (fun _ c _ => k - (intOf c).toNat)
  case atStart => exact ⟨[], Nat.zero_le _, rfl, rfl, hb1.out.alloc hb1.out.size _, some w1.heap.size, Rw.new (e := 5) [] [] (Blk.new _ _ _) rfl rfl (Nat.le_refl _) (Nat.zero_le _), by have := hb1.out.size; simp; omega⟩
  case round =>
    obtain ⟨bs, hik, rfl, HS, HT⟩ := hrel
    obtain ⟨hb, G, hr, hg⟩ := HT.out
    obtain ⟨A, c, rfl⟩ := hr.form
    replace hb := hide hb
    replace hr := hide hr
    replace hg := hide hg
    by_cases hlt : bs.length < k
    · have hlt' : (bs.length : Int) < k := by omega
      go_wp2_with (at_builtin; refine wpList_append_rw rfl _ _ 27 27 rfl 5 i0 (.int .u8 0) 1 1 Tryd.underlying27 hi hz0 hz1 hz2 rfl rfl (hr.out.keep (S := fun _ => False) ((Mvs.refl _ _).alloc _) (fun _ _ c => c)) _ 1 ([(120 : UInt8)].map bv) rfl (src_lit [120] rfl rfl) (by simp only [maxLen]; omega) (by omega) ?_)
      intro v1 w2 G1 hr1 hm1 hg1
      have HT1 := hide (Bts.grow (news := [120]) hb.out hg.out hr1 hm1 (by simpa using hg1))
      obtain ⟨A1, c1, rfl⟩ := hr1.form
      clear hr1 hm1 hg1 hr hb hg hi hz0 hz1 hz2
      go_wp2
      go_roundw
      case rel => exact ⟨bs ++ [120], by simp; omega, by simp, by
        show _ = _
        rw [List.length_append, List.length_singleton, ← rep_snoc, ← HS.out], HT1⟩
      case measure => simp [intOf]; omega
    · obtain rfl : k = bs.length := by omega
      have hcv := convert_rw hr.out
      have hcv13 := fun (w0 : World) (C : Array Value) (n c : Nat) => Lib.run_convert_bytes_const (P := Tryd.prog) w0 27 5 C n c Tryd.underlying27 Tryd.underlying5
      cases ended with
      | false =>
        go_wp2_with (first | (go_at_call 8; refine (new_any _).mono ?_; rintro e w3 ⟨rfl, hb3, hk3⟩; replace hb3 := hide hb3; replace hk3 := hide hk3) | (at_builtin; refine wpList_append_rw rfl _ _ 27 27 rfl 5 i0 (.int .u8 0) 1 1 Tryd.underlying27 hi hz0 hz1 hz2 rfl rfl (hr.out.keep (S := fun _ => False) ((Mvs.of_below hb3.out).alloc _) (fun _ _ c => c)) _ 1 ([(10 : UInt8)].map bv) rfl (src_lit [10] rfl rfl) (by simp only [maxLen]; (try simp only [List.length_append, List.length_singleton]); omega) (by (try simp only [List.length_append, List.length_singleton]); omega) ?_))
        intro v4 w4 G4 hr4 hm4 hg4
        have hb4 := hide (below_mvs ((hb.out.trans (hb3.out.mono hb.out.size)).alloc (Nat.le_trans hb.out.size hb3.out.size) _) hm4 (fun k hk e => by have := hg.out k e.symm; omega) (Nat.le_refl _))
        have hk4 := hide ((hk3.out.keep (S := fun _ => False) ((Mvs.refl _ _).alloc _) (fun _ _ c => c)).keep hm4 (fun k hk e => by
          have hlt := hr.out.lt k e.symm
          rcases hk with rfl | hk
          · omega
          · cases hk))
        have hr4' : Rw w4 1 v4 (bs ++ [10]).length ((bs ++ [10]).map bv) G4 := by
          rw [List.length_append, List.map_append]
          first | exact hr4 | simpa using hr4
        have hs4 := hide (src_rw hr4')
        obtain ⟨A4, c4, rfl⟩ := hr4.form
        clear hr4 hm4 hg4 hr4' hk3 hcv
        go_wp2_with fail
        refine (put_any _ _ _ _ _ hk4.out _ _ hs4.out (by simp; omega)).mono ?_
        rintro e w5 ⟨rfl, G5, hk5, hm5, hg5⟩
        have hwr := hide hb.out.size
        have hge5 := hide (show ∀ k, own wr.heap.size G5 k → w.heap.size ≤ k from fun k hk => by
          have := hb.out.size
          have := hb4.out.size
          rcases own_put hg5 hk with hk | rfl
          · rcases hk with rfl | hk
            · omega
            · cases hk
          · omega)
        have hb5 := hide (below_mvs hb4.out hm5 (fun k hk e => by
          have := hb.out.size
          rcases e with rfl | e
          · omega
          · cases e) (Nat.le_refl _))
        replace hk5 := hide hk5
        clear hg5 hm5 hk4 hb4 hs4
        go_wp2_with fail
        refine (put_any _ _ _ _ _ (hk5.out.keep (S := fun _ => False) ((Mvs.refl _ _).alloc _) (fun _ _ c => c)) _ [110, 101, 120, 116, 10] (src_lit _ rfl rfl) (by simp; omega)).mono ?_
        rintro e w6 ⟨rfl, G6, hk6, hm6, hg6⟩
        have hb6 := hide (below_mvs (hb5.out.alloc hb5.out.size _) hm6 (fun k hk e => by have := hge5.out k e; omega) (Nat.le_refl _))
        replace hk6 := hide hk6
        clear hg6 hm6 hk5 hb5 hge5
        go_wp2_with fail
        refine (long_line (ended := false) HS.out (by simp [endOf]) hk6.out).mono ?_
        rintro e w7 ⟨rfl, hl7⟩
        have hb7 := hide (hl7.base hb6.out (Nat.le_refl _) hwr.out)
        obtain ⟨G7, hk7, hm7, hg7⟩ := hl7
        replace hk7 := hide hk7
        have hL7 := hide (hk7.out.lt wr.heap.size (.inl rfl))
        clear hk6 hb6 hm7 hg7
        by_cases hlong : 1000 < (bs).length
        · rw [if_pos hlong]
          have hlong' : (1000 : Int) < (bs).length := by omega
          have L7 := hide (Blk.new w7 #[.string ⟨#[]⟩, .bool true] 36)
          go_wp2_with fail
          refine (line_next (hk7.out.keep (S := fun _ => False) ((Mvs.refl _ _).alloc _) (fun _ _ c => c))).mono ?_
          rintro e w8 ⟨rfl, hl8⟩
          have hb8 := hide (hl8.base (hb7.out.alloc hb7.out.size _) (Nat.le_refl _) hwr.out)
          obtain ⟨G8, hk8, hm8, hg8⟩ := hl8
          have L8 := hide (hm8.blk L7.out (by have := hL7.out; omega))
          have hc8 := L8.out.cell
          have hlt8 := L8.out.lt
          have hne8 : w8.heap.size ≠ w7.heap.size := by omega
          have hk9 := hide (hk8.keep (S := fun _ => False) ((Mvs.refl _ _).alloc (.cells #[.string ⟨#[110, 101, 120, 116]⟩, .bool false] 36)) (fun _ _ c => c))
          clear hk8 hm8 hg8 L7 L8 hk7 hb7
          go_wp2_with (go_at_call 19; refine (left_any _ _ _ _ _ hk9.out).mono ?_; rintro e w9 ⟨rfl, rfl⟩)
          go_ret
          exact ⟨rfl, hb8.out.alloc hb8.out.size _⟩
        · rw [if_neg hlong]
          have hlong' : ¬ (1000 : Int) < (bs).length := by omega
          have L7 := hide (Blk.new w7 #[.string ⟨bs.toArray⟩, .bool false] 36)
          go_wp2_with fail
          refine (line_next (hk7.out.keep (S := fun _ => False) ((Mvs.refl _ _).alloc _) (fun _ _ c => c))).mono ?_
          rintro e w8 ⟨rfl, hl8⟩
          have hb8 := hide (hl8.base (hb7.out.alloc hb7.out.size _) (Nat.le_refl _) hwr.out)
          obtain ⟨G8, hk8, hm8, hg8⟩ := hl8
          have L8 := hide (hm8.blk L7.out (by have := hL7.out; omega))
          have hc8 := L8.out.cell
          have hlt8 := L8.out.lt
          have hne8 : w8.heap.size ≠ w7.heap.size := by omega
          have hk9 := hide (hk8.keep (S := fun _ => False) ((Mvs.refl _ _).alloc (.cells #[.string ⟨#[110, 101, 120, 116]⟩, .bool false] 36)) (fun _ _ c => c))
          clear hk8 hm8 hg8 L7 L8 hk7 hb7
          go_wp2_with (go_at_call 19; refine (left_any _ _ _ _ _ hk9.out).mono ?_; rintro e w9 ⟨rfl, rfl⟩)
          go_ret
          exact ⟨rfl, hb8.out.alloc hb8.out.size _⟩
      | true =>
        go_wp2_with (at_builtin; refine wpList_append_rw rfl _ _ 27 27 rfl 5 i0 (.int .u8 0) 1 1 Tryd.underlying27 hi hz0 hz1 hz2 rfl rfl (hr.out.keep (S := fun _ => False) ((Mvs.refl _ _).alloc _) (fun _ _ c => c)) _ 1 ([(13 : UInt8)].map bv) rfl (src_lit [13] rfl rfl) (by simp only [maxLen]; omega) (by omega) ?_)
        intro v1 w2 G1 hr1 hm1 hg1
        obtain ⟨A1, c1, rfl⟩ := hr1.form
        have HT1 := hide (Bts.grow (news := [13]) hb.out hg.out hr1 hm1 (by simpa using hg1))
        clear hr1 hm1 hg1 hr hb hg hcv
        obtain ⟨hb, G2, hr, hg⟩ := HT1.out
        replace hb := hide hb
        replace hr := hide hr
        replace hg := hide hg
        go_wp2_with (first | (go_at_call 8; refine (new_any _).mono ?_; rintro e w3 ⟨rfl, hb3, hk3⟩; replace hb3 := hide hb3; replace hk3 := hide hk3) | (at_builtin; refine wpList_append_rw rfl _ _ 27 27 rfl 5 i0 (.int .u8 0) 1 1 Tryd.underlying27 hi hz0 hz1 hz2 rfl rfl (hr.out.keep (S := fun _ => False) ((Mvs.of_below hb3.out).alloc _) (fun _ _ c => c)) _ 1 ([(10 : UInt8)].map bv) rfl (src_lit [10] rfl rfl) (by simp only [maxLen]; (try simp only [List.length_append, List.length_singleton]); omega) (by (try simp only [List.length_append, List.length_singleton]); omega) ?_))
        intro v4 w4 G4 hr4 hm4 hg4
        have hb4 := hide (below_mvs ((hb.out.trans (hb3.out.mono hb.out.size)).alloc (Nat.le_trans hb.out.size hb3.out.size) _) hm4 (fun k hk e => by have := hg.out k e.symm; omega) (Nat.le_refl _))
        have hk4 := hide ((hk3.out.keep (S := fun _ => False) ((Mvs.refl _ _).alloc _) (fun _ _ c => c)).keep hm4 (fun k hk e => by
          have hlt := hr.out.lt k e.symm
          rcases hk with rfl | hk
          · omega
          · cases hk))
        have hr4' : Rw w4 1 v4 ((bs ++ [13]) ++ [10]).length (((bs ++ [13]) ++ [10]).map bv) G4 := by
          rw [List.length_append, List.map_append]
          first | exact hr4 | simpa using hr4
        have hs4 := hide (src_rw hr4')
        obtain ⟨A4, c4, rfl⟩ := hr4.form
        clear hr4 hm4 hg4 hr4' hk3
        go_wp2_with fail
        refine (put_any _ _ _ _ _ hk4.out _ _ hs4.out (by simp; omega)).mono ?_
        rintro e w5 ⟨rfl, G5, hk5, hm5, hg5⟩
        have hwr := hide hb.out.size
        have hge5 := hide (show ∀ k, own w2.heap.size G5 k → w.heap.size ≤ k from fun k hk => by
          have := hb.out.size
          have := hb4.out.size
          rcases own_put hg5 hk with hk | rfl
          · rcases hk with rfl | hk
            · omega
            · cases hk
          · omega)
        have hb5 := hide (below_mvs hb4.out hm5 (fun k hk e => by
          have := hb.out.size
          rcases e with rfl | e
          · omega
          · cases e) (Nat.le_refl _))
        replace hk5 := hide hk5
        clear hg5 hm5 hk4 hb4 hs4
        go_wp2_with fail
        refine (put_any _ _ _ _ _ (hk5.out.keep (S := fun _ => False) ((Mvs.refl _ _).alloc _) (fun _ _ c => c)) _ [110, 101, 120, 116, 10] (src_lit _ rfl rfl) (by simp; omega)).mono ?_
        rintro e w6 ⟨rfl, G6, hk6, hm6, hg6⟩
        have hb6 := hide (below_mvs (hb5.out.alloc hb5.out.size _) hm6 (fun k hk e => by have := hge5.out k e; omega) (Nat.le_refl _))
        replace hk6 := hide hk6
        clear hg6 hm6 hk5 hb5 hge5
        go_wp2_with fail
        refine (long_line (ended := true) HS.out (by simp [endOf]) hk6.out).mono ?_
        rintro e w7 ⟨rfl, hl7⟩
        have hb7 := hide (hl7.base hb6.out (Nat.le_refl _) hwr.out)
        obtain ⟨G7, hk7, hm7, hg7⟩ := hl7
        replace hk7 := hide hk7
        have hL7 := hide (hk7.out.lt w2.heap.size (.inl rfl))
        clear hk6 hb6 hm7 hg7
        by_cases hlong : 1000 < ((bs ++ [13])).length
        · rw [if_pos hlong]
          have hlong' : (1000 : Int) < ((bs ++ [13])).length := by omega
          simp only [List.length_append, List.length_singleton, Int.natCast_add, Int.natCast_one] at hlong'
          have L7 := hide (Blk.new w7 #[.string ⟨#[]⟩, .bool true] 36)
          go_wp2_with fail
          refine (line_next (hk7.out.keep (S := fun _ => False) ((Mvs.refl _ _).alloc _) (fun _ _ c => c))).mono ?_
          rintro e w8 ⟨rfl, hl8⟩
          have hb8 := hide (hl8.base (hb7.out.alloc hb7.out.size _) (Nat.le_refl _) hwr.out)
          obtain ⟨G8, hk8, hm8, hg8⟩ := hl8
          have L8 := hide (hm8.blk L7.out (by have := hL7.out; omega))
          have hc8 := L8.out.cell
          have hlt8 := L8.out.lt
          have hne8 : w8.heap.size ≠ w7.heap.size := by omega
          have hk9 := hide (hk8.keep (S := fun _ => False) ((Mvs.refl _ _).alloc (.cells #[.string ⟨#[110, 101, 120, 116]⟩, .bool false] 36)) (fun _ _ c => c))
          clear hk8 hm8 hg8 L7 L8 hk7 hb7
          go_wp2_with (go_at_call 19; refine (left_any _ _ _ _ _ hk9.out).mono ?_; rintro e w9 ⟨rfl, rfl⟩)
          go_ret
          exact ⟨rfl, hb8.out.alloc hb8.out.size _⟩
        · rw [if_neg hlong]
          have hlong' : ¬ (1000 : Int) < ((bs ++ [13])).length := by omega
          simp only [List.length_append, List.length_singleton, Int.natCast_add, Int.natCast_one] at hlong'
          have L7 := hide (Blk.new w7 #[.string ⟨bs.toArray⟩, .bool false] 36)
          go_wp2_with fail
          refine (line_next (hk7.out.keep (S := fun _ => False) ((Mvs.refl _ _).alloc _) (fun _ _ c => c))).mono ?_
          rintro e w8 ⟨rfl, hl8⟩
          have hb8 := hide (hl8.base (hb7.out.alloc hb7.out.size _) (Nat.le_refl _) hwr.out)
          obtain ⟨G8, hk8, hm8, hg8⟩ := hl8
          have L8 := hide (hm8.blk L7.out (by have := hL7.out; omega))
          have hc8 := L8.out.cell
          have hlt8 := L8.out.lt
          have hne8 : w8.heap.size ≠ w7.heap.size := by omega
          have hk9 := hide (hk8.keep (S := fun _ => False) ((Mvs.refl _ _).alloc (.cells #[.string ⟨#[110, 101, 120, 116]⟩, .bool false] 36)) (fun _ _ c => c))
          clear hk8 hm8 hg8 L7 L8 hk7 hb7
          go_wp2_with (go_at_call 19; refine (left_any _ _ _ _ _ hk9.out).mono ?_; rintro e w9 ⟨rfl, rfl⟩)
          go_ret
          exact ⟨rfl, hb8.out.alloc hb8.out.size _⟩
end Go.Proofs.YtkcailfpanmhdaaDoor
