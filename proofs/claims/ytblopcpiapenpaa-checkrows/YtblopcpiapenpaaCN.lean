/- Numbers of four bytes; records. -/
import Derived.Test.YtblopcpiapenpaaCM2
import Derived.BigQuiet
import Derived.Deep.QuietTactic
namespace Go.Proofs.Ytblopcpiapenpaa
open Go.RowKit
def fourB (n : Nat) : List UInt8 := [UInt8.ofNat (n / 16777216), UInt8.ofNat (n / 65536), UInt8.ofNat (n / 256), UInt8.ofNat n]
def recB (bs : List UInt8) : List UInt8 := fourB bs.length ++ fourB (sumN 1 bs) ++ bs
theorem fourB_length (n : Nat) : (fourB n).length = 4 := rfl
theorem recB_length (bs : List UInt8) : (recB bs).length = bs.length + 8 := by
  simp [recB, fourB_length]
  omega
/-- The number that four bytes are. -/
def numN (bs : List UInt8) : Nat := (bs.getD 0 0).toNat * 16777216 + (bs.getD 1 0).toNat * 65536 + (bs.getD 2 0).toNat * 256 + (bs.getD 3 0).toNat
theorem numN_four (n : Nat) (h : n < 4294967296) (r : List UInt8) : numN (fourB n ++ r) = n := by
  unfold numN fourB
  simp only [List.cons_append, List.nil_append, List.getD_cons_zero, List.getD_cons_succ]
  rw [UInt8.toNat_ofNat', UInt8.toNat_ofNat', UInt8.toNat_ofNat', UInt8.toNat_ofNat']
  omega
theorem numN_lt (bs : List UInt8) : numN bs < 4294967296 := by
  unfold numN
  have h0 := UInt8.toNat_lt (bs.getD 0 0)
  have h1 := UInt8.toNat_lt (bs.getD 1 0)
  have h2 := UInt8.toNat_lt (bs.getD 2 0)
  have h3 := UInt8.toNat_lt (bs.getD 3 0)
  omega
theorem numN_at (bs : List UInt8) (h : 4 ≤ bs.length) : numN bs = bs[0].toNat * 16777216 + bs[1].toNat * 65536 + bs[2].toNat * 256 + bs[3].toNat := by
  unfold numN
  simp only [List.getD_eq_getElem?_getD]
  rw [List.getElem?_eq_getElem (by omega), List.getElem?_eq_getElem (by omega), List.getElem?_eq_getElem (by omega), List.getElem?_eq_getElem (by omega)]
  rfl

/-- The cells of a number's four bytes. -/
theorem four_cells (n : Nat) (hn : n < 4294967296) : (#[.int .u8 ((n : Int) / 16777216), .int .u8 ((n : Int) / 65536 % 256), .int .u8 ((n : Int) / 256 % 256), .int .u8 ((n : Int) % 256)] : Array Value) = ((fourB n).map bv).toArray := by
  have e : ∀ (m : Nat) (z : Int), z = (m % 256 : Nat) → Value.int .u8 z = bv (UInt8.ofNat m) := fun m z h => by
    unfold bv
    rw [UInt8.toNat_ofNat', h]
  rw [e (n / 16777216) _ (by omega), e (n / 65536) _ (by omega), e (n / 256) _ (by omega), e n _ (by omega)]
  rfl

set_option maxHeartbeats 1000000 in
theorem four_any (n : Nat) (hn : n < 4294967296) (w : World) : Calls Try.prog 22 #[.int .u32 n] w fun e w' => ∃ v, e = .returned v ∧ Bts w w' v (fourB n) := by
  go_enter Try.func22, Try.ntmps22
  go_wp2
  go_ret
  refine ⟨_, rfl, ?_⟩
  exact Bts.new w (fourB n) (four_cells n hn) rfl (by simp [fourB])

set_option maxRecDepth 20000 in
set_option maxHeartbeats 2000000 in
theorem rrecord_any (bs : List UInt8) (v : Value) (w : World) (h : BR w v bs) (hb : bs.length ≤ 20000) :
    Calls Try.prog 17 #[v] w fun e w' => ∃ v', e = .returned v' ∧ Bts w w' v' (recB bs) := by
  obtain ⟨A, c, rfl, hl, hm, _⟩ := BR.form h
  have HB : Hid (∀ (w' : World), Below w.heap.size w w' → BR w' (.slice A bs.length c) bs) := fun w' hb => h.below hb
  have hsum := sumN_lt 1 bs
  have R1 : Hid (∀ (w' : World) (s : Int), s = ((1 : Nat) : Int) → Below w.heap.size w w' → Calls Try.prog 9 #[.int .u32 s, .slice A bs.length c] w' fun e w'' => e = .returned (.int .u32 (sumN 1 bs)) ∧ w'' = w') := by
    rintro w' s rfl hb
    exact rmore_any 1 (by omega) bs _ w' (HB.out w' hb)
  clear h
  obtain ⟨i0, hi, hz0, hz1, hz2⟩ := info_parts byteInfo
  go_enter Try.func17, Try.ntmps17
  go_wp2_with fail
  refine (four_any bs.length (by omega) _).mono ?_
  rintro e w1 ⟨v1, rfl, T1⟩
  have hw1 := hide (T1.1.mono (B' := w.heap.size) (by simp))
  have T1s := hide T1.br.src
  have hw1' := hide (((Below.refl w.heap.size w).alloc (Nat.le_refl _) (.cells #[] 5)).trans hw1.out)
  have E1 := hide (Rw.keep (S := fun _ => False) (Rw.new (w := w.alloc (.cells #[] 5)) (sz := 1) (n := 0) (e := 5) (g := w.heap.size) (cap := 0) [] [] (Blk.new _ _ _) rfl rfl (Nat.le_refl _) (Nat.zero_le _)) (Mvs.of_below T1.1) (fun _ _ c => c))
  clear T1
  go_wp2_with (at_builtin; refine wpList_append_rw rfl _ _ 23 23 rfl 5 i0 (.int .u8 0) 1 1 Try.underlying23 hi hz0 hz1 hz2 rfl rfl E1.out _ 4 ((fourB bs.length).map bv) rfl T1s.out (by simp only [maxLen]; omega) (by omega) ?_)
  intro v2 w2 G2 hr2 hm2 hg2
  have T2 : Hid (Bts w w2 v2 (fourB bs.length)) := ⟨below_mvs hw1'.out hm2 (fun k hk e => by cases e; omega) (Nat.le_refl _), G2, hr2, by
    rintro g rfl
    have := hw1'.out.size
    rcases hg2 with h | h
    · cases h; exact Nat.le_refl _
    · cases h; exact this⟩
  obtain ⟨G, A2, c2, rfl, T2r, T2b, T2g⟩ := T2.out.parts
  clear hr2 hm2 hg2 E1 T1s hw1 T2
  go_wp2_with (go_at_call 9; refine (R1.out _ _ rfl T2b.out).mono ?_; rintro e w3 ⟨rfl, rfl⟩)
  refine (four_any _ hsum _).mono ?_
  rintro e w3 ⟨v3, rfl, T3⟩
  replace T3 := hide T3
  have T3s := hide T3.out.br.src
  have T3r := hide (T2r.out.keep (S := fun _ => False) (Mvs.of_below T3.out.1) (fun _ _ c => c))
  have T3b := hide (T2b.out.trans (T3.out.1.mono T2b.out.size))
  clear T3 T2r
  go_wp2_with (at_builtin; refine wpList_append_rw rfl _ _ 23 23 rfl 5 i0 (.int .u8 0) 1 1 Try.underlying23 hi hz0 hz1 hz2 rfl rfl T3r.out _ 4 ((fourB (sumN 1 bs)).map bv) rfl T3s.out (by simp only [maxLen, fourB_length] <;> omega) (by simp only [fourB_length] <;> omega) ?_)
  intro v4 w4 G4 hr4 hm4 hg4
  have T4 := Bts.grow (bs := fourB bs.length) (news := fourB (sumN 1 bs)) T3b.out T2g.out rfl rfl hr4 hm4 hg4
  clear hr4 hm4 hg4 T3s
  obtain ⟨G5, A5, c5, rfl, T5r, T5b, T5g⟩ := T4.parts
  clear T4
  go_wp2_with (at_builtin; refine wpList_append_rw rfl _ _ 23 23 rfl 5 i0 (.int .u8 0) 1 1 Try.underlying23 hi hz0 hz1 hz2 rfl rfl T5r.out _ bs.length (bs.map bv) rfl (BR.src (HB.out _ T5b.out)) (by simp only [maxLen, List.length_append, fourB_length] <;> omega) (by simp only [List.length_append, fourB_length] <;> omega) ?_)
  intro v6 w6 G6 hr6 hm6 hg6
  have T6 := hide (Bts.grow (bs := fourB bs.length ++ fourB (sumN 1 bs)) (news := bs) T5b.out T5g.out rfl rfl (by simpa using hr6) hm6 hg6)
  clear hr6 hm6 hg6 hi hz0 hz1 hz2
  go_wp2
  go_ret
  exact ⟨_, rfl, T6.out⟩
end Go.Proofs.Ytblopcpiapenpaa
