/- The document's words: a text cut at blanks. -/
import Derived.Test.YtabncmepkoiheaaDoorRf7
import Derived.Test.YtabncmepkoiheaaDoorOwn
import Derived.Test.YtabncmepkoiheaaDoorDShape3
namespace Go.Proofs.YtabncmepkoiheaaDoor
open Go.RowKit
/-- A text as a cell holds it. -/
def sv (x : List UInt8) : Value := .string ⟨x.toArray⟩
theorem strInfo : (Tryd.prog.info? 9).map (fun i => (i.zero, i.size, i.bytes)) = some (some (.string ⟨#[]⟩), 1, 16) := by kernel_rfl
theorem sv_oneCell (xs : List (List UInt8)) : ∀ u ∈ xs.map sv, u.oneCell' = true := by
  intro u hu
  obtain ⟨b, _, rfl⟩ := List.mem_map.1 hu
  rfl
theorem src_one {w : World} {t : TypeId} (x : List UInt8) {c : Nat} (ht : Tryd.prog.underlying t = some (.slice 9)) : Src Tryd.prog 1 t (.slice (some ⟨w.heap.size, 0, none⟩) 1 c) 1 [sv x] (w.alloc (.cells #[.string ⟨x.toArray⟩] 9)) := by
  refine Src.ofSlice _ ht ⟨w.heap.size, 0, none⟩ 1 c [sv x] (by simp) (fun j u hu => ?_) (sv_oneCell [x])
  have hj := (List.getElem?_eq_some_iff.1 hu).1
  obtain rfl : j = 0 := by simpa using hj
  rw [Go.WideShapes.add_plain, Nat.zero_add, (Blk.new w _ _).cell]
  simp at hu
  rw [← hu]
  rfl
theorem info_parts {i : Option TypeInfo} {z : Value} {n m : Nat} (h : i.map (fun i => (i.zero, i.size, i.bytes)) = some (some z, n, m)) : ∃ i0, i = some i0 ∧ i0.zero = some z ∧ i0.size = n ∧ i0.bytes = m := by
  obtain ⟨i0, hi, h⟩ := Option.map_eq_some_iff.1 h
  simp only [Prod.mk.injEq] at h
  exact ⟨i0, hi, h⟩
theorem below_mvs {B : Nat} {w x y : World} {S : Nat → Prop} (h : Below B w x) (hm : Mvs S x y) (hs : ∀ k, k < B → ¬ S k) (hB : B ≤ w.heap.size) : Below B w y := h.trans (hm.below hs (Nat.le_trans hB h.size))
/-- The texts xs, in a row of this call's own. -/
def Texts (w wr : World) (v : Value) (xs : List (List UInt8)) : Prop := Below w.heap.size w wr ∧ ∃ G, Rw wr 1 v xs.length (xs.map sv) G ∧ ∀ g, G = some g → w.heap.size ≤ g
theorem Texts.grow {w wr w1 : World} {v1 : Value} {xs : List (List UInt8)} {x : List UInt8} {G G1 : Option Nat} {o : Obj} (hb : Below w.heap.size w wr) (hg : ∀ g, G = some g → w.heap.size ≤ g)
    (hr : Rw w1 1 v1 (xs.length + 1) (xs.map sv ++ [sv x]) G1) (hm : Mvs (fun k => some k = G) (wr.alloc o) w1) (hG : G1 = G ∨ G1 = some (wr.alloc o).heap.size) : Texts w w1 v1 (xs ++ [x]) := by
  refine ⟨below_mvs (hb.alloc hb.size _) hm (fun k hk e => by have := hg k e.symm; omega) (Nat.le_refl _), G1, ?_, ?_⟩
  · rw [List.length_append, List.map_append]
    exact hr
  · rintro g rfl
    have := hb.size
    rcases hG with h | h
    · exact hg g h.symm
    · cases h
      simp
      omega
/-- The words of a text, cur having come. -/
def wordsA : List UInt8 → List UInt8 → List (List UInt8)
  | cur, [] => if cur = [] then [] else [cur]
  | cur, c :: r => if isBlk c then (if cur = [] then wordsA [] r else cur :: wordsA [] r) else wordsA (cur ++ [c]) r
theorem cat_lit (a b : List UInt8) : (⟨a.toArray⟩ : ByteArray) ++ ⟨b.toArray⟩ = ⟨(a ++ b).toArray⟩ := by
  apply ByteArray.ext
  simp [ByteArray.data_append]
theorem size_lit' (l : List UInt8) : (⟨l.toArray⟩ : ByteArray).size = l.length := by simp [ByteArray.size]
theorem slice1 (s : List UInt8) (j : Nat) (h : j < s.length) (w : World) : (Instr.slice 9 (.string ⟨s.toArray⟩) (some (.int .i64 j)) (some (.int .i64 ((j : Int) + 1))) none).run Tryd.prog w = .ok (.string ⟨[s[j]].toArray⟩) w := by
  have := run_slice_string (P := Tryd.prog) w 9 ⟨s.toArray⟩ .i64 .i64 (j : Int) ((j : Int) + 1) Tryd.underlying9 (by omega) (by omega) (by rw [size_lit']; omega)
  rw [this]
  have e1 := ext_mid' s j (j + 1)
  rw [show j + 1 - j = 1 from by omega, List.drop_eq_getElem_cons h] at e1
  rw [show ((j : Int) + 1).toNat = j + 1 from by omega, show ((j : Int)).toNat = j from by omega, e1]
  rfl
set_option maxRecDepth 20000 in
set_option maxHeartbeats 2000000 in
theorem words_any (s : List UInt8) (w : World) (hs : s.length ≤ 900) :
    Calls Tryd.prog 38 #[.string ⟨s.toArray⟩] w fun e w' => ∃ v, e = .returned v ∧ Texts w w' v (wordsA [] s) := by
  obtain ⟨i0, hi, hz0, hz1, hz2⟩ := info_parts strInfo
  go_enter Tryd.func38, Tryd.ntmps38
  go_wp2
  go_loopw [3, 4, 5] (fun v cu n wr => ∃ (i : Nat) (xs : List (List UInt8)) (cur : List UInt8), n = .int .i64 i ∧ cu = .string ⟨cur.toArray⟩ ∧ i ≤ s.length + 1 ∧ xs.length ≤ i ∧ cur.length ≤ i ∧ Hid (Texts w wr v xs) ∧ Hid ((i ≤ s.length → xs ++ wordsA cur (s.drop i) = wordsA [] s) ∧ (i = s.length + 1 → xs = wordsA [] s))) (fun _ _ n _ => s.length + 1 - (intOf n).toNat)
  case atStart =>
    refine ⟨0, [], [], rfl, rfl, by omega, by simp, by simp, ⟨(Below.refl _ _).alloc (Nat.le_refl _) _, some w.heap.size, ?_, fun g hg => by cases hg; exact Nat.le_refl _⟩, ⟨fun _ => rfl, fun h => by omega⟩⟩
    exact Rw.new (e := 9) [] [] (Blk.new w #[] 9) rfl rfl (Nat.le_refl _) (by simp [maxLen])
  case round =>
    obtain ⟨i, xs, cur, rfl, rfl, hil, hxl, hcl, HT, HX⟩ := hrel
    obtain ⟨hb, G, hr, hg⟩ := HT.out
    obtain ⟨A, c, rfl⟩ := hr.form
    replace hb := hide hb
    replace hr := hide hr
    replace hg := hide hg
    by_cases hle : i ≤ s.length
    · by_cases hlt : i < s.length
      · have hbyte : ∀ h, ((⟨s.toArray⟩ : ByteArray)[i]'h) = s[i] := fun _ => rfl
        have hne : ((i : Int) == (s.length : Int)) = false := beq_eq_false_iff_ne.2 (by omega)
        have hd := List.drop_eq_getElem_cons hlt
        have hX := HX.out.1 hle
        rw [hd, wordsA] at hX
        obtain ⟨ch, hch⟩ : ∃ ch, s[i] = ch := ⟨_, rfl⟩
        have hsl := slice1 s i hlt
        rw [hch] at hX hsl
        simp only [hch] at hbyte
        clear hd hch
        by_cases hbk : isBlk ch = true
        · rw [hbk, if_pos rfl] at hX
          have hb2 := hbk
          unfold isBlk at hb2
          have hsplit : ((ch.toNat : Int) == 32) = true ∨ (((ch.toNat : Int) == 32) = false ∧ ((ch.toNat : Int) == 9) = true) := by
            simp at hb2
            rcases hb2 with h | h
            · left; rw [beq_iff_eq]; omega
            · right; exact ⟨beq_eq_false_iff_ne.2 (by omega), by rw [beq_iff_eq]; omega⟩
          clear hb2 hbk
          by_cases hc0 : cur = []
          · subst hc0
            rw [if_pos rfl] at hX
            have HX2 : Hid ((i + 1 ≤ s.length → xs ++ wordsA [] (s.drop (i + 1)) = wordsA [] s) ∧ (i + 1 = s.length + 1 → xs = wordsA [] s)) := ⟨fun _ => hX, fun h => by omega⟩
            clear hX
            rcases hsplit with h32 | ⟨h32, h9⟩
            all_goals
              go_wp2
              go_roundw
              case rel => exact ⟨i + 1, xs, [], by go_num, rfl, by omega, by omega, by simp, HT, HX2⟩
              case measure => simp [intOf]; omega
          · rw [if_neg hc0] at hX
            have HX2 : Hid ((i + 1 ≤ s.length → (xs ++ [cur]) ++ wordsA [] (s.drop (i + 1)) = wordsA [] s) ∧ (i + 1 = s.length + 1 → (xs ++ [cur]) = wordsA [] s)) := ⟨fun _ => by rw [← hX]; simp, fun h => by omega⟩
            have hcb : (cur == []) = false := by simpa using hc0
            clear hX hc0
            rcases hsplit with h32 | ⟨h32, h9⟩
            all_goals
              go_wp2_with (first | (at_builtin; refine wpList_append_rw rfl _ _ 48 48 rfl 9 i0 (.string ⟨#[]⟩) 1 16 Tryd.underlying48 hi hz0 hz1 hz2 rfl rfl (hr.out.keep (S := fun _ => False) ((Mvs.refl _ _).alloc _) (fun _ _ c => c)) _ 1 _ rfl (src_one _ Tryd.underlying48) (by simp only [maxLen]; omega) (by omega) ?_))
              intro v1 w1 G1 hr1 hm1 hg1
              have HT1 := hide (Texts.grow hb.out hg.out hr1 hm1 (by simpa using hg1))
              obtain ⟨A1, c1, rfl⟩ := hr1.form
              clear hr1 hm1 hg1 hr hb hg
              go_wp2
              go_roundw
              case rel => exact ⟨i + 1, _, [], by go_num, rfl, by omega, by simp; omega, by simp, HT1, HX2⟩
              case measure => simp [intOf]; omega
        · have hbf : isBlk ch = false := by simpa using hbk
          rw [hbf, if_neg (by simp)] at hX
          unfold isBlk at hbf
          simp at hbf
          have h32 : ((ch.toNat : Int) == 32) = false := beq_eq_false_iff_ne.2 (by omega)
          have h9 : ((ch.toNat : Int) == 9) = false := beq_eq_false_iff_ne.2 (by omega)
          have HX2 : Hid ((i + 1 ≤ s.length → xs ++ wordsA (cur ++ [ch]) (s.drop (i + 1)) = wordsA [] s) ∧ (i + 1 = s.length + 1 → xs = wordsA [] s)) := ⟨fun _ => hX, fun h => by omega⟩
          clear hX hbk hbf
          have hct := cat_lit cur [ch]
          go_wp2
          go_roundw
          case rel => exact ⟨i + 1, xs, cur ++ [ch], by go_num, rfl, by omega, by omega, by simp; omega, HT, HX2⟩
          case measure => simp [intOf]; omega
      · have hie : i = s.length := by omega
        have heq : ((i : Int) == (s.length : Int)) = true := by rw [beq_iff_eq]; omega
        have hX := HX.out.1 hle
        rw [hie, List.drop_length, wordsA] at hX
        have HIE := hide hie
        clear hie
        by_cases hc0 : cur = []
        · subst hc0
          rw [if_pos rfl, List.append_nil] at hX
          have HX2 : Hid ((i + 1 ≤ s.length → xs ++ wordsA [] (s.drop (i + 1)) = wordsA [] s) ∧ (i + 1 = s.length + 1 → xs = wordsA [] s)) := ⟨fun h => by omega, fun _ => hX⟩
          clear hX
          go_wp2
          go_roundw
          case rel => exact ⟨i + 1, xs, [], by go_num, rfl, by omega, by omega, by simp, HT, HX2⟩
          case measure => simp [intOf]; omega
        · rw [if_neg hc0] at hX
          have HX2 : Hid ((i + 1 ≤ s.length → (xs ++ [cur]) ++ wordsA [] (s.drop (i + 1)) = wordsA [] s) ∧ (i + 1 = s.length + 1 → (xs ++ [cur]) = wordsA [] s)) := ⟨fun h => by omega, fun _ => hX⟩
          have hcb : (cur == []) = false := by simpa using hc0
          clear hX hc0
          go_wp2_with (first | (at_builtin; refine wpList_append_rw rfl _ _ 48 48 rfl 9 i0 (.string ⟨#[]⟩) 1 16 Tryd.underlying48 hi hz0 hz1 hz2 rfl rfl (hr.out.keep (S := fun _ => False) ((Mvs.refl _ _).alloc _) (fun _ _ c => c)) _ 1 _ rfl (src_one _ Tryd.underlying48) (by simp only [maxLen]; omega) (by omega) ?_))
          intro v1 w1 G1 hr1 hm1 hg1
          have HT1 := hide (Texts.grow hb.out hg.out hr1 hm1 (by simpa using hg1))
          obtain ⟨A1, c1, rfl⟩ := hr1.form
          clear hr1 hm1 hg1 hr hb hg
          go_wp2
          go_roundw
          case rel => exact ⟨i + 1, _, [], by go_num, rfl, by omega, by simp; omega, by simp, HT1, HX2⟩
          case measure => simp [intOf]; omega
    · have hX := HX.out.2 (by omega)
      have hng : ¬ (i : Int) ≤ (s.length : Int) := by omega
      have HX2 := hide hX
      clear hX
      go_wp2
      go_ret
      exact ⟨_, rfl, by rw [← HX2.out]; exact HT.out⟩
end Go.Proofs.YtabncmepkoiheaaDoor
