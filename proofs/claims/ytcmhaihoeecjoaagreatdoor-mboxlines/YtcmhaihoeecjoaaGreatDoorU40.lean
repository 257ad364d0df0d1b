/- The document's words: a text cut at blanks. -/
/- A date field's words: what the document asks of them. -/
import Derived.Test.YtcmhaihoeecjoaaGreatDoorU39
import Derived.Test.YtcmhaihoeecjoaaGreatDoorU03
section
namespace Go.Proofs.YtcmhaihoeecjoaaGreatDoor.Da
open Go.RowKit
/-- A text as a cell holds it. -/
def sv (x : List UInt8) : Value := .string ⟨x.toArray⟩
theorem strInfo : (Tryz.prog.info? 9).map (fun i => (i.zero, i.size, i.bytes)) = some (some (.string ⟨#[]⟩), 1, 16) := by kernel_rfl
theorem sv_oneCell (xs : List (List UInt8)) : ∀ u ∈ xs.map sv, u.oneCell' = true := by
  intro u hu
  obtain ⟨b, _, rfl⟩ := List.mem_map.1 hu
  rfl
theorem src_one {w : World} {t : TypeId} (x : List UInt8) {c : Nat} (ht : Tryz.prog.underlying t = some (.slice 9)) : Src Tryz.prog 1 t (.slice (some ⟨w.heap.size, 0, none⟩) 1 c) 1 [sv x] (w.alloc (.cells #[.string ⟨x.toArray⟩] 9)) := by
  refine Src.ofSlice _ ht ⟨w.heap.size, 0, none⟩ 1 c [sv x] (by simp) (fun j u hu => ?_) (sv_oneCell [x])
  have hj := (List.getElem?_eq_some_iff.1 hu).1
  obtain rfl : j = 0 := by simpa using hj
  rw [Go.WideShapes.add_plain, Nat.zero_add, (Blk.new w _ _).cell]
  simp at hu
  rw [← hu]
  rfl
theorem info_parts {i : Option TypeInfo} {z : Value} {n m : Nat} (h : i.map (fun i => (i.zero, i.size, i.bytes)) = some (some z, n, m)) : ∃ i0, i = some i0 ∧ i0.zero = some z ∧ i0.size = n ∧ i0.bytes = m := by
  obtain ⟨i0, hi, h⟩ := Option.map_eq_some_iff.1 h
  simp only [Prod.mk.injEq] at h
  exact ⟨i0, hi, h⟩
theorem below_mvs {B : Nat} {w x y : World} {S : Nat → Prop} (h : Below B w x) (hm : Mvs S x y) (hs : ∀ k, k < B → ¬ S k) (hB : B ≤ w.heap.size) : Below B w y := h.trans (hm.below hs (Nat.le_trans hB h.size))
/-- The texts xs, in a row of this call's own. -/
def Texts (w wr : World) (v : Value) (xs : List (List UInt8)) : Prop := Below w.heap.size w wr ∧ ∃ G, Rw wr 1 v xs.length (xs.map sv) G ∧ ∀ g, G = some g → w.heap.size ≤ g
theorem Texts.grow {w wr w1 : World} {v1 : Value} {xs : List (List UInt8)} {x : List UInt8} {G G1 : Option Nat} {o : Obj} (hb : Below w.heap.size w wr) (hg : ∀ g, G = some g → w.heap.size ≤ g)
    (hr : Rw w1 1 v1 (xs.length + 1) (xs.map sv ++ [sv x]) G1) (hm : Mvs (fun k => some k = G) (wr.alloc o) w1) (hG : G1 = G ∨ G1 = some (wr.alloc o).heap.size) : Texts w w1 v1 (xs ++ [x]) := by
  refine ⟨below_mvs (hb.alloc hb.size _) hm (fun k hk e => by have := hg k e.symm; omega) (Nat.le_refl _), G1, ?_, ?_⟩
  · rw [List.length_append, List.map_append]
    exact hr
  · rintro g rfl
    have := hb.size
    rcases hG with h | h
    · exact hg g h.symm
    · cases h
      simp
      omega
/-- The words of a text, cur having come. -/
def wordsA : List UInt8 → List UInt8 → List (List UInt8)
  | cur, [] => if cur = [] then [] else [cur]
  | cur, c :: r => if isBlk c then (if cur = [] then wordsA [] r else cur :: wordsA [] r) else wordsA (cur ++ [c]) r
theorem cat_lit (a b : List UInt8) : (⟨a.toArray⟩ : ByteArray) ++ ⟨b.toArray⟩ = ⟨(a ++ b).toArray⟩ := by
  apply ByteArray.ext
  simp [ByteArray.data_append]
theorem size_lit' (l : List UInt8) : (⟨l.toArray⟩ : ByteArray).size = l.length := by simp [ByteArray.size]
theorem slice1 (s : List UInt8) (j : Nat) (h : j < s.length) (w : World) : (Instr.slice 9 (.string ⟨s.toArray⟩) (some (.int .i64 j)) (some (.int .i64 ((j : Int) + 1))) none).run Tryz.prog w = .ok (.string ⟨[s[j]].toArray⟩) w := by
  have := run_slice_string (P := Tryz.prog) w 9 ⟨s.toArray⟩ .i64 .i64 (j : Int) ((j : Int) + 1) Tryz.underlying9 (by omega) (by omega) (by rw [size_lit']; omega)
  rw [this]
  have e1 := ext_mid' s j (j + 1)
  rw [show j + 1 - j = 1 from by omega, List.drop_eq_getElem_cons h] at e1
  rw [show ((j : Int) + 1).toNat = j + 1 from by omega, show ((j : Int)).toNat = j from by omega, e1]
  rfl
set_option maxRecDepth 20000 in
set_option maxHeartbeats 2000000 in
theorem words_any (s : List UInt8) (w : World) (hs : s.length ≤ 900) :
    Calls Tryz.prog 57 #[.string ⟨s.toArray⟩] w fun e w' => ∃ v, e = .returned v ∧ Texts w w' v (wordsA [] s) := by
  obtain ⟨i0, hi, hz0, hz1, hz2⟩ := info_parts strInfo
  go_enter Tryz.func57, Tryz.ntmps57
  go_wp2
  go_loopw [3, 4, 5] (fun v cu n wr => ∃ (i : Nat) (xs : List (List UInt8)) (cur : List UInt8), n = .int .i64 i ∧ cu = .string ⟨cur.toArray⟩ ∧ i ≤ s.length + 1 ∧ xs.length ≤ i ∧ cur.length ≤ i ∧ Hid (Texts w wr v xs) ∧ Hid ((i ≤ s.length → xs ++ wordsA cur (s.drop i) = wordsA [] s) ∧ (i = s.length + 1 → xs = wordsA [] s))) (fun _ _ n _ => s.length + 1 - (intOf n).toNat)
  case atStart =>
    refine ⟨0, [], [], rfl, rfl, by omega, by simp, by simp, ⟨(Below.refl _ _).alloc (Nat.le_refl _) _, some w.heap.size, ?_, fun g hg => by cases hg; exact Nat.le_refl _⟩, ⟨fun _ => rfl, fun h => by omega⟩⟩
    exact Rw.new (e := 9) [] [] (Blk.new w #[] 9) rfl rfl (Nat.le_refl _) (by simp [maxLen])
  case round =>
    obtain ⟨i, xs, cur, rfl, rfl, hil, hxl, hcl, HT, HX⟩ := hrel
    obtain ⟨hb, G, hr, hg⟩ := HT.out
    obtain ⟨A, c, rfl⟩ := hr.form
    replace hb := hide hb
    replace hr := hide hr
    replace hg := hide hg
    by_cases hle : i ≤ s.length
    · by_cases hlt : i < s.length
      · have hbyte : ∀ h, ((⟨s.toArray⟩ : ByteArray)[i]'h) = s[i] := fun _ => rfl
        have hne : ((i : Int) == (s.length : Int)) = false := beq_eq_false_iff_ne.2 (by omega)
        have hd := List.drop_eq_getElem_cons hlt
        have hX := HX.out.1 hle
        rw [hd, wordsA] at hX
        obtain ⟨ch, hch⟩ : ∃ ch, s[i] = ch := ⟨_, rfl⟩
        have hsl := slice1 s i hlt
        rw [hch] at hX hsl
        simp only [hch] at hbyte
        clear hd hch
        by_cases hbk : isBlk ch = true
        · rw [hbk, if_pos rfl] at hX
          have hb2 := hbk
          unfold isBlk at hb2
          have hsplit : ((ch.toNat : Int) == 32) = true ∨ (((ch.toNat : Int) == 32) = false ∧ ((ch.toNat : Int) == 9) = true) := by
            simp at hb2
            rcases hb2 with h | h
            · left; rw [beq_iff_eq]; omega
            · right; exact ⟨beq_eq_false_iff_ne.2 (by omega), by rw [beq_iff_eq]; omega⟩
          clear hb2 hbk
          by_cases hc0 : cur = []
          · subst hc0
            rw [if_pos rfl] at hX
            have HX2 : Hid ((i + 1 ≤ s.length → xs ++ wordsA [] (s.drop (i + 1)) = wordsA [] s) ∧ (i + 1 = s.length + 1 → xs = wordsA [] s)) := ⟨fun _ => hX, fun h => by omega⟩
            clear hX
            rcases hsplit with h32 | ⟨h32, h9⟩
            all_goals
              go_wp2
              go_roundw
              case rel => exact ⟨i + 1, xs, [], by go_num, rfl, by omega, by omega, by simp, HT, HX2⟩
              case measure => simp [intOf]; omega
          · rw [if_neg hc0] at hX
            have HX2 : Hid ((i + 1 ≤ s.length → (xs ++ [cur]) ++ wordsA [] (s.drop (i + 1)) = wordsA [] s) ∧ (i + 1 = s.length + 1 → (xs ++ [cur]) = wordsA [] s)) := ⟨fun _ => by rw [← hX]; simp, fun h => by omega⟩
            have hcb : (cur == []) = false := by simpa using hc0
            clear hX hc0
            rcases hsplit with h32 | ⟨h32, h9⟩
            all_goals
              go_wp2_with (first | (at_builtin; refine wpList_append_rw rfl _ _ 59 59 rfl 9 i0 (.string ⟨#[]⟩) 1 16 Tryz.underlying59 hi hz0 hz1 hz2 rfl rfl (hr.out.keep (S := fun _ => False) ((Mvs.refl _ _).alloc _) (fun _ _ c => c)) _ 1 _ rfl (src_one _ Tryz.underlying59) (by simp only [maxLen]; omega) (by omega) ?_))
              intro v1 w1 G1 hr1 hm1 hg1
              have HT1 := hide (Texts.grow hb.out hg.out hr1 hm1 (by simpa using hg1))
              obtain ⟨A1, c1, rfl⟩ := hr1.form
              clear hr1 hm1 hg1 hr hb hg
              go_wp2
              go_roundw
              case rel => exact ⟨i + 1, _, [], by go_num, rfl, by omega, by simp; omega, by simp, HT1, HX2⟩
              case measure => simp [intOf]; omega
        · have hbf : isBlk ch = false := by simpa using hbk
          rw [hbf, if_neg (by simp)] at hX
          unfold isBlk at hbf
          simp at hbf
          have h32 : ((ch.toNat : Int) == 32) = false := beq_eq_false_iff_ne.2 (by omega)
          have h9 : ((ch.toNat : Int) == 9) = false := beq_eq_false_iff_ne.2 (by omega)
          have HX2 : Hid ((i + 1 ≤ s.length → xs ++ wordsA (cur ++ [ch]) (s.drop (i + 1)) = wordsA [] s) ∧ (i + 1 = s.length + 1 → xs = wordsA [] s)) := ⟨fun _ => hX, fun h => by omega⟩
          clear hX hbk hbf
          have hct := cat_lit cur [ch]
          go_wp2
          go_roundw
          case rel => exact ⟨i + 1, xs, cur ++ [ch], by go_num, rfl, by omega, by omega, by simp; omega, HT, HX2⟩
          case measure => simp [intOf]; omega
      · have hie : i = s.length := by omega
        have heq : ((i : Int) == (s.length : Int)) = true := by rw [beq_iff_eq]; omega
        have hX := HX.out.1 hle
        rw [hie, List.drop_length, wordsA] at hX
        have HIE := hide hie
        clear hie
        by_cases hc0 : cur = []
        · subst hc0
          rw [if_pos rfl, List.append_nil] at hX
          have HX2 : Hid ((i + 1 ≤ s.length → xs ++ wordsA [] (s.drop (i + 1)) = wordsA [] s) ∧ (i + 1 = s.length + 1 → xs = wordsA [] s)) := ⟨fun h => by omega, fun _ => hX⟩
          clear hX
          go_wp2
          go_roundw
          case rel => exact ⟨i + 1, xs, [], by go_num, rfl, by omega, by omega, by simp, HT, HX2⟩
          case measure => simp [intOf]; omega
        · rw [if_neg hc0] at hX
          have HX2 : Hid ((i + 1 ≤ s.length → (xs ++ [cur]) ++ wordsA [] (s.drop (i + 1)) = wordsA [] s) ∧ (i + 1 = s.length + 1 → (xs ++ [cur]) = wordsA [] s)) := ⟨fun h => by omega, fun _ => hX⟩
          have hcb : (cur == []) = false := by simpa using hc0
          clear hX hc0
          go_wp2_with (first | (at_builtin; refine wpList_append_rw rfl _ _ 59 59 rfl 9 i0 (.string ⟨#[]⟩) 1 16 Tryz.underlying59 hi hz0 hz1 hz2 rfl rfl (hr.out.keep (S := fun _ => False) ((Mvs.refl _ _).alloc _) (fun _ _ c => c)) _ 1 _ rfl (src_one _ Tryz.underlying59) (by simp only [maxLen]; omega) (by omega) ?_))
          intro v1 w1 G1 hr1 hm1 hg1
          have HT1 := hide (Texts.grow hb.out hg.out hr1 hm1 (by simpa using hg1))
          obtain ⟨A1, c1, rfl⟩ := hr1.form
          clear hr1 hm1 hg1 hr hb hg
          go_wp2
          go_roundw
          case rel => exact ⟨i + 1, _, [], by go_num, rfl, by omega, by simp; omega, by simp, HT1, HX2⟩
          case measure => simp [intOf]; omega
    · have hX := HX.out.2 (by omega)
      have hng : ¬ (i : Int) ≤ (s.length : Int) := by omega
      have HX2 := hide hX
      clear hX
      go_wp2
      go_ret
      exact ⟨_, rfl, by rw [← HX2.out]; exact HT.out⟩
end Go.Proofs.YtcmhaihoeecjoaaGreatDoor.Da

end
section
namespace Go.Proofs.YtcmhaihoeecjoaaGreatDoor.Da
open Go.RowKit
theorem like_t5 (a : List UInt8) : likeB a [48, 48, 58, 48, 48] = true ↔ ∃ hs ms, a = hs ++ 58 :: ms ∧ hs.length = 2 ∧ ms.length = 2 ∧ Digs hs ∧ Digs ms := by
  have key : ∀ (hs : List UInt8) (c : UInt8) (ms : List UInt8), hs.length = 2 → ms.length = 2 → (likeB (hs ++ c :: ms) [48, 48, 58, 48, 48] = true ↔ Digs hs ∧ c = 58 ∧ Digs ms) := by
    intro hs c ms h1 h2
    have e1 := likeB_app hs (List.replicate 2 48) (c :: ms) (58 :: List.replicate 2 48) (by simp [h1])
    have e2 := likeB_app [c] [58] ms (List.replicate 2 48) rfl
    have hall : likeB (hs ++ c :: ms) [48, 48, 58, 48, 48] = (likeB hs (List.replicate 2 48) && (likeB [c] [58] && likeB ms (List.replicate 2 48))) := by
      rw [← e2]
      exact e1
    rw [hall]
    simp only [Bool.and_eq_true]
    rw [likeB_one c 58 (by decide), rep_like 2 hs h1, rep_like 2 ms h2]
  constructor
  · intro h
    have hl := likeB_len h
    match a, hl with
    | [a0, a1, a2, a3, a4], _ =>
      obtain ⟨d1, rfl, d2⟩ := (key [a0, a1] a2 [a3, a4] rfl rfl).1 h
      exact ⟨[a0, a1], [a3, a4], rfl, rfl, rfl, d1, d2⟩
  · rintro ⟨hs, ms, rfl, h1, h2, d1, d2⟩
    exact (key hs 58 ms h1 h2).2 ⟨d1, rfl, d2⟩
theorem like_t8 (a : List UInt8) : likeB a [48, 48, 58, 48, 48, 58, 48, 48] = true ↔ ∃ hs ms ss, a = hs ++ 58 :: (ms ++ 58 :: ss) ∧ hs.length = 2 ∧ ms.length = 2 ∧ ss.length = 2 ∧ Digs hs ∧ Digs ms ∧ Digs ss := by
  have key : ∀ (hs : List UInt8) (c : UInt8) (ms : List UInt8) (d : UInt8) (ss : List UInt8), hs.length = 2 → ms.length = 2 → ss.length = 2 → (likeB (hs ++ c :: (ms ++ d :: ss)) [48, 48, 58, 48, 48, 58, 48, 48] = true ↔ Digs hs ∧ c = 58 ∧ Digs ms ∧ d = 58 ∧ Digs ss) := by
    intro hs c ms d ss h1 h2 h3
    have e1 := likeB_app hs (List.replicate 2 48) (c :: (ms ++ d :: ss)) (58 :: (List.replicate 2 48 ++ 58 :: List.replicate 2 48)) (by simp [h1])
    have e2 := likeB_app [c] [58] (ms ++ d :: ss) (List.replicate 2 48 ++ 58 :: List.replicate 2 48) rfl
    have e3 := likeB_app ms (List.replicate 2 48) (d :: ss) (58 :: List.replicate 2 48) (by simp [h2])
    have e4 := likeB_app [d] [58] ss (List.replicate 2 48) rfl
    have hall : likeB (hs ++ c :: (ms ++ d :: ss)) [48, 48, 58, 48, 48, 58, 48, 48] = (likeB hs (List.replicate 2 48) && (likeB [c] [58] && (likeB ms (List.replicate 2 48) && (likeB [d] [58] && likeB ss (List.replicate 2 48))))) := by
      rw [← e4]
      erw [← e3, ← e2]
      exact e1
    rw [hall]
    simp only [Bool.and_eq_true]
    rw [likeB_one c 58 (by decide), likeB_one d 58 (by decide), rep_like 2 hs h1, rep_like 2 ms h2, rep_like 2 ss h3]
  constructor
  · intro h
    have hl := likeB_len h
    match a, hl with
    | [a0, a1, a2, a3, a4, a5, a6, a7], _ =>
      obtain ⟨d1, rfl, d2, rfl, d3⟩ := (key [a0, a1] a2 [a3, a4] a5 [a6, a7] rfl rfl rfl).1 h
      exact ⟨[a0, a1], [a3, a4], [a6, a7], rfl, rfl, rfl, rfl, d1, d2, d3⟩
  · rintro ⟨hs, ms, ss, rfl, h1, h2, h3, d1, d2, d3⟩
    exact (key hs 58 ms 58 ss h1 h2 h3).2 ⟨d1, rfl, d2, rfl, d3⟩
/-- Five words that tell a moment. -/
structure FormM (a0 a1 a2 a3 a4 : List UInt8) (j : Nat) (hs ms ts : List UInt8) (v : Nat) (z : Int) : Prop where
  d0l : a0.length = 1 ∨ a0.length = 2
  d0 : Digs a0
  mon : j < 12
  a1e : a1 = nameT monB j
  y4 : a2.length = 4
  yd : Digs a2
  tf : a3 = hs ++ 58 :: (ms ++ ts)
  hsl : hs.length = 2
  hsd : Digs hs
  msl : ms.length = 2
  msd : Digs ms
  sec : Secs ts v
  zn : ZOK a4 z
/-- What the document answers of these words. -/
def DocM (ws : List (List UInt8)) (R : Value) : Prop :=
  (∃ a0 a1 a2 a3 a4 j hs ms ts v z, ws = [a0, a1, a2, a3, a4] ∧ FormM a0 a1 a2 a3 a4 j hs ms ts v z ∧ R = madeV (valL a2 0) ((j : Int) + 1) (valL a0 0) (valL hs 0) (valL ms 0) (v : Int) z) ∨
  ((¬ ∃ a0 a1 a2 a3 a4 j hs ms ts v z, ws = [a0, a1, a2, a3, a4] ∧ FormM a0 a1 a2 a3 a4 j hs ms ts v z) ∧ R = .tuple #[.int .i64 0, .int .i64 2])
theorem docM_len {ws : List (List UInt8)} {R : Value} (h : DocM ws R) (hn : ws.length ≠ 5) : R = .tuple #[.int .i64 0, .int .i64 2] := by
  rcases h with ⟨a0, a1, a2, a3, a4, j, hs, ms, ts, v, z, rfl, _⟩ | ⟨_, h⟩
  · exact absurd rfl hn
  · exact h
theorem form_facts {a0 a1 a2 a3 a4 : List UInt8} {j : Nat} {hs ms ts : List UInt8} {v : Nat} {z : Int} (h : FormM a0 a1 a2 a3 a4 j hs ms ts v z) :
    (likeB a0 [48] = true ∨ likeB a0 [48, 48] = true) ∧ findEq monB a1 12 0 = j ∧ likeB a2 [48, 48, 48, 48] = true ∧ (likeB a3 [48, 48, 58, 48, 48] = true ∨ likeB a3 [48, 48, 58, 48, 48, 58, 48, 48] = true) ∧ ZOK a4 z := by
  refine ⟨?_, ?_, ?_, ?_, h.zn⟩
  · rcases h.d0l with hl | hl
    · exact .inl ((rep_like 1 a0 hl).2 h.d0)
    · exact .inr ((rep_like 2 a0 hl).2 h.d0)
  · rw [h.a1e]
    exact findEq_fwd j h.mon
  · exact (rep_like 4 a2 h.y4).2 h.yd
  · rcases h.sec with ⟨hts, _⟩ | ⟨ss, hts, h2, h3, _⟩
    · left
      rw [like_t5]
      exact ⟨hs, ms, by rw [h.tf, hts, List.append_nil], h.hsl, h.msl, h.hsd, h.msd⟩
    · right
      rw [like_t8]
      exact ⟨hs, ms, ss, by rw [h.tf, hts], h.hsl, h.msl, h2, h.hsd, h.msd, h3⟩
theorem docM_bad {a0 a1 a2 a3 a4 : List UInt8} {R : Value} (h : DocM [a0, a1, a2, a3, a4] R)
    (hb : ¬ ((likeB a0 [48] = true ∨ likeB a0 [48, 48] = true) ∧ (∃ j : Nat, findEq monB a1 12 0 = j) ∧ likeB a2 [48, 48, 48, 48] = true ∧ (likeB a3 [48, 48, 58, 48, 48] = true ∨ likeB a3 [48, 48, 58, 48, 48, 58, 48, 48] = true) ∧ ∃ z, ZOK a4 z)) : R = .tuple #[.int .i64 0, .int .i64 2] := by
  rcases h with ⟨b0, b1, b2, b3, b4, j, hs, ms, ts, v, z, e, hf, _⟩ | ⟨_, h⟩
  · cases e
    obtain ⟨f1, f2, f3, f4, f5⟩ := form_facts hf
    exact absurd ⟨f1, ⟨j, f2⟩, f3, f4, z, f5⟩ hb
  · exact h
theorem sgn_ne {g g' : UInt8} (h : g = g') : sgn g = sgn g' := by rw [h]
theorem zok_uniq {s : List UInt8} {z z' : Int} (h : ZOK s z) (h' : ZOK s z') : z = z' := by
  obtain ⟨g, zh, zm, ⟨e, _, l1, _, l2, _⟩, _, _, rfl⟩ := h
  obtain ⟨g', zh', zm', ⟨e', _, l1', _, l2', _⟩, _, _, rfl⟩ := h'
  rw [e] at e'
  injection e' with e1 e2
  obtain ⟨e3, e4⟩ := List.append_inj e2 (by omega)
  rw [e1, e3, e4]
theorem docM_good {a0 a1 a2 a3 a4 : List UInt8} {R : Value} (h : DocM [a0, a1, a2, a3, a4] R) {j : Nat} {hs ms ts : List UInt8} {v : Nat} {z : Int} (hf : FormM a0 a1 a2 a3 a4 j hs ms ts v z) :
    R = madeV (valL a2 0) ((j : Int) + 1) (valL a0 0) (valL hs 0) (valL ms 0) (v : Int) z := by
  rcases h with ⟨b0, b1, b2, b3, b4, j', hs', ms', ts', v', z', e, hf', hR⟩ | ⟨hn, _⟩
  · cases e
    have k1 := (form_facts hf).2.1
    have k2 := (form_facts hf').2.1
    have hj : j = j' := by omega
    have hz := zok_uniq hf.zn hf'.zn
    have ht := hf.tf.symm.trans hf'.tf
    obtain ⟨e1, e2⟩ := List.append_inj ht (by rw [hf.hsl, hf'.hsl])
    injection e2 with _ e2
    obtain ⟨e3, e4⟩ := List.append_inj e2 (by rw [hf.msl, hf'.msl])
    subst hj hz e1 e3 e4
    have hv : v = v' := by
      rcases hf.sec with ⟨r1, r2⟩ | ⟨ss, r1, _, _, r2⟩
      · rcases hf'.sec with ⟨q1, q2⟩ | ⟨ss', q1, _, _, q2⟩
        · rw [r2, q2]
        · rw [r1] at q1
          cases q1
      · rcases hf'.sec with ⟨q1, q2⟩ | ⟨ss', q1, _, _, q2⟩
        · rw [r1] at q1
          cases q1
        · rw [r1] at q1
          cases q1
          rw [r2, q2]
    rw [hR, hv]
  · exact absurd ⟨a0, a1, a2, a3, a4, j, hs, ms, ts, v, z, rfl, hf⟩ hn
/-- Five texts in a row of memory. -/
def Row5 (w : World) (g o : Nat) (a0 a1 a2 a3 a4 : List UInt8) : Prop := g < w.heap.size ∧ w.cell? ⟨g, o, none⟩ = some (.string ⟨a0.toArray⟩) ∧ w.cell? ⟨g, o + 1, none⟩ = some (.string ⟨a1.toArray⟩) ∧ w.cell? ⟨g, o + 2, none⟩ = some (.string ⟨a2.toArray⟩) ∧ w.cell? ⟨g, o + 3, none⟩ = some (.string ⟨a3.toArray⟩) ∧ w.cell? ⟨g, o + 4, none⟩ = some (.string ⟨a4.toArray⟩)
theorem Row5.below {w w' : World} {g o : Nat} {a0 a1 a2 a3 a4 : List UInt8} (h : Row5 w g o a0 a1 a2 a3 a4) (hb : Below w.heap.size w w') : Row5 w' g o a0 a1 a2 a3 a4 := by
  obtain ⟨h0, h1, h2, h3, h4, h5⟩ := h
  exact ⟨Nat.lt_of_lt_of_le h0 hb.size, (hb.cell (p := ⟨g, o, none⟩) h0).trans h1, (hb.cell (p := ⟨g, o + 1, none⟩) h0).trans h2, (hb.cell (p := ⟨g, o + 2, none⟩) h0).trans h3, (hb.cell (p := ⟨g, o + 3, none⟩) h0).trans h4, (hb.cell (p := ⟨g, o + 4, none⟩) h0).trans h5⟩
theorem texts_five {w wr : World} {v : Value} {a0 a1 a2 a3 a4 : List UInt8} (h : Texts w wr v [a0, a1, a2, a3, a4]) : ∃ g o cap, v = .slice (some ⟨g, o, none⟩) 5 cap ∧ 5 ≤ cap ∧ Row5 wr g o a0 a1 a2 a3 a4 ∧ Below w.heap.size w wr := by
  obtain ⟨hb, G, hr, _⟩ := h
  rcases hr.2 with ⟨_, h0, _⟩ | ⟨g, o, cap, _, hv, h1, h2, h3, h4, h5⟩
  · cases h0
  · exact ⟨g, o, cap, hv, h1, ⟨h3, (h4 0 _ rfl), h4 1 _ rfl, h4 2 _ rfl, h4 3 _ rfl, h4 4 _ rfl⟩, hb⟩
end Go.Proofs.YtcmhaihoeecjoaaGreatDoor.Da

end
