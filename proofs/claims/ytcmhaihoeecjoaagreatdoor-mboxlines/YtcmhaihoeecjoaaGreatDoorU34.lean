/- Separator of package mbox. -/
/- The document's Marks, begins. -/
import Derived.Test.YtcmhaihoeecjoaaGreatDoorU33
import Derived.Test.YtcmhaihoeecjoaaGreatDoorU02
section
namespace Go.Proofs.YtcmhaihoeecjoaaGreatDoor
open Go.RowKit Go.Shelf
theorem split_uniq : ∀ {p p' q q' : List UInt8}, (32 : UInt8) ∉ p → (32 : UInt8) ∉ p' → p ++ 32 :: q = p' ++ 32 :: q' → p = p' ∧ q = q'
  | [], [], q, q', _, _, h => by simp at h; exact ⟨rfl, h⟩
  | [], c :: p', q, q', _, h2, h => by simp at h; exact absurd (by simp [← h.1]) h2
  | c :: p, [], q, q', h1, _, h => by simp at h; exact absurd (by simp [h.1]) h1
  | c :: p, c' :: p', q, q', h1, h2, h => by
    simp only [List.cons_append, List.cons.injEq] at h
    obtain ⟨e1, e2⟩ := split_uniq (fun hp => h1 (List.mem_cons_of_mem _ hp)) (fun hp => h2 (List.mem_cons_of_mem _ hp)) h.2
    exact ⟨by rw [h.1, e1], e2⟩
theorem right_32 {s : List UInt8} (h : rightS s = true) : (32 : UInt8) ∉ s := fun hm => by
  have := right_all h 32 hm
  revert this
  decide
theorem sepT_form (s : List UInt8) (t : Int) : sepT s t = fromS ++ ((s ++ 32 :: boxT t) ++ [10]) := by
  unfold sepT fromS
  simp
theorem pre_form {l : List UInt8} (h : Lib.hasPrefix l fromS = true) : ∃ r, l = fromS ++ r := by
  unfold Lib.hasPrefix at h
  obtain ⟨r, hr⟩ := List.isPrefixOf_iff_prefix.1 h
  exact ⟨r, hr.symm⟩
theorem suf_form {l : List UInt8} (h : Lib.hasSuffix l [10] = true) : ∃ r, l = r ++ [10] := last_form ((suf_iff l).1 h)
set_option maxHeartbeats 1000000 in
theorem parts_bad (l : List UInt8) (w : World) (hl : l.length ≤ 1000000) (h : ∀ S, l ≠ fromS ++ (S ++ [10])) :
    Calls Tryz.prog 24 #[.string ⟨l.toArray⟩] w fun e w' => e = .returned (.tuple #[.string ⟨#[]⟩, .string ⟨#[]⟩, .bool false]) ∧ Below w.heap.size w w' := by
  have HP : Hid (∀ w, Calls Tryz.prog 48 #[.string ⟨l.toArray⟩, .string ⟨#[70, 114, 111, 109, 32]⟩] w fun e w' => e = .returned (.tuple #[.string ⟨(Lib.trimPrefix l fromS).toArray⟩, .bool (Lib.hasPrefix l fromS)]) ∧ w' = w) := fun w => Tryz.strings_CutPrefix ⟨l.toArray⟩ ⟨#[70, 114, 111, 109, 32]⟩ w
  have htl : (Lib.trimPrefix l fromS).length ≤ 1000000 := by
    unfold Lib.trimPrefix
    split
    · rw [List.length_drop]; omega
    · exact hl
  have HS : Hid (∀ w, Calls Tryz.prog 49 #[.string ⟨(Lib.trimPrefix l fromS).toArray⟩, .string ⟨#[10]⟩] w fun e w' => e = .returned (.tuple #[.string ⟨(Lib.trimSuffix (Lib.trimPrefix l fromS) [10]).toArray⟩, .bool (Lib.hasSuffix (Lib.trimPrefix l fromS) [10])]) ∧ w' = w) := fun w => Tryz.strings_CutSuffix ⟨(Lib.trimPrefix l fromS).toArray⟩ ⟨#[10]⟩ w (by rw [size_lit]; omega)
  have key : Lib.hasPrefix l fromS = false ∨ (Lib.hasPrefix l fromS = true ∧ Lib.hasSuffix (Lib.trimPrefix l fromS) [10] = false) := by
    cases hp : Lib.hasPrefix l fromS with
    | false => exact .inl rfl
    | true =>
      refine .inr ⟨rfl, ?_⟩
      cases hs : Lib.hasSuffix (Lib.trimPrefix l fromS) [10] with
      | false => rfl
      | true =>
        exfalso
        obtain ⟨r, rfl⟩ := pre_form hp
        unfold Lib.trimPrefix at hs
        rw [if_pos hp, List.drop_left' rfl] at hs
        obtain ⟨S, rfl⟩ := suf_form hs
        exact h S rfl
  generalize Lib.trimSuffix (Lib.trimPrefix l fromS) [10] = y at *
  rcases key with hp | ⟨hp, hs⟩
  · rw [hp] at HP
    generalize Lib.trimPrefix l fromS = x at *
    generalize Lib.hasSuffix x [10] = bb at *
    clear h
    go_enter Tryz.func24, Tryz.ntmps24
    go_wp2_with (first
      | (go_at_call 48; refine (HP.out _).mono ?_; rintro e w2 ⟨rfl, rfl⟩)
      | (go_at_call 49; refine (HS.out _).mono ?_; rintro e w3 ⟨rfl, rfl⟩))
    go_ret3
    exact ⟨rfl, Below.refl _ _⟩
  · rw [hp] at HP
    rw [hs] at HS
    generalize Lib.trimPrefix l fromS = x at *
    clear h
    go_enter Tryz.func24, Tryz.ntmps24
    go_wp2_with (first
      | (go_at_call 48; refine (HP.out _).mono ?_; rintro e w2 ⟨rfl, rfl⟩)
      | (go_at_call 49; refine (HS.out _).mono ?_; rintro e w3 ⟨rfl, rfl⟩))
    go_ret3
    exact ⟨rfl, Below.refl _ _⟩
set_option maxHeartbeats 1000000 in
theorem parts_cut (S p q : List UInt8) (b : Bool) (w : World) (hl : S.length ≤ 100000) (H : Hid (∀ w, Calls Tryz.prog 79 #[.string ⟨S.toArray⟩, .string ⟨#[32]⟩] w fun e w' => e = .returned (.tuple #[.string ⟨p.toArray⟩, .string ⟨q.toArray⟩, .bool b]) ∧ Below w.heap.size w w')) :
    Calls Tryz.prog 24 #[.string ⟨(fromS ++ (S ++ [10])).toArray⟩] w fun e w' => e = .returned (.tuple #[.string ⟨p.toArray⟩, .string ⟨q.toArray⟩, .bool b]) ∧ Below w.heap.size w w' := by
  have hp : Lib.hasPrefix (fromS ++ (S ++ [10])) fromS = true := by
    unfold Lib.hasPrefix
    exact List.isPrefixOf_iff_prefix.2 (List.prefix_append _ _)
  have e1 : Lib.trimPrefix (fromS ++ (S ++ [10])) fromS = S ++ [10] := by
    unfold Lib.trimPrefix
    rw [if_pos hp, List.drop_left' rfl]
  have HP : Hid (∀ w, Calls Tryz.prog 48 #[.string ⟨(fromS ++ (S ++ [10])).toArray⟩, .string ⟨#[70, 114, 111, 109, 32]⟩] w fun e w' => e = .returned (.tuple #[.string ⟨(S ++ [10]).toArray⟩, .bool true]) ∧ w' = w) := fun w => by
    have := Tryz.strings_CutPrefix ⟨(fromS ++ (S ++ [10])).toArray⟩ ⟨#[70, 114, 111, 109, 32]⟩ w
    have e2 : (⟨(fromS ++ (S ++ [10])).toArray⟩ : ByteArray).data.toList = fromS ++ (S ++ [10]) := rfl
    have e3 : (⟨#[70, 114, 111, 109, 32]⟩ : ByteArray).data.toList = fromS := rfl
    rw [e2, e3, e1, hp] at this
    exact this
  have HS : Hid (∀ w, Calls Tryz.prog 49 #[.string ⟨(S ++ [10]).toArray⟩, .string ⟨#[10]⟩] w fun e w' => e = .returned (.tuple #[.string ⟨S.toArray⟩, .bool true]) ∧ w' = w) := fun w => by
    have := Tryz.strings_CutSuffix ⟨(S ++ [10]).toArray⟩ ⟨#[10]⟩ w (by rw [size_lit]; simp; omega)
    have e2 : (⟨(S ++ [10]).toArray⟩ : ByteArray).data.toList = S ++ [10] := rfl
    have e3 : (⟨#[10]⟩ : ByteArray).data.toList = [10] := rfl
    rw [e2, e3, trim_end, suf_end] at this
    exact this
  have HC := hide (fun w => cut_calls w H)
  generalize fromS ++ (S ++ [10]) = l at *
  generalize S ++ [10] = x at *
  clear e1 hp
  go_enter Tryz.func24, Tryz.ntmps24
  go_wp2_with (first
    | (go_at_call 48; refine (HP.out _).mono ?_; rintro e w2 ⟨rfl, rfl⟩)
    | (go_at_call 49; refine (HS.out _).mono ?_; rintro e w3 ⟨rfl, rfl⟩)
    | (go_at_call 50; refine (HC.out _).mono ?_; rintro e w4 ⟨rfl, hb4⟩; replace hb4 := hide hb4))
  go_ret3
  exact ⟨rfl, hb4.out⟩
/-- What Separator answers. -/
def SepOut (l : List UInt8) (a : Nat → Addr) (w : World) (e : Ending) (w' : World) : Prop := Below w.heap.size w w' ∧
  ((∃ s t, rightS s = true ∧ 0 ≤ t ∧ t ≤ 4102444799 ∧ l = sepT s t ∧ e = .returned (.tuple #[.string ⟨s.toArray⟩, .int .i64 t, .nilIface])) ∨
    ((∀ s t, rightS s = true → 0 ≤ t → t ≤ 4102444799 → l ≠ sepT s t) ∧ e = .returned (.tuple #[.string ⟨#[]⟩, .int .i64 0, errV a 1])))
set_option maxHeartbeats 1000000 in
theorem sep_form (l p q : List UInt8) (b : Bool) (w : World) (a : Nat → Addr) (hE : Errs w a) (hpl : p.length ≤ 100000) (hbad : b = false ∨ rightS p = false) (H : Hid (∀ w, Calls Tryz.prog 24 #[.string ⟨l.toArray⟩] w fun e w' => e = .returned (.tuple #[.string ⟨p.toArray⟩, .string ⟨q.toArray⟩, .bool b]) ∧ Below w.heap.size w w')) :
    Calls Tryz.prog 11 #[.string ⟨l.toArray⟩] w fun e w' => e = .returned (.tuple #[.string ⟨#[]⟩, .int .i64 0, errV a 1]) ∧ Below w.heap.size w w' := by
  have HE := hide hE
  have HR := hide (fun w => isRight_any p w (by unfold maxLen; omega))
  clear hE
  cases b with
  | false =>
    clear hbad
    go_enter Tryz.func11, Tryz.ntmps11
    go_wp2_with (first
      | (go_at_call 24; refine (H.out _).mono ?_; rintro e w2 ⟨rfl, hb2⟩
         have hc : w2.cell? ⟨1, 0, none⟩ = some (errV a 1) := (HE.out.below hb2).cell 1 (by decide)
         unfold errV at hc
         replace hb2 := hide hb2))
    go_region
    go_wp2
    go_ret3
    exact ⟨rfl, hb2.out.drew⟩
  | true =>
    have hr : rightS p = false := by
      rcases hbad with h | h
      · cases h
      · exact h
    rw [hr] at HR
    clear hbad hr
    go_enter Tryz.func11, Tryz.ntmps11
    go_wp2_with (first
      | (go_at_call 24; refine (H.out _).mono ?_; rintro e w2 ⟨rfl, hb2⟩
         have hc : w2.cell? ⟨1, 0, none⟩ = some (errV a 1) := (HE.out.below hb2).cell 1 (by decide)
         unfold errV at hc
         replace hb2 := hide hb2)
      | (go_at_call 25; refine (HR.out _).mono ?_; rintro e w3 ⟨rfl, rfl⟩))
    go_region
    go_wp2
    go_ret3
    exact ⟨rfl, hb2.out.drew⟩
set_option maxHeartbeats 1000000 in
theorem sep_mom (l p q : List UInt8) (w : World) (a : Nat → Addr) (hE : Errs w a) (ht : Da.Tab w) (hr : rightS p = true) (H : Hid (∀ w, Calls Tryz.prog 24 #[.string ⟨l.toArray⟩] w fun e w' => e = .returned (.tuple #[.string ⟨p.toArray⟩, .string ⟨q.toArray⟩, .bool true]) ∧ Below w.heap.size w w')) :
    Calls Tryz.prog 11 #[.string ⟨l.toArray⟩] w fun e w' => Below w.heap.size w w' ∧ ((∃ T : Int, 0 ≤ T ∧ T ≤ 4102444799 ∧ boxT T = q ∧ e = .returned (.tuple #[.string ⟨p.toArray⟩, .int .i64 T, .nilIface])) ∨ ((∀ T : Int, 0 ≤ T → T ≤ 4102444799 → boxT T ≠ q) ∧ e = .returned (.tuple #[.string ⟨#[]⟩, .int .i64 0, errV a 1]))) := by
  have HE := hide hE
  have HT := hide ht
  have hpl := (right_len hr).2
  have HR := hide (fun w => isRight_any p w (by unfold maxLen; omega))
  rw [hr] at HR
  have HM := hide (fun w hE ht => moment_any q w a hE ht)
  clear hE ht hr
  go_enter Tryz.func11, Tryz.ntmps11
  go_wp2_with (first
    | (go_at_call 24; refine (H.out _).mono ?_; rintro e w2 ⟨rfl, hb2⟩
       have HE2 := hide (HE.out.below hb2)
       have HT2 := hide (HT.out.below hb2)
       replace hb2 := hide hb2)
    | (go_at_call 25; refine (HR.out _).mono ?_; rintro e w3 ⟨rfl, rfl⟩)
)
  refine (HM.out _ HE2.out HT2.out).mono ?_
  rintro e w4 ⟨hb4, (⟨T, t0, t1, hb, rfl⟩ | ⟨hno, T, rfl⟩)⟩
  · have HB := hide hb
    have HB4 := hide hb4
    clear hb hb4
    go_wp2
    go_ret3
    exact ⟨hb2.out.trans (HB4.out.mono hb2.out.size), .inl ⟨T, t0, t1, HB.out, rfl⟩⟩
  · have hc : w4.cell? ⟨1, 0, none⟩ = some (errV a 1) := (HE2.out.below hb4).cell 1 (by decide)
    unfold errV at hc
    have HN := hide hno
    have HB4 := hide hb4
    clear hno hb4
    go_wp2
    go_region
    go_wp2
    go_ret3
    exact ⟨(hb2.out.trans (HB4.out.mono hb2.out.size)).drew, .inr ⟨HN.out, rfl⟩⟩
theorem sep_any (l : List UInt8) (w : World) (a : Nat → Addr) (hE : Errs w a) (ht : Da.Tab w) (hl : l.length ≤ 100000) : Calls Tryz.prog 11 #[.string ⟨l.toArray⟩] w (SepOut l a w) := by
  by_cases hS : ∃ S, l = fromS ++ (S ++ [10])
  · obtain ⟨S, rfl⟩ := hS
    have hSl : S.length ≤ 100000 := by simp [fromS] at hl; omega
    by_cases h32 : (32 : UInt8) ∈ S
    · obtain ⟨p, q, rfl, hp⟩ := split32 S h32
      have hpl : p.length ≤ 100000 := by simp at hSl; omega
      have H := hide (fun w => parts_cut (p ++ 32 :: q) p q true w hSl (fun w => cut_in p q w hp (by omega)))
      have hu : ∀ s t, rightS s = true → fromS ++ ((p ++ 32 :: q) ++ [10]) = sepT s t → p = s ∧ q = boxT t := by
        intro s t hs e
        rw [sepT_form] at e
        have e2 := List.append_cancel_right (List.append_cancel_left e)
        exact split_uniq hp (right_32 hs) e2
      cases hr : rightS p with
      | false =>
        refine (sep_form _ p q true w a hE hpl (.inr hr) H).mono ?_
        rintro e w' ⟨rfl, hb⟩
        refine ⟨hb, .inr ⟨fun s t hs _ _ e => ?_, rfl⟩⟩
        rw [(hu s t hs e).1, hs] at hr
        cases hr
      | true =>
        refine (sep_mom _ p q w a hE ht hr H).mono ?_
        rintro e w' ⟨hb, (⟨T, t0, t1, hq, rfl⟩ | ⟨hno, rfl⟩)⟩
        · exact ⟨hb, .inl ⟨p, T, hr, t0, t1, by rw [sepT_form, hq], rfl⟩⟩
        · refine ⟨hb, .inr ⟨fun s t hs t0 t1 e => ?_, rfl⟩⟩
          exact hno t t0 t1 (hu s t hs e).2.symm
    · have H := hide (fun w => parts_cut S S [] false w hSl (fun w => cut_out S w h32))
      refine (sep_form _ S [] false w a hE hSl (.inl rfl) H).mono ?_
      rintro e w' ⟨rfl, hb⟩
      refine ⟨hb, .inr ⟨fun s t hs _ _ e => ?_, rfl⟩⟩
      rw [sepT_form] at e
      have e2 := List.append_cancel_right (List.append_cancel_left e)
      exact h32 (by rw [e2]; simp)
  · have hS' : ∀ S, l ≠ fromS ++ (S ++ [10]) := fun S e => hS ⟨S, e⟩
    have H := hide (fun w => parts_bad l w (by omega) hS')
    refine (sep_form l [] [] false w a hE (by simp) (.inl rfl) H).mono ?_
    rintro e w' ⟨rfl, hb⟩
    refine ⟨hb, .inr ⟨fun s t _ _ _ e => ?_, rfl⟩⟩
    rw [sepT_form] at e
    exact hS' _ e
end Go.Proofs.YtcmhaihoeecjoaaGreatDoor

end
section
namespace Go.Proofs.YtcmhaihoeecjoaaGreatDoor
open Go.RowKit
theorem marks_rep : ∀ (k : Nat) (r : List UInt8), r.head? ≠ some 62 → marksN (List.replicate k 62 ++ r) = if sepB r then (k : Int) else -1
  | 0, r, h => by
    cases r with
    | nil => simp [marksN, sep_nil]
    | cons c r =>
      have : c ≠ 62 := by simpa using h
      simp [marksN, this]
  | k + 1, r, h => by
    have ih := marks_rep k r h
    show marksN (62 :: (List.replicate k 62 ++ r)) = _
    unfold marksN
    rw [if_pos rfl]
    cases hs : sepB r with
    | true =>
      rw [hs] at ih
      have : nm (List.replicate k 62 ++ r) = true := marks_nonneg.1 (by rw [ih]; simp)
      rw [if_pos this, ih]
      simp
    | false =>
      rw [hs] at ih
      have : nm (List.replicate k 62 ++ r) = false := by
        cases hn : nm (List.replicate k 62 ++ r) with
        | false => rfl
        | true => have := marks_nonneg.2 hn; rw [ih] at this; simp at this
      rw [this]
      simp
theorem sep_take (r : List UInt8) : sepB r = decide (r.take 5 = fromS) := by
  rw [Bool.eq_iff_iff, decide_eq_true_iff]
  unfold sepB
  rw [List.isPrefixOf_iff_prefix, List.prefix_iff_eq_take]
  constructor
  · intro h; exact h.symm
  · intro h; exact h.symm
theorem sep_short {r : List UInt8} (h : r.length < 5) : sepB r = false := by
  rw [sep_take, decide_eq_false_iff_not]
  intro he
  have := congrArg List.length he
  rw [List.length_take] at this
  simp [fromS] at this
  omega
theorem getElem_lit (l : List UInt8) (i : Nat) (h : i < (⟨l.toArray⟩ : ByteArray).size) : (⟨l.toArray⟩ : ByteArray)[i] = l[i]'(by simpa [ByteArray.size] using h) := rfl
theorem slice5 (s : List UInt8) (j : Nat) (h : j + 5 ≤ s.length) (w : World) : (Instr.slice 9 (.string ⟨s.toArray⟩) (some (.int .i64 j)) (some (.int .i64 ((j : Int) + 5))) none).run Tryz.prog w = .ok (.string ⟨((s.drop j).take 5).toArray⟩) w := by
  have := run_slice_string (P := Tryz.prog) w 9 ⟨s.toArray⟩ .i64 .i64 (j : Int) ((j : Int) + 5) Tryz.underlying9 (by omega) (by omega) (by rw [size_lit]; omega)
  rw [this]
  have e1 := ext_mid s j (j + 5)
  rw [show j + 5 - j = 5 from by omega] at e1
  rw [← e1]
  rfl
set_option maxRecDepth 20000 in
set_option maxHeartbeats 1000000 in
theorem marks_any (s : List UInt8) (a : Nat) (w : World) (ha : a ≤ s.length) (hs : s.length ≤ 1000000) :
    Calls Tryz.prog 28 #[.string ⟨s.toArray⟩, .int .i64 a] w fun e w' => e = .returned (.int .i64 (marksN (s.drop a))) ∧ w' = w := by
  go_enter Tryz.func28, Tryz.ntmps28
  go_wp2
  go_loop [5] (fun n => ∃ k : Nat, n = .int .i64 k ∧ a + k ≤ s.length ∧ Hid (s.drop a = List.replicate k 62 ++ s.drop (a + k))) (fun n => s.length - (intOf n).toNat)
  case atStart => exact ⟨0, rfl, ha, by show _ = _; simp⟩
  case round =>
    obtain ⟨k, rfl, hk, HD⟩ := hrel
    obtain ⟨j, hja⟩ : ∃ j, a + k = j := ⟨_, rfl⟩
    have hj : (a : Int) + (k : Int) = (j : Int) := by omega
    rw [hja] at HD
    by_cases hlt : j < s.length
    · have hbyte : ((⟨s.toArray⟩ : ByteArray)[j]'(by rwa [size_lit])) = s[j] := rfl
      by_cases hc : s[j] = 62
      · have hcc : ((((⟨s.toArray⟩ : ByteArray)[j]'(by rwa [size_lit])).toNat : Int) == 62) = true := by rw [hbyte, hc]; rfl
        have HD2 : Hid (s.drop a = List.replicate (k + 1) 62 ++ s.drop (a + (k + 1))) := by
          show _ = _
          rw [HD.out, List.drop_eq_getElem_cons hlt, hc, List.replicate_succ', List.append_assoc, ← Nat.add_assoc, hja]
          rfl
        have hk2 : a + (k + 1) ≤ s.length := by omega
        clear hbyte hc hja
        go_wp2
        go_round
        case rel => exact ⟨k + 1, by go_num, hk2, HD2⟩
        case measure => simp [intOf]; omega
      · have hcc : ((((⟨s.toArray⟩ : ByteArray)[j]'(by rwa [size_lit])).toNat : Int) == 62) = false := by
          rw [hbyte, beq_eq_false_iff_ne]
          intro h
          exact hc (UInt8.toNat_inj.1 (show s[j].toNat = 62 by omega))
        have hh : (s.drop j).head? ≠ some 62 := by
          rw [List.drop_eq_getElem_cons hlt, List.head?_cons]
          intro e
          exact hc (Option.some.inj e)
        have HM := hide (marks_rep k _ hh)
        rw [← HD.out] at HM
        clear hbyte hc hh
        by_cases h5 : s.length - a - k < 5
        · have h5' : ((s.length : Int) - a - k < 5) := by omega
          have HF : Hid (marksN (s.drop a) = -1) := by
            show _ = _
            rw [HM.out, sep_short (by rw [List.length_drop]; omega)]
            rfl
          clear hja h5
          go_wp2
          go_ret
          exact ⟨by rw [HF.out]; rfl, rfl⟩
        · have h5' : ¬ ((s.length : Int) - a - k < 5) := by omega
          have hsl := slice5 s j (by omega)
          have HT := hide (sep_take (s.drop j))
          generalize (s.drop j).take 5 = x at hsl HT
          clear hja h5
          by_cases hx : x = fromS
          · have HF : Hid (marksN (s.drop a) = k) := by
              show _ = _
              rw [HM.out, HT.out, hx]
              rfl
            have hxb : (x == [70, 114, 111, 109, 32]) = true := by rw [hx]; rfl
            clear hx
            go_wp2
            go_ret
            exact ⟨by rw [HF.out]; rfl, rfl⟩
          · have HF : Hid (marksN (s.drop a) = -1) := by
              show _ = _
              rw [HM.out, HT.out, decide_eq_false hx]
              rfl
            have hxb : (x == [70, 114, 111, 109, 32]) = false := by
              rw [beq_eq_false_iff_ne]
              exact hx
            clear hx
            go_wp2
            go_ret
            exact ⟨by rw [HF.out]; rfl, rfl⟩
    · have h5' : ((s.length : Int) - a - k < 5) := by omega
      have HF : Hid (marksN (s.drop a) = -1) := by
        show _ = _
        rw [HD.out, List.drop_of_length_le (by omega), marks_rep k [] (by simp)]
        rfl
      clear hja
      go_wp2
      go_ret
      exact ⟨by rw [HF.out]; rfl, rfl⟩
/-- Does a line begin here? -/
def beg (s : List UInt8) (i : Nat) : Bool := i == 0 || s[i - 1]? == some 10
set_option maxHeartbeats 1000000 in
theorem begins_any (s : List UInt8) (i : Nat) (w : World) (hi : i ≤ s.length) (hs : s.length ≤ 1000000) :
    Calls Tryz.prog 27 #[.string ⟨s.toArray⟩, .int .i64 i] w fun e w' => e = .returned (.bool (beg s i)) ∧ w' = w := by
  by_cases h0 : i = 0
  · subst h0
    go_enter Tryz.func27, Tryz.ntmps27
    go_wp2
    go_ret
    exact ⟨rfl, rfl⟩
  · obtain ⟨k, rfl⟩ : ∃ k, i = k + 1 := ⟨i - 1, by omega⟩
    have hb0 : (((k + 1 : Nat) : Int) == 0) = false := by simp; omega
    have hk : k < s.length := by omega
    have hj : ((k + 1 : Nat) : Int) - 1 = (k : Int) := by omega
    have hbyte : ((⟨s.toArray⟩ : ByteArray)[k]'(by rwa [size_lit])) = s[k] := rfl
    have HB : Hid (beg s (k + 1) = (((s[k].toNat : Int) == 10))) := by
      show _ = _
      unfold beg
      rw [show k + 1 - 1 = k from rfl, List.getElem?_eq_getElem hk, Bool.eq_iff_iff]
      simp only [beq_iff_eq, Option.some.injEq, Bool.or_eq_true]
      constructor
      · rintro (h | h)
        · omega
        · rw [h]; rfl
      · intro h
        exact .inr (UInt8.toNat_inj.1 (show s[k].toNat = 10 by omega))
    go_enter Tryz.func27, Tryz.ntmps27
    go_wp2
    go_ret
    exact ⟨by rw [HB.out]; rfl, rfl⟩
end Go.Proofs.YtcmhaihoeecjoaaGreatDoor

end
