/- The document's Take. -/
import Derived.Test.YtppipfjnichikaaDoorPa9
namespace Go.Proofs.YtppipfjnichikaaDoor
open Go.RowKit Go.Shelf
def rtakeV (s : List UInt8) : Option (List UInt8 × List UInt8 × List UInt8) → Value
  | some (l, d, r) => .tuple #[.agg #[.string ⟨l.toArray⟩, .string ⟨d.toArray⟩], .int .i64 ((s.length : Int) - r.length)]
  | none => .tuple #[.agg #[.string ⟨#[]⟩, .string ⟨#[]⟩], .int .i64 0]
theorem idx_le (b : UInt8) : ∀ l : List UInt8, -1 ≤ Lib.indexByte l b ∧ Lib.indexByte l b < l.length := by
  intro l
  by_cases h : b ∈ l
  · obtain ⟨p, q, rfl, hp⟩ := split_at_byte l h
    rw [index_in q hp]
    simp
    omega
  · rw [index_out h]
    omega
theorem idx_neg {b : UInt8} {l : List UInt8} : Lib.indexByte l b < 0 ↔ b ∉ l := by
  constructor
  · intro h hm
    obtain ⟨p, q, rfl, hp⟩ := split_at_byte l hm
    rw [index_in q hp] at h
    omega
  · intro h
    rw [index_out h]
    omega
theorem idx_snoc_old {b c : UInt8} {l : List UInt8} (h : ¬ Lib.indexByte l b < 0) : Lib.indexByte (l ++ [c]) b = Lib.indexByte l b := by
  have hm : b ∈ l := Classical.byContradiction fun hn => h (idx_neg.2 hn)
  obtain ⟨p, q, rfl, hp⟩ := split_at_byte l hm
  rw [List.append_assoc, List.cons_append, index_in _ hp, index_in _ hp]
theorem idx_snoc_new {b : UInt8} {l : List UInt8} (h : Lib.indexByte l b < 0) : Lib.indexByte (l ++ [b]) b = l.length := index_in [] (idx_neg.1 h)
theorem idx_snoc_none {b c : UInt8} {l : List UInt8} (h : Lib.indexByte l b < 0) (hc : c ≠ b) : Lib.indexByte (l ++ [c]) b = Lib.indexByte l b := by
  rw [index_out (idx_neg.1 h), index_out]
  simp only [List.mem_append, List.mem_singleton, not_or]
  exact ⟨idx_neg.1 h, fun e => hc e.symm⟩
/-- Where the loop stands: no end yet, or the end found. -/
def TkA (s : List UInt8) (at_ end_ i : Int) : Prop := ∃ k : Nat, i = k ∧ k ≤ s.length ∧ end_ = -1 ∧ at_ = Lib.indexByte (s.take k) 64 ∧ (62 : UInt8) ∉ s.take k
def TkB (s : List UInt8) (at_ end_ i : Int) : Prop := ∃ q r : List UInt8, s = q ++ 62 :: r ∧ (62 : UInt8) ∉ q ∧ i = (q.length : Int) + 1 ∧ end_ = q.length ∧ at_ = Lib.indexByte q 64
theorem tk_next {s : List UInt8} {at_ : Int} {k : Nat} {c : UInt8} (hlt : k < s.length) (hc : s[k] = c) (ha : at_ = Lib.indexByte (s.take k) 64) (hm : (62 : UInt8) ∉ s.take k) :
    (c = 62 → TkB s at_ k ((k : Int) + 1)) ∧ (c ≠ 62 → c ≠ 64 → TkA s at_ (-1) ((k : Int) + 1)) ∧ (c = 64 → at_ < 0 → TkA s k (-1) ((k : Int) + 1)) ∧ (c = 64 → ¬ at_ < 0 → TkA s at_ (-1) ((k : Int) + 1)) := by
  have ht : s.take (k + 1) = s.take k ++ [c] := by rw [List.take_succ_eq_append_getElem hlt, hc]
  have hlen : (s.take k).length = k := by rw [List.length_take]; omega
  have hno : c ≠ 62 → (62 : UInt8) ∉ s.take (k + 1) := fun h => by
    rw [ht]
    simp only [List.mem_append, List.mem_singleton, not_or]
    exact ⟨hm, fun e => h e.symm⟩
  refine ⟨fun h => ⟨s.take k, s.drop (k + 1), ?_, hm, by rw [hlen], by rw [hlen], ha⟩, fun h1 h2 => ⟨k + 1, by omega, hlt, rfl, ?_, hno h1⟩, fun h1 h2 => ⟨k + 1, by omega, hlt, rfl, ?_, hno (by rw [h1]; decide)⟩, fun h1 h2 => ⟨k + 1, by omega, hlt, rfl, ?_, hno (by rw [h1]; decide)⟩⟩
  · rw [← h, ← hc, ← List.drop_eq_getElem_cons hlt, List.take_append_drop]
  · rw [ht, ha]
    by_cases h3 : Lib.indexByte (s.take k) 64 < 0
    · exact (idx_snoc_none h3 h2).symm
    · exact (idx_snoc_old h3).symm
  · rw [ht, h1, idx_snoc_new (by rw [← ha]; exact h2), hlen]
  · rw [ht, ha, idx_snoc_old (by rw [← ha]; exact h2)]
theorem take_none {s : List UInt8} (h : (62 : UInt8) ∉ s) : takeO s = none := by
  unfold takeO
  have h1 : (62 : UInt8) ∉ (preV s).1 := by
    cases s with
    | nil => simp [preV]
    | cons c t =>
      simp only [preV]
      split
      · exact fun hm => h (List.mem_cons_of_mem _ hm)
      · exact h
  rw [cutV_out h1]
  simp
theorem take_mid {bare r : List UInt8} (h : (62 : UInt8) ∉ bare) : takeO (60 :: bare ++ 62 :: r) = if (pathO bare).2.2 then some ((pathO bare).1, (pathO bare).2.1, r) else none := by
  unfold takeO
  rw [show preV (60 :: bare ++ 62 :: r) = (bare ++ 62 :: r, true) from rfl]
  simp only [cutV_in r h]
  simp
theorem take_other {q r : List UInt8} (h : q.head? ≠ some 60) : takeO (q ++ 62 :: r) = none := by
  unfold takeO
  have : (preV (q ++ 62 :: r)).2 = false := by
    cases q with
    | nil => rfl
    | cons c t =>
      have hc : c ≠ 60 := fun e => h (by rw [e]; rfl)
      simp [preV, hc]
  rw [this]
  simp
theorem at_zero {q r : List UInt8} (hq : q.head? ≠ some 60) : ∃ c, c ≠ 60 ∧ ∀ h : 0 < (⟨(q ++ 62 :: r).toArray⟩ : ByteArray).size, (⟨(q ++ 62 :: r).toArray⟩ : ByteArray)[0]'h = c := by
  cases q with
  | nil => exact ⟨62, by decide, fun _ => rfl⟩
  | cons c t => exact ⟨c, fun e => hq (by rw [e]; rfl), fun _ => rfl⟩
theorem slice_str2 (s : List UInt8) (i j : Nat) (x : List UInt8) (h : i ≤ j) (h2 : j ≤ s.length) (hx : (⟨s.toArray⟩ : ByteArray).extract i j = ⟨x.toArray⟩) (w : World) :
    (Instr.slice 9 (.string ⟨s.toArray⟩) (some (.int .i64 (i : Int))) (some (.int .i64 (j : Int))) none).run Tryd.prog w = .ok (.string ⟨x.toArray⟩) w := by
  have := run_slice_string (P := Tryd.prog) w 9 ⟨s.toArray⟩ .i64 .i64 (i : Int) (j : Int) Tryd.underlying9 (by omega) (by omega) (by rw [size_lit]; omega)
  rw [this, ← hx]
  rfl
set_option maxRecDepth 20000 in
set_option maxHeartbeats 8000000 in
theorem rtake_any (s : List UInt8) (w : World) (hs : s.length ≤ 2000) : Calls Tryd.prog 11 #[.string ⟨s.toArray⟩] w fun e w' => e = .returned (rtakeV s (takeO s)) ∧ Below w.heap.size w w' := by
  obtain ⟨V, hV⟩ : ∃ V, rtakeV s (takeO s) = V := ⟨_, rfl⟩
  have HV := hide hV
  rw [hV]
  clear hV
  have HBz := hide (Blk.new w #[.string ⟨#[]⟩, .string ⟨#[]⟩] 24)
  have HB0 := hide ((Below.refl w.heap.size w).alloc (Nat.le_refl _) (.cells #[.string ⟨#[]⟩, .string ⟨#[]⟩] 24))
  go_enter Tryd.func11, Tryd.ntmps11
  go_wp2
  go_loop [4, 5, 6] (fun ka ke ki => ∃ a e i : Int, ka = .int .i64 a ∧ ke = .int .i64 e ∧ ki = .int .i64 i ∧ Hid (TkA s a e i ∨ TkB s a e i)) (fun _ _ ki => s.length + 1 - (intOf ki).toNat)
  case atStart => exact ⟨-1, -1, 0, rfl, rfl, rfl, .inl ⟨0, rfl, Nat.zero_le _, rfl, rfl, by simp⟩⟩
  case round =>
    obtain ⟨a, e, i, rfl, rfl, rfl, HR⟩ := hrel
    rcases HR.out with ⟨k, rfl, hk, rfl, ha, hm⟩ | ⟨q, r, hsq, hq, rfl, rfl, ha⟩
    · clear HR
      by_cases hlt : k < s.length
      · have hlt' : (k : Int) < s.length := by omega
        obtain ⟨c, hc, hcs⟩ := at_str s k hlt
        have hal := idx_le 64 (s.take k)
        rw [← ha, List.length_take] at hal
        have HT := hide (tk_next hlt hc ha hm)
        clear hc ha hm
        by_cases c62 : c = 62
        · subst c62
          have HN := hide (HT.out.1 rfl)
          clear HT
          go_wp2
          go_round
          case rel => exact ⟨a, k, (k : Int) + 1, rfl, rfl, rfl, .inr HN.out⟩
          case measure => simp [intOf]; omega
        · by_cases c64 : c = 64
          · subst c64
            by_cases han : a < 0
            · have HN := hide (HT.out.2.2.1 rfl han)
              have han' : decide (a < 0) = true := decide_eq_true han
              clear HT c62
              go_wp2
              go_round
              case rel => exact ⟨k, -1, (k : Int) + 1, rfl, rfl, rfl, .inl HN.out⟩
              case measure => simp [intOf]; omega
            · have HN := hide (HT.out.2.2.2 rfl han)
              have han' : decide (a < 0) = false := decide_eq_false han
              clear HT c62
              go_wp2
              go_round
              case rel => exact ⟨a, -1, (k : Int) + 1, rfl, rfl, rfl, .inl HN.out⟩
              case measure => simp [intOf]; omega
          · have HN := hide (HT.out.2.1 c62 c64)
            obtain ⟨p1, p2, p3⟩ := ne_num (k := 62) 62 rfl c62
            obtain ⟨q1, q2, q3⟩ := ne_num (k := 64) 64 rfl c64
            clear HT c62 c64
            go_wp2
            go_round
            case rel => exact ⟨a, -1, (k : Int) + 1, rfl, rfl, rfl, .inl HN.out⟩
            case measure => simp [intOf]; omega
      · have hlt' : ¬ (k : Int) < s.length := by omega
        have hlt'' : decide ((k : Int) < s.length) = false := decide_eq_false hlt'
        obtain hks : k = s.length := by omega
        rw [hks] at hm
        rw [List.take_length] at hm
        have HN : Hid (.tuple #[.agg #[.string ⟨#[]⟩, .string ⟨#[]⟩], .int .i64 0] = V) := by show _ = _; rw [← HV.out, take_none hm]; rfl
        clear ha hm HV hks
        go_wp2
        exact bodyPost_ret (v := .tuple #[.agg #[.string ⟨#[]⟩, .string ⟨#[]⟩], .int .i64 0]) (by simp [results, Tryd.results11, go_sem]) rfl ⟨by rw [HN.out], HB0.out⟩
    · clear HR
      obtain ⟨E, hE⟩ : ∃ E, q.length = E := ⟨_, rfl⟩
      have hEs : E + 1 ≤ s.length := by rw [hsq, ← hE]; simp
      have hEi : (E : Int) + 1 ≤ s.length := by omega
      have hqn : ¬ (E : Int) < 0 := by omega
      have hqn' : decide ((E : Int) < 0) = false := decide_eq_false hqn
      have HSQ := hide hsq
      have HE := hide hE
      rw [hE]
      clear hsq hE
      by_cases h60 : q.head? = some 60
      · obtain ⟨bare, hqb⟩ : ∃ bare, q = 60 :: bare := by
          cases q with
          | nil => cases h60
          | cons c t => exact ⟨t, by simp at h60; rw [h60]⟩
        have hnb : (62 : UInt8) ∉ bare := fun hb => hq (by rw [hqb]; exact List.mem_cons_of_mem _ hb)
        have hto : takeO s = if (pathO bare).2.2 then some ((pathO bare).1, (pathO bare).2.1, r) else none := by rw [HSQ.out, hqb]; exact take_mid (r := r) hnb
        have h00 : ∀ h : 0 < (⟨s.toArray⟩ : ByteArray).size, (⟨s.toArray⟩ : ByteArray)[0]'h = 60 := fun h => by
          have : ∀ (t : List UInt8) (h : 0 < (⟨t.toArray⟩ : ByteArray).size), t = 60 :: (bare ++ 62 :: r) → (⟨t.toArray⟩ : ByteArray)[0]'h = 60 := fun t h e => by subst e; rfl
          exact this s h (by rw [HSQ.out, hqb]; rfl)
        have hEb : E = bare.length + 1 := by rw [← HE.out, hqb]; rfl
        have hslen : s.length = E + 1 + r.length := by rw [HSQ.out, ← HE.out]; simp; omega
        by_cases hbe : bare = []
        · have HN : Hid (.tuple #[.agg #[.string ⟨#[]⟩, .string ⟨#[]⟩], .int .i64 2] = V) := by
            show _ = _
            rw [← HV.out, hto, hbe]
            simp [pathO, rtakeV]
            rw [hbe] at hEb
            simp at hEb
            omega
          have hE1 : E = 1 := by rw [hEb, hbe]; rfl
          subst hE1
          clear hto ha hq hqb hnb h60 hslen hEb HSQ HE HV
          by_cases hr : (2 : Int) < s.length
          all_goals
            go_wp2
            exact bodyPost_ret (v := .tuple #[.agg #[.string ⟨#[]⟩, .string ⟨#[]⟩], .int .i64 2]) (by simp [results, Tryd.results11, go_sem]) rfl ⟨by rw [HN.out], HB0.out⟩
        · have hE1 : ¬ (E : Int) = 1 := by have := List.length_pos_iff.2 hbe; omega
          have hE1' : ((E : Int) == 1) = false := by rw [beq_eq_false_iff_ne]; exact hE1
          by_cases hat : (64 : UInt8) ∈ bare
          · obtain ⟨l, d, hb, hl⟩ := split_at_byte bare hat
            have hpo : pathO bare = (l, d, somB l d) := by
              unfold pathO
              rw [if_neg hbe, hb, cutV_in d hl]
            have hav : a = (l.length + 1 : Nat) := by
              rw [ha, hqb, hb]
              exact index_in (p := 60 :: l) d (by simp only [List.mem_cons, not_or]; exact ⟨by decide, hl⟩)
            obtain ⟨A, hA⟩ : ∃ A, l.length + 1 = A := ⟨_, rfl⟩
            have hAE : A + 1 + d.length = E := by rw [hEb, hb, ← hA]; simp; omega
            have hA1 : 1 ≤ A := by omega
            have hAE1 : A + 1 ≤ E := by omega
            have hAe : A ≤ E := by omega
            have x1 : (⟨s.toArray⟩ : ByteArray).extract 1 A = ⟨l.toArray⟩ := by
              rw [ext_mid, HSQ.out, hqb, hb, ← hA]
              simp
            have x2 : (⟨s.toArray⟩ : ByteArray).extract (A + 1) E = ⟨d.toArray⟩ := by
              rw [ext_mid, show E - (A + 1) = d.length by omega]
              have : s.drop (A + 1) = d ++ 62 :: r := by
                rw [HSQ.out, hqb, hb, ← hA]
                simp
              rw [this, List.take_left' rfl]
            have s1 : ∀ w, (Instr.slice 9 (.string ⟨s.toArray⟩) (some (.int .i64 1)) (some (.int .i64 A)) none).run Tryd.prog w = .ok (.string ⟨l.toArray⟩) w := fun w => slice_str2 s 1 A l hA1 (by omega) x1 w
            have s2 : ∀ w, (Instr.slice 9 (.string ⟨s.toArray⟩) (some (.int .i64 ((A : Int) + 1))) (some (.int .i64 E)) none).run Tryd.prog w = .ok (.string ⟨d.toArray⟩) w := fun w => slice_str2 s (A + 1) E d hAE1 (by omega) x2 w
            clear x1 x2
            rw [hav, hA]
            rw [hpo] at hto
            have HTO : Hid (V = rtakeV s (if somB l d = true then some (l, d, r) else none)) := by show _ = _; rw [← HV.out, hto]
            have HSL : Hid (s.length = E + 1 + r.length) := hslen
            have HL := hide (rlocal_any l)
            have HD := hide (rdom_any d)
            have gA : ¬ (A : Int) < 0 := by omega
            have gA' : decide ((A : Int) < 0) = false := decide_eq_false gA
            clear hto ha hq hqb hnb h60 hslen hEb HSQ HE HV hb hl hpo hav hA hAE hat hbe
            cases y1 : localB l with
            | false =>
              have HN : Hid (.tuple #[.agg #[.string ⟨#[]⟩, .string ⟨#[]⟩], .int .i64 0] = V) := by show _ = _; rw [HTO.out, somB, y1]; rfl
              rw [y1] at HL
              clear HTO y1 HD HSL
              by_cases hr : (E : Int) + 1 < s.length
              all_goals
                go_wp2_with (first | (go_at_call 17; refine (HL.out _).mono ?_; rintro e w' ⟨rfl, rfl⟩))
                exact bodyPost_ret (v := .tuple #[.agg #[.string ⟨#[]⟩, .string ⟨#[]⟩], .int .i64 0]) (by simp [results, Tryd.results11, go_sem]) rfl ⟨by rw [HN.out], HB0.out⟩
            | true =>
              rw [y1] at HL
              cases y2 : domB d with
              | false =>
                have HN : Hid (.tuple #[.agg #[.string ⟨#[]⟩, .string ⟨#[]⟩], .int .i64 0] = V) := by show _ = _; rw [HTO.out, somB, y1, y2]; rfl
                rw [y2] at HD
                clear HTO y1 y2 HSL
                by_cases hr : (E : Int) + 1 < s.length
                all_goals
                  go_wp2_with (first | (go_at_call 17; refine (HL.out _).mono ?_; rintro e w' ⟨rfl, rfl⟩) | (go_at_call 19; refine (HD.out _).mono ?_; rintro e w' ⟨rfl, rfl⟩))
                  exact bodyPost_ret (v := .tuple #[.agg #[.string ⟨#[]⟩, .string ⟨#[]⟩], .int .i64 0]) (by simp [results, Tryd.results11, go_sem]) rfl ⟨by rw [HN.out], HB0.out⟩
              | true =>
                have HN : Hid (.tuple #[.agg #[.string ⟨l.toArray⟩, .string ⟨d.toArray⟩], .int .i64 ((E : Int) + 1)] = V) := by
                  show _ = _
                  rw [HTO.out, somB, y1, y2]
                  simp only [Bool.and_self, if_true, rtakeV]
                  rw [show (s.length : Int) - r.length = (E : Int) + 1 by have := HSL.out; omega]
                rw [y2] at HD
                clear HTO y1 y2 HSL
                have hmx : Tryd.prog.follows .mixedOrders = true := by kernel_rfl
                obtain ⟨W0, hW0⟩ : ∃ W0, w.alloc (.cells #[.string ⟨#[]⟩, .string ⟨#[]⟩] 24) = W0 := ⟨_, rfl⟩
                rw [hW0] at HBz HB0
                have hcz := HBz.out.cell
                have hfz := HBz.out.frozen
                by_cases hr : (E : Int) + 1 < s.length
                all_goals
                  go_wp2_with (first | (go_at_call 17; refine (HL.out _).mono ?_; rintro e w' ⟨rfl, rfl⟩) | (go_at_call 19; refine (HD.out _).mono ?_; rintro e w' ⟨rfl, rfl⟩))
                  go_region
                  all_goals
                    go_wp2
                    have h4 := ((HBz.out.set 0 (.string ⟨l.toArray⟩)).set 1 (.string ⟨d.toArray⟩)).cell
                    exact bodyPost_ret (v := .tuple #[.agg #[.string ⟨l.toArray⟩, .string ⟨d.toArray⟩], .int .i64 ((E : Int) + 1)]) (by simp [results, Tryd.results11, go_sem, h4]) rfl ⟨by rw [HN.out], ((HB0.out.setCell (p := ⟨w.heap.size, 0, none⟩) (Nat.le_refl _) _).setCell (p := ⟨w.heap.size, 1, none⟩) (Nat.le_refl _) _).drew⟩
          · have HN : Hid (.tuple #[.agg #[.string ⟨#[]⟩, .string ⟨#[]⟩], .int .i64 0] = V) := by
              show _ = _
              have hpo : pathO bare = (bare, [], false) := by
                unfold pathO
                rw [if_neg hbe, cutV_out hat]
                simp [somB, domB_nil]
              rw [← HV.out, hto, hpo]
              rfl
            have han : a = -1 := by
              rw [ha, hqb]
              exact index_out (by simp only [List.mem_cons, not_or]; exact ⟨by decide, hat⟩)
            subst han
            clear hto ha hq hqb hnb h60 hslen hEb HSQ HE HV hat hbe
            by_cases hr : (E : Int) + 1 < s.length
            all_goals
              go_wp2
              exact bodyPost_ret (v := .tuple #[.agg #[.string ⟨#[]⟩, .string ⟨#[]⟩], .int .i64 0]) (by simp [results, Tryd.results11, go_sem]) rfl ⟨by rw [HN.out], HB0.out⟩
      · have HN : Hid (.tuple #[.agg #[.string ⟨#[]⟩, .string ⟨#[]⟩], .int .i64 0] = V) := by show _ = _; rw [← HV.out, HSQ.out, take_other h60]; rfl
        obtain ⟨c, hc, hcs⟩ : ∃ c : UInt8, c ≠ 60 ∧ ∀ h : 0 < (⟨s.toArray⟩ : ByteArray).size, (⟨s.toArray⟩ : ByteArray)[0]'h = c := by
          rw [HSQ.out]
          exact at_zero h60
        obtain ⟨p1, p2, p3⟩ := ne_num (k := 60) 60 rfl hc
        clear hc h60 ha hq HSQ HE HV
        by_cases hr : (E : Int) + 1 < s.length
        all_goals
          go_wp2
          exact bodyPost_ret (v := .tuple #[.agg #[.string ⟨#[]⟩, .string ⟨#[]⟩], .int .i64 0]) (by simp [results, Tryd.results11, go_sem]) rfl ⟨by rw [HN.out], HB0.out⟩
end Go.Proofs.YtppipfjnichikaaDoor
