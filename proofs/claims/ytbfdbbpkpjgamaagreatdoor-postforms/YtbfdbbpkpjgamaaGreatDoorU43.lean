/- The document's Fits: its table, made from the end on. -/
/- The document's Fits, of any texts of at most 200 bytes. -/
/- The document's plain, Pattern and Name. -/
import Derived.Test.YtbfdbbpkpjgamaaGreatDoorU09
import Derived.Test.YtbfdbbpkpjgamaaGreatDoorU19
import Derived.Deep.CutBlock
import Derived.Deep.CutRange
section
set_option linter.unusedSimpArgs false
set_option linter.unusedVariables false
namespace Go.Proofs.YtbfdbbpkpjgamaaGreatDoor
open Go.RowKit Go.Shelf
theorem tab_in {q m W R : Nat} (hq : q + 1 < R) (hm : m < W) : (q + 1) * W + m < R * W := by
  have h1 : (q + 2) * W ≤ R * W := Nat.mul_le_mul_right _ (by omega)
  have h2 : (q + 2) * W = (q + 1) * W + W := by rw [show q + 2 = (q + 1) + 1 from rfl, Nat.add_mul (q + 1) 1 W, Nat.one_mul]
  omega
theorem tab_in0 {q m W R : Nat} (hq : q < R) (hm : m < W) : q * W + m < R * W := by
  have h1 : (q + 1) * W ≤ R * W := Nat.mul_le_mul_right _ (by omega)
  have h2 : (q + 1) * W = q * W + W := by rw [Nat.add_mul, Nat.one_mul]
  omega
theorem tab_max {W R : Nat} (hr : R ≤ 201) (hw : W ≤ 201) : R * W ≤ 40401 := by
  have := Nat.mul_le_mul hr hw
  omega
/-- The table under way. -/
def Tb (w wr : World) (b : Nat) (inb : Bool) (P N : List UInt8) (k : Nat) : Prop :=
  w.heap.size ≤ b ∧ Below w.heap.size w wr ∧ Rw wr 1 (.slice (some ⟨b, 0, none⟩) ((P.length + 1) * (N.length + 1)) ((P.length + 1) * (N.length + 1))) ((P.length + 1) * (N.length + 1)) ((tabL inb P N k).map Value.bool) (some b)
theorem Rw.at0 {w : World} {g n c : Nat} {cs : List Value} (h : Rw w 1 (.slice (some ⟨g, 0, none⟩) n c) n cs (some g)) : (∀ j u, cs[j]? = some u → w.cell? ⟨g, j, none⟩ = some u) ∧ ∀ j, j < n → w.frozen? ⟨g, j, none⟩ = false := by
  rcases h.2 with ⟨h, _⟩ | ⟨g', o', cap', k1, k2, h1, h2, h3, h4, h5⟩
  · cases h
  · cases k1
    cases k2
    refine ⟨fun j u hu => ?_, fun j hj => ?_⟩
    · have := h4 j u hu
      rwa [Nat.zero_add] at this
    · have := (h5 j (by omega)).2
      rwa [Nat.zero_add] at this
theorem Tb.at {w wr : World} {b : Nat} {inb : Bool} {P N : List UInt8} {k j : Nat} (h : Tb w wr b inb P N k) (hj : j < (P.length + 1) * (N.length + 1)) (hk : k ≤ j) : wr.cell? ⟨b, j, none⟩ = some (.bool (fitE inb P N j)) :=
  (Rw.at0 h.2.2).1 j (.bool (fitE inb P N j)) (by rw [List.getElem?_map, tabL_at hj hk]; rfl)
theorem Tb.here {w wr : World} {b : Nat} {inb : Bool} {P N : List UInt8} {k j : Nat} (h : Tb w wr b inb P N k) (hj : j < (P.length + 1) * (N.length + 1)) : ∃ u, wr.cell? ⟨b, j, none⟩ = some u ∧ wr.frozen? ⟨b, j, none⟩ = false :=
  have hl : j < ((tabL inb P N k).map Value.bool).length := by rw [List.length_map, tabL_len]; exact hj
  ⟨_, (Rw.at0 h.2.2).1 j _ (List.getElem?_eq_getElem hl), (Rw.at0 h.2.2).2 j hj⟩
theorem Tb.below {w wr wq : World} {b : Nat} {inb : Bool} {P N : List UInt8} {k : Nat} (h : Tb w wr b inb P N k) (hb : Below wr.heap.size wr wq) : Tb w wq b inb P N k := by
  have := h.2.2.lt b rfl
  exact ⟨h.1, h.2.1.trans (hb.mono h.2.1.size), h.2.2.keep (S := fun _ => False) (Mvs.of_below hb) (fun _ _ c => c)⟩
theorem Tb.put {w wr : World} {b : Nat} {inb : Bool} {P N : List UInt8} {k : Nat} (h : Tb w wr b inb P N (k + 1)) (hk : k < (P.length + 1) * (N.length + 1)) {t : Bool} (ht : t = fitE inb P N k) : Tb w (wr.setCell ⟨b, k, none⟩ (.bool t)) b inb P N k := by
  refine ⟨h.1, h.2.1.setCell (p := ⟨b, k, none⟩) h.1 _, ?_⟩
  have := h.2.2.put1 k hk (.bool t)
  rw [Nat.zero_add, ← List.map_set, ht, tabL_set] at this
  rw [ht]
  exact this
theorem slice_one (s : List UInt8) (b : Nat) (h2 : b < s.length) (w : World) : (Instr.slice 9 (.string ⟨s.toArray⟩) (some (.int .i64 (b : Int))) (some (.int .i64 ((b : Int) + 1))) none).run Tryz.prog w = .ok (.string ⟨#[s[b]]⟩) w := by
  have := run_slice_string (P := Tryz.prog) w 9 ⟨s.toArray⟩ .i64 .i64 (b : Int) ((b : Int) + 1) Tryz.underlying9 (by omega) (by omega) (by rw [size_lit]; omega)
  rw [this]
  rw [show ((b : Int)).toNat = b from by omega, show ((b : Int) + 1).toNat = b + 1 from by omega]
  have e : (⟨s.toArray⟩ : ByteArray).extract b (b + 1) = ⟨[s[b]].toArray⟩ := by
    apply ByteArray.ext
    simp only [ByteArray.data_extract]
    apply Array.ext'
    simp only [Array.toList_extract, List.extract_eq_take_drop]
    rw [show b + 1 - b = 1 from by omega, List.drop_eq_getElem_cons h2]
    rfl
  rw [e]
end Go.Proofs.YtbfdbbpkpjgamaaGreatDoor

end
section
set_option linter.unusedSimpArgs false
set_option linter.unusedVariables false
namespace Go.Proofs.YtbfdbbpkpjgamaaGreatDoor
open Go.RowKit Go.Shelf
theorem boolInfo13 : (Tryz.prog.info? 4).map (fun i => (i.zero, i.size, i.bytes)) = some (some (.bool false), 1, 1) := by kernel_rfl
theorem u8_int (c d : UInt8) (h : c ≠ d) : ((c.toNat : Int) == (d.toNat : Int)) = false := beq_eq_false_iff_ne.2 fun e => h (UInt8.toNat_inj.1 (by omega))
theorem u8_lit (c : UInt8) (n : Nat) (hn : n < 256) (h : c ≠ n.toUInt8) : ¬ (c.toNat : Int) = n := by
  intro e
  have e2 : c.toNat = n := by omega
  exact h (UInt8.toNat_inj.1 (by rw [e2]; simp; omega))
theorem made_bools (n : Nat) : (madeCells #[Value.bool false] n).toList = List.replicate n (.bool false) := by
  refine List.ext_getElem (by simp [madeCells]) fun i h1 h2 => ?_
  simp [madeCells, Nat.mod_one]
theorem fit_mt (inb : Bool) (P N : List UInt8) (q m : Nat) (hq : q = P.length) : fit inb (P.drop q) (N.drop m) = decide (N.length ≤ m) := by
  subst hq
  rw [List.drop_length, fit_nil]
  by_cases h : N.length ≤ m
  · rw [List.drop_of_length_le h, decide_eq_true h]; rfl
  · rw [decide_eq_false h]
    cases hd : N.drop m with
    | nil => exact absurd (List.drop_eq_nil_iff.1 hd) h
    | cons a b => rfl
end Go.Proofs.YtbfdbbpkpjgamaaGreatDoor

end
section
set_option linter.unusedSimpArgs false
set_option linter.unusedVariables false
namespace Go.Proofs.YtbfdbbpkpjgamaaGreatDoor
open Go.RowKit Go.Shelf
set_option maxRecDepth 20000 in
set_option maxHeartbeats 2000000 in
theorem rplain_any (c : UInt8) (p : Bool) (w : World) : Calls Tryz.prog 80 #[.int .u8 (c.toNat : Nat), .bool p] w fun e w' => e = .returned (.bool (plnB p c)) ∧ w' = w := by
  have h255 := c.toNat_lt
  have lit : ∀ n : Nat, n < 256 → c.toNat ≠ n → ((c.toNat : Int) == (n : Int)) = false := fun n _ h => beq_eq_false_iff_ne.2 (by omega)
  by_cases h1 : c.toNat < 33
  · have b1 : (c.toNat : Int) < 33 := by omega
    have HV : Hid (plnB p c = false) := by show _ = _; unfold plnB; rw [decide_eq_false (by omega)]; rfl
    go_enter Tryz.func80, Tryz.ntmps80
    go_wp2
    go_ret
    exact ⟨by rw [HV.out]; rfl, rfl⟩
  have b1 : ¬ (c.toNat : Int) < 33 := by omega
  by_cases h2 : 126 < c.toNat
  · have b2 : (126 : Int) < c.toNat := by omega
    have HV : Hid (plnB p c = false) := by show _ = _; unfold plnB; rw [decide_eq_false (by omega)]; rfl
    go_enter Tryz.func80, Tryz.ntmps80
    go_wp2
    go_ret
    exact ⟨by rw [HV.out]; rfl, rfl⟩
  have b2 : ¬ (126 : Int) < c.toNat := by omega
  have HD : Hid (decide (33 ≤ c.toNat ∧ c.toNat ≤ 126) = true) := by show _ = _; exact decide_eq_true (by omega)
  by_cases k : c = 40 ∨ c = 41 ∨ c = 123 ∨ c = 34 ∨ c = 92
  · have HV : Hid (plnB p c = false) := by
      show _ = _
      unfold plnB
      rcases k with rfl | rfl | rfl | rfl | rfl <;> rfl
    clear h1 h2 b1 b2 HD lit h255
    rcases k with rfl | rfl | rfl | rfl | rfl
    all_goals
      go_enter Tryz.func80, Tryz.ntmps80
      go_wp2
      go_ret
      exact ⟨by rw [HV.out]; rfl, rfl⟩
  · obtain ⟨k1, k2, k3, k4, k5⟩ : c ≠ 40 ∧ c ≠ 41 ∧ c ≠ 123 ∧ c ≠ 34 ∧ c ≠ 92 := ⟨fun e => k (.inl e), fun e => k (.inr (.inl e)), fun e => k (.inr (.inr (.inl e))), fun e => k (.inr (.inr (.inr (.inl e)))), fun e => k (.inr (.inr (.inr (.inr e))))⟩
    have c1 : ((c.toNat : Int) == 40) = false := beq_eq_false_iff_ne.2 (u8_lit c 40 (by omega) k1)
    have c2 : ((c.toNat : Int) == 41) = false := beq_eq_false_iff_ne.2 (u8_lit c 41 (by omega) k2)
    have c3 : ((c.toNat : Int) == 123) = false := beq_eq_false_iff_ne.2 (u8_lit c 123 (by omega) k3)
    have c4 : ((c.toNat : Int) == 34) = false := beq_eq_false_iff_ne.2 (u8_lit c 34 (by omega) k4)
    have c5 : ((c.toNat : Int) == 92) = false := beq_eq_false_iff_ne.2 (u8_lit c 92 (by omega) k5)
    have HQ : Hid (plnB p c = (p || !starB c)) := by
      show _ = _
      unfold plnB
      rw [HD.out, beq_eq_false_iff_ne.2 k1, beq_eq_false_iff_ne.2 k2, beq_eq_false_iff_ne.2 k3, beq_eq_false_iff_ne.2 k4, beq_eq_false_iff_ne.2 k5]
      simp
    by_cases m : c = 37 ∨ c = 42
    · have HV : Hid (plnB p c = p) := by
        show _ = _
        rw [HQ.out]
        rcases m with rfl | rfl <;> simp [starB]
      clear h1 h2 b1 b2 HD lit h255 k k1 k2 k3 k4 k5 c1 c2 c3 c4 c5 HQ
      rcases m with rfl | rfl
      all_goals
        go_enter Tryz.func80, Tryz.ntmps80
        go_wp2
        go_ret
        exact ⟨by rw [HV.out]; rfl, rfl⟩
    · obtain ⟨m1, m2⟩ : c ≠ 37 ∧ c ≠ 42 := ⟨fun e => m (.inl e), fun e => m (.inr e)⟩
      have d1 : ((c.toNat : Int) == 37) = false := beq_eq_false_iff_ne.2 (u8_lit c 37 (by omega) m1)
      have d2 : ((c.toNat : Int) == 42) = false := beq_eq_false_iff_ne.2 (u8_lit c 42 (by omega) m2)
      have HV : Hid (plnB p c = true) := by
        show _ = _
        rw [HQ.out]
        simp [starB, m1, m2]
      clear k m k1 k2 k3 k4 k5 m1 m2 HQ HD lit
      go_enter Tryz.func80, Tryz.ntmps80
      go_wp2
      go_ret
      exact ⟨by rw [HV.out]; rfl, rfl⟩
set_option maxRecDepth 20000 in
set_option maxHeartbeats 4000000 in
theorem rname_any (s : List UInt8) (w : World) (hs : s.length ≤ 1000000) : Calls Tryz.prog 45 #[.string ⟨s.toArray⟩] w fun e w' => e = movV (boxO s) ∧ Below w.heap.size w w' := by
  have hsz := size_lit s
  have HNo : Hid (boxB s = false → movV (boxO s) = .returned (.tuple #[.string ⟨#[]⟩, .bool false])) := fun h => by
    unfold boxO
    rw [h]
    rfl
  have HYes : Hid (boxB s = true → movV (boxO s) = .returned (.tuple #[.string ⟨(if s.map lowB = inboxL then inboxU else s).toArray⟩, .bool true])) := fun h => by
    unfold boxO
    rw [h]
    rfl
  by_cases h1 : s.length < 1
  · have h1' : (s.length : Int) < 1 := by omega
    have HV := hide (HNo.out (box_short (.inl h1)))
    go_enter Tryz.func45, Tryz.ntmps45
    go_wp2
    go_ret2
    exact ⟨by rw [HV.out]; rfl, Below.refl _ _⟩
  have h1' : ¬ (s.length : Int) < 1 := by omega
  by_cases h2 : 60 < s.length
  · have h2' : (60 : Int) < s.length := by omega
    have HV := hide (HNo.out (box_short (.inr h2)))
    go_enter Tryz.func45, Tryz.ntmps45
    go_wp2
    go_ret2
    exact ⟨by rw [HV.out]; rfl, Below.refl _ _⟩
  have h2' : ¬ (60 : Int) < s.length := by omega
  obtain ⟨L, HL⟩ : ∃ L, Hid (s.length = L + 1) := ⟨s.length - 1, by show _ = _; omega⟩
  have hL1 : (s.length : Int) - 1 = L := by have := HL.out; omega
  have hLs : L < s.length := by have := HL.out; omega
  have hLs' : (L : Int) < s.length := by omega
  have h0s : 0 < s.length := by omega
  have h0s' : (0 : Int) < s.length := by omega
  obtain ⟨d0, hd0, hat0⟩ : ∃ c, s[0] = c ∧ ∀ h : 0 < (⟨s.toArray⟩ : ByteArray).size, (⟨s.toArray⟩ : ByteArray)[0]'h = c := ⟨_, rfl, fun _ => rfl⟩
  obtain ⟨dl, hdl, hatl⟩ : ∃ c, s[L] = c ∧ ∀ h : L < (⟨s.toArray⟩ : ByteArray).size, (⟨s.toArray⟩ : ByteArray)[L]'h = c := ⟨_, rfl, fun _ => rfl⟩
  by_cases k0 : d0 = 47
  · subst k0
    have HV := hide (HNo.out (box_first (by rw [List.getElem?_eq_getElem h0s, hd0])))
    go_enter Tryz.func45, Tryz.ntmps45
    go_wp2
    go_ret2
    exact ⟨by rw [HV.out]; rfl, Below.refl _ _⟩
  have b0 : ((d0.toNat : Int) == 47) = false := beq_eq_false_iff_ne.2 (u8_lit d0 47 (by omega) k0)
  have H0 : Hid (s[0]? ≠ some 47) := by show _ ≠ _; rw [List.getElem?_eq_getElem h0s, hd0]; intro e; exact k0 (Option.some.inj e)
  by_cases kl : dl = 47
  · subst kl
    have HV := hide (HNo.out (box_end (by omega) (by have := HL.out; rw [show s.length - 1 = L from by omega, List.getElem?_eq_getElem hLs, hdl])))
    go_enter Tryz.func45, Tryz.ntmps45
    go_wp2
    go_ret2
    exact ⟨by rw [HV.out]; rfl, Below.refl _ _⟩
  have bl : ((dl.toNat : Int) == 47) = false := beq_eq_false_iff_ne.2 (u8_lit dl 47 (by omega) kl)
  have HLa : Hid (s[s.length - 1]? ≠ some 47) := by
    show _ ≠ _
    have := HL.out
    rw [show s.length - 1 = L from by omega, List.getElem?_eq_getElem hLs, hdl]
    intro e
    exact kl (Option.some.inj e)
  have HP := hide (fun c w => rplain_any c false w)
  have HSm := hide (fun W => rsmall_any s W hs)
  clear hd0 hdl
  go_enter Tryz.func45, Tryz.ntmps45
  go_wp2
  go_loopw [4] (fun v4 wr => ∃ i : Nat, v4 = .int .i64 i ∧ i ≤ s.length ∧ Hid (∀ j, j < i → atB s j) ∧ w = wr) (fun v4 _ => s.length - (intOf v4).toNat)
  case atStart => exact ⟨0, rfl, Nat.zero_le _, (fun j h => by omega), rfl⟩
  case round =>
    obtain ⟨i, rfl, hi, Ha, rfl⟩ := hrel
    by_cases hlt : i < s.length
    · have hlt' : (i : Int) < s.length := by omega
      obtain ⟨d, hd, hat⟩ : ∃ c, s[i] = c ∧ ∀ h : i < (⟨s.toArray⟩ : ByteArray).size, (⟨s.toArray⟩ : ByteArray)[i]'h = c := ⟨_, rfl, fun _ => rfl⟩
      have Hg : Hid (s[i]? = some d) := by show _ = _; rw [List.getElem?_eq_getElem hlt, hd]
      clear hd
      have HPd := hide (HP.out d)
      cases hp : plnB false d with
      | false =>
        rw [hp] at HPd
        have HV : Hid (boxB s = false) := box_doc_no hlt H0.out (fun ⟨c, e1, e2, _⟩ => by
          rw [Hg.out] at e1
          cases e1
          rw [hp] at e2
          cases e2)
        have HV2 := hide (HNo.out HV.out)
        clear hp
        go_wp2_with (go_at_call 80; refine (HPd.out _).mono ?_; rintro e w' ⟨rfl, hw'⟩; subst hw')
        go_ret2
        exact ⟨by rw [HV2.out]; rfl, Below.refl _ _⟩
      | true =>
        rw [hp] at HPd
        by_cases h47 : d = 47
        · subst h47
          obtain ⟨j, Hj⟩ : ∃ j, Hid (i = j + 1) := by
            cases i with
            | zero => exact absurd Hg.out H0.out
            | succ j => exact ⟨j, hide rfl⟩
          have hj1 : (i : Int) - 1 = j := by have := Hj.out; omega
          have hjs : j < s.length := by have := Hj.out; omega
          have hjs' : (j : Int) < s.length := by omega
          obtain ⟨q, hq, hatq⟩ : ∃ c, s[j] = c ∧ ∀ h : j < (⟨s.toArray⟩ : ByteArray).size, (⟨s.toArray⟩ : ByteArray)[j]'h = c := ⟨_, rfl, fun _ => rfl⟩
          have Hgj : Hid (s[i - 1]? = some q) := by show _ = _; rw [Hj.out, Nat.add_sub_cancel, List.getElem?_eq_getElem hjs, hq]
          clear hq
          by_cases hq47 : q = 47
          · subst hq47
            have HV : Hid (boxB s = false) := box_doc_no hlt H0.out (fun ⟨c, e1, _, e3⟩ => by
              rw [Hg.out] at e1
              cases e1
              exact e3 rfl Hgj.out)
            have HV2 := hide (HNo.out HV.out)
            clear hp
            go_wp2_with (go_at_call 80; refine (HPd.out _).mono ?_; rintro e w' ⟨rfl, hw'⟩; subst hw')
            go_ret2
            exact ⟨by rw [HV2.out]; rfl, Below.refl _ _⟩
          · have bq : ((q.toNat : Int) == 47) = false := beq_eq_false_iff_ne.2 (u8_lit q 47 (by omega) hq47)
            have HN : Hid (∀ j, j < i + 1 → atB s j) := fun j hj => by
              by_cases hji : j = i
              · subst hji
                exact ⟨47, Hg.out, hp, fun _ e => by rw [Hgj.out] at e; exact hq47 (Option.some.inj e)⟩
              · exact Ha.out j (by omega)
            clear hp
            go_wp2_with (go_at_call 80; refine (HPd.out _).mono ?_; rintro e w' ⟨rfl, hw'⟩; subst hw')
            go_roundw
            case rel => exact ⟨i + 1, by go_num, by omega, HN.out, trivial⟩
            case measure => simp [intOf] <;> omega
        · have bd : ((d.toNat : Int) == 47) = false := beq_eq_false_iff_ne.2 (u8_lit d 47 (by omega) h47)
          have HN : Hid (∀ j, j < i + 1 → atB s j) := fun j hj => by
            by_cases hji : j = i
            · subst hji
              exact ⟨d, Hg.out, hp, fun e => absurd e h47⟩
            · exact Ha.out j (by omega)
          clear hp
          go_wp2_with (go_at_call 80; refine (HPd.out _).mono ?_; rintro e w' ⟨rfl, hw'⟩; subst hw')
          go_roundw
          case rel => exact ⟨i + 1, by go_num, by omega, HN.out, trivial⟩
          case measure => simp [intOf] <;> omega
    · obtain rfl : i = s.length := by omega
      have HV := hide (HYes.out (box_doc_yes (by omega) (by omega) H0.out HLa.out Ha.out))
      by_cases hin : s.map lowB = inboxL
      · rw [if_pos hin] at HV
        rw [hin] at HSm
        have HSm2 : Hid (∀ W, Calls Tryz.prog 81 #[.string ⟨s.toArray⟩] W fun e w' => e = .returned (.string ⟨#[105, 110, 98, 111, 120]⟩) ∧ Below W.heap.size W w') := HSm.out
        clear hin HSm
        go_wp2_with (go_at_call 81; refine (HSm2.out _).mono ?_; rintro e w3 ⟨rfl, hb3⟩; replace hb3 := hide hb3)
        go_ret2
        exact ⟨by rw [HV.out]; rfl, hb3.out⟩
      · rw [if_neg hin] at HV
        have hne : (s.map lowB == [105, 110, 98, 111, 120]) = false := beq_eq_false_iff_ne.2 hin
        clear hin
        generalize s.map lowB = q at *
        go_wp2_with (go_at_call 81; refine (HSm.out _).mono ?_; rintro e w3 ⟨rfl, hb3⟩; replace hb3 := hide hb3)
        go_ret2
        exact ⟨by rw [HV.out]; rfl, hb3.out⟩
end Go.Proofs.YtbfdbbpkpjgamaaGreatDoor

end
