/- Texts: where a byte stands, halves. -/
/- line and goOn of package header; Body. -/
import Derived.Test.YtegplihhbdmnbaaGreatDoorU04
import Derived.Test.YtegplihhbdmnbaaGreatDoorU05
import Derived.Test.YtegplihhbdmnbaaGreatDoorShelf
import Derived.Test.YtegplihhbdmnbaaGreatDoorChecked
import Derived.BigQuiet
import Derived.Deep.QuietTactic
section
namespace Go.Proofs.YtegplihhbdmnbaaGreatDoor
open Go.RowKit Go.Shelf
theorem hide {p : Prop} (h : p) : Hid p := h
theorem size_lit (l : List UInt8) : (⟨l.toArray⟩ : ByteArray).size = l.length := by simp [ByteArray.size]
theorem cat_lit (a b : List UInt8) : (⟨a.toArray⟩ : ByteArray) ++ ⟨b.toArray⟩ = ⟨(a ++ b).toArray⟩ := by
  apply ByteArray.ext
  simp [ByteArray.data_append]
theorem drop_mid (p r : List UInt8) (c : UInt8) : (p ++ c :: r).drop (p.length + 1) = r := by
  rw [List.drop_append, List.drop_of_length_le (by omega), show p.length + 1 - p.length = 1 from by omega]
  rfl
theorem index_in {b : UInt8} : ∀ {p : List UInt8} (r : List UInt8), b ∉ p → Lib.indexByte (p ++ b :: r) b = p.length
  | [], r, _ => by simp [Lib.indexByte]
  | c :: p, r, h => by
    have h1 := index_in r (fun hp => h (List.mem_cons_of_mem _ hp))
    have hc : (c == b) = false := by
      rw [beq_eq_false_iff_ne]
      rintro rfl
      exact h (by simp)
    rw [List.cons_append, Lib.indexByte, hc, h1]
    simp
theorem index_out {b : UInt8} : ∀ {l : List UInt8}, b ∉ l → Lib.indexByte l b = -1
  | [], _ => rfl
  | c :: p, h => by
    have h1 := index_out (l := p) (fun hp => h (List.mem_cons_of_mem _ hp))
    have hc : (c == b) = false := by
      rw [beq_eq_false_iff_ne]
      rintro rfl
      exact h (by simp)
    rw [Lib.indexByte, hc, h1]
    simp
theorem split_at_byte {b : UInt8} : ∀ (l : List UInt8), b ∈ l → ∃ p q, l = p ++ b :: q ∧ b ∉ p
  | [], h => by cases h
  | c :: l, h => by
    by_cases hc : c = b
    · exact ⟨[], l, by rw [hc]; rfl, by simp⟩
    · obtain ⟨p, q, e, hp⟩ := split_at_byte l (by rcases List.mem_cons.1 h with h | h; exact absurd h.symm hc; exact h)
      refine ⟨c :: p, q, by rw [e]; rfl, ?_⟩
      simp only [List.mem_cons, not_or]
      exact ⟨fun e => hc e.symm, hp⟩
theorem bel_drewN (w : World) (n : Nat) : Below w.heap.size w (w.drewN n) := ⟨rfl, rfl, rfl, Nat.le_refl _, fun _ _ => rfl⟩
theorem index_byte (t : List UInt8) (c : UInt8) {x : Int} (hx : Lib.indexByte t c = x) (w : World) : Calls Tryz.prog 136 #[.string ⟨t.toArray⟩, .int .u8 (c.toNat : Nat)] w fun e w' => e = .returned (.int .i64 x) ∧ w' = w := by
  subst hx
  have := Tryz.strings_IndexByte ⟨t.toArray⟩ (c.toNat : Nat) w
  simpa using this
theorem trim_cr (p : List UInt8) (hp : p.length ≤ 1000000) (w : World) : Calls Tryz.prog 140 #[.string ⟨p.toArray⟩, .string ⟨#[13]⟩] w fun e w' => e = .returned (.string ⟨(cr p).toArray⟩) ∧ w' = w := by
  have := Tryz.strings_TrimSuffix ⟨p.toArray⟩ ⟨#[13]⟩ w (by rw [size_lit]; omega)
  rw [← trimSuffix_cr]
  exact this
end Go.Proofs.YtegplihhbdmnbaaGreatDoor

end
section
namespace Go.Proofs.YtegplihhbdmnbaaGreatDoor
open Go.RowKit Go.Shelf
/-- Where a line begins in a message, and what is behind it. -/
structure AtL (m pre : List UInt8) (ls : List (List UInt8)) : Prop where
  eq : m = pre ++ ls.flatten
  ok : LOK ls
theorem AtL.next {m pre x : List UInt8} {r : List (List UInt8)} (h : AtL m pre (x :: r)) : AtL m (pre ++ x) r := ⟨by rw [h.eq]; simp, h.ok.2⟩
theorem AtL.start (m : List UInt8) : AtL m [] (splitS m) := ⟨by rw [splitS_flat]; rfl, lok m⟩
theorem AtL.skip {m pre : List UInt8} {g r : List (List UInt8)} (h : AtL m pre (g ++ r)) : AtL m (pre ++ g.flatten) r := ⟨by rw [h.eq]; simp, h.ok.right⟩
set_option maxRecDepth 20000 in
set_option maxHeartbeats 1000000 in
theorem line_any {m pre x : List UInt8} {r : List (List UInt8)} (hA : AtL m pre (x :: r)) (hm : m.length ≤ 1000000) {k : Nat} (hk : pre.length = k) (w : World) :
    Calls Tryz.prog 131 #[.string ⟨m.toArray⟩, .int .i64 (k : Nat)] w fun e w' => e = .returned (.tuple #[.string ⟨(txt x).toArray⟩, .int .i64 ((k + x.length : Nat) : Int)]) ∧ w' = w := by
  have hd : m.drop k = x ++ r.flatten := by
    rw [hA.eq, ← hk, List.drop_left' rfl]
    rfl
  have hlen : m.length = k + (x ++ r.flatten).length := by
    rw [hA.eq, List.length_append, hk]
    rfl
  have e1 : (⟨m.toArray⟩ : ByteArray).extract k m.length = ⟨(x ++ r.flatten).toArray⟩ := by rw [ext_drop, hd]
  have hsz := size_lit m
  have hkm : (k : Int) ≤ m.length := by omega
  rcases hA.ok.1 with ⟨p, rfl, hp⟩ | ⟨rfl, hne, hp⟩
  · have ex : (p ++ [10]) ++ r.flatten = p ++ 10 :: r.flatten := by simp
    have HI := hide (index_byte (p ++ 10 :: r.flatten) 10 (index_in r.flatten hp))
    rw [ex] at e1 hd hlen
    have e2 : (⟨m.toArray⟩ : ByteArray).extract k (k + p.length) = ⟨p.toArray⟩ := by
      rw [ext_mid, hd, show k + p.length - k = p.length from by omega, List.take_left' rfl]
    have hpl : k + p.length + 1 ≤ m.length := by
      rw [hlen]
      simp
      omega
    have HT := hide (trim_cr p (by omega))
    have ho : (p ++ [10]).length = p.length + 1 := by simp
    rw [txt_term, ho]
    obtain ⟨S, hS⟩ : ∃ S, p ++ 10 :: r.flatten = S := ⟨_, rfl⟩
    rw [hS] at e1 HI
    obtain ⟨n, hn⟩ : ∃ n, p.length = n := ⟨_, rfl⟩
    rw [hn] at e2 hpl HI ⊢
    have hpl' : (k : Int) + n ≤ m.length := by omega
    have hkn : (k : Int) ≤ (k : Int) + n := by omega
    generalize hQ : cr p = q at *
    clear hA hd hlen hS hn hp ho ex hQ hk
    go_enter Tryz.func131, Tryz.ntmps131
    go_wp2_with (first
      | (go_at_call 136; refine (HI.out _).mono ?_; rintro e w2 ⟨rfl, rfl⟩)
      | (go_at_call 140; refine (HT.out _).mono ?_; rintro e w2 ⟨rfl, rfl⟩))
    exact bodyPost_ret (v := .tuple #[.string ⟨q.toArray⟩, .int .i64 ((k + (n + 1) : Nat) : Int)]) (by simp [results, Tryz.results131, go_sem]; omega) rfl ⟨rfl, rfl⟩
  · have HI := hide (index_byte x 10 (index_out hp))
    rw [txt_open hp]
    simp only [List.flatten_nil, List.append_nil] at e1 hlen
    have hx : ((k + x.length : Nat) : Int) = m.length := by omega
    rw [hx]
    clear hA hd hlen hk hp
    go_enter Tryz.func131, Tryz.ntmps131
    go_wp2_with (first
      | (go_at_call 136; refine (HI.out _).mono ?_; rintro e w2 ⟨rfl, rfl⟩))
    exact bodyPost_ret (v := .tuple #[.string ⟨x.toArray⟩, .int .i64 (m.length : Int)]) (by simp [results, Tryz.results131, go_sem]) rfl ⟨rfl, rfl⟩
/-- The blanks. -/
theorem blank_in (c : UInt8) (h : c = 32 ∨ c = 9) : 0 ≤ Lib.indexByte [32, 9] c := by
  rcases h with rfl | rfl <;> decide
theorem blank_out (c : UInt8) (h : ¬ (c = 32 ∨ c = 9)) : Lib.indexByte [32, 9] c = -1 := by
  refine index_out ?_
  simp only [List.mem_cons, List.not_mem_nil, or_false]
  exact h
theorem blB_cons {c : UInt8} {y : List UInt8} : blB (c :: y) = true ↔ (c = 32 ∨ c = 9) := by simp [blB]
set_option maxRecDepth 20000 in
set_option maxHeartbeats 1000000 in
theorem goOn_any {m pre : List UInt8} {ls : List (List UInt8)} (hA : AtL m pre ls) (hm : m.length ≤ 1000000) {k : Nat} (hk : pre.length = k) (w : World) :
    Calls Tryz.prog 148 #[.string ⟨m.toArray⟩, .int .i64 (k : Nat)] w fun e w' => e = .returned (.int .i64 ((k + (ls.takeWhile blB).flatten.length : Nat) : Int)) ∧ w' = w := by
  have hsz := size_lit m
  go_enter Tryz.func148, Tryz.ntmps148
  go_wp2
  go_loopw [1] (fun v wr => wr = w ∧ ∃ (j : Nat) (pre2 : List UInt8) (l2 : List (List UInt8)), v = .int .i64 j ∧ Hid (AtL m pre2 l2) ∧ Hid (pre2.length = j) ∧ Hid (j + (l2.takeWhile blB).flatten.length = k + (ls.takeWhile blB).flatten.length)) (fun v _ => m.length - (intOf v).toNat)
  case atStart => exact ⟨rfl, k, pre, ls, rfl, hA, hk, rfl⟩
  case round =>
    obtain ⟨rfl, j, pre2, l2, rfl, HA, HK, HE⟩ := hrel
    have hjm : j + l2.flatten.length = m.length := by
      rw [HA.out.eq, List.length_append, HK.out]
    clear hA hk
    cases l2 with
    | nil =>
      have hj : j = m.length := by simpa using hjm
      subst hj
      have HE0 : Hid (k + (ls.takeWhile blB).flatten.length = m.length) := by
        show _ = _
        rw [← HE.out]
        rfl
      go_wp2
      go_ret
      exact ⟨by rw [HE0.out]; rfl, rfl⟩
    | cons x r =>
      cases x with
      | nil => exact absurd rfl HA.out.ok.ne
      | cons c y =>
        have hat : ∀ h : j < (⟨m.toArray⟩ : ByteArray).size, (⟨m.toArray⟩ : ByteArray)[j]'h = c := fun h => by
          show m[j]'(by simpa [ByteArray.size] using h) = c
          have e := HA.out.eq
          subst e
          rw [List.getElem_append_right (by rw [HK.out]; exact Nat.le_refl _)]
          simp [HK.out]
        have hlt : (j : Int) < m.length := by
          simp at hjm
          omega
        have hlt2 : j < m.length := by omega
        have HL := hide (line_any HA.out hm HK.out)
        by_cases hb : c = 32 ∨ c = 9
        · have h0 := blank_in c hb
          have HI := hide (index_byte [32, 9] c rfl)
          obtain ⟨i, hi⟩ : ∃ i, Lib.indexByte [32, 9] c = i := ⟨_, rfl⟩
          rw [hi] at h0 HI
          have h0' : i ≥ 0 := h0
          have HT : Hid (j + (c :: y).length + (r.takeWhile blB).flatten.length = k + (ls.takeWhile blB).flatten.length) := by
            show _ = _
            rw [← HE.out, List.takeWhile_cons_of_pos (blB_cons.2 hb)]
            simp
            omega
          have HN := hide HA.out.next
          have HK2 : Hid ((pre2 ++ c :: y).length = j + (c :: y).length) := by
            show _ = _
            rw [List.length_append, HK.out]
          have hpos : 0 < (c :: y).length := by simp
          obtain ⟨n, hn⟩ : ∃ n, (c :: y).length = n := ⟨_, rfl⟩
          rw [hn] at HL HK2 HT hpos
          have hjn : j + n ≤ m.length := by rw [← hjm, List.flatten_cons, List.length_append, hn]; omega
          generalize txt (c :: y) = t at *
          clear hn hi hjm hb
          go_wp2_with (first
            | (go_at_call 136; refine (HI.out _).mono ?_; rintro e w2 ⟨rfl, rfl⟩)
            | (go_at_call 131; refine (HL.out _).mono ?_; rintro e w2 ⟨rfl, rfl⟩))
          go_roundw
          case rel => exact ⟨trivial, j + n, _, r, rfl, HN, HK2, HT⟩
          case measure => simp [intOf]; omega
        · have HI := hide (index_byte [32, 9] c (blank_out c hb))
          have HE0 : Hid (k + (ls.takeWhile blB).flatten.length = j) := by
            show _ = _
            rw [← HE.out, List.takeWhile_cons_of_neg (fun h => hb (blB_cons.1 h))]
            rfl
          clear hjm hb HL
          go_wp2_with (first
            | (go_at_call 136; refine (HI.out _).mono ?_; rintro e w2 ⟨rfl, rfl⟩))
          go_ret
          exact ⟨by rw [HE0.out]; rfl, rfl⟩
end Go.Proofs.YtegplihhbdmnbaaGreatDoor

end
