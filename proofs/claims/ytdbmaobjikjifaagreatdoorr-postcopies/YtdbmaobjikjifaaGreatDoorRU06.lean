/- Texts: where a byte stands, halves. -/
/- Package post: how things are ordered. -/
/- Elements of a state's lists as values; lists that rise. -/
import Derived.Test.YtdbmaobjikjifaaGreatDoorRU05
import Derived.Test.YtdbmaobjikjifaaGreatDoorRU03
import Derived.Test.YtdbmaobjikjifaaGreatDoorRShelf
import Derived.Test.YtdbmaobjikjifaaGreatDoorRChecked
import Derived.Test.YtdbmaobjikjifaaGreatDoorRU04
import Derived.Sort.Walk0
import Derived.Shelf.Abstract
section
namespace Go.Proofs.YtdbmaobjikjifaaGreatDoorR
open Go.RowKit Go.Shelf
theorem hide {p : Prop} (h : p) : Hid p := h
theorem size_lit (l : List UInt8) : (⟨l.toArray⟩ : ByteArray).size = l.length := by simp [ByteArray.size]
theorem cat_lit (a b : List UInt8) : (⟨a.toArray⟩ : ByteArray) ++ ⟨b.toArray⟩ = ⟨(a ++ b).toArray⟩ := by
  apply ByteArray.ext
  simp [ByteArray.data_append]
theorem drop_mid (p r : List UInt8) (c : UInt8) : (p ++ c :: r).drop (p.length + 1) = r := by
  rw [List.drop_append, List.drop_of_length_le (by omega), show p.length + 1 - p.length = 1 from by omega]
  rfl
theorem index_in {b : UInt8} : ∀ {p : List UInt8} (r : List UInt8), b ∉ p → Lib.indexByte (p ++ b :: r) b = p.length
  | [], r, _ => by simp [Lib.indexByte]
  | c :: p, r, h => by
    have h1 := index_in r (fun hp => h (List.mem_cons_of_mem _ hp))
    have hc : (c == b) = false := by
      rw [beq_eq_false_iff_ne]
      rintro rfl
      exact h (by simp)
    rw [List.cons_append, Lib.indexByte, hc, h1]
    simp
theorem index_out {b : UInt8} : ∀ {l : List UInt8}, b ∉ l → Lib.indexByte l b = -1
  | [], _ => rfl
  | c :: p, h => by
    have h1 := index_out (l := p) (fun hp => h (List.mem_cons_of_mem _ hp))
    have hc : (c == b) = false := by
      rw [beq_eq_false_iff_ne]
      rintro rfl
      exact h (by simp)
    rw [Lib.indexByte, hc, h1]
    simp
theorem split_at_byte {b : UInt8} : ∀ (l : List UInt8), b ∈ l → ∃ p q, l = p ++ b :: q ∧ b ∉ p
  | [], h => by cases h
  | c :: l, h => by
    by_cases hc : c = b
    · exact ⟨[], l, by rw [hc]; rfl, by simp⟩
    · obtain ⟨p, q, e, hp⟩ := split_at_byte l (by rcases List.mem_cons.1 h with h | h; exact absurd h.symm hc; exact h)
      refine ⟨c :: p, q, by rw [e]; rfl, ?_⟩
      simp only [List.mem_cons, not_or]
      exact ⟨fun e => hc e.symm, hp⟩
theorem bel_drewN (w : World) (n : Nat) : Below w.heap.size w (w.drewN n) := ⟨rfl, rfl, rfl, Nat.le_refl _, fun _ _ => rfl⟩
theorem index_byte (t : List UInt8) (c : UInt8) {x : Int} (hx : Lib.indexByte t c = x) (w : World) : Calls Tryz.prog 186 #[.string ⟨t.toArray⟩, .int .u8 (c.toNat : Nat)] w fun e w' => e = .returned (.int .i64 x) ∧ w' = w := by
  subst hx
  have := Tryz.strings_IndexByte ⟨t.toArray⟩ (c.toNat : Nat) w
  simpa using this
end Go.Proofs.YtdbmaobjikjifaaGreatDoorR

end
section
set_option linter.unusedVariables false
set_option linter.unusedSimpArgs false
namespace Go.Proofs.YtdbmaobjikjifaaGreatDoorR
open Go.RowKit
set_option maxHeartbeats 1000000 in
theorem nanS_any (x : List UInt8) (w : World) : Calls Tryz.prog 116 #[.string ⟨x.toArray⟩] w fun e w' => e = .returned (.bool false) ∧ w' = w := by
  go_enter Tryz.func116, Tryz.ntmps116
  go_wp2
  go_ret
  exact ⟨rfl, rfl⟩
set_option maxHeartbeats 1000000 in
theorem nanI_any (x : Int) (w : World) : Calls Tryz.prog 114 #[.int .i64 x] w fun e w' => e = .returned (.bool false) ∧ w' = w := by
  go_enter Tryz.func114, Tryz.ntmps114
  go_wp2
  go_ret
  exact ⟨rfl, rfl⟩
def ciV (x y : Int) : Int := if x < y then -1 else if y < x then 1 else 0
def csV (x y : List UInt8) : Int := if x < y then -1 else if y < x then 1 else 0
/-- By user, then by name. -/
def sbO (u : Int) (n : List UInt8) (v : Int) (m : List UInt8) : Int := if ciV u v = 0 then csV n m else ciV u v
theorem ciV_ge (x y : Int) : decide (0 ≤ ciV x y) = !decide (x < y) := by
  unfold ciV
  by_cases h1 : x < y
  · simp [h1]
  · by_cases h2 : y < x <;> simp [h1, h2]
theorem csV_ge (x y : List UInt8) : decide (0 ≤ csV x y) = !decide (x < y) := by
  unfold csV
  by_cases h1 : x < y
  · simp [h1]
  · by_cases h2 : y < x <;> simp [h1, h2]
theorem sbO_ge (u : Int) (n : List UInt8) (v : Int) (m : List UInt8) : decide (0 ≤ sbO u n v m) = !poLt u n v m := by
  unfold sbO poLt
  by_cases h : ciV u v = 0
  · rw [if_pos h, csV_ge]
    have : u = v := by
      unfold ciV at h
      split at h
      · omega
      · split at h <;> omega
    simp [this]
  · rw [if_neg h, ciV_ge]
    have : u ≠ v := by
      rintro rfl
      apply h
      unfold ciV
      simp
    simp [this]
set_option maxRecDepth 20000 in
set_option maxHeartbeats 1000000 in
theorem cmpS_any (x y : List UInt8) (w : World) : Calls Tryz.prog 76 #[.string ⟨x.toArray⟩, .string ⟨y.toArray⟩] w fun e w' => e = .returned (.int .i64 (csV x y)) ∧ w' = w := by
  have H1 := hide (fun s W => nanS_any s W)
  unfold csV
  by_cases h1 : x < y
  · rw [if_pos h1]
    have hb : Op.bytesLess x y = true := by rw [bytesLess_eq]; exact decide_eq_true h1
    clear h1
    go_enter Tryz.func76, Tryz.ntmps76
    go_wp2_with (go_at_call 116; refine (H1.out _ _).mono ?_; rintro e w' ⟨rfl, rfl⟩)
    go_ret
    exact ⟨rfl, rfl⟩
  · rw [if_neg h1]
    have hb : Op.bytesLess x y = false := by rw [bytesLess_eq]; exact decide_eq_false h1
    by_cases h2 : y < x
    · rw [if_pos h2]
      have hne : (x == y) = false := beq_eq_false_iff_ne.2 (fun e => by subst e; exact List.lt_irrefl _ h2)
      clear h1 h2
      go_enter Tryz.func76, Tryz.ntmps76
      go_wp2_with (go_at_call 116; refine (H1.out _ _).mono ?_; rintro e w' ⟨rfl, rfl⟩)
      go_ret
      exact ⟨rfl, rfl⟩
    · rw [if_neg h2]
      obtain rfl : x = y := List.le_antisymm (List.not_lt.1 h2) (List.not_lt.1 h1)
      clear h1 h2
      go_enter Tryz.func76, Tryz.ntmps76
      go_wp2_with (go_at_call 116; refine (H1.out _ _).mono ?_; rintro e w' ⟨rfl, rfl⟩)
      go_ret
      exact ⟨rfl, rfl⟩
set_option maxRecDepth 20000 in
set_option maxHeartbeats 1000000 in
theorem cmpI_any (x y : Int) (w : World) : Calls Tryz.prog 68 #[.int .i64 x, .int .i64 y] w fun e w' => e = .returned (.int .i64 (ciV x y)) ∧ w' = w := by
  have H1 := hide (fun s W => nanI_any s W)
  unfold ciV
  by_cases h1 : x < y
  · rw [if_pos h1]
    go_enter Tryz.func68, Tryz.ntmps68
    go_wp2_with (go_at_call 114; refine (H1.out _ _).mono ?_; rintro e w' ⟨rfl, rfl⟩)
    go_ret
    exact ⟨rfl, rfl⟩
  · rw [if_neg h1]
    by_cases h2 : y < x
    · rw [if_pos h2]
      go_enter Tryz.func68, Tryz.ntmps68
      go_wp2_with (go_at_call 114; refine (H1.out _ _).mono ?_; rintro e w' ⟨rfl, rfl⟩)
      go_ret
      exact ⟨rfl, rfl⟩
    · rw [if_neg h2]
      go_enter Tryz.func68, Tryz.ntmps68
      go_wp2_with (go_at_call 114; refine (H1.out _ _).mono ?_; rintro e w' ⟨rfl, rfl⟩)
      go_ret
      exact ⟨rfl, rfl⟩
set_option maxRecDepth 20000 in
set_option maxHeartbeats 1000000 in
/-- cmp.Or of two numbers that lie in a block. -/
theorem or2_any (x y : Int) (w : World) (g c : Nat) (h0 : w.cell? ⟨g, 0, none⟩ = some (.int .i64 x)) (h1 : w.cell? ⟨g, 1, none⟩ = some (.int .i64 y)) : Calls Tryz.prog 75 #[.slice (some ⟨g, 0, none⟩) 2 c] w fun e w' => e = .returned (.int .i64 (if x = 0 then y else x)) ∧ w' = w := by
  obtain ⟨R, hR⟩ : ∃ R, Hid (R = if x = 0 then y else x) := ⟨_, hide rfl⟩
  rw [← hR.out]
  have H0 := hide h0
  have H1 := hide h1
  clear h0 h1
  go_enter Tryz.func75, Tryz.ntmps75
  go_wp2
  go_loopw [5, 8] (fun _ v8 wr => ∃ k : Nat, v8 = .int .i64 k ∧ k ≤ 2 ∧ wr = w ∧ (0 < k → x = 0) ∧ (1 < k → y = 0)) (fun _ v8 _ => 2 - (intOf v8).toNat)
  case atStart => exact ⟨0, rfl, by omega, rfl, by omega, by omega⟩
  case round =>
    obtain ⟨k, rfl, hk, rfl, hx, hy⟩ := hrel
    have q0 := H0.out
    have q1 := H1.out
    rcases (by omega : k = 0 ∨ k = 1 ∨ k = 2) with rfl | rfl | rfl
    · by_cases hx0 : x = 0
      · subst hx0
        go_wp2
        go_roundw
        case rel => exact ⟨1, by go_num, by omega, by first | rfl | trivial, fun _ => by first | rfl | trivial, by omega⟩
        case measure => simp [intOf]
      · have HF : Hid (R = x) := by show _ = _; rw [hR.out, if_neg hx0]
        go_wp2
        go_ret
        exact ⟨by rw [HF.out]; rfl, rfl⟩
    · have hx0 := hx (by omega)
      subst hx0
      have HF : Hid (R = y) := by show _ = _; rw [hR.out, if_pos rfl]
      by_cases hy0 : y = 0
      · subst hy0
        go_wp2
        go_roundw
        case rel => exact ⟨2, by go_num, by omega, by first | rfl | trivial, fun _ => by first | rfl | trivial, fun _ => by first | rfl | trivial⟩
        case measure => simp [intOf]
      · go_wp2
        go_ret
        exact ⟨by rw [HF.out]; rfl, rfl⟩
    · have hx0 := hx (by omega)
      have hy0 := hy (by omega)
      subst hx0
      subst hy0
      have HF : Hid (R = 0) := by show _ = _; rw [hR.out, if_pos rfl]
      go_wp2
      go_ret
      exact ⟨by rw [HF.out]; rfl, rfl⟩
set_option maxRecDepth 20000 in
set_option maxHeartbeats 2000000 in
theorem psubOrder_any (u v : Int) (n m : List UInt8) (w : World) : Calls Tryz.prog 36 #[.agg #[.int .i64 u, .string ⟨n.toArray⟩], .agg #[.int .i64 v, .string ⟨m.toArray⟩]] w fun e w' => e = .returned (.int .i64 (sbO u n v m)) ∧ Below w.heap.size w w' := by
  have H1 := hide (fun (W : World) => cmpI_any u v W)
  have H2 := hide (fun (W : World) => cmpS_any n m W)
  have HO := hide (fun W g c h0 h1 => or2_any (ciV u v) (csV n m) W g c h0 h1)
  have HR : Hid (sbO u n v m = if ciV u v = 0 then csV n m else ciV u v) := rfl
  obtain ⟨R, hR⟩ : ∃ R, Hid (R = sbO u n v m) := ⟨_, hide rfl⟩
  rw [← hR.out] at HR ⊢
  generalize ciV u v = p at *
  generalize csV n m = q at *
  have HB := hide (((Below.refl w.heap.size w).alloc (Nat.le_refl _) (.cells #[.int .i64 u, .string ⟨n.toArray⟩] 68)).alloc (by simp) (.cells #[.int .i64 v, .string ⟨m.toArray⟩] 68))
  have HK1 := hide ((Blk.new w #[.int .i64 u, .string ⟨n.toArray⟩] 68).alloc (.cells #[.int .i64 v, .string ⟨m.toArray⟩] 68))
  have HK2 := hide (Blk.new1 w (.cells #[.int .i64 u, .string ⟨n.toArray⟩] 68) #[.int .i64 v, .string ⟨m.toArray⟩] 68)
  go_enter Tryz.func36, Tryz.ntmps36
  go_wp2
  obtain ⟨W0, HW0⟩ : ∃ W0, Hid ((w.alloc (.cells #[.int .i64 u, .string ⟨n.toArray⟩] 68)).alloc (.cells #[.int .i64 v, .string ⟨m.toArray⟩] 68) = W0) := ⟨_, hide rfl⟩
  rw [HW0.out] at HB HK1 HK2 ⊢
  have hn := ext_some W0
  have hc := ext_cell W0
  have k1 := HK1.out.lt
  have k2 := HK2.out.lt
  have c0 := HK1.out.cell 0
  have c1 := HK1.out.cell 1
  have c2 := HK2.out.cell 0
  have c3 := HK2.out.cell 1
  refine wp_region_then 10 6 2 (by kernel_rfl) (by kernel_rfl) rfl (by kernel_rfl) ?_
  simp only [List.take_succ_cons, List.take_zero]
  repeat (go_big_quiet_step ((first | (go_at_call 68; exact ext_same (H1.out _)) | (go_at_call 76; exact ext_same (H2.out _)))))
  refine wpQuiet_nil ?_
  rintro w6 ⟨u6, rfl⟩
  have HB6 := hide (HB.out.trans (u6.ok.mono HB.out.size))
  generalize u6.w = w6 at *
  clear HB
  refine readyL (rs := [10]) (by kernel_rfl) (by simp) ?_
  refine AllL.cons rfl (fun K hK => ?_) AllL.nil
  try simp only [List.getElem_toArray, List.getElem_cons_succ, List.getElem_cons_zero]
  go_simp
  refine hK.out _ _ (fun _ => trivial) (fun _ => ?_)
  clear hK K
  try simp only [Act.put, List.getElem_toArray, List.getElem_cons_succ, List.getElem_cons_zero, List.setIfInBounds_toArray, List.set_cons_zero, List.set_cons_succ]
  refine readyL (rs := [11]) (by kernel_rfl) (by simp) ?_
  refine AllL.cons rfl (fun K hK => ?_) AllL.nil
  try simp only [List.getElem_toArray, List.getElem_cons_succ, List.getElem_cons_zero]
  go_simp
  refine (HO.out _ _ _ ((Blk.new w6 _ _).cell 0) ((Blk.new w6 _ _).cell 1)).mono ?_
  rintro e w7 ⟨rfl, rfl⟩
  rw [← HR.out]
  refine hK.out _ _ (fun _ => trivial) (fun _ => ?_)
  clear hK K
  try simp only [Act.put, List.getElem_toArray, List.getElem_cons_succ, List.getElem_cons_zero, List.setIfInBounds_toArray, List.set_cons_zero, List.set_cons_succ]
  refine readyL (rs := [12]) (by kernel_rfl) (by simp) ?_
  refine AllL.cons rfl (fun K hK => ?_) AllL.nil
  try simp only [List.getElem_toArray, List.getElem_cons_succ, List.getElem_cons_zero]
  go_simp
  refine hK.out _ _ (fun _ => trivial) (fun _ => ?_)
  clear hK K
  try simp only [Act.put, List.getElem_toArray, List.getElem_cons_succ, List.getElem_cons_zero, List.setIfInBounds_toArray, List.set_cons_zero, List.set_cons_succ]
  refine doneL (by kernel_rfl) ?_ _
  go_wp2
  go_ret
  exact ⟨rfl, HB6.out.alloc HB6.out.size _⟩
set_option maxRecDepth 20000 in
set_option maxHeartbeats 2000000 in
theorem pboxOrder_any (u v : Int) (n m : List UInt8) (i0 i1 j0 j1 : Int) (c0 c1 : Value) (w : World) : Calls Tryz.prog 29 #[.agg #[.int .i64 u, .string ⟨n.toArray⟩, .int .i64 i0, .int .i64 i1, c0], .agg #[.int .i64 v, .string ⟨m.toArray⟩, .int .i64 j0, .int .i64 j1, c1]] w fun e w' => e = .returned (.int .i64 (sbO u n v m)) ∧ Below w.heap.size w w' := by
  have H1 := hide (fun (W : World) => psubOrder_any u v n m W)
  have HB := hide (((Below.refl w.heap.size w).alloc (Nat.le_refl _) (.cells #[.int .i64 u, .string ⟨n.toArray⟩, .int .i64 i0, .int .i64 i1, c0] 45)).alloc (by simp) (.cells #[.int .i64 v, .string ⟨m.toArray⟩, .int .i64 j0, .int .i64 j1, c1] 45))
  generalize sbO u n v m = R at *
  go_enter Tryz.func29, Tryz.ntmps29
  go_wp2_with (go_at_call 36; refine (H1.out _).mono ?_; rintro e w1 ⟨rfl, hb1⟩; replace hb1 := hide hb1)
  go_ret
  exact ⟨rfl, HB.out.trans (hb1.out.mono HB.out.size)⟩
set_option maxRecDepth 20000 in
set_option maxHeartbeats 2000000 in
theorem pmsgOrder_any (u v : Int) (a0 a1 b0 b1 : Int) (s t : List UInt8) (w : World) : Calls Tryz.prog 71 #[.agg #[.int .i64 u, .int .i64 a0, .int .i64 a1, .string ⟨s.toArray⟩], .agg #[.int .i64 v, .int .i64 b0, .int .i64 b1, .string ⟨t.toArray⟩]] w fun e w' => e = .returned (.int .i64 (ciV u v)) ∧ Below w.heap.size w w' := by
  have H1 := hide (fun (W : World) => cmpI_any u v W)
  have HB := hide (((Below.refl w.heap.size w).alloc (Nat.le_refl _) (.cells #[.int .i64 u, .int .i64 a0, .int .i64 a1, .string ⟨s.toArray⟩] 47)).alloc (by simp) (.cells #[.int .i64 v, .int .i64 b0, .int .i64 b1, .string ⟨t.toArray⟩] 47))
  generalize ciV u v = R at *
  go_enter Tryz.func71, Tryz.ntmps71
  go_wp2_with (go_at_call 68; refine (H1.out _).mono ?_; rintro e w1 ⟨rfl, rfl⟩)
  go_ret
  exact ⟨rfl, HB.out⟩
set_option maxRecDepth 20000 in
set_option maxHeartbeats 2000000 in
theorem pitemOrder_any (u v : Int) (f g b c : List UInt8) (r0 r1 : Value) (a0 a1 a2 b0 b1 b2 : Int) (w : World) : Calls Tryz.prog 41 #[.agg #[.int .i64 u, .string ⟨f.toArray⟩, r0, .int .i64 a0, .int .i64 a1, .int .i64 a2, .string ⟨b.toArray⟩], .agg #[.int .i64 v, .string ⟨g.toArray⟩, r1, .int .i64 b0, .int .i64 b1, .int .i64 b2, .string ⟨c.toArray⟩]] w fun e w' => e = .returned (.int .i64 (ciV u v)) ∧ Below w.heap.size w w' := by
  have H1 := hide (fun (W : World) => cmpI_any u v W)
  have HB := hide (((Below.refl w.heap.size w).alloc (Nat.le_refl _) (.cells #[.int .i64 u, .string ⟨f.toArray⟩, r0, .int .i64 a0, .int .i64 a1, .int .i64 a2, .string ⟨b.toArray⟩] 71)).alloc (by simp) (.cells #[.int .i64 v, .string ⟨g.toArray⟩, r1, .int .i64 b0, .int .i64 b1, .int .i64 b2, .string ⟨c.toArray⟩] 71))
  generalize ciV u v = R at *
  go_enter Tryz.func41, Tryz.ntmps41
  go_wp2_with (go_at_call 68; refine (H1.out _).mono ?_; rintro e w1 ⟨rfl, rfl⟩)
  go_ret
  exact ⟨rfl, HB.out⟩
end Go.Proofs.YtdbmaobjikjifaaGreatDoorR

end
section
set_option linter.unusedVariables false
namespace Go.Proofs.YtdbmaobjikjifaaGreatDoorR
open Go.RowKit
/-- A box as a value. -/
def BxV (w : World) (v : Value) (b : Bx) : Prop := ∃ mv, v = .agg #[.int .i64 b.user, .string ⟨b.name.toArray⟩, .int .i64 b.valid, .int .i64 b.next, mv] ∧ RdE 4 MsgAt w mv b.msgs
theorem BxV.below {w w' : World} {v : Value} {b : Bx} (h : BxV w v b) (hb : Below w.heap.size w w') : BxV w' v b := by
  obtain ⟨mv, e, h⟩ := h
  exact ⟨mv, e, h.below stb_msg hb⟩
/-- An item as a value. -/
def ItV (w : World) (v : Value) (q : It) : Prop := ∃ fv, v = .agg #[.int .i64 q.id, .string ⟨q.frm.toArray⟩, fv, .int .i64 q.born, .int .i64 q.tries, .int .i64 q.due, .string ⟨q.body.toArray⟩] ∧ RdE 1 IntAt w fv q.fr
theorem ItV.below {w w' : World} {v : Value} {q : It} (h : ItV w v q) (hb : Below w.heap.size w w') : ItV w' v q := by
  obtain ⟨fv, e, h⟩ := h
  exact ⟨fv, e, h.below stb_int hb⟩
def SbV (_ : World) (v : Value) (x : Sb) : Prop := v = .agg #[.int .i64 x.user, .string ⟨x.name.toArray⟩]
def MsgV (_ : World) (v : Value) (x : Msg) : Prop := v = .agg #[.int .i64 x.uid, .int .i64 x.flags, .int .i64 x.date, .string ⟨x.body.toArray⟩]
def IntV (_ : World) (v : Value) (x : Int) : Prop := v = .int .i64 x
/-- Whether each stands to the next one so. -/
def risL {α : Type} (lt : α → α → Bool) : List α → Bool
  | [] => true
  | a :: r => (match r with | [] => true | b :: _ => lt a b) && risL lt r
theorem risL_drop {α : Type} (lt : α → α → Bool) (xs : List α) (k : Nat) (h : k + 1 < xs.length) : risL lt (xs.drop k) = (lt (xs[k]'(by omega)) xs[k + 1] && risL lt (xs.drop (k + 1))) := by
  rw [List.drop_eq_getElem_cons (by omega : k < xs.length), List.drop_eq_getElem_cons h]
  rfl
theorem risL_short {α : Type} (lt : α → α → Bool) : ∀ xs : List α, xs.length ≤ 1 → risL lt xs = true
  | [], _ => rfl
  | [a], _ => rfl
  | a :: b :: r, h => by simp at h
theorem all_dropP {α : Type} (p : α → Bool) (l : List α) (i : Nat) (h : i < l.length) : (l.drop i).all p = (p l[i] && (l.drop (i + 1)).all p) := by
  rw [List.drop_eq_getElem_cons h, List.all_cons]
/-- Whether two lists are the same, element by element. -/
def eqL {α : Type} (p : α → α → Bool) : List α → List α → Bool
  | [], [] => true
  | a :: r, b :: t => p a b && eqL p r t
  | _, _ => false
theorem eqL_drop {α : Type} (p : α → α → Bool) (xs ys : List α) (k : Nat) (h : k < xs.length) (h' : k < ys.length) : eqL p (xs.drop k) (ys.drop k) = (p xs[k] ys[k] && eqL p (xs.drop (k + 1)) (ys.drop (k + 1))) := by
  rw [List.drop_eq_getElem_cons h, List.drop_eq_getElem_cons h']
  rfl
theorem eqL_len {α : Type} (p : α → α → Bool) : ∀ (xs ys : List α), xs.length ≠ ys.length → eqL p xs ys = false
  | [], [], h => absurd rfl h
  | [], _ :: _, _ => rfl
  | _ :: _, [], _ => rfl
  | a :: r, b :: t, h => by
    have ih := eqL_len p r t (fun e => h (by simp [e]))
    unfold eqL
    rw [ih, Bool.and_false]
theorem eqL_iff {α : Type} (p : α → α → Bool) (hp : ∀ a b, p a b = true ↔ a = b) : ∀ (xs ys : List α), eqL p xs ys = true ↔ xs = ys
  | [], [] => by simp [eqL]
  | [], _ :: _ => by simp [eqL]
  | _ :: _, [] => by simp [eqL]
  | a :: r, b :: t => by
    unfold eqL
    rw [Bool.and_eq_true, hp, eqL_iff p hp r t]
    simp
def sbEq (x y : Sb) : Bool := decide (x.user = y.user) && decide (x.name = y.name)
def msgEq (x y : Msg) : Bool := decide (x.uid = y.uid) && decide (x.flags = y.flags) && decide (x.date = y.date) && decide (x.body = y.body)
def inEq (x y : Int) : Bool := decide (x = y)
def bxEq (x y : Bx) : Bool := decide (x.user = y.user) && decide (x.name = y.name) && decide (x.valid = y.valid) && decide (x.next = y.next) && eqL msgEq x.msgs y.msgs
def itEq (x y : It) : Bool := decide (x.id = y.id) && decide (x.frm = y.frm) && eqL inEq x.fr y.fr && decide (x.born = y.born) && decide (x.tries = y.tries) && decide (x.due = y.due) && decide (x.body = y.body)
/-- Whether two states are the same. -/
def sttEq (a b : Stt) : Bool := decide (a.nextValid = b.nextValid) && decide (a.nextItem = b.nextItem) && eqL bxEq a.boxes b.boxes && eqL sbEq a.subs b.subs && eqL itEq a.queue b.queue
/-- A place, or -1. -/
def fiP (o : Option Nat) : Int := match o with
  | some i => (i : Int)
  | none => -1
/-- Bounds of a box. -/
structure BdB (b : Bx) : Prop where
  name : b.name.length ≤ 1000000
  msgs : b.msgs.length ≤ 1000000
  body : ∀ m ∈ b.msgs, m.body.length ≤ 1000000
/-- Bounds of a state. -/
structure BdS (s : Stt) : Prop where
  boxes : s.boxes.length ≤ 1000000
  bx : ∀ b ∈ s.boxes, BdB b
  subs : s.subs.length ≤ 1000000
  sb : ∀ x ∈ s.subs, x.name.length ≤ 1000000
  queue : s.queue.length ≤ 1000000
  qu : ∀ q ∈ s.queue, q.fr.length ≤ 1000000
end Go.Proofs.YtdbmaobjikjifaaGreatDoorR

end
