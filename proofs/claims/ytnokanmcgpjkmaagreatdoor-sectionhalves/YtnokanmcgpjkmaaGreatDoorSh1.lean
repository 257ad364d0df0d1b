/- Bytes of package section, of sections without a path. -/
import Derived.Test.YtnokanmcgpjkmaaGreatDoorSe9
import Derived.Test.YtnokanmcgpjkmaaGreatDoorHo2
set_option linter.unusedVariables false
namespace Go.Proofs.YtnokanmcgpjkmaaGreatDoor
open Go.RowKit Go.Shelf
theorem ReadOf.tx {w : World} {v : Value} {xs : List (List UInt8)} (h : ReadOf ssF 1 w v xs) : TX w v xs := by
  obtain ⟨A, c, rfl, h⟩ := h
  refine ⟨A, c, rfl, fun i hi => ?_⟩
  obtain ⟨g, o, e, hg, hc⟩ := h i hi
  exact ⟨g, o, e, hg, by have := hc 0 (by omega); rw [Nat.mul_one, Nat.add_zero] at this; rw [this]; rfl⟩
theorem TX.rd {w : World} {v : Value} {xs : List (List UInt8)} (h : TX w v xs) : ReadOf ssF 1 w v xs := by
  obtain ⟨A, c, rfl, h⟩ := h
  refine ⟨A, c, rfl, fun i hi => ?_⟩
  obtain ⟨g, o, e, hg, hc⟩ := h i hi
  refine ⟨g, o, e, hg, fun j hj => ?_⟩
  obtain rfl : j = 0 := by omega
  rw [Nat.mul_one, Nat.add_zero, hc]
  rfl
def bodM (m : List UInt8) : Nat := bodyL (splitS m) 0
theorem bodM_le (m : List UInt8) : bodM m ≤ m.length := by
  have h : ∀ (ls : List (List UInt8)) (a : Nat), bodyL ls a ≤ a + ls.flatten.length := by
    intro ls
    induction ls with
    | nil => intro a; simp [bodyL]
    | cons x r ih =>
      intro a
      rw [bodyL]
      rw [List.flatten_cons, List.length_append]
      split
      · omega
      · have := ih (a + x.length)
        omega
  have := h (splitS m) 0
  rw [splitS_flat] at this
  unfold bodM
  omega
set_option maxHeartbeats 2000000 in
theorem by_all (m : List UInt8) (w : World) (hm : m.length ≤ 10000) :
    Calls Tryz.prog 18 #[.string ⟨m.toArray⟩, .agg #[.slice none 0 0, .string ⟨#[]⟩, .slice none 0 0]] w fun e w' => e = .returned (.tuple #[.string ⟨(m).toArray⟩, .bool true]) ∧ Below w.heap.size w w' := by
  have hb : hasB ⟨[], [], []⟩ = true := by decide
  have HB0 : Hid (Below w.heap.size w (w.alloc (.cells #[.slice none 0 0, .string ⟨#[]⟩, .slice none 0 0] 26))) := (Below.refl _ _).alloc (Nat.le_refl _) _
  have HK0 := hide (Blk.new w #[.slice none 0 0, .string ⟨#[]⟩, .slice none 0 0] 26)
  have HH := hide (hasText_any ⟨[], [], []⟩ (.slice none 0 0) (.slice none 0 0) _ ⟨ReadOf.nil _ _ (w.alloc (.cells #[.slice none 0 0, .string ⟨#[]⟩, .slice none 0 0] 26)), ReadOf.nil _ _ _⟩ (by simp) (by simp))
  rw [hb] at HH
  unfold spV at HH
  simp only at HH
  clear hb 
  go_enter Tryz.func18, Tryz.ntmps18
  go_wp2_with (first
    | (go_at_call 32; refine HH.out.mono ?_; rintro e w1 ⟨rfl, hb1⟩; have hb1' := hide (HB0.out.trans (hb1.mono HB0.out.size)); have hk1 := HK0.out.below hb1 HK0.out.lt; have hck := hk1.cell; clear hk1; replace hb1 := hide hb1))
  exact bodyPost_ret (v := .tuple #[.string ⟨(m).toArray⟩, .bool true]) (by simp [results, Tryz.results18, go_sem]) rfl ⟨rfl, hb1'.out⟩
set_option maxHeartbeats 2000000 in
theorem by_head (m : List UInt8) (w : World) (hm : m.length ≤ 10000) :
    Calls Tryz.prog 18 #[.string ⟨m.toArray⟩, .agg #[.slice none 0 0, .string ⟨#[72, 69, 65, 68, 69, 82]⟩, .slice none 0 0]] w fun e w' => e = .returned (.tuple #[.string ⟨(m.take (bodM m)).toArray⟩, .bool true]) ∧ Below w.heap.size w w' := by
  have hb : hasB ⟨[], [72, 69, 65, 68, 69, 82], []⟩ = true := by decide
  have HB0 : Hid (Below w.heap.size w (w.alloc (.cells #[.slice none 0 0, .string ⟨#[72, 69, 65, 68, 69, 82]⟩, .slice none 0 0] 26))) := (Below.refl _ _).alloc (Nat.le_refl _) _
  have HK0 := hide (Blk.new w #[.slice none 0 0, .string ⟨#[72, 69, 65, 68, 69, 82]⟩, .slice none 0 0] 26)
  have HH := hide (hasText_any ⟨[], [72, 69, 65, 68, 69, 82], []⟩ (.slice none 0 0) (.slice none 0 0) _ ⟨ReadOf.nil _ _ (w.alloc (.cells #[.slice none 0 0, .string ⟨#[72, 69, 65, 68, 69, 82]⟩, .slice none 0 0] 26)), ReadOf.nil _ _ _⟩ (by simp) (by simp))
  rw [hb] at HH
  unfold spV at HH
  simp only at HH
  clear hb 
  have HBD := hide (fun W => body_any m W (by omega))
  have hble := bodM_le m
  have hsz := size_lit m
  have e1 : (⟨m.toArray⟩ : ByteArray).extract 0 (bodM m) = ⟨(m.take (bodM m)).toArray⟩ := ext_take _ _
  have e2 : (⟨m.toArray⟩ : ByteArray).extract (bodM m) m.length = ⟨(m.drop (bodM m)).toArray⟩ := ext_drop _ _
  have hbd : bodyL (splitS m) 0 = bodM m := rfl
  rw [hbd] at HBD
  clear hbd
  obtain ⟨X1, hX1⟩ : ∃ X, m.take (bodM m) = X := ⟨_, rfl⟩
  obtain ⟨X2, hX2⟩ : ∃ X, m.drop (bodM m) = X := ⟨_, rfl⟩
  rw [hX1] at e1
  rw [hX2] at e2
  rw [hX1]
  clear hX1 hX2
  generalize bodM m = b at *
  go_enter Tryz.func18, Tryz.ntmps18
  go_wp2_with (first
    | (go_at_call 32; refine HH.out.mono ?_; rintro e w1 ⟨rfl, hb1⟩; have hb1' := hide (HB0.out.trans (hb1.mono HB0.out.size)); have hk1 := HK0.out.below hb1 HK0.out.lt; have hck := hk1.cell; clear hk1; replace hb1 := hide hb1)
    | (go_at_call 43; refine (HBD.out _).mono ?_; rintro e w2 ⟨rfl, rfl⟩))
  exact bodyPost_ret (v := .tuple #[.string ⟨(X1).toArray⟩, .bool true]) (by simp [results, Tryz.results18, go_sem]) rfl ⟨rfl, hb1'.out⟩
set_option maxHeartbeats 2000000 in
theorem by_text (m : List UInt8) (w : World) (hm : m.length ≤ 10000) :
    Calls Tryz.prog 18 #[.string ⟨m.toArray⟩, .agg #[.slice none 0 0, .string ⟨#[84, 69, 88, 84]⟩, .slice none 0 0]] w fun e w' => e = .returned (.tuple #[.string ⟨(m.drop (bodM m)).toArray⟩, .bool true]) ∧ Below w.heap.size w w' := by
  have hb : hasB ⟨[], [84, 69, 88, 84], []⟩ = true := by decide
  have HB0 : Hid (Below w.heap.size w (w.alloc (.cells #[.slice none 0 0, .string ⟨#[84, 69, 88, 84]⟩, .slice none 0 0] 26))) := (Below.refl _ _).alloc (Nat.le_refl _) _
  have HK0 := hide (Blk.new w #[.slice none 0 0, .string ⟨#[84, 69, 88, 84]⟩, .slice none 0 0] 26)
  have HH := hide (hasText_any ⟨[], [84, 69, 88, 84], []⟩ (.slice none 0 0) (.slice none 0 0) _ ⟨ReadOf.nil _ _ (w.alloc (.cells #[.slice none 0 0, .string ⟨#[84, 69, 88, 84]⟩, .slice none 0 0] 26)), ReadOf.nil _ _ _⟩ (by simp) (by simp))
  rw [hb] at HH
  unfold spV at HH
  simp only at HH
  clear hb 
  have HBD := hide (fun W => body_any m W (by omega))
  have hble := bodM_le m
  have hsz := size_lit m
  have e1 : (⟨m.toArray⟩ : ByteArray).extract 0 (bodM m) = ⟨(m.take (bodM m)).toArray⟩ := ext_take _ _
  have e2 : (⟨m.toArray⟩ : ByteArray).extract (bodM m) m.length = ⟨(m.drop (bodM m)).toArray⟩ := ext_drop _ _
  have hbd : bodyL (splitS m) 0 = bodM m := rfl
  rw [hbd] at HBD
  clear hbd
  obtain ⟨X1, hX1⟩ : ∃ X, m.take (bodM m) = X := ⟨_, rfl⟩
  obtain ⟨X2, hX2⟩ : ∃ X, m.drop (bodM m) = X := ⟨_, rfl⟩
  rw [hX1] at e1
  rw [hX2] at e2
  rw [hX2]
  clear hX1 hX2
  generalize bodM m = b at *
  go_enter Tryz.func18, Tryz.ntmps18
  go_wp2_with (first
    | (go_at_call 32; refine HH.out.mono ?_; rintro e w1 ⟨rfl, hb1⟩; have hb1' := hide (HB0.out.trans (hb1.mono HB0.out.size)); have hk1 := HK0.out.below hb1 HK0.out.lt; have hck := hk1.cell; clear hk1; replace hb1 := hide hb1)
    | (go_at_call 43; refine (HBD.out _).mono ?_; rintro e w2 ⟨rfl, rfl⟩))
  exact bodyPost_ret (v := .tuple #[.string ⟨(X2).toArray⟩, .bool true]) (by simp [results, Tryz.results18, go_sem]) rfl ⟨rfl, hb1'.out⟩
set_option maxHeartbeats 2000000 in
theorem by_some (m : List UInt8) (names : List (List UInt8)) (nv : Value) (w : World) (hm : m.length ≤ 10000) (hn : ReadOf ssF 1 w nv names) (h1 : 1 ≤ names.length) (h20 : names.length ≤ 20) (ha : names.all nmeB = true) (hl : ∀ x ∈ names, x.length ≤ 500) :
    Calls Tryz.prog 18 #[.string ⟨m.toArray⟩, .agg #[.slice none 0 0, .string ⟨#[72, 69, 65, 68, 69, 82, 46, 70, 73, 69, 76, 68, 83]⟩, nv]] w fun e w' => e = .returned (.tuple #[.string ⟨(onlyL m (names.map (List.map lowB)) false (hd (splitS m) 0).1 ++ [13, 10]).toArray⟩, .bool true]) ∧ Below w.heap.size w w' := by
  obtain ⟨A2, c2, rfl⟩ := hn.form
  have hb : hasB ⟨[], [72, 69, 65, 68, 69, 82, 46, 70, 73, 69, 76, 68, 83], names⟩ = true := by
    unfold hasB
    simp only
    rw [if_neg (by decide), if_neg (by decide), if_pos (by decide), ha, decide_eq_true h1, decide_eq_true h20]
    rfl
  have HB0 : Hid (Below w.heap.size w (w.alloc (.cells #[.slice none 0 0, .string ⟨#[72, 69, 65, 68, 69, 82, 46, 70, 73, 69, 76, 68, 83]⟩, .slice A2 names.length c2] 26))) := (Below.refl _ _).alloc (Nat.le_refl _) _
  have HK0 := hide (Blk.new w #[.slice none 0 0, .string ⟨#[72, 69, 65, 68, 69, 82, 46, 70, 73, 69, 76, 68, 83]⟩, .slice A2 names.length c2] 26)
  have HN := hide (hn.below HB0.out)
  have HL := hide hl
  clear hl
  have HH := hide (hasText_any ⟨[], [72, 69, 65, 68, 69, 82, 46, 70, 73, 69, 76, 68, 83], names⟩ (.slice none 0 0) (.slice A2 names.length c2) _ ⟨ReadOf.nil _ _ (w.alloc (.cells #[.slice none 0 0, .string ⟨#[72, 69, 65, 68, 69, 82, 46, 70, 73, 69, 76, 68, 83]⟩, .slice A2 names.length c2] 26)), HN.out⟩ (by simp) (by simp; omega))
  rw [hb] at HH
  unfold spV at HH
  simp only at HH
  clear hb hn
  have HO := hide (fun W (h : ReadOf ssF 1 W (.slice A2 names.length c2) names) => only_any m _ names false W h.tx hm (by omega) HL.out)
  obtain ⟨X, hX⟩ : ∃ X, onlyL m (names.map (List.map lowB)) false (hd (splitS m) 0).1 ++ [13, 10] = X := ⟨_, rfl⟩
  rw [hX] at HO ⊢
  clear hX
  go_enter Tryz.func18, Tryz.ntmps18
  go_wp2_with (first
    | (go_at_call 32; refine HH.out.mono ?_; rintro e w1 ⟨rfl, hb1⟩; have hb1' := hide (HB0.out.trans (hb1.mono HB0.out.size)); have hk1 := HK0.out.below hb1 HK0.out.lt; have hck := hk1.cell; clear hk1; replace hb1 := hide hb1)
    | (go_at_call 44; refine (HO.out _ (HN.out.below hb1.out)).mono ?_; rintro e w2 ⟨rfl, hb2⟩; replace hb2 := hide hb2))
  exact bodyPost_ret (v := .tuple #[.string ⟨(X).toArray⟩, .bool true]) (by simp [results, Tryz.results18, go_sem]) rfl ⟨rfl, hb1'.out.trans (hb2.out.mono hb1'.out.size)⟩
set_option maxHeartbeats 2000000 in
theorem by_rest (m : List UInt8) (names : List (List UInt8)) (nv : Value) (w : World) (hm : m.length ≤ 10000) (hn : ReadOf ssF 1 w nv names) (h1 : 1 ≤ names.length) (h20 : names.length ≤ 20) (ha : names.all nmeB = true) (hl : ∀ x ∈ names, x.length ≤ 500) :
    Calls Tryz.prog 18 #[.string ⟨m.toArray⟩, .agg #[.slice none 0 0, .string ⟨#[72, 69, 65, 68, 69, 82, 46, 70, 73, 69, 76, 68, 83, 46, 78, 79, 84]⟩, nv]] w fun e w' => e = .returned (.tuple #[.string ⟨(onlyL m (names.map (List.map lowB)) true (hd (splitS m) 0).1 ++ [13, 10]).toArray⟩, .bool true]) ∧ Below w.heap.size w w' := by
  obtain ⟨A2, c2, rfl⟩ := hn.form
  have hb : hasB ⟨[], [72, 69, 65, 68, 69, 82, 46, 70, 73, 69, 76, 68, 83, 46, 78, 79, 84], names⟩ = true := by
    unfold hasB
    simp only
    rw [if_neg (by decide), if_neg (by decide), if_pos (by decide), ha, decide_eq_true h1, decide_eq_true h20]
    rfl
  have HB0 : Hid (Below w.heap.size w (w.alloc (.cells #[.slice none 0 0, .string ⟨#[72, 69, 65, 68, 69, 82, 46, 70, 73, 69, 76, 68, 83, 46, 78, 79, 84]⟩, .slice A2 names.length c2] 26))) := (Below.refl _ _).alloc (Nat.le_refl _) _
  have HK0 := hide (Blk.new w #[.slice none 0 0, .string ⟨#[72, 69, 65, 68, 69, 82, 46, 70, 73, 69, 76, 68, 83, 46, 78, 79, 84]⟩, .slice A2 names.length c2] 26)
  have HN := hide (hn.below HB0.out)
  have HL := hide hl
  clear hl
  have HH := hide (hasText_any ⟨[], [72, 69, 65, 68, 69, 82, 46, 70, 73, 69, 76, 68, 83, 46, 78, 79, 84], names⟩ (.slice none 0 0) (.slice A2 names.length c2) _ ⟨ReadOf.nil _ _ (w.alloc (.cells #[.slice none 0 0, .string ⟨#[72, 69, 65, 68, 69, 82, 46, 70, 73, 69, 76, 68, 83, 46, 78, 79, 84]⟩, .slice A2 names.length c2] 26)), HN.out⟩ (by simp) (by simp; omega))
  rw [hb] at HH
  unfold spV at HH
  simp only at HH
  clear hb hn
  have HO := hide (fun W (h : ReadOf ssF 1 W (.slice A2 names.length c2) names) => only_any m _ names true W h.tx hm (by omega) HL.out)
  obtain ⟨X, hX⟩ : ∃ X, onlyL m (names.map (List.map lowB)) true (hd (splitS m) 0).1 ++ [13, 10] = X := ⟨_, rfl⟩
  rw [hX] at HO ⊢
  clear hX
  go_enter Tryz.func18, Tryz.ntmps18
  go_wp2_with (first
    | (go_at_call 32; refine HH.out.mono ?_; rintro e w1 ⟨rfl, hb1⟩; have hb1' := hide (HB0.out.trans (hb1.mono HB0.out.size)); have hk1 := HK0.out.below hb1 HK0.out.lt; have hck := hk1.cell; clear hk1; replace hb1 := hide hb1)
    | (go_at_call 44; refine (HO.out _ (HN.out.below hb1.out)).mono ?_; rintro e w2 ⟨rfl, hb2⟩; replace hb2 := hide hb2))
  exact bodyPost_ret (v := .tuple #[.string ⟨(X).toArray⟩, .bool true]) (by simp [results, Tryz.results18, go_sem]) rfl ⟨rfl, hb1'.out.trans (hb2.out.mono hb1'.out.size)⟩
end Go.Proofs.YtnokanmcgpjkmaaGreatDoor
