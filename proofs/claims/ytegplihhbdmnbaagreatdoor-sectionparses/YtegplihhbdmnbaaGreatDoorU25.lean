/- hasText of package section. -/
import Derived.Test.YtegplihhbdmnbaaGreatDoorU24
namespace Go.Proofs.YtegplihhbdmnbaaGreatDoor
open Go.RowKit Go.Shelf
/-- A section in memory, as a value. -/
structure SpA (w : World) (pv nv : Value) (p : Spc) : Prop where
  path : ReadOf siF 1 w pv p.path
  names : ReadOf ssF 1 w nv p.names
theorem SpA.below {w w' : World} {pv nv : Value} {p : Spc} (h : SpA w pv nv p) (hb : Below w.heap.size w w') : SpA w' pv nv p := ⟨h.path.below hb, h.names.below hb⟩
def spV (pv nv : Value) (p : Spc) : Value := .agg #[pv, .string ⟨p.what.toArray⟩, nv]
theorem ret_b {a b : Bool} (h : a = b) : Ending.returned (.bool a) = .returned (.bool b) := by rw [h]
theorem has_long {p : Spc} (h : 20 < p.path.length) : hasB p = false := by
  unfold hasB
  rw [decide_eq_false (by omega : ¬ p.path.length ≤ 20)]
  rfl
theorem has_num {p : Spc} (h : p.path.all numB = false) : hasB p = false := by
  unfold hasB
  rw [h]
  simp
/-- What is left to ask of the word and the names. -/
def hasW (p : Spc) : Bool :=
  if p.what = [] ∨ p.what = wHead ∨ p.what = wText then p.names.isEmpty
  else if p.what = wMime then p.names.isEmpty && !p.path.isEmpty
  else if p.what = wFlds ∨ p.what = wNot then decide (1 ≤ p.names.length) && decide (p.names.length ≤ 20) && p.names.all nmeB
  else false
theorem has_w {p : Spc} (h : p.path.length ≤ 20) (h2 : p.path.all numB = true) : hasB p = hasW p := by
  unfold hasB hasW
  rw [decide_eq_true h, h2]
  rfl
theorem nil_len {α : Type} (l : List α) : l.isEmpty = decide (l.length = 0) := by cases l <;> simp
theorem len_beq {α : Type} (l : List α) : ((l.length : Int) == 0) = l.isEmpty := by
  cases l with
  | nil => rfl
  | cons a r =>
    simp
    omega
set_option maxRecDepth 20000 in
set_option maxHeartbeats 2000000 in
theorem hasText_long (p : Spc) (pv nv : Value) (w : World) (hs : SpA w pv nv p) (hp : p.path.length ≤ 1000000) (hn : p.names.length ≤ 1000000) (h : 20 < p.path.length) :
    Calls Tryz.prog 23 #[spV pv nv p] w fun e w' => e = .returned (.bool (false)) ∧ Below w.heap.size w w' := by
  obtain ⟨path, what, names⟩ := p
  have HP := hide hs.path
  have HN := hide hs.names
  obtain ⟨A, c, rfl⟩ := hs.path.form
  obtain ⟨A2, c2, rfl⟩ := hs.names.form
  clear hs
  simp only at *
  unfold spV
  simp only
  have hl : (20 : Int) < path.length := by omega
  go_enter Tryz.func23, Tryz.ntmps23
  go_wp2
  go_ret
  exact ⟨rfl, (Below.refl _ _).alloc (Nat.le_refl _) _⟩
set_option maxRecDepth 20000 in
set_option maxHeartbeats 2000000 in
theorem hasText_num (p : Spc) (pv nv : Value) (w : World) (hs : SpA w pv nv p) (hp : p.path.length ≤ 1000000) (hn : p.names.length ≤ 1000000) (h : p.path.length ≤ 20) (hnum : p.path.all numB = false) :
    Calls Tryz.prog 23 #[spV pv nv p] w fun e w' => e = .returned (.bool (false)) ∧ Below w.heap.size w w' := by
  obtain ⟨path, what, names⟩ := p
  have HP := hide hs.path
  have HN := hide hs.names
  obtain ⟨A, c, rfl⟩ := hs.path.form
  obtain ⟨A2, c2, rfl⟩ := hs.names.form
  clear hs
  simp only at *
  unfold spV
  simp only
  have hl : ¬ (20 : Int) < path.length := by omega
  have HB0 : Hid (Below w.heap.size w (w.alloc (.cells #[.slice A path.length c, .string ⟨what.toArray⟩, .slice A2 names.length c2] 26))) := (Below.refl _ _).alloc (Nat.le_refl _) _
  have HBk := hide (Blk.new w #[.slice A path.length c, .string ⟨what.toArray⟩, .slice A2 names.length c2] 26)
  have HC := hide (noNums path _ _ (HP.out.below HB0.out) (by omega))
  rw [hnum] at HC
  go_enter Tryz.func23, Tryz.ntmps23
  go_wp2_with (first
    | (go_at_call 46; refine HC.out.mono ?_; rintro e w1 ⟨rfl, hb1⟩; have hc1 := Blk.cell (Blk.below HBk.out hb1 (Blk.lt HBk.out)); replace hb1 := hide hb1))
  go_ret
  exact ⟨rfl, HB0.out.trans (hb1.out.mono HB0.out.size)⟩
set_option maxRecDepth 20000 in
set_option maxHeartbeats 2000000 in
theorem hasText_Nil (p : Spc) (pv nv : Value) (w : World) (hs : SpA w pv nv p) (hp : p.path.length ≤ 1000000) (hn : p.names.length ≤ 1000000) (h : p.path.length ≤ 20) (hnum : p.path.all numB = true) (hw : p.what = []) :
    Calls Tryz.prog 23 #[spV pv nv p] w fun e w' => e = .returned (.bool (p.names.isEmpty)) ∧ Below w.heap.size w w' := by
  obtain ⟨path, what, names⟩ := p
  have HP := hide hs.path
  have HN := hide hs.names
  obtain ⟨A, c, rfl⟩ := hs.path.form
  obtain ⟨A2, c2, rfl⟩ := hs.names.form
  clear hs
  simp only at *
  unfold spV
  simp only
  have hl : ¬ (20 : Int) < path.length := by omega
  subst hw
  have HB0 : Hid (Below w.heap.size w (w.alloc (.cells #[.slice A path.length c, .string ⟨([] : List UInt8).toArray⟩, .slice A2 names.length c2] 26))) := (Below.refl _ _).alloc (Nat.le_refl _) _
  have HBk := hide (Blk.new w #[.slice A path.length c, .string ⟨([] : List UInt8).toArray⟩, .slice A2 names.length c2] 26)
  have HC := hide (noNums path _ _ (HP.out.below HB0.out) (by omega))
  rw [hnum] at HC
  go_enter Tryz.func23, Tryz.ntmps23
  go_wp2_with (first
    | (go_at_call 46; refine HC.out.mono ?_; rintro e w1 ⟨rfl, hb1⟩; have hc1 := Blk.cell (Blk.below HBk.out hb1 (Blk.lt HBk.out)); replace hb1 := hide hb1))
  go_ret
  exact ⟨ret_b (len_beq _), HB0.out.trans (hb1.out.mono HB0.out.size)⟩
set_option maxRecDepth 20000 in
set_option maxHeartbeats 2000000 in
theorem hasText_Head (p : Spc) (pv nv : Value) (w : World) (hs : SpA w pv nv p) (hp : p.path.length ≤ 1000000) (hn : p.names.length ≤ 1000000) (h : p.path.length ≤ 20) (hnum : p.path.all numB = true) (hw : p.what = [72, 69, 65, 68, 69, 82]) :
    Calls Tryz.prog 23 #[spV pv nv p] w fun e w' => e = .returned (.bool (p.names.isEmpty)) ∧ Below w.heap.size w w' := by
  obtain ⟨path, what, names⟩ := p
  have HP := hide hs.path
  have HN := hide hs.names
  obtain ⟨A, c, rfl⟩ := hs.path.form
  obtain ⟨A2, c2, rfl⟩ := hs.names.form
  clear hs
  simp only at *
  unfold spV
  simp only
  have hl : ¬ (20 : Int) < path.length := by omega
  subst hw
  have HB0 : Hid (Below w.heap.size w (w.alloc (.cells #[.slice A path.length c, .string ⟨([72, 69, 65, 68, 69, 82] : List UInt8).toArray⟩, .slice A2 names.length c2] 26))) := (Below.refl _ _).alloc (Nat.le_refl _) _
  have HBk := hide (Blk.new w #[.slice A path.length c, .string ⟨([72, 69, 65, 68, 69, 82] : List UInt8).toArray⟩, .slice A2 names.length c2] 26)
  have HC := hide (noNums path _ _ (HP.out.below HB0.out) (by omega))
  rw [hnum] at HC
  go_enter Tryz.func23, Tryz.ntmps23
  go_wp2_with (first
    | (go_at_call 46; refine HC.out.mono ?_; rintro e w1 ⟨rfl, hb1⟩; have hc1 := Blk.cell (Blk.below HBk.out hb1 (Blk.lt HBk.out)); replace hb1 := hide hb1))
  go_ret
  exact ⟨ret_b (len_beq _), HB0.out.trans (hb1.out.mono HB0.out.size)⟩
set_option maxRecDepth 20000 in
set_option maxHeartbeats 2000000 in
theorem hasText_Text (p : Spc) (pv nv : Value) (w : World) (hs : SpA w pv nv p) (hp : p.path.length ≤ 1000000) (hn : p.names.length ≤ 1000000) (h : p.path.length ≤ 20) (hnum : p.path.all numB = true) (hw : p.what = [84, 69, 88, 84]) :
    Calls Tryz.prog 23 #[spV pv nv p] w fun e w' => e = .returned (.bool (p.names.isEmpty)) ∧ Below w.heap.size w w' := by
  obtain ⟨path, what, names⟩ := p
  have HP := hide hs.path
  have HN := hide hs.names
  obtain ⟨A, c, rfl⟩ := hs.path.form
  obtain ⟨A2, c2, rfl⟩ := hs.names.form
  clear hs
  simp only at *
  unfold spV
  simp only
  have hl : ¬ (20 : Int) < path.length := by omega
  subst hw
  have HB0 : Hid (Below w.heap.size w (w.alloc (.cells #[.slice A path.length c, .string ⟨([84, 69, 88, 84] : List UInt8).toArray⟩, .slice A2 names.length c2] 26))) := (Below.refl _ _).alloc (Nat.le_refl _) _
  have HBk := hide (Blk.new w #[.slice A path.length c, .string ⟨([84, 69, 88, 84] : List UInt8).toArray⟩, .slice A2 names.length c2] 26)
  have HC := hide (noNums path _ _ (HP.out.below HB0.out) (by omega))
  rw [hnum] at HC
  go_enter Tryz.func23, Tryz.ntmps23
  go_wp2_with (first
    | (go_at_call 46; refine HC.out.mono ?_; rintro e w1 ⟨rfl, hb1⟩; have hc1 := Blk.cell (Blk.below HBk.out hb1 (Blk.lt HBk.out)); replace hb1 := hide hb1))
  go_ret
  exact ⟨ret_b (len_beq _), HB0.out.trans (hb1.out.mono HB0.out.size)⟩
set_option maxRecDepth 20000 in
set_option maxHeartbeats 2000000 in
theorem hasText_Mime0 (p : Spc) (pv nv : Value) (w : World) (hs : SpA w pv nv p) (hp : p.path.length ≤ 1000000) (hn : p.names.length ≤ 1000000) (h : p.path.length ≤ 20) (hnum : p.path.all numB = true) (hw : p.what = [77, 73, 77, 69]) (hz : p.names.length = 0) :
    Calls Tryz.prog 23 #[spV pv nv p] w fun e w' => e = .returned (.bool (!p.path.isEmpty)) ∧ Below w.heap.size w w' := by
  obtain ⟨path, what, names⟩ := p
  have HP := hide hs.path
  have HN := hide hs.names
  obtain ⟨A, c, rfl⟩ := hs.path.form
  obtain ⟨A2, c2, rfl⟩ := hs.names.form
  clear hs
  simp only at *
  unfold spV
  simp only
  have hl : ¬ (20 : Int) < path.length := by omega
  subst hw
  have hz0 : ((names.length : Int) == 0) = true := by rw [beq_iff_eq]; omega
  clear hz
  have HB0 : Hid (Below w.heap.size w (w.alloc (.cells #[.slice A path.length c, .string ⟨([77, 73, 77, 69] : List UInt8).toArray⟩, .slice A2 names.length c2] 26))) := (Below.refl _ _).alloc (Nat.le_refl _) _
  have HBk := hide (Blk.new w #[.slice A path.length c, .string ⟨([77, 73, 77, 69] : List UInt8).toArray⟩, .slice A2 names.length c2] 26)
  have HC := hide (noNums path _ _ (HP.out.below HB0.out) (by omega))
  rw [hnum] at HC
  go_enter Tryz.func23, Tryz.ntmps23
  go_wp2_with (first
    | (go_at_call 46; refine HC.out.mono ?_; rintro e w1 ⟨rfl, hb1⟩; have hc1 := Blk.cell (Blk.below HBk.out hb1 (Blk.lt HBk.out)); replace hb1 := hide hb1))
  go_ret
  exact ⟨ret_b (by cases path <;> simp), HB0.out.trans (hb1.out.mono HB0.out.size)⟩
set_option maxRecDepth 20000 in
set_option maxHeartbeats 2000000 in
theorem hasText_Mime1 (p : Spc) (pv nv : Value) (w : World) (hs : SpA w pv nv p) (hp : p.path.length ≤ 1000000) (hn : p.names.length ≤ 1000000) (h : p.path.length ≤ 20) (hnum : p.path.all numB = true) (hw : p.what = [77, 73, 77, 69]) (hz : ¬ p.names.length = 0) :
    Calls Tryz.prog 23 #[spV pv nv p] w fun e w' => e = .returned (.bool (false)) ∧ Below w.heap.size w w' := by
  obtain ⟨path, what, names⟩ := p
  have HP := hide hs.path
  have HN := hide hs.names
  obtain ⟨A, c, rfl⟩ := hs.path.form
  obtain ⟨A2, c2, rfl⟩ := hs.names.form
  clear hs
  simp only at *
  unfold spV
  simp only
  have hl : ¬ (20 : Int) < path.length := by omega
  subst hw
  have hz0 : ((names.length : Int) == 0) = false := by rw [beq_eq_false_iff_ne]; omega
  have HB0 : Hid (Below w.heap.size w (w.alloc (.cells #[.slice A path.length c, .string ⟨([77, 73, 77, 69] : List UInt8).toArray⟩, .slice A2 names.length c2] 26))) := (Below.refl _ _).alloc (Nat.le_refl _) _
  have HBk := hide (Blk.new w #[.slice A path.length c, .string ⟨([77, 73, 77, 69] : List UInt8).toArray⟩, .slice A2 names.length c2] 26)
  have HC := hide (noNums path _ _ (HP.out.below HB0.out) (by omega))
  rw [hnum] at HC
  go_enter Tryz.func23, Tryz.ntmps23
  go_wp2_with (first
    | (go_at_call 46; refine HC.out.mono ?_; rintro e w1 ⟨rfl, hb1⟩; have hc1 := Blk.cell (Blk.below HBk.out hb1 (Blk.lt HBk.out)); replace hb1 := hide hb1))
  go_ret
  exact ⟨rfl, HB0.out.trans (hb1.out.mono HB0.out.size)⟩
set_option maxRecDepth 20000 in
set_option maxHeartbeats 2000000 in
theorem hasText_Flds0 (p : Spc) (pv nv : Value) (w : World) (hs : SpA w pv nv p) (hp : p.path.length ≤ 1000000) (hn : p.names.length ≤ 1000000) (h : p.path.length ≤ 20) (hnum : p.path.all numB = true) (hw : p.what = [72, 69, 65, 68, 69, 82, 46, 70, 73, 69, 76, 68, 83]) (hz : p.names.length < 1) :
    Calls Tryz.prog 23 #[spV pv nv p] w fun e w' => e = .returned (.bool (false)) ∧ Below w.heap.size w w' := by
  obtain ⟨path, what, names⟩ := p
  have HP := hide hs.path
  have HN := hide hs.names
  obtain ⟨A, c, rfl⟩ := hs.path.form
  obtain ⟨A2, c2, rfl⟩ := hs.names.form
  clear hs
  simp only at *
  unfold spV
  simp only
  have hl : ¬ (20 : Int) < path.length := by omega
  subst hw
  have hz0 : ¬ (1 : Int) ≤ names.length := by omega
  have HB0 : Hid (Below w.heap.size w (w.alloc (.cells #[.slice A path.length c, .string ⟨([72, 69, 65, 68, 69, 82, 46, 70, 73, 69, 76, 68, 83] : List UInt8).toArray⟩, .slice A2 names.length c2] 26))) := (Below.refl _ _).alloc (Nat.le_refl _) _
  have HBk := hide (Blk.new w #[.slice A path.length c, .string ⟨([72, 69, 65, 68, 69, 82, 46, 70, 73, 69, 76, 68, 83] : List UInt8).toArray⟩, .slice A2 names.length c2] 26)
  have HC := hide (noNums path _ _ (HP.out.below HB0.out) (by omega))
  rw [hnum] at HC
  go_enter Tryz.func23, Tryz.ntmps23
  go_wp2_with (first
    | (go_at_call 46; refine HC.out.mono ?_; rintro e w1 ⟨rfl, hb1⟩; have hc1 := Blk.cell (Blk.below HBk.out hb1 (Blk.lt HBk.out)); replace hb1 := hide hb1))
  go_ret
  exact ⟨rfl, HB0.out.trans (hb1.out.mono HB0.out.size)⟩
set_option maxRecDepth 20000 in
set_option maxHeartbeats 2000000 in
theorem hasText_Flds1 (p : Spc) (pv nv : Value) (w : World) (hs : SpA w pv nv p) (hp : p.path.length ≤ 1000000) (hn : p.names.length ≤ 1000000) (h : p.path.length ≤ 20) (hnum : p.path.all numB = true) (hw : p.what = [72, 69, 65, 68, 69, 82, 46, 70, 73, 69, 76, 68, 83]) (hz : 20 < p.names.length) :
    Calls Tryz.prog 23 #[spV pv nv p] w fun e w' => e = .returned (.bool (false)) ∧ Below w.heap.size w w' := by
  obtain ⟨path, what, names⟩ := p
  have HP := hide hs.path
  have HN := hide hs.names
  obtain ⟨A, c, rfl⟩ := hs.path.form
  obtain ⟨A2, c2, rfl⟩ := hs.names.form
  clear hs
  simp only at *
  unfold spV
  simp only
  have hl : ¬ (20 : Int) < path.length := by omega
  subst hw
  have hz0 : (1 : Int) ≤ names.length := by omega
  have hz1 : ¬ (names.length : Int) ≤ 20 := by omega
  have HB0 : Hid (Below w.heap.size w (w.alloc (.cells #[.slice A path.length c, .string ⟨([72, 69, 65, 68, 69, 82, 46, 70, 73, 69, 76, 68, 83] : List UInt8).toArray⟩, .slice A2 names.length c2] 26))) := (Below.refl _ _).alloc (Nat.le_refl _) _
  have HBk := hide (Blk.new w #[.slice A path.length c, .string ⟨([72, 69, 65, 68, 69, 82, 46, 70, 73, 69, 76, 68, 83] : List UInt8).toArray⟩, .slice A2 names.length c2] 26)
  have HC := hide (noNums path _ _ (HP.out.below HB0.out) (by omega))
  rw [hnum] at HC
  go_enter Tryz.func23, Tryz.ntmps23
  go_wp2_with (first
    | (go_at_call 46; refine HC.out.mono ?_; rintro e w1 ⟨rfl, hb1⟩; have hc1 := Blk.cell (Blk.below HBk.out hb1 (Blk.lt HBk.out)); replace hb1 := hide hb1))
  go_ret
  exact ⟨rfl, HB0.out.trans (hb1.out.mono HB0.out.size)⟩
set_option maxRecDepth 20000 in
set_option maxHeartbeats 2000000 in
theorem hasText_Flds2 (p : Spc) (pv nv : Value) (w : World) (hs : SpA w pv nv p) (hp : p.path.length ≤ 1000000) (hn : p.names.length ≤ 1000000) (h : p.path.length ≤ 20) (hnum : p.path.all numB = true) (hw : p.what = [72, 69, 65, 68, 69, 82, 46, 70, 73, 69, 76, 68, 83]) (hz : 1 ≤ p.names.length) (hz2 : p.names.length ≤ 20) :
    Calls Tryz.prog 23 #[spV pv nv p] w fun e w' => e = .returned (.bool (p.names.all nmeB)) ∧ Below w.heap.size w w' := by
  obtain ⟨path, what, names⟩ := p
  have HP := hide hs.path
  have HN := hide hs.names
  obtain ⟨A, c, rfl⟩ := hs.path.form
  obtain ⟨A2, c2, rfl⟩ := hs.names.form
  clear hs
  simp only at *
  unfold spV
  simp only
  have hl : ¬ (20 : Int) < path.length := by omega
  subst hw
  have hz0 : (1 : Int) ≤ names.length := by omega
  have hz1 : (names.length : Int) ≤ 20 := by omega
  have HC2 : Hid (∀ W, Below w.heap.size w W → Calls Tryz.prog 48 #[.slice A2 names.length c2, .func (.func 49) #[] #[]] W fun e w' => e = .returned (.bool (!names.all nmeB)) ∧ Below W.heap.size W w') := fun W hW => noNames names _ W (HN.out.below hW) (by omega)
  have HB0 : Hid (Below w.heap.size w (w.alloc (.cells #[.slice A path.length c, .string ⟨([72, 69, 65, 68, 69, 82, 46, 70, 73, 69, 76, 68, 83] : List UInt8).toArray⟩, .slice A2 names.length c2] 26))) := (Below.refl _ _).alloc (Nat.le_refl _) _
  have HBk := hide (Blk.new w #[.slice A path.length c, .string ⟨([72, 69, 65, 68, 69, 82, 46, 70, 73, 69, 76, 68, 83] : List UInt8).toArray⟩, .slice A2 names.length c2] 26)
  have HC := hide (noNums path _ _ (HP.out.below HB0.out) (by omega))
  rw [hnum] at HC
  go_enter Tryz.func23, Tryz.ntmps23
  go_wp2_with (first
    | (go_at_call 46; refine HC.out.mono ?_; rintro e w1 ⟨rfl, hb1⟩; have hc1 := Blk.cell (Blk.below HBk.out hb1 (Blk.lt HBk.out)); replace hb1 := hide hb1)
    | (go_at_call 48; refine (HC2.out _ ((HB0.out.trans (hb1.out.mono HB0.out.size)))).mono ?_; rintro e w2 ⟨rfl, hb2⟩; replace hb2 := hide hb2))
  go_ret
  exact ⟨ret_b (by simp), (HB0.out.trans (hb1.out.mono HB0.out.size)).trans (hb2.out.mono (HB0.out.trans (hb1.out.mono HB0.out.size)).size)⟩
set_option maxRecDepth 20000 in
set_option maxHeartbeats 2000000 in
theorem hasText_Not0 (p : Spc) (pv nv : Value) (w : World) (hs : SpA w pv nv p) (hp : p.path.length ≤ 1000000) (hn : p.names.length ≤ 1000000) (h : p.path.length ≤ 20) (hnum : p.path.all numB = true) (hw : p.what = [72, 69, 65, 68, 69, 82, 46, 70, 73, 69, 76, 68, 83, 46, 78, 79, 84]) (hz : p.names.length < 1) :
    Calls Tryz.prog 23 #[spV pv nv p] w fun e w' => e = .returned (.bool (false)) ∧ Below w.heap.size w w' := by
  obtain ⟨path, what, names⟩ := p
  have HP := hide hs.path
  have HN := hide hs.names
  obtain ⟨A, c, rfl⟩ := hs.path.form
  obtain ⟨A2, c2, rfl⟩ := hs.names.form
  clear hs
  simp only at *
  unfold spV
  simp only
  have hl : ¬ (20 : Int) < path.length := by omega
  subst hw
  have hz0 : ¬ (1 : Int) ≤ names.length := by omega
  have HB0 : Hid (Below w.heap.size w (w.alloc (.cells #[.slice A path.length c, .string ⟨([72, 69, 65, 68, 69, 82, 46, 70, 73, 69, 76, 68, 83, 46, 78, 79, 84] : List UInt8).toArray⟩, .slice A2 names.length c2] 26))) := (Below.refl _ _).alloc (Nat.le_refl _) _
  have HBk := hide (Blk.new w #[.slice A path.length c, .string ⟨([72, 69, 65, 68, 69, 82, 46, 70, 73, 69, 76, 68, 83, 46, 78, 79, 84] : List UInt8).toArray⟩, .slice A2 names.length c2] 26)
  have HC := hide (noNums path _ _ (HP.out.below HB0.out) (by omega))
  rw [hnum] at HC
  go_enter Tryz.func23, Tryz.ntmps23
  go_wp2_with (first
    | (go_at_call 46; refine HC.out.mono ?_; rintro e w1 ⟨rfl, hb1⟩; have hc1 := Blk.cell (Blk.below HBk.out hb1 (Blk.lt HBk.out)); replace hb1 := hide hb1))
  go_ret
  exact ⟨rfl, HB0.out.trans (hb1.out.mono HB0.out.size)⟩
set_option maxRecDepth 20000 in
set_option maxHeartbeats 2000000 in
theorem hasText_Not1 (p : Spc) (pv nv : Value) (w : World) (hs : SpA w pv nv p) (hp : p.path.length ≤ 1000000) (hn : p.names.length ≤ 1000000) (h : p.path.length ≤ 20) (hnum : p.path.all numB = true) (hw : p.what = [72, 69, 65, 68, 69, 82, 46, 70, 73, 69, 76, 68, 83, 46, 78, 79, 84]) (hz : 20 < p.names.length) :
    Calls Tryz.prog 23 #[spV pv nv p] w fun e w' => e = .returned (.bool (false)) ∧ Below w.heap.size w w' := by
  obtain ⟨path, what, names⟩ := p
  have HP := hide hs.path
  have HN := hide hs.names
  obtain ⟨A, c, rfl⟩ := hs.path.form
  obtain ⟨A2, c2, rfl⟩ := hs.names.form
  clear hs
  simp only at *
  unfold spV
  simp only
  have hl : ¬ (20 : Int) < path.length := by omega
  subst hw
  have hz0 : (1 : Int) ≤ names.length := by omega
  have hz1 : ¬ (names.length : Int) ≤ 20 := by omega
  have HB0 : Hid (Below w.heap.size w (w.alloc (.cells #[.slice A path.length c, .string ⟨([72, 69, 65, 68, 69, 82, 46, 70, 73, 69, 76, 68, 83, 46, 78, 79, 84] : List UInt8).toArray⟩, .slice A2 names.length c2] 26))) := (Below.refl _ _).alloc (Nat.le_refl _) _
  have HBk := hide (Blk.new w #[.slice A path.length c, .string ⟨([72, 69, 65, 68, 69, 82, 46, 70, 73, 69, 76, 68, 83, 46, 78, 79, 84] : List UInt8).toArray⟩, .slice A2 names.length c2] 26)
  have HC := hide (noNums path _ _ (HP.out.below HB0.out) (by omega))
  rw [hnum] at HC
  go_enter Tryz.func23, Tryz.ntmps23
  go_wp2_with (first
    | (go_at_call 46; refine HC.out.mono ?_; rintro e w1 ⟨rfl, hb1⟩; have hc1 := Blk.cell (Blk.below HBk.out hb1 (Blk.lt HBk.out)); replace hb1 := hide hb1))
  go_ret
  exact ⟨rfl, HB0.out.trans (hb1.out.mono HB0.out.size)⟩
set_option maxRecDepth 20000 in
set_option maxHeartbeats 2000000 in
theorem hasText_Not2 (p : Spc) (pv nv : Value) (w : World) (hs : SpA w pv nv p) (hp : p.path.length ≤ 1000000) (hn : p.names.length ≤ 1000000) (h : p.path.length ≤ 20) (hnum : p.path.all numB = true) (hw : p.what = [72, 69, 65, 68, 69, 82, 46, 70, 73, 69, 76, 68, 83, 46, 78, 79, 84]) (hz : 1 ≤ p.names.length) (hz2 : p.names.length ≤ 20) :
    Calls Tryz.prog 23 #[spV pv nv p] w fun e w' => e = .returned (.bool (p.names.all nmeB)) ∧ Below w.heap.size w w' := by
  obtain ⟨path, what, names⟩ := p
  have HP := hide hs.path
  have HN := hide hs.names
  obtain ⟨A, c, rfl⟩ := hs.path.form
  obtain ⟨A2, c2, rfl⟩ := hs.names.form
  clear hs
  simp only at *
  unfold spV
  simp only
  have hl : ¬ (20 : Int) < path.length := by omega
  subst hw
  have hz0 : (1 : Int) ≤ names.length := by omega
  have hz1 : (names.length : Int) ≤ 20 := by omega
  have HC2 : Hid (∀ W, Below w.heap.size w W → Calls Tryz.prog 48 #[.slice A2 names.length c2, .func (.func 49) #[] #[]] W fun e w' => e = .returned (.bool (!names.all nmeB)) ∧ Below W.heap.size W w') := fun W hW => noNames names _ W (HN.out.below hW) (by omega)
  have HB0 : Hid (Below w.heap.size w (w.alloc (.cells #[.slice A path.length c, .string ⟨([72, 69, 65, 68, 69, 82, 46, 70, 73, 69, 76, 68, 83, 46, 78, 79, 84] : List UInt8).toArray⟩, .slice A2 names.length c2] 26))) := (Below.refl _ _).alloc (Nat.le_refl _) _
  have HBk := hide (Blk.new w #[.slice A path.length c, .string ⟨([72, 69, 65, 68, 69, 82, 46, 70, 73, 69, 76, 68, 83, 46, 78, 79, 84] : List UInt8).toArray⟩, .slice A2 names.length c2] 26)
  have HC := hide (noNums path _ _ (HP.out.below HB0.out) (by omega))
  rw [hnum] at HC
  go_enter Tryz.func23, Tryz.ntmps23
  go_wp2_with (first
    | (go_at_call 46; refine HC.out.mono ?_; rintro e w1 ⟨rfl, hb1⟩; have hc1 := Blk.cell (Blk.below HBk.out hb1 (Blk.lt HBk.out)); replace hb1 := hide hb1)
    | (go_at_call 48; refine (HC2.out _ ((HB0.out.trans (hb1.out.mono HB0.out.size)))).mono ?_; rintro e w2 ⟨rfl, hb2⟩; replace hb2 := hide hb2))
  go_ret
  exact ⟨ret_b (by simp), (HB0.out.trans (hb1.out.mono HB0.out.size)).trans (hb2.out.mono (HB0.out.trans (hb1.out.mono HB0.out.size)).size)⟩
set_option maxRecDepth 20000 in
set_option maxHeartbeats 2000000 in
theorem hasText_No (p : Spc) (pv nv : Value) (w : World) (hs : SpA w pv nv p) (hp : p.path.length ≤ 1000000) (hn : p.names.length ≤ 1000000) (h : p.path.length ≤ 20) (hnum : p.path.all numB = true) (h0 : p.what ≠ []) (h1 : p.what ≠ [72, 69, 65, 68, 69, 82]) (h2 : p.what ≠ [84, 69, 88, 84]) (h3 : p.what ≠ [77, 73, 77, 69]) (h4 : p.what ≠ [72, 69, 65, 68, 69, 82, 46, 70, 73, 69, 76, 68, 83]) (h5 : p.what ≠ [72, 69, 65, 68, 69, 82, 46, 70, 73, 69, 76, 68, 83, 46, 78, 79, 84]) :
    Calls Tryz.prog 23 #[spV pv nv p] w fun e w' => e = .returned (.bool (false)) ∧ Below w.heap.size w w' := by
  obtain ⟨path, what, names⟩ := p
  have HP := hide hs.path
  have HN := hide hs.names
  obtain ⟨A, c, rfl⟩ := hs.path.form
  obtain ⟨A2, c2, rfl⟩ := hs.names.form
  clear hs
  simp only at *
  unfold spV
  simp only
  have hl : ¬ (20 : Int) < path.length := by omega
  have k0 : what.isEmpty = false := by cases what with | nil => exact absurd rfl h0 | cons _ _ => rfl
  have k1 := beq_eq_false_iff_ne.2 h1
  have k2 := beq_eq_false_iff_ne.2 h2
  have k3 := beq_eq_false_iff_ne.2 h3
  have k4 := beq_eq_false_iff_ne.2 h4
  have k5 := beq_eq_false_iff_ne.2 h5
  clear h0 h1 h2 h3 h4 h5
  have HB0 : Hid (Below w.heap.size w (w.alloc (.cells #[.slice A path.length c, .string ⟨what.toArray⟩, .slice A2 names.length c2] 26))) := (Below.refl _ _).alloc (Nat.le_refl _) _
  have HBk := hide (Blk.new w #[.slice A path.length c, .string ⟨what.toArray⟩, .slice A2 names.length c2] 26)
  have HC := hide (noNums path _ _ (HP.out.below HB0.out) (by omega))
  rw [hnum] at HC
  go_enter Tryz.func23, Tryz.ntmps23
  go_wp2_with (first
    | (go_at_call 46; refine HC.out.mono ?_; rintro e w1 ⟨rfl, hb1⟩; have hc1 := Blk.cell (Blk.below HBk.out hb1 (Blk.lt HBk.out)); replace hb1 := hide hb1))
  go_ret
  exact ⟨rfl, HB0.out.trans (hb1.out.mono HB0.out.size)⟩
theorem hasText_any (p : Spc) (pv nv : Value) (w : World) (hs : SpA w pv nv p) (hp : p.path.length ≤ 1000000) (hn : p.names.length ≤ 1000000) :
    Calls Tryz.prog 23 #[spV pv nv p] w fun e w' => e = .returned (.bool (hasB p)) ∧ Below w.heap.size w w' := by
  by_cases h : p.path.length ≤ 20
  · cases h2 : p.path.all numB with
    | false =>
      rw [has_num h2]
      exact hasText_num p pv nv w hs hp hn h h2
    | true =>
      rw [has_w h h2]
      by_cases e1 : p.what = []
      · rw [show hasW p = p.names.isEmpty by unfold hasW; rw [if_pos (.inl e1)]]
        exact hasText_Nil p pv nv w hs hp hn h h2 e1
      by_cases e2 : p.what = wHead
      · rw [show hasW p = p.names.isEmpty by unfold hasW; rw [if_pos (.inr (.inl e2))]]
        exact hasText_Head p pv nv w hs hp hn h h2 e2
      by_cases e3 : p.what = wText
      · rw [show hasW p = p.names.isEmpty by unfold hasW; rw [if_pos (.inr (.inr e3))]]
        exact hasText_Text p pv nv w hs hp hn h h2 e3
      have e0 : ¬ (p.what = [] ∨ p.what = wHead ∨ p.what = wText) := by simp [e1, e2, e3]
      by_cases e4 : p.what = wMime
      · rw [show hasW p = (p.names.isEmpty && !p.path.isEmpty) by unfold hasW; rw [if_neg e0, if_pos e4]]
        by_cases hz : p.names.length = 0
        · rw [nil_len p.names, decide_eq_true hz]
          exact hasText_Mime0 p pv nv w hs hp hn h h2 e4 hz
        · rw [nil_len p.names, decide_eq_false hz]
          exact hasText_Mime1 p pv nv w hs hp hn h h2 e4 hz
      by_cases e5 : p.what = wFlds ∨ p.what = wNot
      · rw [show hasW p = (decide (1 ≤ p.names.length) && decide (p.names.length ≤ 20) && p.names.all nmeB) by unfold hasW; rw [if_neg e0, if_neg e4, if_pos e5]]
        by_cases hz : p.names.length < 1
        · rw [decide_eq_false (by omega : ¬ 1 ≤ p.names.length)]
          rcases e5 with e5 | e5
          · exact hasText_Flds0 p pv nv w hs hp hn h h2 e5 hz
          · exact hasText_Not0 p pv nv w hs hp hn h h2 e5 hz
        · rw [decide_eq_true (by omega : 1 ≤ p.names.length)]
          by_cases hz2 : p.names.length ≤ 20
          · rw [decide_eq_true hz2]
            rcases e5 with e5 | e5
            · exact hasText_Flds2 p pv nv w hs hp hn h h2 e5 (by omega) hz2
            · exact hasText_Not2 p pv nv w hs hp hn h h2 e5 (by omega) hz2
          · rw [decide_eq_false hz2]
            rcases e5 with e5 | e5
            · exact hasText_Flds1 p pv nv w hs hp hn h h2 e5 (by omega)
            · exact hasText_Not1 p pv nv w hs hp hn h h2 e5 (by omega)
      · rw [show hasW p = false by unfold hasW; rw [if_neg e0, if_neg e4, if_neg e5]]
        simp only [not_or] at e5
        exact hasText_No p pv nv w hs hp hn h h2 e1 e2 e3 e4 e5.1 e5.2
  · rw [has_long (by omega)]
    exact hasText_long p pv nv w hs hp hn (by omega)
end Go.Proofs.YtegplihhbdmnbaaGreatDoor
