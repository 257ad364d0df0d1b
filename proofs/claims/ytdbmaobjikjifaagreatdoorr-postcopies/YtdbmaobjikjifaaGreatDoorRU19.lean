/- alive of layer 13. -/
/- Plain texts of package boxes: isPlain, Pattern; the document's plain, Pattern. -/
/- Name of package boxes. -/
import Derived.Test.YtdbmaobjikjifaaGreatDoorRU18
import Derived.Test.YtdbmaobjikjifaaGreatDoorRU09
import Derived.Test.YtdbmaobjikjifaaGreatDoorRU10
section
set_option linter.unusedSimpArgs false
set_option linter.unusedVariables false
namespace Go.Proofs.YtdbmaobjikjifaaGreatDoorR
open Go.RowKit Go.Shelf
end Go.Proofs.YtdbmaobjikjifaaGreatDoorR

end
section
set_option linter.unusedSimpArgs false
set_option linter.unusedVariables false
namespace Go.Proofs.YtdbmaobjikjifaaGreatDoorR
open Go.RowKit Go.Shelf
def spBL : List UInt8 := [40, 41, 123, 34, 92]
/-- A rune that no pattern has. -/
def badR (x : Nat) : Bool := decide (x < 33) || decide (126 < x) || spBL.any fun c => c.toNat == x
theorem badR_low : ∀ x, x < 128 → badR x = !plnB true x.toUInt8 := by decide +kernel
theorem runeT_pln : RuneT badR (plnB true) := by
  refine ⟨fun c h => ?_, fun x h => ?_, fun c h => ?_⟩
  · have := badR_low c.toNat h
    rw [this]
    congr 2
    simp
  · unfold badR
    rw [decide_eq_true (by omega : 126 < x)]
    simp
  · unfold plnB at h
    simp at h
    omega
theorem spB_idx : ∀ x, x < 128 → decide (0 ≤ Lib.indexByte spBL x.toUInt8) = spBL.any fun c => c.toNat == x := by decide +kernel
theorem contSpB (x : Nat) (hx : x < 128) (w : World) : Calls Tryz.prog 130 #[.string ⟨#[40, 41, 123, 34, 92]⟩, .int .i32 (x : Nat)] w fun e w' => e = .returned (.bool (spBL.any fun c => c.toNat == x)) ∧ w' = w := by
  have := Tryz.strings_ContainsRune_ascii ⟨#[40, 41, 123, 34, 92]⟩ (x : Nat) w (by omega) (by omega)
  rw [← spB_idx x hx]
  exact this
theorem badR_any (x : Nat) (hx : x ≤ 1114111) (w : World) : Calls Tryz.prog 129 #[.int .i32 (x : Nat)] w fun e w' => e = .returned (.bool (badR x)) ∧ w' = w := by
  by_cases h1 : x < 33
  · have b1 : (x : Int) < 33 := by omega
    have HV : Hid (badR x = true) := by
      show _ = _
      unfold badR
      rw [decide_eq_true h1]
      rfl
    go_enter Tryz.func129, Tryz.ntmps129
    go_wp2
    go_ret
    exact ⟨by rw [HV.out]; rfl, rfl⟩
  · have b1 : ¬ (x : Int) < 33 := by omega
    by_cases h2 : x > 126
    · have b2 : (x : Int) > 126 := by omega
      have HV : Hid (badR x = true) := by
        show _ = _
        unfold badR
        rw [decide_eq_true (by omega : 126 < x)]
        simp
      go_enter Tryz.func129, Tryz.ntmps129
      go_wp2
      go_ret
      exact ⟨by rw [HV.out]; rfl, rfl⟩
    · have b2 : ¬ (x : Int) > 126 := by omega
      have HV : Hid (badR x = spBL.any fun c => c.toNat == x) := by
        show _ = _
        unfold badR
        rw [decide_eq_false h1, decide_eq_false (by omega : ¬ 126 < x)]
        simp
      have HC := hide (contSpB x (by omega))
      generalize (spBL.any fun c => c.toNat == x) = v at *
      go_enter Tryz.func129, Tryz.ntmps129
      go_wp2_with (first
        | (go_at_call 130; refine (HC.out _).mono ?_; rintro e w1 ⟨rfl, rfl⟩))
      go_ret
      exact ⟨by rw [HV.out]; rfl, rfl⟩
theorem contPln (r : List UInt8) (w : World) : Calls Tryz.prog 128 #[.string ⟨r.toArray⟩, .func (.func 129) #[] #[]] w fun e w' => e = .returned (.bool (!r.all (plnB true))) ∧ Below w.heap.size w w' := by
  rw [← idx_allG runeT_pln]
  refine Tryz.strings_ContainsFunc_grows 129 #[] (enters_of Tryz.func129 (by kernel_rfl) rfl) badR ⟨r.toArray⟩ w ?_
  intro W x hx _
  exact (badR_any x hx W).mono fun e w' ⟨he, hw⟩ => ⟨he, hw ▸ Below.refl _ _⟩
theorem isPlain_any (r : List UInt8) (w : World) : Calls Tryz.prog 108 #[.string ⟨r.toArray⟩] w fun e w' => e = .returned (.bool (r.all (plnB true))) ∧ Below w.heap.size w w' := by
  have HC := hide (contPln r)
  generalize r.all (plnB true) = b at *
  go_enter Tryz.func108, Tryz.ntmps108
  go_wp2_with (first
    | (go_at_call 128; refine (HC.out _).mono ?_; rintro e w1 ⟨rfl, hb1⟩; replace hb1 := hide hb1))
  go_ret
  exact ⟨by simp, hb1.out⟩
end Go.Proofs.YtdbmaobjikjifaaGreatDoorR

end
section
set_option linter.unusedSimpArgs false
set_option linter.unusedVariables false
namespace Go.Proofs.YtdbmaobjikjifaaGreatDoorR
open Go.RowKit Go.Shelf
attribute [local go_sem] Oper.semAt_some
/-- The package-level variable ErrName holds an error. -/
structure EN (w : World) (a : Addr) : Prop where
  cell : w.cell? ⟨3, 0, none⟩ = some (.iface 216 (.pointer (some a)))
  low : 3 < w.heap.size
theorem EN.below {w w' : World} {a : Addr} (h : EN w a) (hb : Below w.heap.size w w') : EN w' a := ⟨(hb.cell (p := ⟨3, 0, none⟩) h.low).trans h.cell, Nat.lt_of_lt_of_le h.low hb.size⟩
theorem idxAny_neg (ch : List UInt8) : ∀ l : List UInt8, (Lib.indexAny l ch = -1 ↔ l.any ch.contains = false) ∧ -1 ≤ Lib.indexAny l ch
  | [] => by simp [Lib.indexAny]
  | b :: l => by
    obtain ⟨h1, h2⟩ := idxAny_neg ch l
    unfold Lib.indexAny
    by_cases hc : ch.contains b = true
    · rw [if_pos hc, List.any_cons, hc]
      simp
    · have hc' : ch.contains b = false := by simpa using hc
      rw [if_neg hc, List.any_cons, hc', Bool.false_or]
      by_cases hi : Lib.indexAny l ch = -1
      · rw [if_pos (by simp [hi])]
        exact ⟨by rw [← h1]; simp [hi], by omega⟩
      · rw [if_neg (by simp [hi])]
        refine ⟨?_, by omega⟩
        rw [← h1]
        constructor <;> intro h <;> omega
theorem contAny_eq (l ch : List UInt8) : Lib.containsAny l ch = l.any ch.contains := by
  obtain ⟨h1, h2⟩ := idxAny_neg ch l
  unfold Lib.containsAny
  by_cases h : Lib.indexAny l ch = -1
  · rw [h1.1 h, decide_eq_false (by omega)]
  · have h3 : l.any ch.contains = true := by
      cases hx : l.any ch.contains with
      | true => rfl
      | false => exact absurd (h1.2 hx) h
    rw [h3, decide_eq_true (by omega)]
theorem star_cont (c : UInt8) : ([37, 42] : List UInt8).contains c = starB c := by
  rw [Bool.eq_iff_iff]
  simp [starB]
  exact Or.comm
theorem any_cont (s : List UInt8) : s.any ([37, 42] : List UInt8).contains = s.any starB := by
  congr 1
  exact funext star_cont
theorem contAny13 (s : List UInt8) (hs : s.length ≤ 60) (hp : s.all (plnB true) = true) (w : World) : Calls Tryz.prog 109 #[.string ⟨s.toArray⟩, .string ⟨#[37, 42]⟩] w fun e w' => e = .returned (.bool (s.any starB)) ∧ Below w.heap.size w w' := by
  have := Tryz.strings_ContainsAny_laid ⟨s.toArray⟩ ⟨#[37, 42]⟩ w (by rw [size_lit]; omega) (by decide) (fun j b hj => by
    have hm : b ∈ s := List.mem_of_getElem? (by simpa using hj)
    exact runeT_pln.lt b (List.all_eq_true.1 hp b hm)) (fun j b hj => by
    have hm : b ∈ ([37, 42] : List UInt8) := List.mem_of_getElem? (by simpa using hj)
    rcases List.mem_cons.1 hm with rfl | hm
    · decide
    · rw [List.mem_singleton] at hm; subst hm; decide)
  rw [← any_cont, ← contAny_eq]
  exact this
def boxV (o : Option (List UInt8)) (ea : Addr) : Ending := match o with
  | some n => .returned (.tuple #[.string ⟨n.toArray⟩, .nilIface])
  | none => .returned (.tuple #[.string ⟨#[]⟩, .iface 216 (.pointer (some ea))])
set_option maxRecDepth 20000 in
set_option maxHeartbeats 4000000 in
/-- A text that is refused before its parts are looked at. -/
theorem name_early (s : List UInt8) (w : World) (ea : Addr) (hE : EN w ea) (hs : s.length ≤ 1000000) (h : 60 < s.length ∨ (s.length ≤ 60 ∧ s.all (plnB true) = false) ∨ (s.length ≤ 60 ∧ s.all (plnB true) = true ∧ s.any starB = true)) :
    Calls Tryz.prog 65 #[.string ⟨s.toArray⟩] w fun e w' => e = .returned (.tuple #[.string ⟨#[]⟩, .iface 216 (.pointer (some ea))]) ∧ Below w.heap.size w w' := by
  have KEY : Hid (∀ w1 : World, Below w.heap.size w w1 → w1.cell? ⟨3, 0, none⟩ = some (.iface 216 (.pointer (some ea)))) := fun w1 hb => (hE.below hb).cell
  have hlow := hE.low
  have hne0 : ¬ w.heap.size = 3 := fun e => by omega
  have hne1 : ¬ 3 = w.heap.size := fun e => hne0 e.symm
  have hne2 : ¬ w.heap.size + 1 = 3 := fun e => by omega
  have hne3 : ¬ 3 = w.heap.size + 1 := fun e => hne2 e.symm
  clear hE
  have hsz := size_lit s
  have HP := hide (isPlain_any s)
  obtain ⟨W1, HW1⟩ : ∃ W1, Hid ((w.alloc (.cells #[.string ⟨#[]⟩] 9)).alloc (.cells #[.nilIface] 30) = W1) := ⟨_, hide rfl⟩
  have HB0 : Hid (Below w.heap.size w W1) := by show Below _ _ _; rw [← HW1.out]; exact ((Below.refl w.heap.size w).alloc (Nat.le_refl _) _).alloc (by simp) _
  have HK0 : Hid (Blk W1 w.heap.size #[.string ⟨#[]⟩] 9) := by show Blk _ _ _ _; rw [← HW1.out]; exact (Blk.new w _ _).alloc _
  have HK1 : Hid (Blk W1 (w.heap.size + 1) #[.nilIface] 30) := by show Blk _ _ _ _; rw [← HW1.out]; exact Blk.new1 w _ _ _
  rcases h with h | ⟨hl, hp⟩ | ⟨hl, hp, hst⟩
  · have hl' : (60 : Int) < s.length := by omega
    go_enter Tryz.func65, Tryz.ntmps65
    go_wp2_with fail
    rw [HW1.out]
    have hge := KEY.out _ HB0.out
    have hc := HK0.out.cell
    have hf := HK0.out.frozen
    have hc1 := HK1.out.cell
    have hf1 := HK1.out.frozen
    go_region
    all_goals
      go_wp2
      have h4 := ((HK0.out.set 0 (.string ⟨#[]⟩)).set_other ⟨w.heap.size + 1, 0, none⟩ (.iface 216 (.pointer (some ea))) (by simp)).cell
      have h5 := ((HK1.out.set_other ⟨w.heap.size, 0, none⟩ (.string ⟨#[]⟩) (by simp)).set 0 (.iface 216 (.pointer (some ea)))).cell
      exact bodyPost_ret (v := .tuple #[.string ⟨#[]⟩, .iface 216 (.pointer (some ea))]) (by simp [results, Tryz.results65, go_sem, h4, h5]) rfl ⟨rfl, ((HB0.out.setCell (p := ⟨w.heap.size, 0, none⟩) (Nat.le_refl _) _).setCell (p := ⟨w.heap.size + 1, 0, none⟩) (by simp) _).drew⟩
  · have hl' : ¬ (60 : Int) < s.length := by omega
    rw [hp] at HP
    go_enter Tryz.func65, Tryz.ntmps65
    go_wp2_with (first
      | (go_at_call 108; rw [HW1.out]; refine (HP.out _).mono ?_; rintro e w2 ⟨rfl, hbX⟩; replace hbX := hide hbX))
    have HBb := hide (HB0.out.trans (hbX.out.mono HB0.out.size))
    have HK0b := hide (HK0.out.below hbX.out HK0.out.lt)
    have HK1b := hide (HK1.out.below hbX.out HK1.out.lt)
    have hge := KEY.out _ HBb.out
    have hc := HK0b.out.cell
    have hf := HK0b.out.frozen
    have hc1 := HK1b.out.cell
    have hf1 := HK1b.out.frozen
    go_region
    all_goals
      go_wp2
      have h4 := ((HK0b.out.set 0 (.string ⟨#[]⟩)).set_other ⟨w.heap.size + 1, 0, none⟩ (.iface 216 (.pointer (some ea))) (by simp)).cell
      have h5 := ((HK1b.out.set_other ⟨w.heap.size, 0, none⟩ (.string ⟨#[]⟩) (by simp)).set 0 (.iface 216 (.pointer (some ea)))).cell
      exact bodyPost_ret (v := .tuple #[.string ⟨#[]⟩, .iface 216 (.pointer (some ea))]) (by simp [results, Tryz.results65, go_sem, h4, h5]) rfl ⟨rfl, ((HBb.out.setCell (p := ⟨w.heap.size, 0, none⟩) (Nat.le_refl _) _).setCell (p := ⟨w.heap.size + 1, 0, none⟩) (by simp) _).drew⟩
  · have hl' : ¬ (60 : Int) < s.length := by omega
    have HC := hide (contAny13 s hl hp)
    rw [hp] at HP
    rw [hst] at HC
    clear hst
    go_enter Tryz.func65, Tryz.ntmps65
    go_wp2_with (first
      | (go_at_call 108; rw [HW1.out]; refine (HP.out _).mono ?_; rintro e w2 ⟨rfl, hbY⟩; replace hbY := hide hbY)
      | (go_at_call 109; refine (HC.out _).mono ?_; rintro e w3 ⟨rfl, hb3⟩; replace hb3 := hide hb3))
    have hbX := hide (hbY.out.trans (hb3.out.mono hbY.out.size))
    have HBb := hide (HB0.out.trans (hbX.out.mono HB0.out.size))
    have HK0b := hide (HK0.out.below hbX.out HK0.out.lt)
    have HK1b := hide (HK1.out.below hbX.out HK1.out.lt)
    have hge := KEY.out _ HBb.out
    have hc := HK0b.out.cell
    have hf := HK0b.out.frozen
    have hc1 := HK1b.out.cell
    have hf1 := HK1b.out.frozen
    go_region
    all_goals
      go_wp2
      have h4 := ((HK0b.out.set 0 (.string ⟨#[]⟩)).set_other ⟨w.heap.size + 1, 0, none⟩ (.iface 216 (.pointer (some ea))) (by simp)).cell
      have h5 := ((HK1b.out.set_other ⟨w.heap.size, 0, none⟩ (.string ⟨#[]⟩) (by simp)).set 0 (.iface 216 (.pointer (some ea)))).cell
      exact bodyPost_ret (v := .tuple #[.string ⟨#[]⟩, .iface 216 (.pointer (some ea))]) (by simp [results, Tryz.results65, go_sem, h4, h5]) rfl ⟨rfl, ((HBb.out.setCell (p := ⟨w.heap.size, 0, none⟩) (Nat.le_refl _) _).setCell (p := ⟨w.heap.size + 1, 0, none⟩) (by simp) _).drew⟩
theorem leaveN {W w : World} {v1 v2 : Value} {tmps : Array Value} {r1 r2 : Nat} {Q : Ending → World → Prop} (h1 : Blk W r1 #[v1] 9) (h2 : Blk W r2 #[v2] 30) (hO : Q (.returned (.tuple #[v1, v2])) W)
    (ht1 : tmps[2]? = some (.pointer (some ⟨r1, 0, none⟩)) := by rfl) (ht2 : tmps[3]? = some (.pointer (some ⟨r2, 0, none⟩)) := by rfl) :
    LeavesInM Fence.wide 5 Tryz.prog Tryz.f65 tmps Q [] .returning W := by
  have c1 := h1.cell
  have c2 := h2.cell
  refine ⟨.tuple #[v1, v2], ?_, hO⟩
  simp [results, Tryz.results65, go_sem, ht1, ht2, c1, c2]
theorem sameT_inbox (s : List UInt8) : sameT s inboxU = decide (s.map lowB = inboxL) := by
  unfold sameT
  rw [show inboxU.map lowB = inboxL from by decide]
theorem boxO_plain {s : List UInt8} (hl : s.length ≤ 60) (hp : s.all (plnB true) = true) (hst : s.any starB = false) : boxO s = if (spc 47 s).all (fun p => !p.isEmpty) then some (if sameT s inboxU then inboxU else s) else none := by
  unfold boxO
  rw [box_prog s hl, hp, hst, sameT_inbox]
  simp
set_option maxRecDepth 20000 in
set_option maxHeartbeats 4000000 in
theorem name_main (s : List UInt8) (w : World) (ea : Addr) (hE : boxO s = none → EN w ea) (hl : s.length ≤ 60) (hp : s.all (plnB true) = true) (hst : s.any starB = false) :
    Calls Tryz.prog 65 #[.string ⟨s.toArray⟩] w fun e w' => e = boxV (boxO s) ea ∧ Below w.heap.size w w' := by
  have hl' : ¬ (60 : Int) < s.length := by omega
  have HBo := hide (boxO_plain hl hp hst)
  have HP := hide (isPlain_any s)
  have HC := hide (contAny13 s hl hp)
  rw [hp] at HP
  rw [hst] at HC
  have HEr := hide hE
  have hsz := size_lit s
  have HSm : Hid (∀ W, Calls Tryz.prog 111 #[.string ⟨s.toArray⟩, .string ⟨#[73, 78, 66, 79, 88]⟩] W fun e w' => e = .returned (.bool (sameT s inboxU)) ∧ Below W.heap.size W w') := fun W => hsame_any s inboxU W (by omega) (by decide)
  clear hE hp hst
  obtain ⟨W1, HW1⟩ : ∃ W1, Hid ((w.alloc (.cells #[.string ⟨#[]⟩] 9)).alloc (.cells #[.nilIface] 30) = W1) := ⟨_, hide rfl⟩
  have HB0 : Hid (Below w.heap.size w W1) := by show Below _ _ _; rw [← HW1.out]; exact ((Below.refl w.heap.size w).alloc (Nat.le_refl _) _).alloc (by simp) _
  have HK0 : Hid (Blk W1 w.heap.size #[.string ⟨#[]⟩] 9) := by show Blk _ _ _ _; rw [← HW1.out]; exact (Blk.new w _ _).alloc _
  have HK1 : Hid (Blk W1 (w.heap.size + 1) #[.nilIface] 30) := by show Blk _ _ _ _; rw [← HW1.out]; exact Blk.new1 w _ _ _
  refine (callsIn_wide (n := 5)).1 ?_
  refine callsIn_of_wp_marks Tryz.func65 rfl trivial ?_ rfl
  simp only [Tryz.ntmps65, List.size_toArray, List.length_cons, List.length_nil, Nat.reduceAdd, Nat.reduceSub, Array.replicate_succ, Array.replicate_zero, List.push_toArray, List.append_toArray, List.nil_append, List.cons_append]
  gi_wp2_with (first
    | (refine ⟨trivial, ?_⟩; gi_at_call 108; rw [HW1.out]; refine (callsIn_wide.2 (HP.out _)).mono ?_; rintro e w2 ⟨rfl, hb2⟩; replace hb2 := hide hb2)
    | (refine ⟨trivial, ?_⟩; gi_at_call 109; refine (callsIn_wide.2 (HC.out _)).mono ?_; rintro e w3 ⟨rfl, hb3⟩; replace hb3 := hide hb3)
    | (refine ⟨trivial, ?_⟩; gi_at_call 110; refine (callsIn_wide.2 (splitSeq_anyS 47 s _)).mono ?_; rintro e w' ⟨rfl, rfl⟩))
  have hbX := hb2.out.trans (hb3.out.mono hb2.out.size)
  have hbb := HB0.out.trans (hbX.mono HB0.out.size)
  have hk0 := HK0.out.below hbX HK0.out.lt
  have hk1 := HK1.out.below hbX HK1.out.lt
  have hH : w.heap.size + 2 ≤ w3.heap.size := by have := hk1.lt; omega
  obtain ⟨W0, hW0⟩ : ∃ W0, ((w3.alloc (.cells #[.string ⟨s.toArray⟩] 9)).alloc (.cells #[.string ⟨#[47]⟩] 9)).alloc (.cells #[.int .i64 0] 3) = W0 := ⟨_, rfl⟩
  have hsz0 : W0.heap.size = w3.heap.size + 3 := by rw [← hW0]; simp
  have hbW : Below w3.heap.size w3 W0 := by rw [← hW0]; exact (((Below.refl _ _).alloc (Nat.le_refl _) _).alloc (by simp) _).alloc (by simp; omega) _
  have hBs : Blk W0 w3.heap.size #[.string ⟨s.toArray⟩] 9 := by rw [← hW0]; exact ((Blk.new w3 _ _).alloc _).alloc _
  have hBp : Blk W0 (w3.heap.size + 1) #[.string ⟨#[47]⟩] 9 := by rw [← hW0]; exact (Blk.new_atS (by simp)).alloc _
  have hBq : Blk W0 (w3.heap.size + 2) #[.int .i64 0] 3 := by rw [← hW0]; exact Blk.new_atS (by simp)
  rw [hW0]
  clear hW0
  have hI0 : (Blk W0 w.heap.size #[.string ⟨#[]⟩] 9 ∧ Blk W0 (w.heap.size + 1) #[.nilIface] 30 ∧ Below w.heap.size w W0 ∧ (([] : List (List UInt8)).all (fun p => !p.isEmpty) = true)) := ⟨hk0.below hbW hk0.lt, hk1.below hbW hk1.lt, hbb.trans (hbW.mono hbb.size), rfl⟩
  have hsub : ∀ k, k < w3.heap.size → ¬ Own5S w3.heap.size (w3.heap.size + 1) (w3.heap.size + 2) W0.heap.size k := by rintro k hk (h | h | h | h | h) <;> omega
  clear hbX hbb hk0 hk1 hbW hb2 hb3 HB0 HK0 HK1
  have HSZ := hide hsz0
  clear hsz0
  refine range_splitS (c0 := 47) (by omega) (s := s) (Bs := w3.heap.size) (Bp := w3.heap.size + 1) (Bq := w3.heap.size + 2) (by omega) (by omega) (by omega) rfl rfl hBs hBp hBq
    (fun pre W => Blk W w.heap.size #[.string ⟨#[]⟩] 9 ∧ Blk W (w.heap.size + 1) #[.nilIface] 30 ∧ Below w.heap.size w W ∧ pre.all (fun p => !p.isEmpty) = true)
    (fun c W => c = .ret ∧ Blk W w.heap.size #[.string ⟨#[]⟩] 9 ∧ Blk W (w.heap.size + 1) #[.iface 216 (.pointer (some ea))] 30 ∧ Below w.heap.size w W ∧ boxO s = none)
    (fun pre W W' h hm => ⟨hm.blk h.1 (hsub _ (by omega)), hm.blk h.2.1 (hsub _ (by omega)), below_mvsS h.2.2.1 hm (fun k hk => hsub k (by omega)) (Nat.le_refl _), h.2.2.2⟩)
    (fun c W W' h hm => ⟨h.1, hm.blk h.2.1 (hsub _ (by omega)), hm.blk h.2.2.1 (hsub _ (by omega)), below_mvsS h.2.2.2.1 hm (fun k hk => hsub k (by omega)) (Nat.le_refl _), h.2.2.2.2⟩) hI0
    (fun x => { tmps := #[.string ⟨s.toArray⟩, undef, .pointer (some ⟨w.heap.size, 0, none⟩), .pointer (some ⟨w.heap.size + 1, 0, none⟩), .string ⟨x.toArray⟩, .string ⟨s.toArray⟩, .int .i64 s.length, .bool false, .bool false, .string ⟨s.toArray⟩, .bool true, .bool false, .bool false, .bool false, .string ⟨s.toArray⟩, .bool false, .bool false, undef, .string ⟨s.toArray⟩,
      .func (.func 168) #[] #[.pointer (some ⟨w3.heap.size + 1, 0, none⟩), .pointer (some ⟨w3.heap.size, 0, none⟩), .pointer (some ⟨w3.heap.size + 2, 0, none⟩)], .string ⟨x.toArray⟩, undef, undef, undef, undef, undef, undef], defers := [] }) ?assign ?body ?done ?stop
  case assign =>
    intro l x W K hK
    gi_wp2
    exact hK
  case body =>
    rintro l pre x W ⟨h1, h2, h3, h4⟩ hpost hlt
    by_cases hx : x = []
    · subst hx
      have HBAD : Hid (boxO s = none) := by
        show _ = _
        obtain ⟨post, hpp⟩ := hpost
        rw [HBo.out, ← hpp]
        simp
      have hce : W.cell? ⟨3, 0, none⟩ = some ((.iface 216 (.pointer (some ea)))) :=
        (h3.cell (p := ⟨3, 0, none⟩) (HEr.out HBAD.out).low).trans (HEr.out HBAD.out).cell
      have hle : 3 < w.heap.size := (HEr.out HBAD.out).low
      have q2 := h1.cell 0
      have q2f := h1.frozen 0
      have q3 := h2.cell 0
      have q3f := h2.frozen 0
      have B2 := hide h1
      have B3 := hide h2
      have B5 := hide h3
      clear h1 h2 h3 h4 hpost
      gi_wp2
      refine regionI 2 (fun W => W.cell? ⟨3, 0, none⟩ = some ((.iface 216 (.pointer (some ea))))) (by kernel_rfl) (by kernel_rfl) ?_
      have HT0 : W.drew.cell? ⟨3, 0, none⟩ = some ((.iface 216 (.pointer (some ea)))) := hce
      refine takeL (i := 0) (v := (.iface 216 (.pointer (some ea)))) rfl (by kernel_rfl) (by kernel_rfl) (by kernel_rfl) (by kernel_rfl) (by kernel_rfl) (fun _ _ _ h => absurd h.1 (by simp)) HT0 (Or.inl ⟨by rfl, fun W hW => by go_simp⟩) ?_
      simp only [Act.put, List.getElem_toArray, List.getElem_cons_succ, List.getElem_cons_zero, List.setIfInBounds_toArray, List.set_cons_zero, List.set_cons_succ]
      refine readyL (rs := [1]) (by kernel_rfl) (by simp) ?_
      refine AllL.cons rfl (fun K hK => ?_) AllL.nil
      try simp only [List.getElem_toArray, List.getElem_cons_succ, List.getElem_cons_zero]
      go_simp
      refine hK.out _ _ (fun _ => ?_) (fun HTn => ?_)
      · show (W.setCell ⟨w.heap.size, 0, none⟩ (.string ⟨#[]⟩)).cell? ⟨3, 0, none⟩ = _
        rw [World.cell?_setCell_other]
        · exact HT0
        · intro e
          have := congrArg Addr.block e
          dsimp only at this
          omega
      clear hK K
      refine readyL (rs := [2]) (by kernel_rfl) (by simp) ?_
      refine AllL.cons rfl (fun K hK => ?_) AllL.nil
      have q3' : (W.setCell ⟨w.heap.size, 0, none⟩ (.string ⟨#[]⟩)).drew.cell? ⟨w.heap.size + 1, 0, none⟩ = some .nilIface := (B3.out.set_other ⟨w.heap.size, 0, none⟩ (.string ⟨#[]⟩) (by simp)).cell 0
      have q3f' : (W.setCell ⟨w.heap.size, 0, none⟩ (.string ⟨#[]⟩)).drew.frozen? ⟨w.heap.size + 1, 0, none⟩ = false := (B3.out.set_other ⟨w.heap.size, 0, none⟩ (.string ⟨#[]⟩) (by simp)).frozen 0
      try simp only [List.getElem_toArray, List.getElem_cons_succ, List.getElem_cons_zero]
      go_simp
      refine hK.out _ _ (vac (by kernel_rfl)) (fun _ => ?_)
      clear hK K HT0
      refine doneL (by kernel_rfl) ⟨rfl, ?_⟩ _
      gi_wp2
      refine ⟨fun k hk => ?_, rfl, ?_, ?_, ?_, HBAD.out⟩
      · have hk3 : ¬ k < w3.heap.size := fun h => hsub k h hk
        exact (heap_setCell_otherS (by omega)).trans ((heap_setCell_otherS (by omega)).trans rfl)
      · exact (B2.out.set 0 _).set_other _ _ (by simp)
      · exact (B3.out.set_other _ _ (by simp)).set 0 _
      · exact ((B5.out.drew).setCell (p := ⟨w.heap.size, 0, none⟩) (by simp) _).setCell (p := ⟨w.heap.size + 1, 0, none⟩) (by simp) _
    · have hxe : x.isEmpty = false := by simpa using hx
      have hxe2 : (x == []) = false := beq_eq_false_iff_ne.2 hx
      have HJ : Hid ((pre ++ [x]).all (fun p => !p.isEmpty) = true) := by
        show _ = _
        rw [List.all_append, h4]
        simp [hx]
      have H1 := hide h1
      have H2 := hide h2
      have H3 := hide h3
      clear h1 h2 h3 h4 hpost hx
      gi_wp2
      exact ⟨fun k hk => rfl, H1.out, H2.out, H3.out, HJ.out⟩
  case done =>
    rintro W ⟨h1, h2, h3, h4⟩ hK
    have hWs := (Array.getElem?_eq_some_iff.1 hK).1
    have HBo2 : Hid (boxO s = some (if sameT s inboxU then inboxU else s)) := by
      show _ = _
      rw [HBo.out, h4, if_pos rfl]
    have H1 := hide h1
    have H2 := hide h2
    have H3 := hide h3
    have HK := hide hK
    clear h1 h2 h3 h4 hK HBo
    cases hsm : sameT s inboxU with
    | true =>
      rw [hsm] at HSm HBo2
      clear hsm
      gi_wp2_with (first
        | (refine ⟨trivial, ?_⟩; gi_at_call 111; refine (callsIn_wide.2 (HSm.out _)).mono ?_; rintro e w5 ⟨rfl, hb5⟩; have k1 := H1.out.below hb5 H1.out.lt; have k2 := H2.out.below hb5 H2.out.lt; have q1 := k1.cell 0; have q1f := k1.frozen 0; have q2 := k2.cell 0; have q2f := k2.frozen 0; replace k1 := hide k1; replace k2 := hide k2; replace hb5 := hide hb5))
      have hsz0 := HSZ.out
      have hK5 : ((w5.setCell ⟨w.heap.size, 0, none⟩ (.string ⟨#[73, 78, 66, 79, 88]⟩)).setCell ⟨w.heap.size + 1, 0, none⟩ .nilIface).heap[W0.heap.size]? = some (.deferred (some [])) := (heap_setCell_otherS (by omega)).trans ((heap_setCell_otherS (by omega)).trans ((hb5.out.block _ hWs).trans HK.out))
      have h1' := (k1.out.set 0 (.string ⟨#[73, 78, 66, 79, 88]⟩)).set_other ⟨w.heap.size + 1, 0, none⟩ .nilIface (by simp)
      have h2' := (k2.out.set_other ⟨w.heap.size, 0, none⟩ (.string ⟨#[73, 78, 66, 79, 88]⟩) (by simp)).set 0 .nilIface
      have hbF := ((H3.out.trans (hb5.out.mono H3.out.size)).setCell (p := ⟨w.heap.size, 0, none⟩) (by simp) (.string ⟨#[73, 78, 66, 79, 88]⟩)).setCell (p := ⟨w.heap.size + 1, 0, none⟩) (by simp) .nilIface
      refine ⟨by simp, .inl ⟨_, _, rfl, run_takeDeferred hK5, ?_⟩⟩
      exact leaveN (w := w) (h1'.putObjS _ (by omega)) (h2'.putObjS _ (by omega)) ⟨by rw [HBo2.out]; rfl, hbF.trans (belowK_b (w := w) (Nat.le_refl _) _ _ _ _ (by omega) hK5 rfl rfl)⟩
    | false =>
      rw [hsm] at HSm HBo2
      clear hsm
      gi_wp2_with (first
        | (refine ⟨trivial, ?_⟩; gi_at_call 111; refine (callsIn_wide.2 (HSm.out _)).mono ?_; rintro e w5 ⟨rfl, hb5⟩; have k1 := H1.out.below hb5 H1.out.lt; have k2 := H2.out.below hb5 H2.out.lt; have q1 := k1.cell 0; have q1f := k1.frozen 0; have q2 := k2.cell 0; have q2f := k2.frozen 0; replace k1 := hide k1; replace k2 := hide k2; replace hb5 := hide hb5))
      have hsz0 := HSZ.out
      have hK5 : ((w5.setCell ⟨w.heap.size, 0, none⟩ (.string ⟨s.toArray⟩)).setCell ⟨w.heap.size + 1, 0, none⟩ .nilIface).heap[W0.heap.size]? = some (.deferred (some [])) := (heap_setCell_otherS (by omega)).trans ((heap_setCell_otherS (by omega)).trans ((hb5.out.block _ hWs).trans HK.out))
      have h1' := (k1.out.set 0 (.string ⟨s.toArray⟩)).set_other ⟨w.heap.size + 1, 0, none⟩ .nilIface (by simp)
      have h2' := (k2.out.set_other ⟨w.heap.size, 0, none⟩ (.string ⟨s.toArray⟩) (by simp)).set 0 .nilIface
      have hbF := ((H3.out.trans (hb5.out.mono H3.out.size)).setCell (p := ⟨w.heap.size, 0, none⟩) (by simp) (.string ⟨s.toArray⟩)).setCell (p := ⟨w.heap.size + 1, 0, none⟩) (by simp) .nilIface
      refine ⟨by simp, .inl ⟨_, _, rfl, run_takeDeferred hK5, ?_⟩⟩
      exact leaveN (w := w) (h1'.putObjS _ (by omega)) (h2'.putObjS _ (by omega)) ⟨by rw [HBo2.out]; rfl, hbF.trans (belowK_b (w := w) (Nat.le_refl _) _ _ _ _ (by omega) hK5 rfl rfl)⟩
  case stop =>
    rintro c W ⟨rfl, h1, h2, hbW, ha⟩ hK
    have HD := hide ha
    gi_wp2
    have hsz0 := HSZ.out
    refine ⟨by simp, .inl ⟨_, _, rfl, run_takeDeferred hK, ?_⟩⟩
    exact leaveN (w := w) (h1.putObjS _ (by omega)) (h2.putObjS _ (by omega)) ⟨by rw [HD.out]; rfl, hbW.trans (belowK_b (w := w) (Nat.le_refl _) W _ _ _ (by omega) hK rfl rfl)⟩
theorem name_any (s : List UInt8) (w : World) (ea : Addr) (hE : boxO s = none → EN w ea) (hs : s.length ≤ 1000000) :
    Calls Tryz.prog 65 #[.string ⟨s.toArray⟩] w fun e w' => e = boxV (boxO s) ea ∧ Below w.heap.size w w' := by
  have early : (60 < s.length ∨ (s.length ≤ 60 ∧ s.all (plnB true) = false) ∨ (s.length ≤ 60 ∧ s.all (plnB true) = true ∧ s.any starB = true)) → Calls Tryz.prog 65 #[.string ⟨s.toArray⟩] w fun e w' => e = boxV (boxO s) ea ∧ Below w.heap.size w w' := fun h => by
    have hn : boxO s = none := by
      have hb : boxB s = false := by
        rcases h with h | ⟨hl, hp⟩ | ⟨hl, hp, hst⟩
        · exact box_short (.inr h)
        · rw [box_prog s hl, hp]; rfl
        · rw [box_prog s hl, hp, hst]; rfl
      unfold boxO
      rw [hb]
      rfl
    rw [hn]
    exact name_early s w ea (hE hn) hs h
  by_cases hl : s.length ≤ 60
  · cases hp : s.all (plnB true) with
    | false => exact early (.inr (.inl ⟨hl, hp⟩))
    | true =>
      cases hst : s.any starB with
      | true => exact early (.inr (.inr ⟨hl, hp, hst⟩))
      | false => exact name_main s w ea hE hl hp hst
  · exact early (.inl (by omega))
end Go.Proofs.YtdbmaobjikjifaaGreatDoorR

end
