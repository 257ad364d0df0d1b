/- isNobody, pathOf, Take and Parse of package path. -/
import Derived.Test.YtppipfjnichikaaDoorPa5
import Derived.Test.YtppipfjnichikaaDoorNum
import Derived.LaidEql
namespace Go.Proofs.YtppipfjnichikaaDoor
open Go.RowKit Go.Shelf
theorem lt_size_alloc (w : World) (o : Obj) : w.heap.size < (w.alloc o).heap.size := by simp
theorem lt_of_alloc {w w2 : World} {o : Obj} (h : Below (w.alloc o).heap.size (w.alloc o) w2) : w.heap.size < w2.heap.size := Nat.lt_of_lt_of_le (lt_size_alloc w o) h.size
def nobB (l d : List UInt8) : Bool := l.isEmpty && d.isEmpty
theorem nobody_any (l d : List UInt8) (w : World) : Calls Tryd.prog 26 #[.agg #[.string ⟨l.toArray⟩, .string ⟨d.toArray⟩]] w fun e w' => e = .returned (.bool (nobB l d)) ∧ Below w.heap.size w w' := by
  go_enter Tryd.func26, Tryd.ntmps26
  go_wp2
  all_goals
    go_ret
    exact ⟨by simp [nobB, *], (Below.refl _ _).alloc (Nat.le_refl _) _⟩
def pathO (bare : List UInt8) : List UInt8 × List UInt8 × Bool := if bare = [] then ([], [], true) else ((cutV 64 bare).1, (cutV 64 bare).2.1, somB (cutV 64 bare).1 (cutV 64 bare).2.1)
set_option maxHeartbeats 1000000 in
theorem pathOf_any (s : List UInt8) (w : World) (hs : s.length ≤ 1000000) : Calls Tryd.prog 24 #[.string ⟨s.toArray⟩] w fun e w' => e = .returned (.tuple #[.agg #[.string ⟨(pathO s).1.toArray⟩, .string ⟨(pathO s).2.1.toArray⟩], .bool (pathO s).2.2]) ∧ Below w.heap.size w w' := by
  by_cases h0 : s = []
  · subst h0
    go_enter Tryd.func24, Tryd.ntmps24
    go_wp2
    exact bodyPost_ret (v := .tuple #[.agg #[.string ⟨#[]⟩, .string ⟨#[]⟩], .bool true]) (by simp [results, Tryd.results24, go_sem]) rfl ⟨rfl, (Below.refl _ _).alloc (Nat.le_refl _) _⟩
  · have hcl := cutV_len 64 s
    have HC := hide (fun w => cut_any 64 s w hs)
    have hp : pathO s = ((cutV 64 s).1, (cutV 64 s).2.1, somB (cutV 64 s).1 (cutV 64 s).2.1) := if_neg h0
    rw [hp]
    clear hp
    generalize cutV 64 s = t at *
    obtain ⟨p, q, f⟩ := t
    simp only at hcl
    have HS := hide (fun w => somebody_any p q w (by omega) (by omega))
    have hne : s.isEmpty = false := by simpa using h0
    clear h0
    generalize somB p q = v at *
    go_enter Tryd.func24, Tryd.ntmps24
    go_wp2_with (first
      | (go_at_call 23; refine (HC.out _).mono ?_; rintro e w2 ⟨rfl, hb2⟩; have hc2 := fun o => hb2.cell (p := ⟨w.heap.size, o, none⟩) (by simp); have hz2 := hb2.size; have hz2' : w.heap.size < w2.heap.size := by simp at hz2; omega
         replace hb2 := hide hb2))
    obtain ⟨W0, hW0⟩ : ∃ W0, w2.alloc (.cells #[.string ⟨p.toArray⟩, .string ⟨q.toArray⟩] 24) = W0 := ⟨_, rfl⟩
    have hb0 : Below w.heap.size w W0 := by rw [← hW0]; exact (((Below.refl _ _).alloc (Nat.le_refl _) _).trans (hb2.out.mono (by simp))).alloc (by omega) _
    have hB1 : Blk W0 w.heap.size #[.string ⟨#[]⟩, .string ⟨#[]⟩] 24 := by rw [← hW0]; exact ((Blk.new w _ _).below hb2.out (by simp)).alloc _
    have hB2 : Blk W0 w2.heap.size #[.string ⟨p.toArray⟩, .string ⟨q.toArray⟩] 24 := by rw [← hW0]; exact Blk.new w2 _ _
    rw [hW0]
    have HS2 : Hid (∀ w', Below W0.heap.size W0 w' → Calls Tryd.prog 27 #[.agg #[.string ⟨p.toArray⟩, .string ⟨q.toArray⟩]] w' fun e w'' => e = .returned (.bool v) ∧ (∀ o, w''.cell? ⟨w.heap.size, o, none⟩ = #[Value.string ⟨#[]⟩, Value.string ⟨#[]⟩][o]?) ∧ (∀ o, w''.frozen? ⟨w.heap.size, o, none⟩ = false) ∧ (∀ o, w''.cell? ⟨w2.heap.size, o, none⟩ = #[Value.string ⟨p.toArray⟩, Value.string ⟨q.toArray⟩][o]?) ∧ Hid (Blk w'' w.heap.size #[.string ⟨#[]⟩, .string ⟨#[]⟩] 24) ∧ Hid (Below w.heap.size w w'')) := by
      intro w' hw'
      refine (HS.out w').mono ?_
      rintro e w'' ⟨rfl, hb''⟩
      have hb := hw'.trans (hb''.mono hw'.size)
      have k1 := hB1.below hb hB1.lt
      have k2 := hB2.below hb hB2.lt
      exact ⟨rfl, k1.cell, k1.frozen, k2.cell, k1, hb0.trans (hb.mono hb0.size)⟩
    have c1 := hB1.cell
    have f1 := hB1.frozen
    have c2 := hB2.cell
    have HB0 := hide (Below.refl W0.heap.size W0)
    clear hW0 hB1 hB2 HS HC
    go_region_with (go_at_call 27; refine (HS2.out _ HB0.out.drew).mono ?_; rintro e w3 ⟨rfl, hc3, hf3, hd3, hk3, hb3⟩)
    all_goals
      go_wp2
      have h4 := ((hk3.out.set 0 (.string ⟨p.toArray⟩)).set 1 (.string ⟨q.toArray⟩)).cell
      exact bodyPost_ret (v := .tuple #[.agg #[.string ⟨p.toArray⟩, .string ⟨q.toArray⟩], .bool v]) (by simp [results, Tryd.results24, go_sem, h4]) rfl ⟨rfl, (hb3.out.setCell (p := ⟨w.heap.size, 0, none⟩) (Nat.le_refl _) _).setCell (p := ⟨w.heap.size, 1, none⟩) (Nat.le_refl _) _⟩
def preV : List UInt8 → List UInt8 × Bool
  | [] => ([], false)
  | c :: t => if c = 60 then (t, true) else (c :: t, false)
theorem pre_any (s : List UInt8) (w : World) : Calls Tryd.prog 22 #[.string ⟨s.toArray⟩, .string ⟨#[60]⟩] w fun e w' => e = .returned (.tuple #[.string ⟨(preV s).1.toArray⟩, .bool (preV s).2]) ∧ w' = w := by
  refine (Tryd.strings_CutPrefix ⟨s.toArray⟩ ⟨#[60]⟩ w).mono ?_
  rintro e w' ⟨rfl, rfl⟩
  refine ⟨?_, rfl⟩
  cases s with
  | nil => rfl
  | cons c t =>
    by_cases h : c = 60
    · subst h
      simp [preV, Lib.trimPrefix, Lib.hasPrefix]
    · have h' : ¬ 60 = c := fun e => h e.symm
      have h2 : ([60] : List UInt8).isPrefixOf (c :: t) = false := by
        simp [List.isPrefixOf, h']
      simp [preV, Lib.trimPrefix, Lib.hasPrefix, h, h2]
theorem preV_len (s : List UInt8) : (preV s).1.length ≤ s.length := by
  cases s with
  | nil => simp [preV]
  | cons c t =>
    simp only [preV]
    split <;> simp
/-- The path at a text's beginning, and what is behind it. -/
def takeO (s : List UInt8) : Option (List UInt8 × List UInt8 × List UInt8) :=
  if (preV s).2 && (cutV 62 (preV s).1).2.2 && (pathO (cutV 62 (preV s).1).1).2.2 then some ((pathO (cutV 62 (preV s).1).1).1, (pathO (cutV 62 (preV s).1).1).2.1, (cutV 62 (preV s).1).2.1) else none
def takeV (a : Nat → Addr) : Option (List UInt8 × List UInt8 × List UInt8) → Value
  | some (l, d, r) => .tuple #[.agg #[.string ⟨l.toArray⟩, .string ⟨d.toArray⟩], .string ⟨r.toArray⟩, .nilIface]
  | none => .tuple #[.agg #[.string ⟨#[]⟩, .string ⟨#[]⟩], .string ⟨#[]⟩, errV a 1]
set_option maxHeartbeats 1000000 in
theorem take_any (s : List UInt8) (w : World) (a : Nat → Addr) (hs : s.length ≤ 1000000) (hE : takeO s = none → Errs w a) :
    Calls Tryd.prog 10 #[.string ⟨s.toArray⟩] w fun e w' => e = .returned (takeV a (takeO s)) ∧ Below w.heap.size w w' := by
  have HP := hide (pre_any s)
  have hl1 := preV_len s
  have hl2 := cutV_len 62 (preV s).1
  have HC := hide (fun w => cut_any 62 (preV s).1 w (by omega))
  have HO := hide (fun w => pathOf_any (cutV 62 (preV s).1).1 w (by omega))
  unfold takeO at hE ⊢
  clear hl1 hl2
  generalize pathO (cutV 62 (preV s).1).1 = t3 at *
  generalize cutV 62 (preV s).1 = t2 at *
  generalize preV s = t1 at *
  obtain ⟨inner, begun⟩ := t1
  obtain ⟨bare, rest, ended⟩ := t2
  obtain ⟨l, d, ok⟩ := t3
  simp only at HP HC HO hE ⊢
  have key : ∀ w1 : World, Below w.heap.size w w1 → Errs w a → w1.cell? ⟨0, 0, none⟩ = some (.iface 85 (.pointer (some (a 1)))) := fun w1 hb h => (h.below hb).cell 1 (by decide)
  have KEY := hide key
  clear key
  cases begun with
  | false =>
    have HE := hide (hE rfl)
    clear hE HO
    go_enter Tryd.func10, Tryd.ntmps10
    go_wp2_with (first
      | (go_at_call 22; refine (HP.out _).mono ?_; rintro e w2 ⟨rfl, rfl⟩)
      | (go_at_call 23; refine (HC.out _).mono ?_; rintro e w2 ⟨rfl, hb2⟩; replace hb2 := hide hb2))
    have hb3 := ((Below.refl w.heap.size w).alloc (Nat.le_refl _) _).trans (hb2.out.mono (by simp))
    have hB := (Blk.new w #[.string ⟨#[]⟩, .string ⟨#[]⟩] 24).below hb2.out (by simp)
    have hge := KEY.out _ hb3 HE.out
    have hc := hB.cell
    have hf := hB.frozen
    replace hb3 := hide hb3
    replace hB := hide hB
    have hlow := HE.out.low 1 (by decide)
    have hne0 : ¬ w.heap.size = 0 := fun e => by
      have e2 : gno 1 = 0 := rfl
      omega
    have hne1 : ¬ 0 = w.heap.size := fun e => hne0 e.symm
    go_region
    all_goals
      go_wp2
      have h4 := ((hB.out.set 0 (.string ⟨#[]⟩)).set 1 (.string ⟨#[]⟩)).cell
      exact bodyPost_ret (v := .tuple #[.agg #[.string ⟨#[]⟩, .string ⟨#[]⟩], .string ⟨#[]⟩, errV a 1]) (by simp [results, Tryd.results10, go_sem, h4, errV]) rfl ⟨rfl, ((hb3.out.setCell (p := ⟨w.heap.size, 0, none⟩) (Nat.le_refl _) _).setCell (p := ⟨w.heap.size, 1, none⟩) (Nat.le_refl _) _).drew⟩
  | true =>
    cases ended with
    | false =>
      have HE := hide (hE rfl)
      clear hE HO
      go_enter Tryd.func10, Tryd.ntmps10
      go_wp2_with (first
        | (go_at_call 22; refine (HP.out _).mono ?_; rintro e w2 ⟨rfl, rfl⟩)
        | (go_at_call 23; refine (HC.out _).mono ?_; rintro e w2 ⟨rfl, hb2⟩; replace hb2 := hide hb2))
      have hb3 := ((Below.refl w.heap.size w).alloc (Nat.le_refl _) _).trans (hb2.out.mono (by simp))
      have hB := (Blk.new w #[.string ⟨#[]⟩, .string ⟨#[]⟩] 24).below hb2.out (by simp)
      have hge := KEY.out _ hb3 HE.out
      have hc := hB.cell
      have hf := hB.frozen
      replace hb3 := hide hb3
      replace hB := hide hB
      have hlow := HE.out.low 1 (by decide)
      have hne0 : ¬ w.heap.size = 0 := fun e => by
        have e2 : gno 1 = 0 := rfl
        omega
      have hne1 : ¬ 0 = w.heap.size := fun e => hne0 e.symm
      go_region
      all_goals
        go_wp2
        have h4 := ((hB.out.set 0 (.string ⟨#[]⟩)).set 1 (.string ⟨#[]⟩)).cell
        exact bodyPost_ret (v := .tuple #[.agg #[.string ⟨#[]⟩, .string ⟨#[]⟩], .string ⟨#[]⟩, errV a 1]) (by simp [results, Tryd.results10, go_sem, h4, errV]) rfl ⟨rfl, ((hb3.out.setCell (p := ⟨w.heap.size, 0, none⟩) (Nat.le_refl _) _).setCell (p := ⟨w.heap.size, 1, none⟩) (Nat.le_refl _) _).drew⟩
    | true =>
      cases ok with
      | false =>
        have HE := hide (hE rfl)
        clear hE
        go_enter Tryd.func10, Tryd.ntmps10
        go_wp2_with (first
          | (go_at_call 22; refine (HP.out _).mono ?_; rintro e w2 ⟨rfl, rfl⟩)
          | (go_at_call 23; refine (HC.out _).mono ?_; rintro e w2 ⟨rfl, hb2⟩; replace hb2 := hide hb2)
          | (go_at_call 24; refine (HO.out _).mono ?_; rintro e w5 ⟨rfl, hb5⟩; replace hb5 := hide hb5))
        have hb30 := ((Below.refl w.heap.size w).alloc (Nat.le_refl _) _).trans (hb2.out.mono (by simp))
        have hB0 := (Blk.new w #[.string ⟨#[]⟩, .string ⟨#[]⟩] 24).below hb2.out (by simp)
        have hb31 := (hb30.trans (hb5.out.mono hb30.size)).alloc (Nat.le_trans hb30.size hb5.out.size) (.cells #[.string ⟨l.toArray⟩, .string ⟨d.toArray⟩] 24)
        have hB1 := (hB0.below hb5.out hB0.lt).alloc (.cells #[.string ⟨l.toArray⟩, .string ⟨d.toArray⟩] 24)
        obtain ⟨W0, hW0⟩ : ∃ W0, w5.alloc (.cells #[.string ⟨l.toArray⟩, .string ⟨d.toArray⟩] 24) = W0 := ⟨_, rfl⟩
        rw [hW0] at hb31 hB1 ⊢
        clear hW0
        have hb3 := hb31
        have hB := hB1
        clear hb31 hB1 hb30 hB0
        have hge := KEY.out _ hb3 HE.out
        have hc := hB.cell
        have hf := hB.frozen
        replace hb3 := hide hb3
        replace hB := hide hB
        have hlow := HE.out.low 1 (by decide)
        have hne0 : ¬ w.heap.size = 0 := fun e => by
          have e2 : gno 1 = 0 := rfl
          omega
        have hne1 : ¬ 0 = w.heap.size := fun e => hne0 e.symm
        go_region
        all_goals
          go_wp2
          have h4 := ((hB.out.set 0 (.string ⟨#[]⟩)).set 1 (.string ⟨#[]⟩)).cell
          exact bodyPost_ret (v := .tuple #[.agg #[.string ⟨#[]⟩, .string ⟨#[]⟩], .string ⟨#[]⟩, errV a 1]) (by simp [results, Tryd.results10, go_sem, h4, errV]) rfl ⟨rfl, ((hb3.out.setCell (p := ⟨w.heap.size, 0, none⟩) (Nat.le_refl _) _).setCell (p := ⟨w.heap.size, 1, none⟩) (Nat.le_refl _) _).drew⟩
      | true =>
        clear hE KEY
        rw [if_pos (show (true && true && true) = true from rfl)]
        go_enter Tryd.func10, Tryd.ntmps10
        go_wp2_with (first
          | (go_at_call 22; refine (HP.out _).mono ?_; rintro e w2 ⟨rfl, rfl⟩)
          | (go_at_call 23; refine (HC.out _).mono ?_; rintro e w2 ⟨rfl, hb2⟩; replace hb2 := hide hb2)
          | (go_at_call 24; refine (HO.out _).mono ?_; rintro e w5 ⟨rfl, hb5⟩
             have hB0 := (((Blk.new w #[.string ⟨#[]⟩, .string ⟨#[]⟩] 24).below hb2.out (lt_size_alloc _ _))).below hb5 (lt_of_alloc hb2.out)
             have hlt5 := hB0.lt
             have hc5 := hB0.cell
             have hf5 := hB0.frozen
             replace hb5 := hide hb5
             replace hB0 := hide hB0))
        have h4 := (((hB0.out.set 0 (.string ⟨l.toArray⟩)).set 1 (.string ⟨d.toArray⟩)).alloc (.cells #[.string ⟨l.toArray⟩, .string ⟨d.toArray⟩] 24)).cell
        have hb30 := ((Below.refl w.heap.size w).alloc (Nat.le_refl _) _).trans (hb2.out.mono (by simp))
        have hb31 := (((hb30.trans (hb5.out.mono hb30.size)).setCell (p := ⟨w.heap.size, 0, none⟩) (Nat.le_refl _) (.string ⟨l.toArray⟩)).setCell (p := ⟨w.heap.size, 1, none⟩) (Nat.le_refl _) (.string ⟨d.toArray⟩)).alloc (by simp; omega) (.cells #[.string ⟨l.toArray⟩, .string ⟨d.toArray⟩] 24)
        exact bodyPost_ret (v := .tuple #[.agg #[.string ⟨l.toArray⟩, .string ⟨d.toArray⟩], .string ⟨rest.toArray⟩, .nilIface]) (by simp [results, Tryd.results10, go_sem, h4]) rfl ⟨rfl, hb31⟩
/-- The path of a text. -/
def parseO (s : List UInt8) : Option (List UInt8 × List UInt8) := match takeO s with
  | some (l, d, []) => some (l, d)
  | _ => none
def parseV (a : Nat → Addr) : Option (List UInt8 × List UInt8) → Value
  | some (l, d) => .tuple #[.agg #[.string ⟨l.toArray⟩, .string ⟨d.toArray⟩], .nilIface]
  | none => .tuple #[.agg #[.string ⟨#[]⟩, .string ⟨#[]⟩], errV a 1]
theorem parse_no {s : List UInt8} {w : World} {a : Nat → Addr} {v : Value} {l d r : List UInt8} (hT : ∀ w', Below w.heap.size w w' → Calls Tryd.prog 10 #[.string ⟨s.toArray⟩] w' fun e w'' => e = .returned (.tuple #[.agg #[.string ⟨l.toArray⟩, .string ⟨d.toArray⟩], .string ⟨r.toArray⟩, v]) ∧ Below w'.heap.size w' w'') (hv : (v = errV a 1) ∨ (v = .nilIface ∧ r.isEmpty = false)) (hE : Errs w a) :
    Calls Tryd.prog 9 #[.string ⟨s.toArray⟩] w fun e w' => e = .returned (.tuple #[.agg #[.string ⟨#[]⟩, .string ⟨#[]⟩], errV a 1]) ∧ Below w.heap.size w w' := by
  have key : ∀ w1 : World, Below w.heap.size w w1 → w1.cell? ⟨0, 0, none⟩ = some (.iface 85 (.pointer (some (a 1)))) := fun w1 hb => (hE.below hb).cell 1 (by decide)
  have KEY := hide key
  have HT := hide hT
  have hlow := hE.low 1 (by decide)
  have hne0 : ¬ w.heap.size = 0 := fun e => by
    have e2 : gno 1 = 0 := rfl
    omega
  have hne1 : ¬ 0 = w.heap.size := fun e => hne0 e.symm
  have HB0 := hide ((Below.refl w.heap.size w).alloc (Nat.le_refl _) (.cells #[.string ⟨#[]⟩, .string ⟨#[]⟩] 24))
  clear key hT hE
  rcases hv with rfl | ⟨rfl, hr⟩
  · unfold errV at HT
    go_enter Tryd.func9, Tryd.ntmps9
    go_wp2_with (first
      | (go_at_call 10; refine (HT.out _ HB0.out).mono ?_; rintro e w5 ⟨rfl, hb5⟩; replace hb5 := hide hb5))
    have hb3 := (HB0.out.trans (hb5.out.mono HB0.out.size)).alloc (Nat.le_trans HB0.out.size hb5.out.size) (.cells #[.string ⟨l.toArray⟩, .string ⟨d.toArray⟩] 24)
    have hB := (((Blk.new w #[.string ⟨#[]⟩, .string ⟨#[]⟩] 24).below hb5.out (lt_size_alloc _ _))).alloc (.cells #[.string ⟨l.toArray⟩, .string ⟨d.toArray⟩] 24)
    obtain ⟨W0, hW0⟩ : ∃ W0, w5.alloc (.cells #[.string ⟨l.toArray⟩, .string ⟨d.toArray⟩] 24) = W0 := ⟨_, rfl⟩
    rw [hW0] at hb3 hB ⊢
    clear hW0
    have hge := KEY.out _ hb3
    have hc := hB.cell
    have hf := hB.frozen
    replace hb3 := hide hb3
    replace hB := hide hB
    go_region
    all_goals
      go_wp2
      have h4 := ((hB.out.set 0 (.string ⟨#[]⟩)).set 1 (.string ⟨#[]⟩)).cell
      exact bodyPost_ret (v := .tuple #[.agg #[.string ⟨#[]⟩, .string ⟨#[]⟩], errV a 1]) (by simp [results, Tryd.results9, go_sem, h4, errV]) rfl ⟨rfl, ((hb3.out.setCell (p := ⟨w.heap.size, 0, none⟩) (Nat.le_refl _) _).setCell (p := ⟨w.heap.size, 1, none⟩) (Nat.le_refl _) _).drew⟩
  · go_enter Tryd.func9, Tryd.ntmps9
    go_wp2_with (first
      | (go_at_call 10; refine (HT.out _ HB0.out).mono ?_; rintro e w5 ⟨rfl, hb5⟩; replace hb5 := hide hb5))
    have hb3 := (HB0.out.trans (hb5.out.mono HB0.out.size)).alloc (Nat.le_trans HB0.out.size hb5.out.size) (.cells #[.string ⟨l.toArray⟩, .string ⟨d.toArray⟩] 24)
    have hB := (((Blk.new w #[.string ⟨#[]⟩, .string ⟨#[]⟩] 24).below hb5.out (lt_size_alloc _ _))).alloc (.cells #[.string ⟨l.toArray⟩, .string ⟨d.toArray⟩] 24)
    obtain ⟨W0, hW0⟩ : ∃ W0, w5.alloc (.cells #[.string ⟨l.toArray⟩, .string ⟨d.toArray⟩] 24) = W0 := ⟨_, rfl⟩
    rw [hW0] at hb3 hB ⊢
    clear hW0
    have hge := KEY.out _ hb3
    have hc := hB.cell
    have hf := hB.frozen
    replace hb3 := hide hb3
    replace hB := hide hB
    go_region
    all_goals
      go_wp2
      have h4 := ((hB.out.set 0 (.string ⟨#[]⟩)).set 1 (.string ⟨#[]⟩)).cell
      exact bodyPost_ret (v := .tuple #[.agg #[.string ⟨#[]⟩, .string ⟨#[]⟩], errV a 1]) (by simp [results, Tryd.results9, go_sem, h4, errV]) rfl ⟨rfl, ((hb3.out.setCell (p := ⟨w.heap.size, 0, none⟩) (Nat.le_refl _) _).setCell (p := ⟨w.heap.size, 1, none⟩) (Nat.le_refl _) _).drew⟩
theorem parse_yes {s : List UInt8} {w : World} {l d : List UInt8} (hT : ∀ w', Below w.heap.size w w' → Calls Tryd.prog 10 #[.string ⟨s.toArray⟩] w' fun e w'' => e = .returned (.tuple #[.agg #[.string ⟨l.toArray⟩, .string ⟨d.toArray⟩], .string ⟨#[]⟩, .nilIface]) ∧ Below w'.heap.size w' w'') :
    Calls Tryd.prog 9 #[.string ⟨s.toArray⟩] w fun e w' => e = .returned (.tuple #[.agg #[.string ⟨l.toArray⟩, .string ⟨d.toArray⟩], .nilIface]) ∧ Below w.heap.size w w' := by
  have HT := hide hT
  have HB0 := hide ((Below.refl w.heap.size w).alloc (Nat.le_refl _) (.cells #[.string ⟨#[]⟩, .string ⟨#[]⟩] 24))
  clear hT
  go_enter Tryd.func9, Tryd.ntmps9
  go_wp2_with (first
    | (go_at_call 10; refine (HT.out _ HB0.out).mono ?_; rintro e w5 ⟨rfl, hb5⟩
       have hB0 := (Blk.new w #[.string ⟨#[]⟩, .string ⟨#[]⟩] 24).below hb5 (lt_size_alloc _ _)
       have hlt5 := hB0.lt
       have hc5 := hB0.cell
       have hf5 := hB0.frozen
       replace hb5 := hide hb5
       replace hB0 := hide hB0))
  have h4 := (((hB0.out.set 0 (.string ⟨l.toArray⟩)).set 1 (.string ⟨d.toArray⟩)).alloc (.cells #[.string ⟨l.toArray⟩, .string ⟨d.toArray⟩] 24)).cell
  have hb31 := (((HB0.out.trans (hb5.out.mono HB0.out.size)).setCell (p := ⟨w.heap.size, 0, none⟩) (Nat.le_refl _) (.string ⟨l.toArray⟩)).setCell (p := ⟨w.heap.size, 1, none⟩) (Nat.le_refl _) (.string ⟨d.toArray⟩)).alloc (by simp; omega) (.cells #[.string ⟨l.toArray⟩, .string ⟨d.toArray⟩] 24)
  exact bodyPost_ret (v := .tuple #[.agg #[.string ⟨l.toArray⟩, .string ⟨d.toArray⟩], .nilIface]) (by simp [results, Tryd.results9, go_sem, h4]) rfl ⟨rfl, hb31⟩
theorem parse_any (s : List UInt8) (w : World) (a : Nat → Addr) (hs : s.length ≤ 1000000) (hE : parseO s = none → Errs w a) :
    Calls Tryd.prog 9 #[.string ⟨s.toArray⟩] w fun e w' => e = .returned (parseV a (parseO s)) ∧ Below w.heap.size w w' := by
  have HT := fun w h => take_any s w a hs h
  unfold parseO at hE ⊢
  cases ht : takeO s with
  | none =>
    rw [ht] at hE HT
    exact parse_no (l := []) (d := []) (r := []) (fun w' hb => HT w' (fun _ => (hE rfl).below hb)) (.inl rfl) (hE rfl)
  | some x =>
    obtain ⟨l, d, r⟩ := x
    rw [ht] at hE HT
    cases r with
    | nil => exact parse_yes (fun w' _ => HT w' (fun h => by cases h))
    | cons c r => exact parse_no (l := l) (d := d) (r := c :: r) (fun w' _ => HT w' (fun h => by cases h)) (.inr ⟨rfl, rfl⟩) (hE rfl)
end Go.Proofs.YtppipfjnichikaaDoor
