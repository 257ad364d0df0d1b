/- The reader of package lines: Expect where nothing is wrong, Stretch. -/
import Derived.Test.YtkcailfpanmhdaaDoorLr7
namespace Go.Proofs.YtkcailfpanmhdaaDoor
open Go.RowKit
theorem below_drewN (w : World) (n : Nat) : Below w.heap.size w (w.drewN n) := ⟨rfl, rfl, rfl, Nat.le_refl _, fun _ _ => rfl⟩
section
variable (w : World) (b : Nat) (G : Option Nat) (l : List UInt8) (a : Nat)
set_option maxHeartbeats 1000000 in
theorem expect_ok (n : Int) (h : RD w b G l 0) (h1 : 1 ≤ n) (h2 : n ≤ 100000) : Calls Tryd.prog 15 #[.pointer (some ⟨b, 0, none⟩), .int .i64 n] w fun e w' => e = .returned .nilIface ∧ RD w' b G l n.toNat ∧ Mvs (fun k => k = b) w w' := by
  obtain ⟨v, s, h⟩ := h
  have hc := h.blk.cell
  have hf := h.blk.frozen
  have H : Hid (RDs w b G l 0 v s) := h
  have hn1 : ¬ n < 1 := by omega
  have hn2 : ¬ 100000 < n := by omega
  clear h
  have FIN : Hid (RD (w.setCell ⟨b, 2, none⟩ (.int .i64 n)) b G l n.toNat) := by
    have hb := H.out.blk.set 2 (.int .i64 n)
    have e : n = ((n.toNat : Nat) : Int) := by omega
    refine ⟨v, s, ?_, H.out.row.set_b H.out.apart _ _, H.out.apart, H.out.searched, H.out.none10⟩
    rw [← e]
    exact hb
  go_enter Tryd.func15, Tryd.ntmps15
  go_wp2
  go_ret
  exact ⟨rfl, FIN.out, (Mvs.refl _ _).set_b _ _⟩

set_option maxHeartbeats 1000000 in
theorem stretch_none (h : RD w b G l 0) : Calls Tryd.prog 17 #[.pointer (some ⟨b, 0, none⟩)] w fun e w' => e = .returned (.tuple #[.string ⟨#[]⟩, .bool false]) ∧ Below w.heap.size w w' := by
  obtain ⟨v, s, h⟩ := h
  have hc := h.blk.cell
  clear h
  go_enter Tryd.func17, Tryd.ntmps17
  go_wp2_with fail
  go_quiet (fail)
  go_wp2
  go_ret2
  exact ⟨rfl, below_drewN _ _⟩

set_option maxHeartbeats 1000000 in
theorem stretch_less (h : RD w b G l a) (ha : 0 < a) (hl : l.length < a) : Calls Tryd.prog 17 #[.pointer (some ⟨b, 0, none⟩)] w fun e w' => e = .returned (.tuple #[.string ⟨#[]⟩, .bool false]) ∧ Below w.heap.size w w' := by
  obtain ⟨v, s, h⟩ := h
  obtain ⟨A, c, rfl⟩ := h.row.form
  have hc := h.blk.cell
  clear h
  have ha1 : ¬ a = 0 := by omega
  have ha2 : ¬ (a : Int) = 0 := by omega
  have ha3 : decide ((a : Int) = 0) = false := by simp; omega
  have hl2 : (l.length : Int) < a := by omega
  go_enter Tryd.func17, Tryd.ntmps17
  go_wp2_with fail
  go_quiet (fail)
  go_wp2
  go_ret2
  exact ⟨rfl, below_drewN _ _⟩

set_option maxHeartbeats 1000000 in
theorem stretch_yes (h : RD w b G l a) (ha : 0 < a) (hl : a ≤ l.length) : Calls Tryd.prog 17 #[.pointer (some ⟨b, 0, none⟩)] w fun e w' => e = .returned (.tuple #[.string ⟨(l.take a).toArray⟩, .bool true]) ∧ Lined w w' b G (l.drop a) 0 := by
  obtain ⟨v, s, h⟩ := h
  have hc := h.blk.cell
  have hmx := h.row.max
  simp only [maxLen] at hmx
  have H : Hid (RDs w b G l a v s) := h
  have ha1 : ¬ a = 0 := by omega
  have ha2 : ¬ (a : Int) = 0 := by omega
  have ha3 : decide ((a : Int) = 0) = false := by simp; omega
  have hl2 : ¬ (l.length : Int) < a := by omega
  have hl3 : decide (l.length < a) = false := by simp; omega
  have hl4 : ¬ l.length < a := by omega
  have ha4 : ((a : Int) == 0) = false := by simp; omega
  have hlen : (l.take a).length = a := by rw [List.length_take]; omega
  rcases h.row.2 with ⟨rfl, hl0, rfl⟩ | ⟨g, o, cap, rfl, rfl, h1, h2, h3, h4, h5⟩
  · omega
  · have hto := h.row.to hl
    rw [← List.map_take] at hto
    have hcv : ∀ n, (convert 27 9 (.slice (some ⟨g, o, none⟩) a cap)).run Tryd.prog (w.drewN n) = .ok (.string ⟨(l.take a).toArray⟩) (w.drewN n) := fun n =>
      convert_rw (G := some g) (by rw [hlen]; exact hto.keep (S := fun _ => False) ((Mvs.refl _ _).drewN n) (fun _ _ c => c))
    have hb2 : (a : Int) ≤ cap := by omega
    clear h hto h4 h5
    go_enter Tryd.func17, Tryd.ntmps17
    go_wp2_with fail
    go_quiet (fail)
    go_wp2_with fail
    go_quiet (fail)
    go_wp2_with fail
    refine (drop_any _ b _ l a _ s (H.out.keep (S := fun _ => False) ((Mvs.refl _ _).drewN _) (fun _ _ c => c)) a hl).mono ?_
    rintro e w4 ⟨rfl, G4, v4, hk4, hm4, hg4⟩
    have hc4 := hk4.blk.cell
    have hf4 := hk4.blk.frozen
    have HE : Hid (RDs w4 b G4 (l.drop a) a v4 (s - a)) := hk4
    have HM : Hid (Mvs (fun k => k = b) w w4) := ((Mvs.refl _ _).drewN _).trans hm4
    have HG : Hid (G4 = some g ∨ G4 = none) := hg4
    clear hk4 hm4 hg4 hc hcv
    go_wp2
    go_ret2
    exact ⟨rfl, G4, ⟨v4, s - a, HE.out.blk.set 2 _, HE.out.row.set_b HE.out.apart _ _, HE.out.apart, HE.out.searched, HE.out.none10⟩, HM.out.set_b _ _, HG.out⟩

/-- What Stretch answers, what is held behind it, and what is waited for. -/
def stretchOut (l : List UInt8) (a : Nat) : List UInt8 × Bool × List UInt8 × Nat := if 0 < a ∧ a ≤ l.length then (l.take a, true, l.drop a, 0) else ([], false, l, a)
theorem stretch_any (h : RD w b G l a) : Calls Tryd.prog 17 #[.pointer (some ⟨b, 0, none⟩)] w fun e w' => e = .returned (.tuple #[.string ⟨(stretchOut l a).1.toArray⟩, .bool (stretchOut l a).2.1]) ∧ Lined w w' b G (stretchOut l a).2.2.1 (stretchOut l a).2.2.2 := by
  unfold stretchOut
  split
  · next hc => exact stretch_yes w b G l a h hc.1 hc.2
  · next hc =>
    have key : Calls Tryd.prog 17 #[.pointer (some ⟨b, 0, none⟩)] w fun e w' => e = .returned (.tuple #[.string ⟨#[]⟩, .bool false]) ∧ Below w.heap.size w w' := by
      rcases Nat.eq_zero_or_pos a with rfl | ha
      · exact stretch_none w b G l h
      · exact stretch_less w b G l a h ha (by omega)
    refine key.mono ?_
    rintro e w' ⟨rfl, hb⟩
    exact ⟨rfl, G, h.keep (S := fun _ => False) (Mvs.of_below hb) (fun _ _ c => c), Mvs.of_below hb, .inl rfl⟩
end
end Go.Proofs.YtkcailfpanmhdaaDoor
