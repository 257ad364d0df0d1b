/- The document's reader: what it holds, Expect, Stretch. -/
import Derived.Test.YtkcailfpanmhdaaDoorLSplit
namespace Go.Proofs.YtkcailfpanmhdaaDoor
open Go.RowKit
/-- The document's reader in block b: all bytes L, in block G; p of them are told; a are waited for. -/
structure RFs (w : World) (b : Nat) (G : Option Nat) (L : List UInt8) (p a : Nat) (v : Value) : Prop where
  blk : Blk w b #[v, .int .i64 p, .int .i64 a] 29
  row : Rw w 1 v L.length (L.map bv) G
  apart : G ≠ some b
  told : p ≤ L.length
def RF (w : World) (b : Nat) (G : Option Nat) (L : List UInt8) (p a : Nat) : Prop := ∃ v, RFs w b G L p a v
theorem RFs.keep {w w' : World} {b : Nat} {G : Option Nat} {L : List UInt8} {p a : Nat} {v : Value} {S : Nat → Prop} (h : RFs w b G L p a v) (hm : Mvs S w w') (hs : ∀ k, own b G k → ¬ S k) : RFs w' b G L p a v :=
  ⟨hm.blk h.blk (hs b (.inl rfl)), h.row.keep hm (fun g hg => hs g (.inr hg.symm)), h.apart, h.told⟩
theorem RF.keep {w w' : World} {b : Nat} {G : Option Nat} {L : List UInt8} {p a : Nat} {S : Nat → Prop} (h : RF w b G L p a) (hm : Mvs S w w') (hs : ∀ k, own b G k → ¬ S k) : RF w' b G L p a := by
  obtain ⟨v, h⟩ := h
  exact ⟨v, h.keep hm hs⟩
theorem RF.lt {w : World} {b : Nat} {G : Option Nat} {L : List UInt8} {p a : Nat} (h : RF w b G L p a) : ∀ k, own b G k → k < w.heap.size := by
  obtain ⟨v, h⟩ := h
  rintro k (rfl | hk)
  · exact h.blk.lt
  · exact h.row.lt k hk.symm
/-- What Expect answers by its number, and what is waited for behind it. -/
def expectOut (a : Nat) (n : Int) : Int × Nat := if n < 1 ∨ 100000 < n then (1, a) else if 0 < a then (9, a) else (0, n.toNat)
section
variable (w : World) (b : Nat) (G : Option Nat) (L : List UInt8) (p a : Nat)
set_option maxHeartbeats 1000000 in
theorem rexpect_any (n : Int) (h : RF w b G L p a) : Calls Tryd.prog 16 #[.pointer (some ⟨b, 0, none⟩), .int .i64 n] w fun e w' => e = .returned (.int .i64 (expectOut a n).1) ∧ RF w' b G L p (expectOut a n).2 ∧ Mvs (fun k => k = b) w w' := by
  have h0 := h
  obtain ⟨v, h⟩ := h
  have hc := h.blk.cell
  have hf := h.blk.frozen
  have H : Hid (RFs w b G L p a v) := h
  have H0 := hide h0
  clear h h0
  unfold expectOut
  by_cases hn : n < 1 ∨ 100000 < n
  · rw [if_pos hn]
    have FIN : Hid (RF w b G L p a) := H0
    clear H0 H
    rcases hn with hn | hn
    · go_enter Tryd.func16, Tryd.ntmps16
      go_wp2
      go_ret
      exact ⟨rfl, FIN.out, Mvs.refl _ _⟩
    · have hn2 : ¬ n < 1 := by omega
      go_enter Tryd.func16, Tryd.ntmps16
      go_wp2
      go_ret
      exact ⟨rfl, FIN.out, Mvs.refl _ _⟩
  · rw [if_neg hn]
    have hn1 : ¬ n < 1 := by omega
    have hn2 : ¬ 100000 < n := by omega
    by_cases ha : 0 < a
    · rw [if_pos ha]
      have ha' : (0 : Int) < a := by omega
      go_enter Tryd.func16, Tryd.ntmps16
      go_wp2
      go_ret
      exact ⟨rfl, H0.out, Mvs.refl _ _⟩
    · rw [if_neg ha]
      obtain rfl : a = 0 := by omega
      have FIN : Hid (RF (w.setCell ⟨b, 2, none⟩ (.int .i64 n)) b G L p n.toNat) := by
        have hb := H.out.blk.set 2 (.int .i64 n)
        have e : n = ((n.toNat : Nat) : Int) := by omega
        refine ⟨v, ?_, H.out.row.set_b H.out.apart _ _, H.out.apart, H.out.told⟩
        rw [← e]
        exact hb
      go_enter Tryd.func16, Tryd.ntmps16
      go_wp2
      go_ret
      exact ⟨rfl, FIN.out, (Mvs.refl _ _).set_b _ _⟩

/-- Behind the document's Line or Stretch. -/
def RTold (w w' : World) (b : Nat) (G : Option Nat) (L : List UInt8) (r : List UInt8) (a : Nat) : Prop := ∃ p', RF w' b G L p' a ∧ L.drop p' = r ∧ Mvs (fun k => k = b) w w'
set_option maxHeartbeats 1000000 in
theorem rstretch_none (h : RF w b G L p 0) : Calls Tryd.prog 18 #[.pointer (some ⟨b, 0, none⟩)] w fun e w' => e = .returned (.tuple #[.string ⟨#[]⟩, .bool false]) ∧ Below w.heap.size w w' := by
  obtain ⟨v, h⟩ := h
  have hc := h.blk.cell
  clear h
  go_enter Tryd.func18, Tryd.ntmps18
  go_wp2_with fail
  go_quiet (fail)
  go_wp2
  go_ret2
  exact ⟨rfl, below_drewN _ _⟩
set_option maxHeartbeats 1000000 in
theorem rstretch_less (h : RF w b G L p a) (ha : 0 < a) (hl : (L.drop p).length < a) (hm : L.length ≤ 20000) : Calls Tryd.prog 18 #[.pointer (some ⟨b, 0, none⟩)] w fun e w' => e = .returned (.tuple #[.string ⟨#[]⟩, .bool false]) ∧ Below w.heap.size w w' := by
  obtain ⟨v, h⟩ := h
  obtain ⟨A, c, rfl⟩ := h.row.form
  have hc := h.blk.cell
  have ht := h.told
  rw [List.length_drop] at hl
  clear h
  have ha1 : ¬ a = 0 := by omega
  have ha2 : ¬ (a : Int) = 0 := by omega
  have ha3 : decide ((a : Int) = 0) = false := by simp; omega
  have hl2 : (L.length : Int) - p < a := by omega
  have hl3 : decide ((L.length : Int) - p < a) = true := by simp; omega
  have ha4 : ((a : Int) == 0) = false := by simp; omega
  go_enter Tryd.func18, Tryd.ntmps18
  go_wp2_with fail
  go_quiet (fail)
  go_wp2
  go_ret2
  exact ⟨rfl, below_drewN _ _⟩
set_option maxHeartbeats 1000000 in
theorem rstretch_yes (h : RF w b G L p a) (ha : 0 < a) (hl : a ≤ (L.drop p).length) (hm : L.length ≤ 20000) : Calls Tryd.prog 18 #[.pointer (some ⟨b, 0, none⟩)] w fun e w' => e = .returned (.tuple #[.string ⟨((L.drop p).take a).toArray⟩, .bool true]) ∧ RTold w w' b G L ((L.drop p).drop a) 0 := by
  obtain ⟨v, h⟩ := h
  have hc := h.blk.cell
  have hf := h.blk.frozen
  have ht := h.told
  rw [List.length_drop] at hl
  have H : Hid (RFs w b G L p a v) := h
  have ha1 : ¬ a = 0 := by omega
  have ha2 : ¬ (a : Int) = 0 := by omega
  have ha3 : decide ((a : Int) = 0) = false := by simp; omega
  have ha4 : ((a : Int) == 0) = false := by simp; omega
  have hl2 : ¬ (L.length : Int) - p < a := by omega
  have hl3 : decide ((L.length : Int) - p < a) = false := by simp; omega
  have hl5 : (p : Int) + a ≤ L.length := by omega
  rcases h.row.2 with ⟨rfl, hl0, rfl⟩ | ⟨g, o, cap, rfl, rfl, h1, h2, h3, h4, h5⟩
  · omega
  · have hmid := (h.row.from (k := p) ht)
    have hne : ¬ cap = p := by omega
    unfold fromV at hmid
    rw [if_neg hne] at hmid
    have hto := hmid.to (k := a) (by omega)
    rw [← List.map_drop, ← List.map_take] at hto
    have hlen : ((L.drop p).take a).length = a := by simp; omega
    have hcv : ∀ n, (convert 27 9 (.slice (some ⟨g, o + p, none⟩) a (cap - p))).run Tryd.prog (w.drewN n) = .ok (.string ⟨((L.drop p).take a).toArray⟩) (w.drewN n) := fun n =>
      convert_rw (G := some g) (by rw [hlen]; exact hto.keep (S := fun _ => False) ((Mvs.refl _ _).drewN n) (fun _ _ c => c))
    have hb2 : (p : Int) + a ≤ cap := by omega
    have hpa : p + a - p = a := by omega
    have FIN : Hid (∀ n x y, x = ((p + a : Nat) : Int) → y = 0 → RTold w ((((w.drewN n).setCell ⟨b, 1, none⟩ (.int .i64 x))).setCell ⟨b, 2, none⟩ (.int .i64 y)) b (some g) L ((L.drop p).drop a) 0) := by
      rintro n x y rfl rfl
      refine ⟨p + a, ⟨_, (Blk.set (Blk.drewN H.out.blk n) 1 _).set 2 _, ((H.out.row.keep (S := fun _ => False) ((Mvs.refl _ _).drewN n) (fun _ _ c => c)).set_b H.out.apart _ _).set_b H.out.apart _ _, H.out.apart, by omega⟩, by rw [List.drop_drop], (((Mvs.refl _ _).drewN n).set_b _ _).set_b _ _⟩
    clear h hto hmid h4 h5 hlen
    go_enter Tryd.func18, Tryd.ntmps18
    go_wp2_with fail
    go_quiet (fail)
    go_wp2_with fail
    go_quiet (fail)
    go_wp2_with fail
    go_region
    go_wp2
    go_ret2
    exact ⟨rfl, FIN.out _ _ _ (by omega) rfl⟩
theorem rstretch_any (h : RF w b G L p a) (hm : L.length ≤ 20000) : Calls Tryd.prog 18 #[.pointer (some ⟨b, 0, none⟩)] w fun e w' => e = .returned (.tuple #[.string ⟨(stretchOut (L.drop p) a).1.toArray⟩, .bool (stretchOut (L.drop p) a).2.1]) ∧ RTold w w' b G L (stretchOut (L.drop p) a).2.2.1 (stretchOut (L.drop p) a).2.2.2 := by
  unfold stretchOut
  split
  · next hc => exact rstretch_yes w b G L p a h hc.1 hc.2 hm
  · next hc =>
    have key : Calls Tryd.prog 18 #[.pointer (some ⟨b, 0, none⟩)] w fun e w' => e = .returned (.tuple #[.string ⟨#[]⟩, .bool false]) ∧ Below w.heap.size w w' := by
      rcases Nat.eq_zero_or_pos a with rfl | ha
      · exact rstretch_none w b G L p h
      · exact rstretch_less w b G L p a h ha (by omega) hm
    refine key.mono ?_
    rintro e w' ⟨rfl, hb⟩
    exact ⟨rfl, p, h.keep (S := fun _ => False) (Mvs.of_below hb) (fun _ _ c => c), rfl, Mvs.of_below hb⟩
end
end Go.Proofs.YtkcailfpanmhdaaDoor
