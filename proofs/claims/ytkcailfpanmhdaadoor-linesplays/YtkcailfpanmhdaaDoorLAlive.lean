/- The chapter's own case: alive. -/
import Derived.Test.YtkcailfpanmhdaaDoorLr8
import Derived.Lib.SlBytesConst
namespace Go.Proofs.YtkcailfpanmhdaaDoor
open Go.RowKit
theorem hide {p : Prop} (h : p) : Hid p := h
theorem src_rw {w : World} {v : Value} {bs : List UInt8} {G : Option Nat} (h : Rw w 1 v bs.length (bs.map bv) G) : Src Tryd.prog 1 27 v bs.length (bs.map bv) w := by
  rcases h.2 with ⟨rfl, h0, _⟩ | ⟨g, o, cap, rfl, rfl, h1, h2, h3, h4, h5⟩
  · have : bs = [] := List.length_eq_zero_iff.1 h0
    subst this
    exact Src.ofNil w Tryd.underlying27 0
  · exact Src.ofSlice w Tryd.underlying27 ⟨g, o, none⟩ bs.length cap (bs.map bv) (by simp) (fun j u hu => by rw [Go.WideShapes.add_plain]; exact h4 j u hu) (bv_oneCell bs)
/-- A literal of bytes, made just now. -/
theorem src_lit {w : World} {C : Array Value} {fr : Nat × Nat} (bs : List UInt8) {n c : Nat} (hC : C = (bs.map bv).toArray) (hn : n = bs.length) : Src Tryd.prog 1 27 (.slice (some ⟨w.heap.size, 0, none⟩) n c) bs.length (bs.map bv) (w.alloc (.cells C 5 fr)) := by
  subst hC hn
  refine Src.ofSlice _ Tryd.underlying27 ⟨w.heap.size, 0, none⟩ bs.length c (bs.map bv) (by simp) (fun j u hu => ?_) (bv_oneCell bs)
  rw [Go.WideShapes.add_plain, Nat.zero_add, World.cell?_alloc_mark, List.getElem?_toArray, hu]
theorem out1 : lineOut [97, 98, 13, 10, 99] 0 = (lineV [97, 98] false, true, [99]) := by rfl
theorem out2 : lineOut [99] 0 = (lineV [] false, false, [99]) := by rfl
theorem out3 : stretchOut [99, 100, 101] 2 = ([99, 100], true, [101], 0) := by rfl
theorem own_sub {b k : Nat} {G G' : Option Nat} (hg : G' = G ∨ G' = none) (h : own b G' k) : own b G k := by
  rcases h with rfl | h
  · exact .inl rfl
  · rcases hg with rfl | rfl
    · exact .inr h
    · cases h
theorem own_put {b k n : Nat} {G G' : Option Nat} (hg : G' = G ∨ G' = some n) (h : own b G' k) : own b G k ∨ k = n := by
  rcases h with rfl | h
  · exact .inl (.inl rfl)
  · rcases hg with rfl | rfl
    · exact .inl (.inr h)
    · cases h
      exact .inr rfl
theorem below_mvs {B : Nat} {w x y : World} {S : Nat → Prop} (h : Below B w x) (hm : Mvs S x y) (hs : ∀ k, k < B → ¬ S k) (hB : B ≤ w.heap.size) : Below B w y := h.trans (hm.below hs (Nat.le_trans hB h.size))
theorem line_case1 {w : World} {b : Nat} {G : Option Nat} (h : RD w b G [97, 98, 13, 10, 99] 0) : Calls Tryd.prog 12 #[.pointer (some ⟨b, 0, none⟩)] w fun e w' => e = .returned (.tuple #[.agg #[.string ⟨#[97, 98]⟩, .bool false], .bool true]) ∧ Lined w w' b G [99] 0 := by
  have := line_any w b G _ _ h
  rw [out1] at this
  exact this
theorem line_case2 {w : World} {b : Nat} {G : Option Nat} (h : RD w b G [99] 0) : Calls Tryd.prog 12 #[.pointer (some ⟨b, 0, none⟩)] w fun e w' => e = .returned (.tuple #[.agg #[.string ⟨#[]⟩, .bool false], .bool false]) ∧ Lined w w' b G [99] 0 := by
  have := line_any w b G _ _ h
  rw [out2] at this
  exact this
theorem stretch_case {w : World} {b : Nat} {G : Option Nat} (h : RD w b G [99, 100, 101] 2) : Calls Tryd.prog 17 #[.pointer (some ⟨b, 0, none⟩)] w fun e w' => e = .returned (.tuple #[.string ⟨#[99, 100]⟩, .bool true]) ∧ Lined w w' b G [101] 0 := by
  have := stretch_any w b G _ _ h
  rw [out3] at this
  exact this
theorem Lined.trans {w w1 w2 : World} {b : Nat} {G : Option Nat} {l : List UInt8} {a : Nat} (h1 : Below w.heap.size w w1) (hb : w.heap.size ≤ b) (h : Lined w1 w2 b G l a) : Below w.heap.size w w2 := by
  obtain ⟨G', _, hm, _⟩ := h
  exact h1.trans (hm.below (fun k hk e => by omega) h1.size)

set_option maxRecDepth 8000 in
set_option maxHeartbeats 1000000 in
theorem alive_yes (w : World) : Calls Tryd.prog 7 #[] w fun e w' => e = .returned (.bool true) ∧ Below w.heap.size w w' := by
  go_enter Tryd.func7, Tryd.ntmps7
  go_wp2_with fail
  refine (new_any _).mono ?_
  rintro e w1 ⟨rfl, hb1, hk1⟩
  replace hb1 := hide hb1
  replace hk1 := hide hk1
  have hcv := fun (w0 : World) (C : Array Value) (n c : Nat) => Lib.run_convert_bytes_const (P := Tryd.prog) w0 27 5 C n c Tryd.underlying27 Tryd.underlying5
  go_wp2_with fail
  refine (put_any _ _ _ _ _ (hk1.out.keep (S := fun _ => False) ((Mvs.refl _ _).alloc _) (fun _ _ c => c)) _ [97, 98, 13, 10, 99] (src_lit _ rfl rfl) (by decide)).mono ?_
  rintro e w2 ⟨rfl, G2, hk2, hm2, hg2⟩
  replace hb2 := hide (((hb1.out.alloc hb1.out.size _).trans (hm2.below (B := w.heap.size) (fun k hk e => by rcases e with rfl | e; omega; cases e) (by have := hb1.out.size; simp; omega))))
  have hge2 := hide (show ∀ k, own w.heap.size G2 k → w.heap.size ≤ k from fun k hk => by
    have := hb1.out.size
    rcases own_put hg2 hk with hk | rfl
    · rcases hk with rfl | hk
      · omega
      · cases hk
    · simp
      omega)
  have hk2' : RD w2 w.heap.size G2 [97, 98, 13, 10, 99] 0 := hk2
  replace hk2 := hide hk2'
  clear hk2' hk1 hb1 hm2 hg2
  go_wp2_with fail
  refine (line_case1 hk2.out).mono ?_
  rintro e w3 ⟨rfl, hl3⟩
  have hb3 := hide (hl3.trans hb2.out (Nat.le_refl _))
  obtain ⟨G3, hk3, _, hg3⟩ := hl3
  have hge3 := hide (fun k hk => hge2.out k (own_sub hg3 hk))
  clear hg3
  replace hk3 := hide (And.intro hk3 hk3.lt)
  clear hk2 hb2
  go_wp2_with fail
  have L3 := hide (Blk.new w3 #[.string ⟨#[97, 98]⟩, .bool false] 36)
  refine (line_case2 (hk3.out.1.keep (S := fun _ => False) ((Mvs.refl _ _).alloc _) (fun _ _ c => c))).mono ?_
  rintro e w4 ⟨rfl, hl4⟩
  have hb4 := hide (hl4.trans (hb3.out.alloc hb3.out.size _) (Nat.le_refl _))
  obtain ⟨G4, hk4, hm4, hg4⟩ := hl4
  have hne3 : w3.heap.size ≠ w.heap.size := by have := hk3.out.2 w.heap.size (.inl rfl); omega
  have L4 := hide (hm4.blk L3.out hne3)
  have hs4 := hide (show ∀ k, own w.heap.size G4 k → w.heap.size ≤ k ∧ k ≠ w3.heap.size from fun k hk => by
    have := hk3.out.2 k (own_sub hg4 hk)
    have := hge3.out k (own_sub hg4 hk)
    omega)
  replace hk4 := hide hk4
  clear hk3 hm4 hg4 hb3 L3
  go_wp2_with fail
  refine (expect_ok _ _ _ _ 2 (hk4.out.keep (S := fun _ => False) ((Mvs.refl _ _).alloc _) (fun _ _ c => c)) (by decide) (by decide)).mono ?_
  rintro e w5 ⟨rfl, hk5, hm5⟩
  have hb5 := hide (below_mvs (hb4.out.alloc hb4.out.size (.cells #[.string ⟨#[]⟩, .bool false] 36)) hm5 (fun k hk e => by omega) (Nat.le_refl _))
  have L5 := hide (hm5.blk (L4.out.alloc _) hne3)
  replace hk5 := hide hk5
  clear hk4 hm5 hb4 L4
  go_wp2_with fail
  refine (put_any _ _ _ _ _ (hk5.out.keep (S := fun _ => False) ((Mvs.refl _ _).alloc _) (fun _ _ c => c)) _ [100, 101] (src_lit _ rfl rfl) (by decide)).mono ?_
  rintro e w6 ⟨rfl, G6, hk6, hm6, hg6⟩
  have hb6 := hide (below_mvs (hb5.out.alloc hb5.out.size _) hm6 (fun k hk e => by have := (hs4.out k e).1; omega) (Nat.le_refl _))
  have L6 := hide (hm6.blk (L5.out.alloc _) (fun e => (hs4.out _ e).2 rfl))
  have hk6' : RD w6 w.heap.size G6 [99, 100, 101] 2 := hk6
  replace hk6 := hide hk6'
  clear hk6' hk5 hm6 hg6 hb5 L5
  go_wp2_with fail
  refine (stretch_case hk6.out).mono ?_
  rintro e w7 ⟨rfl, hl7⟩
  have hb7 := hide (hl7.trans hb6.out (Nat.le_refl _))
  obtain ⟨G7, hk7, hm7, hg7⟩ := hl7
  have L7 := hide (hm7.blk L6.out hne3)
  have hc7 := L7.out.cell
  replace hk7 := hide hk7
  clear hk6 hm7 hg7 hb6 L6
  go_wp2_with fail
  refine (left_any _ _ _ _ _ hk7.out).mono ?_
  rintro e w8 ⟨rfl, rfl⟩
  go_wp2
  go_ret
  exact ⟨rfl, hb7.out⟩
end Go.Proofs.YtkcailfpanmhdaaDoor
