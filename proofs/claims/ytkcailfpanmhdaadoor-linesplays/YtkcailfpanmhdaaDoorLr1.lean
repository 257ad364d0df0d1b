/- The reader of package lines: what it holds, New, Left, Put, drop. -/
import Derived.Test.YtkcailfpanmhdaaDoorOwn
import Derived.Test.YtkcailfpanmhdaaDoorProg
import Derived.Laws.IdiomStrings
namespace Go.Proofs.YtkcailfpanmhdaaDoor
open Go.RowKit

/-- A byte as a cell holds it. -/
def bv (b : UInt8) : Value := .int .u8 (b.toNat : Int)
theorem byteInfo : (Tryd.prog.info? 5).map (fun i => (i.zero, i.size, i.bytes)) = some (some (.int .u8 0), 1, 1) := by kernel_rfl
theorem under27 : Tryd.prog.underlying 27 = some (.slice 5) := by kernel_rfl
theorem bv_oneCell (ds : List UInt8) : ∀ u ∈ ds.map bv, u.oneCell' = true := by
  intro u hu
  obtain ⟨b, _, rfl⟩ := List.mem_map.1 hu
  rfl

/-- The reader in block b holds the bytes l, in block G, and waits for a stretch of a bytes. -/
structure RDs (w : World) (b : Nat) (G : Option Nat) (l : List UInt8) (a : Nat) (v : Value) (s : Nat) : Prop where
  blk : Blk w b #[v, .int .i64 s, .int .i64 a] 59
  row : Rw w 1 v l.length (l.map bv) G
  apart : G ≠ some b
  searched : s ≤ l.length
  none10 : ∀ j, j < s → l[j]? ≠ some 10
def RD (w : World) (b : Nat) (G : Option Nat) (l : List UInt8) (a : Nat) : Prop := ∃ v s, RDs w b G l a v s
/-- The reader's blocks. -/
def own (b : Nat) (G : Option Nat) (k : Nat) : Prop := k = b ∨ some k = G
theorem RDs.keep {w w' : World} {b : Nat} {G : Option Nat} {l : List UInt8} {a : Nat} {v : Value} {s : Nat} {S : Nat → Prop} (h : RDs w b G l a v s) (hm : Mvs S w w') (hs : ∀ k, own b G k → ¬ S k) : RDs w' b G l a v s :=
  ⟨hm.blk h.blk (hs b (.inl rfl)), h.row.keep hm (fun g hg => hs g (.inr hg.symm)), h.apart, h.searched, h.none10⟩
theorem RD.keep {w w' : World} {b : Nat} {G : Option Nat} {l : List UInt8} {a : Nat} {S : Nat → Prop} (h : RD w b G l a) (hm : Mvs S w w') (hs : ∀ k, own b G k → ¬ S k) : RD w' b G l a := by
  obtain ⟨v, s, h⟩ := h
  exact ⟨v, s, h.keep hm hs⟩
theorem RD.lt {w : World} {b : Nat} {G : Option Nat} {l : List UInt8} {a : Nat} (h : RD w b G l a) : ∀ k, own b G k → k < w.heap.size := by
  obtain ⟨v, s, h⟩ := h
  rintro k (rfl | hk)
  · exact h.blk.lt
  · exact h.row.lt k hk.symm
theorem RD.max {w : World} {b : Nat} {G : Option Nat} {l : List UInt8} {a : Nat} (h : RD w b G l a) : l.length ≤ maxLen := by
  obtain ⟨v, s, h⟩ := h
  exact h.row.max

set_option maxHeartbeats 1000000 in
theorem new_any (w : World) : Calls Tryd.prog 8 #[] w fun e w' => e = .returned (.pointer (some ⟨w.heap.size, 0, none⟩)) ∧ Below w.heap.size w w' ∧ RD w' w.heap.size none [] 0 := by
  go_enter Tryd.func8, Tryd.ntmps8
  go_wp2
  go_ret
  refine ⟨rfl, (Below.refl _ _).alloc (Nat.le_refl _) _, .slice none 0 0, 0, Blk.new _ _ _, Rw.nil _ _, by simp, Nat.le_refl _, fun j hj => absurd hj (Nat.not_lt_zero _)⟩

section
variable (w : World) (b : Nat) (G : Option Nat) (l : List UInt8) (a : Nat)
set_option maxHeartbeats 1000000 in
theorem left_any (h : RD w b G l a) : Calls Tryd.prog 19 #[.pointer (some ⟨b, 0, none⟩)] w fun e w' => e = .returned (.int .i64 l.length) ∧ w' = w := by
  obtain ⟨v, s, h⟩ := h
  have hc := h.blk.cell
  have hv : ∃ A c, v = .slice A l.length c := by
    rcases h.row.2 with ⟨h1, h2, _⟩ | ⟨g, o, cap, _, h2, _⟩
    · exact ⟨_, _, by rw [h1, h2]⟩
    · exact ⟨_, _, h2⟩
  obtain ⟨A, c, rfl⟩ := hv
  have H : Hid (RDs w b G l a (.slice A l.length c) s) := h
  clear h
  go_enter Tryd.func19, Tryd.ntmps19
  go_wp2
  go_ret
  exact ⟨rfl, rfl⟩
end
end Go.Proofs.YtkcailfpanmhdaaDoor
