/- The document's Encode and Decode. -/
import Derived.Test.YtcmhaihoeecjoaaDoorQ7
import Derived.Test.YtcmhaihoeecjoaaDoorOwn
import Derived.Lib.SlBytesConst
import Derived.Shelf.Bytes.SlSmallAll
namespace Go.Proofs.YtcmhaihoeecjoaaDoor
open Go.RowKit
def bv (b : UInt8) : Value := .int .u8 (b.toNat : Int)
theorem bv_oneCell (ds : List UInt8) : ∀ u ∈ ds.map bv, u.oneCell' = true := by
  intro u hu
  obtain ⟨b, _, rfl⟩ := List.mem_map.1 hu
  rfl
theorem byteInfo : (Tryd.prog.info? 5).map (fun i => (i.zero, i.size, i.bytes)) = some (some (.int .u8 0), 1, 1) := by kernel_rfl
theorem info_parts {i : Option TypeInfo} {z : Value} {n m : Nat} (h : i.map (fun i => (i.zero, i.size, i.bytes)) = some (some z, n, m)) : ∃ i0, i = some i0 ∧ i0.zero = some z ∧ i0.size = n ∧ i0.bytes = m := by
  obtain ⟨i0, hi, h⟩ := Option.map_eq_some_iff.1 h
  simp only [Prod.mk.injEq] at h
  exact ⟨i0, hi, h⟩
theorem src_byte {w : World} (x : UInt8) {c : Nat} : Src Tryd.prog 1 46 (.slice (some ⟨w.heap.size, 0, none⟩) 1 c) 1 [bv x] (w.alloc (.cells #[.int .u8 (x.toNat : Int)] 5)) := by
  refine Src.ofSlice _ Tryd.underlying46 ⟨w.heap.size, 0, none⟩ 1 c [bv x] (by simp) (fun j u hu => ?_) (bv_oneCell [x])
  have hj := (List.getElem?_eq_some_iff.1 hu).1
  obtain rfl : j = 0 := by simpa using hj
  rw [Go.WideShapes.add_plain, Nat.zero_add, (Blk.new w _ _).cell]
  simp at hu
  rw [← hu]
  rfl
theorem convert_rw {w : World} {v : Value} {bs : List UInt8} {G : Option Nat} (h : Rw w 1 v bs.length (bs.map bv) G) : (convert 46 9 v).run Tryd.prog w = .ok (.string ⟨bs.toArray⟩) w := by
  rcases h.2 with ⟨rfl, h0, _⟩ | ⟨g, o, cap, rfl, rfl, h1, h2, h3, h4, h5⟩
  · have : bs = [] := List.length_eq_zero_iff.1 h0
    subst this
    exact run_convert_bytes_zero w 46 5 Tryd.underlying46 Tryd.underlying5 none 0 9 Tryd.underlying9
  · exact run_convert_bytes_back (P := Tryd.prog) w 46 9 5 ⟨g, o, none⟩ cap bs Tryd.underlying46 Tryd.underlying5 Tryd.underlying9 (fun j hj => by
      rw [Go.WideShapes.add_plain]
      have := h4 j (bv bs[j]) (by simp [List.getElem?_eq_getElem hj])
      exact this)
theorem below_mvs' {B : Nat} {w x y : World} {S : Nat → Prop} (h : Below B w x) (hm : Mvs S x y) (hs : ∀ k, k < B → ¬ S k) (hB : B ≤ w.heap.size) : Below B w y := h.trans (hm.below hs (Nat.le_trans hB h.size))
/-- The bytes bs, in a row of this call's own. -/
def Byts (w wr : World) (v : Value) (bs : List UInt8) : Prop := Below w.heap.size w wr ∧ ∃ G, Rw wr 1 v bs.length (bs.map bv) G ∧ ∀ g, G = some g → w.heap.size ≤ g
theorem Byts.grow {w wr w1 : World} {v1 : Value} {bs : List UInt8} {x : UInt8} {G G1 : Option Nat} {o : Obj} (hb : Below w.heap.size w wr) (hg : ∀ g, G = some g → w.heap.size ≤ g)
    (hr : Rw w1 1 v1 (bs.length + 1) (bs.map bv ++ [bv x]) G1) (hm : Mvs (fun k => some k = G) (wr.alloc o) w1) (hG : G1 = G ∨ G1 = some (wr.alloc o).heap.size) : Byts w w1 v1 (bs ++ [x]) := by
  refine ⟨below_mvs' (hb.alloc hb.size _) hm (fun k hk e => by have := hg k e.symm; omega) (Nat.le_refl _), G1, ?_, ?_⟩
  · rw [List.length_append, List.map_append]
    exact hr
  · rintro g rfl
    have := hb.size
    rcases hG with h | h
    · exact hg g h.symm
    · cases h
      simp
      omega
theorem beg_succ (s : List UInt8) (i : Nat) (h : i < s.length) : beg s (i + 1) = (s[i] == 10) := by
  unfold beg
  rw [show i + 1 - 1 = i from rfl, List.getElem?_eq_getElem h]
  simp
theorem marks_calls {s : List UInt8} {i : Nat} {m : Int} (hi : i ≤ s.length) (hs : s.length ≤ 1000000) (hm : marksN (s.drop i) = m) (w : World) :
    Calls Tryd.prog 17 #[.string ⟨s.toArray⟩, .int .i64 i] w fun e w' => e = .returned (.int .i64 m) ∧ w' = w := by
  subst hm
  exact marks_any s i w hi hs
theorem begins_calls {s : List UInt8} {i : Nat} {b : Bool} (hi : i ≤ s.length) (hs : s.length ≤ 1000000) (hb : beg s i = b) (w : World) :
    Calls Tryd.prog 16 #[.string ⟨s.toArray⟩, .int .i64 i] w fun e w' => e = .returned (.bool b) ∧ w' = w := by
  subst hb
  exact begins_any s i w hi hs
theorem encR_step (s : List UInt8) (i : Nat) (h : i < s.length) (bs t : List UInt8) (hx : bs ++ encR (beg s i) (s.drop i) = t) :
    (if beg s i && nm (s.drop i) then bs ++ [62] else bs) ++ [s[i]] ++ encR (beg s (i + 1)) (s.drop (i + 1)) = t := by
  have hd := List.drop_eq_getElem_cons h
  rw [← hx, beg_succ s i h]
  conv => rhs; rw [hd]
  rw [encR, ← hd]
  split <;> simp
end Go.Proofs.YtcmhaihoeecjoaaDoor
