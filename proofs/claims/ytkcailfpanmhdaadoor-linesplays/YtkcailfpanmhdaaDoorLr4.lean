/- Rows of bytes: the library's searches and conversions on them; lineOf. -/
import Derived.Test.YtkcailfpanmhdaaDoorLr3
import Derived.Test.YtkcailfpanmhdaaDoorShelf
import Derived.Lib.Bytealg
namespace Go.Proofs.YtkcailfpanmhdaaDoor
open Go.RowKit

def nums (bs : List UInt8) : List Int := bs.map fun b => (b.toNat : Int)
theorem bytesOf_nums (bs : List UInt8) : Lib.bytesOf (nums bs) = bs := by
  unfold Lib.bytesOf nums
  rw [List.map_map]
  conv => rhs; rw [← List.map_id bs]
  apply List.map_congr_left
  intro b _
  simp
theorem nums_length (bs : List UInt8) : (nums bs).length = bs.length := by simp [nums]
theorem nums_getD (bs : List UInt8) (i : Nat) (h : i < bs.length) : Value.int .u8 ((nums bs).getD i 0) = bv bs[i] := by
  unfold nums bv
  simp [List.getD_eq_getElem?_getD, List.getElem?_eq_getElem h]

section
variable {w : World} {v : Value} {bs : List UInt8} {G : Option Nat}
theorem Rw.bytesIn {A : Option Addr} {c : Nat} (h : Rw w 1 (.slice A bs.length c) bs.length (bs.map bv) G) : Lib.BytesIn w A bs.length (nums bs) := by
  rcases h.2 with ⟨_, h0, _⟩ | ⟨g, o, cap, rfl, hv, h1, h2, h3, h4, h5⟩
  · rw [h0]
    exact Lib.BytesIn.nil _ _ _
  · cases hv
    exact fun _ => ⟨g, o, rfl, fun i hi => by rw [nums_getD bs i hi]; exact h4 i _ (by simp [List.getElem?_eq_getElem hi])⟩
theorem Rw.cap {A : Option Addr} {n c : Nat} {cs : List Value} (h : Rw w 1 (.slice A n c) n cs G) : n ≤ c ∧ c ≤ 9223372036854775807 := by
  rcases h.2 with ⟨hv, h0, _⟩ | ⟨g, o, cap, rfl, hv, h1, h2, h3, h4, h5⟩
  · cases hv
    omega
  · cases hv
    simp only [maxLen] at h2
    omega
theorem index10_rw (h : Rw w 1 v bs.length (bs.map bv) G) : Calls Tryd.prog 24 #[v, .int .u8 10] w fun e w' => e = .returned (.int .i64 (Lib.indexByte bs 10)) ∧ w' = w := by
  rcases h.2 with ⟨rfl, h0, _⟩ | ⟨g, o, cap, rfl, rfl, h1, h2, h3, h4, h5⟩
  · have : bs = [] := List.length_eq_zero_iff.1 h0
    subst this
    exact Tryd.bytes_IndexByte_nil 10 w
  · have := Tryd.bytes_IndexByte g o bs.length cap (nums bs) 10 w (nums_length bs) (fun i hi => by rw [nums_getD bs i hi]; exact h4 i _ (by simp [List.getElem?_eq_getElem hi]))
    rw [bytesOf_nums] at this
    exact this
theorem convert_rw (h : Rw w 1 v bs.length (bs.map bv) G) : (convert 27 9 v).run Tryd.prog w = .ok (.string ⟨bs.toArray⟩) w := by
  rcases h.2 with ⟨rfl, h0, _⟩ | ⟨g, o, cap, rfl, rfl, h1, h2, h3, h4, h5⟩
  · have : bs = [] := List.length_eq_zero_iff.1 h0
    subst this
    exact run_convert_bytes_zero w 27 5 Tryd.underlying27 Tryd.underlying5 none 0 9 Tryd.underlying9
  · exact run_convert_bytes_back (P := Tryd.prog) w 27 9 5 ⟨g, o, none⟩ cap bs Tryd.underlying27 Tryd.underlying5 Tryd.underlying9 (fun j hj => by
      rw [Go.WideShapes.add_plain]
      have := h4 j (bv bs[j]) (by simp [List.getElem?_eq_getElem hj])
      exact this)

/-- Bytes without a byte 13 at their end. -/
def trimCr (bs : List UInt8) : List UInt8 := if Lib.hasSuffix bs [13] then bs.take (bs.length - 1) else bs
theorem trim_rw (h : Rw w 1 v bs.length (bs.map bv) G) {k : Nat} (hk : w.cell? ⟨k, 0, none⟩ = some (.int .u8 13)) : Calls Tryd.prog 31 #[v, .slice (some ⟨k, 0, none⟩) 1 1] w fun e w' => (∃ v', e = .returned v' ∧ Rw w 1 v' (trimCr bs).length ((trimCr bs).map bv) G) ∧ w' = w := by
  obtain ⟨A, c, rfl⟩ := h.form
  have hcp := h.cap
  refine (Tryd.bytes_TrimSuffix_all A (some ⟨k, 0, none⟩) bs.length c 1 1 (nums bs) [13] w (nums_length bs) rfl hcp.1 (by omega) h.bytesIn (fun _ => ⟨k, 0, rfl, fun i hi => by
    have : i = 0 := by omega
    subst this
    exact hk⟩)).mono ?_
  rintro e w' ⟨rfl, rfl⟩
  refine ⟨⟨_, rfl, ?_⟩, rfl⟩
  rcases h.2 with ⟨hv, h0, rfl⟩ | ⟨g, o, cap, rfl, hv, h1, h2, h3, h4, h5⟩
  · have : bs = [] := List.length_eq_zero_iff.1 h0
    subst this
    cases hv
    exact Rw.nil _ _
  · cases hv
    unfold Lib.trimSuffixV Lib.bytesTrimSuffix Lib.sliceTo trimCr
    have e13 : Lib.bytesOf [13] = [13] := by decide
    simp only [bytesOf_nums, e13]
    split
    · have := h.to (k := bs.length - 1) (by omega)
      rw [List.length_take, List.map_take, Nat.min_eq_left (by omega)]
      exact this
    · exact h
end
end Go.Proofs.YtkcailfpanmhdaaDoor
