/- The library's contracts of (*strings.Builder).WriteString and WriteByte, laid by hand. -/
/- nameOf and value of package header. -/
/- Body of package header; places: the iterator over a header's fields, for every body. -/
import Derived.Shelf.Strings.BuilderK
import Derived.Test.YtdbmaobjikjifaaGreatDoorRProg
import Derived.Test.YtdbmaobjikjifaaGreatDoorRU10
import Derived.Shelf.Strings.SlTrimAscii
import Derived.RangeFuncNested
import Derived.RangeFuncBound
import Derived.RangeFuncCalls
import Derived.RangeFuncLeaves
import Derived.RangeFuncBox
import Derived.Shelf.Abstract
import Derived.Shelf.RegionOpen
import Derived.OwnWalkIn
import Derived.TacticsInMore
import Derived.LoopNIn
import Derived.LoopIn
section
namespace Go.Proofs
open Go.Shelf
end Go.Proofs

end
section
namespace Go.Proofs.YtdbmaobjikjifaaGreatDoorR
open Go.RowKit Go.Shelf
/-- What nameOf answers. -/
def nameV (t : List UInt8) : List UInt8 × Bool := match nameO t with
  | some p => (p, true)
  | none => ([], false)
theorem nbB_lo {c : UInt8} (h : nbB c = true) : 33 ≤ c.toNat ∧ c.toNat ≤ 126 := by simpa [nbB] using h
theorem nbB_hi {c : UInt8} (h : nbB c = false) : c.toNat < 33 ∨ 126 < c.toNat := by
  simp [nbB] at h
  omega
theorem take_all_next {p : List UInt8} {k : Nat} (hk : k < p.length) (h : (p.take k).all nbB = true) (hc : nbB p[k] = true) : (p.take (k + 1)).all nbB = true := by
  rw [List.take_succ_eq_append_getElem hk, List.all_append, h]
  simp [hc]
theorem byteCells_app (x y : List UInt8) : Lib.byteCells x ++ Lib.byteCells y = Lib.byteCells (x ++ y) := by simp [Lib.byteCells]
theorem txts_len : ∀ (ls : List (List UInt8)), (ls.map txt).flatten.length ≤ ls.flatten.length
  | [] => Nat.le_refl _
  | x :: ls => by
    have h1 := txts_len ls
    have h2 := txt_len x
    simp only [List.map_cons, List.flatten_cons, List.length_append]
    omega
end Go.Proofs.YtdbmaobjikjifaaGreatDoorR

end
section
namespace Go.Proofs.YtdbmaobjikjifaaGreatDoorR
open Go.RowKit Go.Shelf
attribute [local go_sem] Oper.semAt_some
theorem lit_empty {t : List UInt8} (h : t = []) : ((⟨t.toArray⟩ : ByteArray) == ⟨#[]⟩) = true := by subst h; rfl
theorem nameV_some {t p : List UInt8} (h : nameO t = some p) : nameV t = (p, true) := by
  unfold nameV
  rw [h]
theorem nameV_none {t : List UInt8} (h : nameO t = none) : nameV t = ([], false) := by
  unfold nameV
  rw [h]
end Go.Proofs.YtdbmaobjikjifaaGreatDoorR

end
