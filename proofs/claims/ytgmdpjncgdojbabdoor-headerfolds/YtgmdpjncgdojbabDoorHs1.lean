/- Small letters: small, smallText, Same of package header; the document's Small. -/
import Derived.Test.YtgmdpjncgdojbabDoorHd6
import Derived.Test.YtgmdpjncgdojbabDoorCalm
import Derived.Lib.ConvBytes
import Derived.Laws.IdiomStrings
namespace Go.Proofs.YtgmdpjncgdojbabDoor
open Go.RowKit Go.Shelf
def lowB (c : UInt8) : UInt8 := if 65 ≤ c.toNat ∧ c.toNat ≤ 90 then c + 32 else c
/-- Block B holds these bytes, none of them frozen. -/
def BY (w : World) (B : Nat) (bs : List UInt8) : Prop := ∀ j (hj : j < bs.length), w.cell? ⟨B, j, none⟩ = some (.int .u8 (bs[j].toNat : Int)) ∧ w.frozen? ⟨B, j, none⟩ = false
theorem BY.put {w : World} {B : Nat} {bs : List UInt8} (h : BY w B bs) (i : Nat) (c : UInt8) : BY (w.setCell ⟨B, i, none⟩ (.int .u8 (c.toNat : Int))) B (bs.set i c) := by
  intro j hj
  rw [List.length_set] at hj
  obtain ⟨h1, h2⟩ := h j hj
  refine ⟨?_, by rw [World.frozen?_setCell]; exact h2⟩
  by_cases hji : j = i
  · subst hji
    rw [List.getElem_set_self]
    exact World.cell?_setCell_same _ _ _ h1
  · rw [List.getElem_set_ne (fun e => hji e.symm), World.cell?_setCell_other _ ⟨B, i, none⟩ ⟨B, j, none⟩ _ (fun e => hji (by have := congrArg Addr.off e; simpa using this.symm))]
    exact h1
theorem conv_in (l : List UInt8) (w : World) : ∃ W1 cap, (convert 9 47 (.string ⟨l.toArray⟩)).run Tryd.prog w = .ok (.slice (some ⟨w.heap.size, 0, none⟩) l.length cap) W1 ∧ Below w.heap.size w W1 ∧ W1.heap.size = w.heap.size + 1 ∧ BY W1 w.heap.size l := by
  have h := Lib.run_convert_string_bytes (P := Tryd.prog) w 9 47 5 ⟨l.toArray⟩ Tryd.underlying9 Tryd.underlying47 Tryd.underlying5
  rw [size_lit] at h
  refine ⟨_, _, h, ⟨rfl, rfl, rfl, by rw [Lib.bytesWorld_size]; omega, fun j hj => Lib.bytesWorld_at_old _ _ _ j hj⟩, Lib.bytesWorld_size _ _ _, fun j hj => ⟨?_, ?_⟩⟩
  · rw [Lib.bytesWorld_cell _ _ _ j (by rw [size_lit]; exact hj)]
    simp [List.getElem?_eq_getElem hj]
  · have hb := Lib.bytesWorld_at_new w 5 ⟨l.toArray⟩
    have hs : l.length ≤ (Lib.bytesCells w 5 ⟨l.toArray⟩).size := by simp [Lib.bytesCells]
    simp only [World.frozen?, hb]
    simp
    omega
theorem conv_out {w : World} {B cap : Nat} {bs : List UInt8} (h : BY w B bs) : (convert 47 9 (.slice (some ⟨B, 0, none⟩) bs.length cap)).run Tryd.prog w = .ok (.string ⟨bs.toArray⟩) w :=
  run_convert_bytes_back (P := Tryd.prog) w 47 9 5 ⟨B, 0, none⟩ cap bs Tryd.underlying47 Tryd.underlying5 Tryd.underlying9 (fun j hj => by
    rw [Go.WideShapes.add_plain]
    have := (h j hj).1
    simpa using this)
/-- The bytes behind k rounds. -/
def lowK (l : List UInt8) (k : Nat) : List UInt8 := (l.take k).map lowB ++ l.drop k
theorem lowK_len (l : List UInt8) (k : Nat) : (lowK l k).length = l.length := by
  unfold lowK
  simp
  omega
theorem lowK_zero (l : List UInt8) : lowK l 0 = l := by simp [lowK]
theorem lowK_end (l : List UInt8) : lowK l l.length = l.map lowB := by simp [lowK]
theorem lowK_at (l : List UInt8) (k : Nat) (h : k < l.length) : (lowK l k)[k]'(by rw [lowK_len]; exact h) = l[k] := by
  unfold lowK
  rw [List.getElem_append_right (by simp; omega)]
  simp [Nat.min_eq_left (Nat.le_of_lt h)]
theorem lowK_next (l : List UInt8) (k : Nat) (h : k < l.length) : lowK l (k + 1) = (lowK l k).set k (lowB l[k]) := by
  unfold lowK
  rw [List.take_succ_eq_append_getElem h, List.map_append, List.set_append_right _ _ (by simp; omega)]
  simp [Nat.min_eq_left (Nat.le_of_lt h)]
  rw [List.drop_eq_getElem_cons h, List.set_cons_zero]
theorem lowK_same (l : List UInt8) (k : Nat) (h : k < l.length) (hl : lowB l[k] = l[k]) : lowK l (k + 1) = lowK l k := by
  rw [lowK_next l k h, hl]
  apply List.ext_getElem (by simp)
  intro n h1 h2
  by_cases hn : n = k
  · subst hn
    rw [List.getElem_set_self, lowK_at l n h]
  · rw [List.getElem_set_ne (fun e => hn e.symm)]
theorem lowB_int (c : UInt8) : ((lowB c).toNat : Int) = if 65 ≤ c.toNat ∧ c.toNat ≤ 90 then (c.toNat : Int) + 32 else (c.toNat : Int) := by
  unfold lowB
  split
  · rw [UInt8.toNat_add, show (32 : UInt8).toNat = 32 from rfl]
    omega
  · rfl
/-- The same but for capital letters. -/
def sameT (a b : List UInt8) : Bool := decide (a.map lowB = b.map lowB)
theorem map_take_next {a b : List UInt8} {i : Nat} (ha : i < a.length) (hb : i < b.length) (h : (a.take i).map lowB = (b.take i).map lowB) (hc : lowB a[i] = lowB b[i]) : (a.take (i + 1)).map lowB = (b.take (i + 1)).map lowB := by
  rw [List.take_succ_eq_append_getElem ha, List.take_succ_eq_append_getElem hb, List.map_append, List.map_append, h]
  simp [hc]
theorem map_ne {a b : List UInt8} {i : Nat} (ha : i < a.length) (hb : i < b.length) (hc : lowB a[i] ≠ lowB b[i]) : a.map lowB ≠ b.map lowB := by
  intro h
  apply hc
  have h1 : (a.map lowB)[i]? = (b.map lowB)[i]? := by rw [h]
  simpa [List.getElem?_eq_getElem ha, List.getElem?_eq_getElem hb] using h1
end Go.Proofs.YtgmdpjncgdojbabDoor
