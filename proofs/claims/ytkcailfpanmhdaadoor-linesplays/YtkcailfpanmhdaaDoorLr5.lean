/- lineOf: a line's text, or that it is long. -/
import Derived.Test.YtkcailfpanmhdaaDoorLr4
namespace Go.Proofs.YtkcailfpanmhdaaDoor
open Go.RowKit
/-- A line as a value. -/
def lineV (t : List UInt8) (g : Bool) : Value := .agg #[.string ⟨t.toArray⟩, .bool g]
/-- What a line of these bytes is told as. -/
def lineT (bs : List UInt8) : Value := if 1000 < bs.length then lineV [] true else lineV (trimCr bs) false
section
variable {w : World} {v : Value} {bs : List UInt8} {G : Option Nat}
set_option maxHeartbeats 1000000 in
theorem lineOf_any (h : Rw w 1 v bs.length (bs.map bv) G) : Calls Tryd.prog 25 #[v] w fun e w' => e = .returned (lineT bs) ∧ Below w.heap.size w w' := by
  obtain ⟨A, c, rfl⟩ := h.form
  have hcp := h.cap
  have H : Hid (Rw w 1 (.slice A bs.length c) bs.length (bs.map bv) G) := h
  clear h
  unfold lineT lineV
  by_cases hlen : 1000 < bs.length
  · have hlen' : (1000 : Int) < bs.length := by omega
    rw [if_pos hlen]
    go_enter Tryd.func25, Tryd.ntmps25
    go_wp2
    exact bodyPost_ret (v := .agg #[.string ⟨#[]⟩, .bool true]) (by simp [results, Tryd.results25, go_sem]) rfl ⟨rfl, (Below.refl _ _).alloc (Nat.le_refl _) _⟩
  · have hlen' : ¬ (1000 : Int) < bs.length := by omega
    rw [if_neg hlen]
    go_enter Tryd.func25, Tryd.ntmps25
    go_wp2_with fail
    have hb1 : Below w.heap.size w ((w.alloc (.cells #[.string ⟨#[]⟩, .bool false] 36)).alloc (.cells #[.int .u8 13] 5)) := ((Below.refl _ _).alloc (Nat.le_refl _) _).alloc (by simp) _
    refine (trim_rw (H.out.keep (S := fun _ => False) (Mvs.of_below hb1) (fun _ _ h => h)) ((Blk.new1 _ _ _ _).cell 0)).mono ?_
    rintro e w2 ⟨⟨v2, rfl, hv2⟩, rfl⟩
    obtain ⟨A2, c2, rfl⟩ := hv2.form
    have hcv := convert_rw hv2
    clear hv2
    go_wp2
    exact bodyPost_ret (v := .agg #[.string ⟨(trimCr bs).toArray⟩, .bool false]) (by simp [results, Tryd.results25, go_sem]) rfl ⟨rfl, ((Below.refl _ _).alloc (Nat.le_refl _) _).alloc (by simp) _⟩
end
end Go.Proofs.YtkcailfpanmhdaaDoor
