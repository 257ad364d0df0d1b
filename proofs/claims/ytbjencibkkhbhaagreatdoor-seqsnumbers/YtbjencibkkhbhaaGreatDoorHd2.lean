/- nameOf and value of package header. -/
import Derived.Test.YtbjencibkkhbhaaGreatDoorHd1
import Derived.Test.YtbjencibkkhbhaaGreatDoorBld
import Derived.Shelf.Strings.SlTrimAscii
namespace Go.Proofs.YtbjencibkkhbhaaGreatDoor
open Go.RowKit Go.Shelf
theorem slcut_any (b : UInt8) (l : List UInt8) (w : World) (hl : l.length ≤ 1000000) :
    Calls Tryz.prog 70 #[.string ⟨l.toArray⟩, .string ⟨#[b]⟩] w fun e w' => e = .returned (.tuple #[.string ⟨(cutV b l).1.toArray⟩, .string ⟨(cutV b l).2.1.toArray⟩, .bool (cutV b l).2.2]) ∧ Below w.heap.size w w' := by
  by_cases hb : b ∈ l
  · obtain ⟨p, q, rfl, hp⟩ := split_at_byte l hb
    rw [cutV_in q hp]
    have HI : Hid (∀ w, Calls Tryz.prog 86 #[.string ⟨(p ++ b :: q).toArray⟩, .string ⟨#[b]⟩] w fun e w' => e = .returned (.int .i64 (p.length : Nat)) ∧ w' = w) := fun w => by
      have := Tryz.stringslite_Index_one ⟨(p ++ b :: q).toArray⟩ b w
      rw [show (⟨(p ++ b :: q).toArray⟩ : ByteArray).data.toList = p ++ b :: q from rfl, index_in q hp] at this
      exact this
    have e1 : (⟨(p ++ b :: q).toArray⟩ : ByteArray).extract 0 p.length = ⟨p.toArray⟩ := by rw [ext_take, List.take_left' rfl]
    have e2 : (⟨(p ++ b :: q).toArray⟩ : ByteArray).extract (p.length + 1) (p ++ b :: q).length = ⟨q.toArray⟩ := by
      rw [ext_drop, drop_mid]
    have hsz := size_lit (p ++ b :: q)
    have hll : p.length + 1 ≤ (p ++ b :: q).length := by simp
    obtain ⟨S, hS⟩ : ∃ S, p ++ b :: q = S := ⟨_, rfl⟩
    rw [hS] at HI e1 e2 hsz hll hl ⊢
    clear hS hb hp
    go_enter Tryz.func70, Tryz.ntmps70
    go_wp2_with (first
      | (go_at_call 86; refine (HI.out _).mono ?_; rintro e w2 ⟨rfl, rfl⟩))
    go_quiet (fail)
    go_wp2
    exact bodyPost_ret (v := .tuple #[.string ⟨p.toArray⟩, .string ⟨q.toArray⟩, .bool true]) (by simp [results, Tryz.results70, go_sem]) rfl ⟨rfl, bel_drewN _ _⟩
  · rw [cutV_out hb]
    have HI : Hid (∀ w, Calls Tryz.prog 86 #[.string ⟨l.toArray⟩, .string ⟨#[b]⟩] w fun e w' => e = .returned (.int .i64 (-1)) ∧ w' = w) := fun w => by
      have := Tryz.stringslite_Index_one ⟨l.toArray⟩ b w
      rw [show (⟨l.toArray⟩ : ByteArray).data.toList = l from rfl, index_out hb] at this
      exact this
    go_enter Tryz.func70, Tryz.ntmps70
    go_wp2_with (first
      | (go_at_call 86; refine (HI.out _).mono ?_; rintro e w2 ⟨rfl, rfl⟩))
    exact bodyPost_ret (v := .tuple #[.string ⟨l.toArray⟩, .string ⟨#[]⟩, .bool false]) (by simp [results, Tryz.results70, go_sem]) rfl ⟨rfl, Below.refl _ _⟩
theorem cut_any (b : UInt8) (l : List UInt8) (w : World) (hl : l.length ≤ 1000000) :
    Calls Tryz.prog 47 #[.string ⟨l.toArray⟩, .string ⟨#[b]⟩] w fun e w' => e = .returned (.tuple #[.string ⟨(cutV b l).1.toArray⟩, .string ⟨(cutV b l).2.1.toArray⟩, .bool (cutV b l).2.2]) ∧ Below w.heap.size w w' := by
  have H := hide (fun w => slcut_any b l w hl)
  generalize (cutV b l) = t at *
  obtain ⟨p, q, f⟩ := t
  go_enter Tryz.func47, Tryz.ntmps47
  go_wp2_with (first
    | (go_at_call 70; refine (H.out _).mono ?_; rintro e w2 ⟨rfl, hb2⟩; replace hb2 := hide hb2))
  exact bodyPost_ret (v := .tuple #[.string ⟨p.toArray⟩, .string ⟨q.toArray⟩, .bool f]) (by simp [results, Tryz.results47, go_sem]) rfl ⟨rfl, hb2.out⟩
/-- What nameOf answers. -/
def nameV (t : List UInt8) : List UInt8 × Bool := match nameO t with
  | some p => (p, true)
  | none => ([], false)
theorem nbB_lo {c : UInt8} (h : nbB c = true) : 33 ≤ c.toNat ∧ c.toNat ≤ 126 := by simpa [nbB] using h
theorem nbB_hi {c : UInt8} (h : nbB c = false) : c.toNat < 33 ∨ 126 < c.toNat := by
  simp [nbB] at h
  omega
theorem take_all_next {p : List UInt8} {k : Nat} (hk : k < p.length) (h : (p.take k).all nbB = true) (hc : nbB p[k] = true) : (p.take (k + 1)).all nbB = true := by
  rw [List.take_succ_eq_append_getElem hk, List.all_append, h]
  simp [hc]
theorem byteCells_app (x y : List UInt8) : Lib.byteCells x ++ Lib.byteCells y = Lib.byteCells (x ++ y) := by simp [Lib.byteCells]
theorem txts_len : ∀ (ls : List (List UInt8)), (ls.map txt).flatten.length ≤ ls.flatten.length
  | [] => Nat.le_refl _
  | x :: ls => by
    have h1 := txts_len ls
    have h2 := txt_len x
    simp only [List.map_cons, List.flatten_cons, List.length_append]
    omega
end Go.Proofs.YtbjencibkkhbhaaGreatDoor
