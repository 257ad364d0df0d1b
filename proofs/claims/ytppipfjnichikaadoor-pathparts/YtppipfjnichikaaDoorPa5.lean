/- strings.Cut at a byte; Local, Domain, isNobody, isSomebody, pathOf of package path. -/
import Derived.Test.YtppipfjnichikaaDoorPa2
import Derived.BigQuiet
import Derived.Deep.QuietTactic
namespace Go.Proofs.YtppipfjnichikaaDoor
open Go.RowKit Go.Shelf
theorem bel_drewN (w : World) (n : Nat) : Below w.heap.size w (w.drewN n) := ⟨rfl, rfl, rfl, Nat.le_refl _, fun _ _ => rfl⟩
/-- What strings.Cut tells at a byte. -/
def cutV (b : UInt8) : List UInt8 → List UInt8 × List UInt8 × Bool
  | [] => ([], [], false)
  | c :: l => if c = b then ([], l, true) else match cutV b l with | (p, q, f) => (c :: p, q, f)
theorem cutV_out {b : UInt8} : ∀ {l : List UInt8}, b ∉ l → cutV b l = (l, [], false)
  | [], _ => rfl
  | c :: l, h => by
    have h1 := cutV_out (l := l) (fun hp => h (List.mem_cons_of_mem _ hp))
    have hc : c ≠ b := fun e => h (by simp [e])
    rw [cutV, if_neg hc, h1]
theorem cutV_in {b : UInt8} : ∀ {p : List UInt8} (q : List UInt8), b ∉ p → cutV b (p ++ b :: q) = (p, q, true)
  | [], q, _ => by simp [cutV]
  | c :: p, q, h => by
    have h1 := cutV_in (p := p) q (fun hp => h (List.mem_cons_of_mem _ hp))
    have hc : c ≠ b := fun e => h (by simp [e])
    rw [List.cons_append, cutV, if_neg hc, h1]
theorem cutV_len (b : UInt8) : ∀ (l : List UInt8), (cutV b l).1.length ≤ l.length ∧ (cutV b l).2.1.length ≤ l.length
  | [] => by simp [cutV]
  | c :: l => by
    have := cutV_len b l
    unfold cutV
    split
    · simp
    · simp
      exact ⟨this.1, Nat.le_succ_of_le this.2⟩
theorem slcut_any (b : UInt8) (l : List UInt8) (w : World) (hl : l.length ≤ 1000000) :
    Calls Tryd.prog 36 #[.string ⟨l.toArray⟩, .string ⟨#[b]⟩] w fun e w' => e = .returned (.tuple #[.string ⟨(cutV b l).1.toArray⟩, .string ⟨(cutV b l).2.1.toArray⟩, .bool (cutV b l).2.2]) ∧ Below w.heap.size w w' := by
  by_cases hb : b ∈ l
  · obtain ⟨p, q, rfl, hp⟩ := split_at_byte l hb
    rw [cutV_in q hp]
    have HI : Hid (∀ w, Calls Tryd.prog 44 #[.string ⟨(p ++ b :: q).toArray⟩, .string ⟨#[b]⟩] w fun e w' => e = .returned (.int .i64 (p.length : Nat)) ∧ w' = w) := fun w => by
      have := Tryd.stringslite_Index_one ⟨(p ++ b :: q).toArray⟩ b w
      rw [show (⟨(p ++ b :: q).toArray⟩ : ByteArray).data.toList = p ++ b :: q from rfl, index_in q hp] at this
      exact this
    have e1 : (⟨(p ++ b :: q).toArray⟩ : ByteArray).extract 0 p.length = ⟨p.toArray⟩ := by rw [ext_take, List.take_left' rfl]
    have e2 : (⟨(p ++ b :: q).toArray⟩ : ByteArray).extract (p.length + 1) (p ++ b :: q).length = ⟨q.toArray⟩ := by
      rw [ext_drop, drop_mid]
    have hsz := size_lit (p ++ b :: q)
    have hll : p.length + 1 ≤ (p ++ b :: q).length := by simp
    obtain ⟨S, hS⟩ : ∃ S, p ++ b :: q = S := ⟨_, rfl⟩
    rw [hS] at HI e1 e2 hsz hll hl ⊢
    clear hS hb hp
    go_enter Tryd.func36, Tryd.ntmps36
    go_wp2_with (first
      | (go_at_call 44; refine (HI.out _).mono ?_; rintro e w2 ⟨rfl, rfl⟩))
    go_quiet (fail)
    go_wp2
    exact bodyPost_ret (v := .tuple #[.string ⟨p.toArray⟩, .string ⟨q.toArray⟩, .bool true]) (by simp [results, Tryd.results36, go_sem]) rfl ⟨rfl, bel_drewN _ _⟩
  · rw [cutV_out hb]
    have HI : Hid (∀ w, Calls Tryd.prog 44 #[.string ⟨l.toArray⟩, .string ⟨#[b]⟩] w fun e w' => e = .returned (.int .i64 (-1)) ∧ w' = w) := fun w => by
      have := Tryd.stringslite_Index_one ⟨l.toArray⟩ b w
      rw [show (⟨l.toArray⟩ : ByteArray).data.toList = l from rfl, index_out hb] at this
      exact this
    go_enter Tryd.func36, Tryd.ntmps36
    go_wp2_with (first
      | (go_at_call 44; refine (HI.out _).mono ?_; rintro e w2 ⟨rfl, rfl⟩))
    exact bodyPost_ret (v := .tuple #[.string ⟨l.toArray⟩, .string ⟨#[]⟩, .bool false]) (by simp [results, Tryd.results36, go_sem]) rfl ⟨rfl, Below.refl _ _⟩
theorem cut_any (b : UInt8) (l : List UInt8) (w : World) (hl : l.length ≤ 1000000) :
    Calls Tryd.prog 23 #[.string ⟨l.toArray⟩, .string ⟨#[b]⟩] w fun e w' => e = .returned (.tuple #[.string ⟨(cutV b l).1.toArray⟩, .string ⟨(cutV b l).2.1.toArray⟩, .bool (cutV b l).2.2]) ∧ Below w.heap.size w w' := by
  have H := hide (fun w => slcut_any b l w hl)
  generalize (cutV b l) = t at *
  obtain ⟨p, q, f⟩ := t
  go_enter Tryd.func23, Tryd.ntmps23
  go_wp2_with (first
    | (go_at_call 36; refine (H.out _).mono ?_; rintro e w2 ⟨rfl, hb2⟩; replace hb2 := hide hb2))
  exact bodyPost_ret (v := .tuple #[.string ⟨p.toArray⟩, .string ⟨q.toArray⟩, .bool f]) (by simp [results, Tryd.results23, go_sem]) rfl ⟨rfl, hb2.out⟩
theorem local_any (l : List UInt8) (w : World) (hs : l.length ≤ 1000000) : Calls Tryd.prog 16 #[.string ⟨l.toArray⟩] w fun e w' => e = .returned (.bool (localB l)) ∧ Below w.heap.size w w' := by
  have HP := hide (fun w => pieces_atom l w hs)
  by_cases h : l.length ≤ 64
  · have g : (l.length : Int) ≤ 64 := by omega
    have HV : Hid (localB l = (splitD l).all atomB) := by show _ = _; unfold localB; simp [h]
    clear h
    go_enter Tryd.func16, Tryd.ntmps16
    go_wp2_with (first
      | (go_at_call 28; refine (HP.out _).mono ?_; rintro e w2 ⟨rfl, hb2⟩; replace hb2 := hide hb2))
    go_ret
    exact ⟨by rw [HV.out]; rfl, hb2.out⟩
  · have g : ¬ (l.length : Int) ≤ 64 := by omega
    have g' : decide ((l.length : Int) ≤ 64) = false := decide_eq_false g
    have HV : Hid (localB l = false) := by show _ = _; unfold localB; simp [h]
    clear h HP
    go_enter Tryd.func16, Tryd.ntmps16
    go_wp2
    go_ret
    exact ⟨by rw [HV.out]; rfl, Below.refl _ _⟩
theorem dom_any (l : List UInt8) (w : World) (hs : l.length ≤ 1000000) : Calls Tryd.prog 18 #[.string ⟨l.toArray⟩] w fun e w' => e = .returned (.bool (domB l)) ∧ Below w.heap.size w w' := by
  have HP := hide (fun w => pieces_label l w hs)
  by_cases h : l.length ≤ 100
  · have g : (l.length : Int) ≤ 100 := by omega
    have HV : Hid (domB l = (splitD l).all labelB) := by show _ = _; unfold domB; simp [h]
    clear h
    go_enter Tryd.func18, Tryd.ntmps18
    go_wp2_with (first
      | (go_at_call 28; refine (HP.out _).mono ?_; rintro e w2 ⟨rfl, hb2⟩; replace hb2 := hide hb2))
    go_ret
    exact ⟨by rw [HV.out]; rfl, hb2.out⟩
  · have g : ¬ (l.length : Int) ≤ 100 := by omega
    have g' : decide ((l.length : Int) ≤ 100) = false := decide_eq_false g
    have HV : Hid (domB l = false) := by show _ = _; unfold domB; simp [h]
    clear h HP
    go_enter Tryd.func18, Tryd.ntmps18
    go_wp2
    go_ret
    exact ⟨by rw [HV.out]; rfl, Below.refl _ _⟩
def pV (l d : List UInt8) : Value := .agg #[.string ⟨l.toArray⟩, .string ⟨d.toArray⟩]
def somB (l d : List UInt8) : Bool := localB l && domB d
theorem somebody_any (l d : List UInt8) (w : World) (hl : l.length ≤ 1000000) (hd : d.length ≤ 1000000) : Calls Tryd.prog 27 #[.agg #[.string ⟨l.toArray⟩, .string ⟨d.toArray⟩]] w fun e w' => e = .returned (.bool (somB l d)) ∧ Below w.heap.size w w' := by
  have HL := hide (fun w => local_any l w hl)
  have HD := hide (fun w => dom_any d w hd)
  unfold somB
  cases hB : localB l
  · rw [hB] at HL
    clear hB HD
    go_enter Tryd.func27, Tryd.ntmps27
    go_wp2_with (first
      | (go_at_call 16; refine (HL.out _).mono ?_; rintro e w2 ⟨rfl, hb2⟩; replace hb2 := hide hb2))
    go_ret
    exact ⟨rfl, ((Below.refl _ _).alloc (Nat.le_refl _) _).trans (hb2.out.mono (by simp))⟩
  · rw [hB] at HL
    clear hB
    go_enter Tryd.func27, Tryd.ntmps27
    go_wp2_with (first
      | (go_at_call 16; refine (HL.out _).mono ?_; rintro e w2 ⟨rfl, hb2⟩; have hc := fun o => hb2.cell (p := ⟨w.heap.size, o, none⟩) (by simp); have hz := hb2.size; simp only [World.size_alloc] at hz; replace hb2 := hide hb2)
      | (go_at_call 18; refine (HD.out _).mono ?_; rintro e w3 ⟨rfl, hb3⟩; replace hb3 := hide hb3))
    go_ret
    exact ⟨by simp, (((Below.refl _ _).alloc (Nat.le_refl _) _).trans (hb2.out.mono (by simp))).trans (hb3.out.mono (by omega))⟩
end Go.Proofs.YtppipfjnichikaaDoor
