/- The reader of package lines: Line. -/
import Derived.Test.YtkcailfpanmhdaaDoorLr5
import Derived.Test.YtkcailfpanmhdaaDoorCalm
namespace Go.Proofs.YtkcailfpanmhdaaDoor
open Go.RowKit
/-- The bytes ahead of the first byte 10, and those behind it. -/
def cut10 : List UInt8 → Option (List UInt8 × List UInt8)
  | [] => none
  | c :: r => if c = 10 then some ([], r) else (cut10 r).map fun p => (c :: p.1, p.2)
theorem cut10_none : ∀ {l : List UInt8}, cut10 l = none → (10 : UInt8) ∉ l
  | [], _ => by simp
  | c :: r, h => by
    unfold cut10 at h
    split at h
    · cases h
    · next hc =>
      have := cut10_none (Option.map_eq_none_iff.1 h)
      simp only [List.mem_cons, not_or]
      exact ⟨fun e => hc e.symm, this⟩
theorem cut10_some : ∀ {l p r : List UInt8}, cut10 l = some (p, r) → l = p ++ 10 :: r ∧ (10 : UInt8) ∉ p
  | [], _, _, h => by cases h
  | c :: l, p, r, h => by
    unfold cut10 at h
    split at h
    · next hc =>
      cases h
      exact ⟨by rw [hc]; rfl, by simp⟩
    · next hc =>
      obtain ⟨⟨p', r'⟩, h1, h2⟩ := Option.map_eq_some_iff.1 h
      obtain ⟨rfl, h4⟩ := cut10_some h1
      cases h2
      exact ⟨rfl, by simp only [List.mem_cons, not_or]; exact ⟨fun e => hc e.symm, h4⟩⟩
theorem index_none : ∀ {l : List UInt8}, (10 : UInt8) ∉ l → Lib.indexByte l 10 = -1
  | [], _ => rfl
  | c :: r, h => by
    simp only [List.mem_cons, not_or] at h
    unfold Lib.indexByte
    rw [if_neg (by simpa using fun e => h.1 e.symm), index_none h.2]
    rfl
theorem index_mid : ∀ {p : List UInt8} (r : List UInt8), (10 : UInt8) ∉ p → Lib.indexByte (p ++ 10 :: r) 10 = p.length
  | [], _, _ => by simp [Lib.indexByte]
  | c :: p, r, h => by
    simp only [List.mem_cons, not_or] at h
    show Lib.indexByte (c :: (p ++ 10 :: r)) 10 = _
    unfold Lib.indexByte
    rw [if_neg (by simpa using fun e => h.1 e.symm), index_mid r h.2, if_neg (by simp; try omega)]
    simp
/-- What Line answers, and what is held behind it. -/
def lineOut (l : List UInt8) (a : Nat) : Value × Bool × List UInt8 :=
  if 0 < a then (lineV [] false, false, l) else match cut10 l with
    | none => (lineV [] false, false, l)
    | some (p, r) => (lineT p, true, r)
/-- Behind Line. -/
def Lined (w w' : World) (b : Nat) (G : Option Nat) (l : List UInt8) (a : Nat) : Prop := ∃ G', RD w' b G' l a ∧ Mvs (fun k => k = b) w w' ∧ (G' = G ∨ G' = none)
/-- How held[s:] lies. -/
theorem RDs.tail {w : World} {b : Nat} {G : Option Nat} {l : List UInt8} {a : Nat} {v : Value} {s : Nat} (h : RDs w b G l a v s) :
    (v = .slice none 0 0 ∧ s = 0 ∧ l = []) ∨ (∃ A, v = .slice (some A) l.length s ∧ l.length = s ∧ Rw w 1 (.slice (some A) 0 0) (l.drop s).length ((l.drop s).map bv) G) ∨
    (∃ g o cap, v = .slice (some ⟨g, o, none⟩) l.length cap ∧ s < cap ∧ l.length ≤ cap ∧ Rw w 1 (.slice (some ⟨g, o + s, none⟩) (l.length - s) (cap - s)) (l.drop s).length ((l.drop s).map bv) G) := by
  have hs := h.searched
  rcases h.row.2 with ⟨rfl, hl0, rfl⟩ | ⟨g, o, cap, rfl, rfl, h1, h2, h3, h4, h5⟩
  · exact .inl ⟨rfl, by omega, List.length_eq_zero_iff.1 hl0⟩
  · have := (h.row).from hs
    unfold fromV at this
    rw [← List.length_drop, ← List.map_drop] at this
    by_cases hc : cap = s
    · subst hc
      have e : l.length = cap := by omega
      refine .inr (.inl ⟨_, rfl, e, ?_⟩)
      rw [if_pos rfl] at this
      have e0 : (l.drop cap).length = 0 := by rw [List.length_drop]; omega
      rw [e0, Nat.sub_self] at this
      rw [e0]
      exact this
    · rw [if_neg hc, List.length_drop] at this
      refine .inr (.inr ⟨g, o, cap, rfl, by omega, h1, ?_⟩)
      rw [List.length_drop]
      exact this

section
variable (w : World) (b : Nat) (G : Option Nat) (l : List UInt8) (a : Nat)
set_option maxHeartbeats 1000000 in
theorem line_waits (h : RD w b G l a) (ha : 0 < a) : Calls Tryd.prog 12 #[.pointer (some ⟨b, 0, none⟩)] w fun e w' => e = .returned (.tuple #[lineV [] false, .bool false]) ∧ Below w.heap.size w w' := by
  obtain ⟨v, s, h⟩ := h
  have hb := Blk.alloc h.blk (.cells #[.string ⟨#[]⟩, .bool false] 36)
  have hc := hb.cell
  have ha' : (0 : Int) < a := by omega
  clear h hb
  unfold lineV
  go_enter Tryd.func12, Tryd.ntmps12
  go_wp2
  exact bodyPost_ret (v := .tuple #[.agg #[.string ⟨#[]⟩, .bool false], .bool false]) (by simp [results, Tryd.results12, go_sem]) rfl ⟨rfl, (Below.refl _ _).alloc (Nat.le_refl _) _⟩

/-- The search, in whatever world that the draw leaves. -/
theorem index_drawn {W : World} {V : Value} {bs : List UInt8} {G : Option Nat} {x : Int} (h : Rw W 1 V bs.length (bs.map bv) G) (hx : Lib.indexByte bs 10 = x) (n : Nat) :
    Calls Tryd.prog 24 #[V, .int .u8 10] (W.drewN n) fun e w' => e = .returned (.int .i64 x) ∧ w' = W.drewN n := by
  subst hx
  exact index10_rw (h.keep (S := fun _ => False) ((Mvs.refl _ _).drewN _) (fun _ _ c => c))
theorem index_at {W : World} {V : Value} {bs : List UInt8} {G : Option Nat} {x : Int} (h : Rw W 1 V bs.length (bs.map bv) G) (hx : Lib.indexByte bs 10 = x) :
    Calls Tryd.prog 24 #[V, .int .u8 10] W fun e w' => e = .returned (.int .i64 x) ∧ w' = W := index_drawn h hx 0

/-- The end of a Line that found none. -/
theorem RDs.noted {W : World} {b : Nat} {G : Option Nat} {l : List UInt8} {a : Nat} {v : Value} {s n r : Nat} {x : Int} {y0 y1 : Value} (h : RDs W b G l a v s) (h10 : (10 : UInt8) ∉ l) (hx : x = l.length) (hr : r ≠ b) (hg : ∀ g, G = some g → g ≠ r) :
    RDs ((((W.drewN n).setCell ⟨b, 1, none⟩ (.int .i64 x)).setCell ⟨r, 0, none⟩ y0).setCell ⟨r, 1, none⟩ y1) b G l a v l.length := by
  subst hx
  have h1 : RDs ((W.drewN n).setCell ⟨b, 1, none⟩ (.int .i64 (l.length : Int))) b G l a v l.length :=
    ⟨(Blk.drewN h.blk n).set 1 _, (h.row.keep (S := fun _ => False) ((Mvs.refl _ _).drewN n) (fun _ _ c => c)).set_b h.apart _ _, h.apart, Nat.le_refl _, fun j _ e => h10 (List.mem_of_getElem? e)⟩
  refine h1.keep (S := fun k => k = r) (((Mvs.refl (fun k => k = r) _).setCell ⟨r, 0, none⟩ y0 (fun _ => rfl)).setCell ⟨r, 1, none⟩ y1 (fun _ => rfl)) ?_
  rintro k (rfl | hk) e
  · exact hr e.symm
  · exact hg k hk.symm e

set_option maxHeartbeats 1000000 in
theorem line_none (h : RD w b G l 0) (hn : cut10 l = none) : Calls Tryd.prog 12 #[.pointer (some ⟨b, 0, none⟩)] w fun e w' => e = .returned (.tuple #[lineV [] false, .bool false]) ∧ Lined w w' b G l 0 := by
  obtain ⟨v, s, h⟩ := h
  have h10 := cut10_none hn
  have hix : Lib.indexByte (l.drop s) 10 = -1 := index_none (fun hm => h10 (List.mem_of_mem_drop hm))
  have hm1 : Mvs (fun _ => False) w (w.alloc (.cells #[.string ⟨#[]⟩, .bool false] 36)) := (Mvs.refl _ _).alloc _
  have hk : RDs (w.alloc (.cells #[.string ⟨#[]⟩, .bool false] 36)) b G l 0 v s := h.keep hm1 (fun _ _ c => c)
  have hc := hk.blk.cell
  have hf := hk.blk.frozen
  have hs := h.searched
  have hmx := h.row.max
  simp only [maxLen] at hmx
  have hbw := h.blk.lt
  have hbne : w.heap.size ≠ b := by omega
  have H : Hid (RDs (w.alloc (.cells #[.string ⟨#[]⟩, .bool false] 36)) b G l 0 v s) := hk
  have HM : Hid (Mvs (fun k => k = b) w (w.alloc (.cells #[.string ⟨#[]⟩, .bool false] 36))) := (Mvs.refl _ _).alloc _
  have H10 : Hid ((10 : UInt8) ∉ l) := h10
  have HL : Hid (∀ g, G = some g → g ≠ w.heap.size) := fun g hg => Nat.ne_of_lt (h.row.lt g hg)
  have fin : ∀ (n : Nat) (x : Int) (y0 y1 : Value), x = l.length → Lined w (((((w.alloc (.cells #[.string ⟨#[]⟩, .bool false] 36)).drewN n).setCell ⟨b, 1, none⟩ (.int .i64 x)).setCell ⟨w.heap.size, 0, none⟩ y0).setCell ⟨w.heap.size, 1, none⟩ y1) b G l 0 := by
    intro n x y0 y1 hx
    refine ⟨G, ⟨v, l.length, H.out.noted H10.out hx hbne HL.out⟩, ?_, .inl rfl⟩
    exact (((HM.out.drewN n).setCell _ _ (fun _ => rfl)).setCell _ _ (fun h => absurd h (by simp))).setCell _ _ (fun h => absurd h (by simp))
  have FIN : Hid (∀ (n : Nat) (x : Int) (y0 y1 : Value), x = l.length → Lined w (((((w.alloc (.cells #[.string ⟨#[]⟩, .bool false] 36)).drewN n).setCell ⟨b, 1, none⟩ (.int .i64 x)).setCell ⟨w.heap.size, 0, none⟩ y0).setCell ⟨w.heap.size, 1, none⟩ y1) b G l 0) := fin
  clear h10 hn hm1 h fin
  unfold lineV
  rcases hk.tail with ⟨rfl, rfl, rfl⟩ | ⟨A, rfl, hls, hr⟩ | ⟨g, o, cap, rfl, hls, hcp, hr⟩
  · have HI : Hid (∀ n, Calls Tryd.prog 24 #[.slice none 0 0, .int .u8 10] ((w.alloc (.cells #[.string ⟨#[]⟩, .bool false] 36)).drewN n) fun e w' => e = .returned (.int .i64 (-1)) ∧ w' = (w.alloc (.cells #[.string ⟨#[]⟩, .bool false] 36)).drewN n) := index_drawn hk.row hix
    clear hk hs hmx hix
    go_enter Tryd.func12, Tryd.ntmps12
    go_wp2_with fail
    go_quiet ((go_at_call 24; exact Calls.quiet_of_same (HI.out _)))
    go_wp2
    exact bodyPost_ret (v := .tuple #[.agg #[.string ⟨#[]⟩, .bool false], .bool false]) (by simp [results, Tryd.results12, go_sem]) rfl ⟨rfl, FIN.out _ _ _ _ rfl⟩
  · have HI : Hid (∀ n, Calls Tryd.prog 24 #[.slice (some A) 0 0, .int .u8 10] ((w.alloc (.cells #[.string ⟨#[]⟩, .bool false] 36)).drewN n) fun e w' => e = .returned (.int .i64 (-1)) ∧ w' = (w.alloc (.cells #[.string ⟨#[]⟩, .bool false] 36)).drewN n) := index_drawn hr hix
    subst hls
    clear hk hr hix hs
    go_enter Tryd.func12, Tryd.ntmps12
    go_wp2_with fail
    go_quiet ((go_at_call 24; exact Calls.quiet_of_same (HI.out _)))
    go_wp2
    exact bodyPost_ret (v := .tuple #[.agg #[.string ⟨#[]⟩, .bool false], .bool false]) (by simp [results, Tryd.results12, go_sem]) rfl ⟨rfl, FIN.out _ _ _ _ rfl⟩
  · have HI : Hid (∀ n, Calls Tryd.prog 24 #[.slice (some ⟨g, o + s, none⟩) (l.length - s) (cap - s), .int .u8 10] ((w.alloc (.cells #[.string ⟨#[]⟩, .bool false] 36)).drewN n) fun e w' => e = .returned (.int .i64 (-1)) ∧ w' = (w.alloc (.cells #[.string ⟨#[]⟩, .bool false] 36)).drewN n) := index_drawn hr hix
    have hne : ¬ cap = s := by omega
    clear hk hr hix
    go_enter Tryd.func12, Tryd.ntmps12
    go_wp2_with fail
    go_quiet ((go_at_call 24; exact Calls.quiet_of_same (HI.out _)))
    go_wp2
    exact bodyPost_ret (v := .tuple #[.agg #[.string ⟨#[]⟩, .bool false], .bool false]) (by simp [results, Tryd.results12, go_sem]) rfl ⟨rfl, FIN.out _ _ _ _ rfl⟩
end
end Go.Proofs.YtkcailfpanmhdaaDoor
