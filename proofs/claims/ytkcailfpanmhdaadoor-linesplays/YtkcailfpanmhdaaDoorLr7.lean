/- The reader of package lines: Line where there is one. -/
import Derived.Test.YtkcailfpanmhdaaDoorLr6
namespace Go.Proofs.YtkcailfpanmhdaaDoor
open Go.RowKit
theorem lineT_form (p : List UInt8) : ∃ t g, lineT p = .agg #[.string t, .bool g] := by
  unfold lineT lineV
  split
  · exact ⟨_, _, rfl⟩
  · exact ⟨_, _, rfl⟩
section
variable (w : World) (b : Nat) (G : Option Nat) (l : List UInt8)
set_option maxHeartbeats 1000000 in
theorem line_some (p r : List UInt8) (h : RD w b G l 0) (hn : cut10 l = some (p, r)) : Calls Tryd.prog 12 #[.pointer (some ⟨b, 0, none⟩)] w fun e w' => e = .returned (.tuple #[lineT p, .bool true]) ∧ Lined w w' b G r 0 := by
  obtain ⟨v, s, h⟩ := h
  obtain ⟨hl, h10⟩ := cut10_some hn
  have hs := h.searched
  have hsp : s ≤ p.length := by
    rcases Nat.lt_or_ge p.length s with hlt | hge
    · exact absurd (by rw [hl]; simp) (h.none10 p.length hlt)
    · exact hge
  have hix : Lib.indexByte (l.drop s) 10 = ((p.length - s : Nat) : Int) := by
    rw [hl, List.drop_append_of_le_length hsp, index_mid _ (fun hm => h10 (List.mem_of_mem_drop hm)), List.length_drop]
  have hlen : l.length = p.length + 1 + r.length := by rw [hl]; simp; omega
  have hdr : l.drop (p.length + 1) = r := by
    rw [hl]
    simp [List.drop_append, List.drop_eq_nil_of_le]
  have htk : l.take p.length = p := by rw [hl]; simp
  have hm1 : Mvs (fun _ => False) w (w.alloc (.cells #[.string ⟨#[]⟩, .bool false] 36)) := (Mvs.refl _ _).alloc _
  have hk : RDs (w.alloc (.cells #[.string ⟨#[]⟩, .bool false] 36)) b G l 0 v s := h.keep hm1 (fun _ _ c => c)
  have hc := hk.blk.cell
  have hmx := h.row.max
  simp only [maxLen] at hmx
  have hbw := h.blk.lt
  obtain ⟨t, gb, hT⟩ := lineT_form p
  have H : Hid (RDs (w.alloc (.cells #[.string ⟨#[]⟩, .bool false] 36)) b G l 0 v s) := hk
  have HM : Hid (Mvs (fun k => k = b) w (w.alloc (.cells #[.string ⟨#[]⟩, .bool false] 36))) := (Mvs.refl _ _).alloc _
  have HL : Hid (∀ g, G = some g → g < w.heap.size) := fun g hg => h.row.lt g hg
  have HT : Hid (lineT p = .agg #[.string t, .bool gb]) := hT
  have HD : Hid (l.drop (p.length + 1) = r) := hdr
  have HB : Hid (Blk (w.alloc (.cells #[.string ⟨#[]⟩, .bool false] 36)) w.heap.size #[.string ⟨#[]⟩, .bool false] 36) := Blk.new _ _ _
  rcases hk.tail with ⟨rfl, rfl, rfl⟩ | ⟨A, rfl, hls, hr⟩ | ⟨g, o, cap, rfl, hls, hcp, hr⟩
  · simp at hlen
    omega
  · omega
  · have HI : Hid (∀ n, Calls Tryd.prog 24 #[.slice (some ⟨g, o + s, none⟩) (l.length - s) (cap - s), .int .u8 10] ((w.alloc (.cells #[.string ⟨#[]⟩, .bool false] 36)).drewN n) fun e w' => e = .returned (.int .i64 ((p.length - s : Nat) : Int)) ∧ w' = (w.alloc (.cells #[.string ⟨#[]⟩, .bool false] 36)).drewN n) := index_drawn hr hix
    have hG : G = some g := by
      rcases hk.row.2 with ⟨h, _⟩ | ⟨g', o', cap', h, h', _⟩
      · cases h
      · cases h'
        exact h
    subst hG
    have HTo : Hid (Rw (w.alloc (.cells #[.string ⟨#[]⟩, .bool false] 36)) 1 (.slice (some ⟨g, o, none⟩) p.length cap) p.length (p.map bv) (some g)) := by
      have := hk.row.to (k := p.length) (by omega)
      rw [← List.map_take, htk] at this
      exact this
    have hne : ¬ cap = s := by omega
    have hpl : ((s : Int) + ((p.length - s : Nat) : Int)) = p.length := by omega
    have hpl2 : p.length < l.length := by omega
    have hpl3 : (p.length : Int) ≤ l.length := by omega
    have hpl4 : (p.length : Int) ≤ cap := by omega
    clear hk hr hix h hn hl h10 hdr htk hm1 hT hlen
    rw [HT.out]
    go_enter Tryd.func12, Tryd.ntmps12
    go_wp2_with fail
    go_quiet ((go_at_call 24; exact Calls.quiet_of_same (HI.out _)))
    go_wp2_with fail
    refine (lineOf_any (HTo.out.keep (S := fun _ => False) ((Mvs.refl _ _).drewN _) (fun _ _ c => c))).mono ?_
    rintro e w2 ⟨rfl, hb2⟩
    rw [HT.out]
    have hm2 : Mvs (fun _ => False) (w.alloc (.cells #[.string ⟨#[]⟩, .bool false] 36)) w2 := ((Mvs.refl _ _).drewN nq).then hb2
    have HM2 : Hid (Mvs (fun _ => False) (w.alloc (.cells #[.string ⟨#[]⟩, .bool false] 36)) w2) := hm2
    have hsz : w.heap.size < w2.heap.size := by have := hm2.size; simp at this; omega
    clear hb2 hm2 hc
    go_wp2_with fail
    have hm3 : Mvs (fun _ => False) (w.alloc (.cells #[.string ⟨#[]⟩, .bool false] 36)) (w2.alloc (.cells #[.string t, .bool gb] 36)) := HM2.out.alloc _
    have hk3 := H.out.keep hm3 (fun _ _ c => c)
    have e1 : (p.length : Int) + 1 = ((p.length + 1 : Nat) : Int) := by omega
    rw [e1]
    refine (drop_any _ b _ l 0 _ s hk3 (p.length + 1) (by omega)).mono ?_
    rintro e w4 ⟨rfl, G4, v4, hk4, hm4, hg4⟩
    rw [HD.out] at hk4
    have hB4 : Blk w4 w.heap.size #[.string ⟨#[]⟩, .bool false] 36 := hm4.blk (hm3.blk HB.out (fun c => c)) (by omega)
    have hC4 : Blk w4 w2.heap.size #[.string t, .bool gb] 36 := hm4.blk (Blk.new _ _ _) (by omega)
    have hb0 := hB4.cell
    have hbf := hB4.frozen
    have hc0 := hC4.cell
    have hne2 : w2.heap.size ≠ w.heap.size := by omega
    have HE : Hid (RDs w4 b G4 r 0 v4 (s - (p.length + 1))) := hk4
    have HG : Hid (G4 = some g ∨ G4 = none) := hg4
    have HM4 : Hid (Mvs (fun k => k = b) w w4) := ((HM.out.trans' hm3 (fun _ _ c => c.elim)).trans' hm4 (fun _ _ c => c))
    have HB4 : Hid (Blk w4 w.heap.size #[.string ⟨#[]⟩, .bool false] 36) := hB4
    clear hm3 hk3 hk4 hg4 hm4 hB4 hC4 e1
    go_wp2
    refine bodyPost_ret (v := .tuple #[.agg #[.string t, .bool gb], .bool true]) (by simp [results, Tryd.results12, go_sem, hb0]) rfl ⟨rfl, G4, ⟨v4, _, HE.out.keep (S := fun k => k = w.heap.size) (((Mvs.refl (fun k => k = w.heap.size) _).setCell _ _ (fun _ => rfl)).setCell _ _ (fun _ => rfl)) ?_⟩, (HM4.out.setCell _ _ (fun h => absurd h (by simp))).setCell _ _ (fun h => absurd h (by simp)), HG.out⟩
    rintro k (rfl | hk) e
    · omega
    · rcases HG.out with rfl | rfl
      · have := HL.out k hk.symm
        omega
      · cases hk
theorem line_any (a : Nat) (h : RD w b G l a) : Calls Tryd.prog 12 #[.pointer (some ⟨b, 0, none⟩)] w fun e w' => e = .returned (.tuple #[(lineOut l a).1, .bool (lineOut l a).2.1]) ∧ Lined w w' b G (lineOut l a).2.2 a := by
  unfold lineOut
  split
  · next ha =>
    refine (line_waits w b G l a h ha).mono ?_
    rintro e w' ⟨rfl, hb⟩
    exact ⟨rfl, G, h.keep (S := fun k => False) (Mvs.of_below hb) (fun _ _ c => c), Mvs.of_below hb, .inl rfl⟩
  · next ha =>
    obtain rfl : a = 0 := by omega
    split
    · next hn => exact line_none w b G l h hn
    · next p r hn => exact line_some w b G l p r h hn
end
end Go.Proofs.YtkcailfpanmhdaaDoor
