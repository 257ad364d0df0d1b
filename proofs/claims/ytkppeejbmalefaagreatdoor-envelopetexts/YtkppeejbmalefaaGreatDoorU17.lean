/- Rows of structs in memory, of whatever shape. -/
/- Addresses of package envelope. -/
import Derived.Test.YtkppeejbmalefaaGreatDoorU04
import Derived.WideShapes
import Derived.Test.YtkppeejbmalefaaGreatDoorU16
import Derived.Test.YtkppeejbmalefaaGreatDoorU08
import Derived.Test.YtkppeejbmalefaaGreatDoorU11
section
namespace Go.Proofs.YtkppeejbmalefaaGreatDoor
open Go.RowKit
section
variable {α : Type} {f : α → List Value} {sz : Nat}
theorem flat_len (hf : ∀ x, (f x).length = sz) : ∀ (xs : List α), (xs.flatMap f).length = xs.length * sz
  | [] => by simp
  | x :: r => by
    rw [List.flatMap_cons, List.length_append, hf, flat_len hf r, List.length_cons, Nat.add_mul]
    omega
theorem flat_at (hf : ∀ x, (f x).length = sz) : ∀ (xs : List α) (i : Nat) (hi : i < xs.length) (j : Nat), j < sz → (xs.flatMap f)[i * sz + j]? = (f xs[i])[j]?
  | x :: r, 0, _, j, hj => by
    rw [List.flatMap_cons, List.getElem?_append_left (by rw [hf]; omega)]
    simp
  | x :: r, i + 1, hi, j, hj => by
    have h1 : (i + 1) * sz + j = sz + (i * sz + j) := by rw [Nat.add_mul]; omega
    rw [List.flatMap_cons, List.getElem?_append_right (by rw [hf, h1]; omega), hf, h1, show sz + (i * sz + j) - sz = i * sz + j by omega, flat_at hf r i (by simpa using hi) j hj]
    rfl
/-- A slice that reads as these, in a block from B on (or nil), which is this call's own. -/
def RowOf (f : α → List Value) (sz B : Nat) (w : World) (v : Value) (xs : List α) : Prop := ∃ G, Rw w sz v xs.length (xs.flatMap f) G ∧ ∀ g, G = some g → B ≤ g
theorem RowOf.nil (f : α → List Value) (sz B : Nat) (w : World) : RowOf f sz B w (.slice none 0 0) [] := ⟨none, Rw.nil w sz, fun _ h => by cases h⟩
section
variable {B B' : Nat} {w w' : World} {v : Value} {xs : List α} {S : Nat → Prop}
theorem RowOf.keep (h : RowOf f sz B w v xs) (hm : Mvs S w w') (hs : ∀ k, B ≤ k → ¬ S k) : RowOf f sz B w' v xs := by
  obtain ⟨G, hr, hg⟩ := h
  exact ⟨G, hr.keep hm (fun g e => hs g (hg g e)), hg⟩
theorem RowOf.below (h : RowOf f sz B w v xs) (hb : Below w.heap.size w w') : RowOf f sz B w' v xs := h.keep (S := fun _ => False) (Mvs.of_below hb) (fun _ _ c => c)
theorem RowOf.mono (h : RowOf f sz B w v xs) (hb : B' ≤ B) : RowOf f sz B' w v xs := by
  obtain ⟨G, hr, hg⟩ := h
  exact ⟨G, hr, fun g e => Nat.le_trans hb (hg g e)⟩
theorem RowOf.form (h : RowOf f sz B w v xs) : ∃ A c, v = .slice A xs.length c := by
  obtain ⟨G, hr, _⟩ := h
  exact hr.form
theorem RowOf.read (hf : ∀ x, (f x).length = sz) (h : RowOf f sz B w v xs) (i : Nat) (hi : i < xs.length) : ∃ g o cap, v = .slice (some ⟨g, o, none⟩) xs.length cap ∧ xs.length ≤ cap ∧ cap ≤ maxLen ∧ B ≤ g ∧ g < w.heap.size ∧ ∀ j, j < sz → w.cell? ⟨g, o + i * sz + j, none⟩ = (f xs[i])[j]? := by
  obtain ⟨G, hr, hg⟩ := h
  rcases hr.2 with ⟨_, h0, _⟩ | ⟨g, o, cap, e, hv, h1, h2, h3, h4, _⟩
  · omega
  · refine ⟨g, o, cap, hv, h1, h2, hg g e, h3, fun j hj => ?_⟩
    have ha := flat_at hf xs i hi j hj
    have hj' : j < (f xs[i]).length := by rw [hf]; exact hj
    rw [List.getElem?_eq_getElem hj'] at ha
    rw [Nat.add_assoc, h4 _ _ ha, List.getElem?_eq_getElem hj']
/-- Behind an append of one more. -/
theorem RowOf.grow {x : α} {wr w1 : World} {v1 : Value} {G G1 : Option Nat} (hg : ∀ g, G = some g → B ≤ g) (hr : Rw w1 sz v1 (xs.length + 1) (xs.flatMap f ++ f x) G1) (hG : G1 = G ∨ G1 = some wr.heap.size) (hB : B ≤ wr.heap.size) : RowOf f sz B w1 v1 (xs ++ [x]) := by
  refine ⟨G1, ?_, ?_⟩
  · rw [List.length_append, List.flatMap_append]
    simpa using hr
  · rintro g rfl
    rcases hG with h | h
    · exact hg g h.symm
    · cases h
      exact hB
theorem RowOf.growN {x : α} {w1 : World} {v1 : Value} {G G1 : Option Nat} {N : Nat} (hg : ∀ g, G = some g → B ≤ g) (hr : Rw w1 sz v1 (xs.length + 1) (xs.flatMap f ++ f x) G1) (hG : G1 = G ∨ G1 = some N) (hB : B ≤ N) : RowOf f sz B w1 v1 (xs ++ [x]) := by
  refine ⟨G1, ?_, ?_⟩
  · rw [List.length_append, List.flatMap_append]
    simpa using hr
  · rintro g rfl
    rcases hG with h | h
    · exact hg g h.symm
    · cases h
      exact hB
/-- A slice that reads as these, whoever's it is. -/
def ReadOf (f : α → List Value) (sz : Nat) (w : World) (v : Value) (xs : List α) : Prop := ∃ A cap, v = .slice A xs.length cap ∧ ∀ i (hi : i < xs.length), ∃ g o, A = some ⟨g, o, none⟩ ∧ g < w.heap.size ∧ ∀ j, j < sz → w.cell? ⟨g, o + i * sz + j, none⟩ = (f xs[i])[j]?
theorem RowOf.reads (hf : ∀ x, (f x).length = sz) (h : RowOf f sz B w v xs) : ReadOf f sz w v xs := by
  obtain ⟨A, c, rfl⟩ := h.form
  refine ⟨A, c, rfl, fun i hi => ?_⟩
  obtain ⟨g, o, cap, e, _, _, _, h3, h4⟩ := h.read hf i hi
  exact ⟨g, o, by cases e; rfl, h3, h4⟩
theorem ReadOf.nil (f : α → List Value) (sz : Nat) (w : World) : ReadOf f sz w (.slice none 0 0) [] := ⟨none, 0, rfl, fun i hi => by simp at hi⟩
theorem ReadOf.below (h : ReadOf f sz w v xs) (hb : Below w.heap.size w w') : ReadOf f sz w' v xs := by
  obtain ⟨A, c, rfl, h⟩ := h
  refine ⟨A, c, rfl, fun i hi => ?_⟩
  obtain ⟨g, o, e, hg, hc⟩ := h i hi
  exact ⟨g, o, e, Nat.lt_of_lt_of_le hg hb.size, fun j hj => (hb.cell (p := ⟨g, _, none⟩) hg).trans (hc j hj)⟩
theorem ReadOf.belowB (h : ReadOf f sz w v xs) (hb : Below B w w') (hlt : ∀ A n c, v = .slice (some A) n c → A.block < B) : ReadOf f sz w' v xs := by
  obtain ⟨A, c, rfl, h⟩ := h
  refine ⟨A, c, rfl, fun i hi => ?_⟩
  obtain ⟨g, o, rfl, hg, hc⟩ := h i hi
  have : g < B := hlt _ _ _ rfl
  exact ⟨g, o, rfl, Nat.lt_of_lt_of_le hg hb.size, fun j hj => (hb.cell (p := ⟨g, o + i * sz + j, none⟩) this).trans (hc j hj)⟩
end
end
end Go.Proofs.YtkppeejbmalefaaGreatDoor

end
section
namespace Go.Proofs.YtkppeejbmalefaaGreatDoor
open Go.RowKit Go.Shelf
def Ad.cs (a : Ad) : List Value := [.string ⟨a.name.toArray⟩, .string ⟨a.loc.toArray⟩, .string ⟨a.dom.toArray⟩]
theorem Ad.cs_len (a : Ad) : a.cs.length = 3 := rfl
theorem adInfo : (Tryz.prog.info? 39).map (fun i => (i.zero, i.size, i.bytes)) = some (some (.agg #[.string ⟨#[]⟩, .string ⟨#[]⟩, .string ⟨#[]⟩]), 3, 48) := by kernel_rfl
theorem src_ad {w : World} (p : Ad) {k : Nat} : Src Tryz.prog 3 36 (.slice (some ⟨w.heap.size, 0, none⟩) 1 k) 1 p.cs (w.alloc (.cells #[.string ⟨p.name.toArray⟩, .string ⟨p.loc.toArray⟩, .string ⟨p.dom.toArray⟩] 39)) := by
  refine Src.ofSlice _ Tryz.underlying36 ⟨w.heap.size, 0, none⟩ 1 k _ (by simp [Ad.cs]) (fun j u hu => ?_) (by simp [Value.oneCell', Ad.cs])
  have hk := Blk.new w #[.string ⟨p.name.toArray⟩, .string ⟨p.loc.toArray⟩, .string ⟨p.dom.toArray⟩] 39
  simp only [Addr.add_lit, Nat.zero_add]
  rw [hk.cell]
  simpa [Ad.cs] using hu
theorem trimP (t : List UInt8) : Lib.trimPrefix (t.drop (plE 44 .o t)) [44] = t.drop (plE 44 .o t + 1) := by
  have hle := plE_le 44 .o t
  by_cases h : plE 44 .o t < t.length
  · have := (plE_run (m := 44) (s := .o) (l := t) h).2
    have h2 : t.drop (plE 44 .o t) = 44 :: t.drop (plE 44 .o t + 1) := by
      rw [drop_at h]
      congr 1
      rw [List.getElem?_eq_getElem h] at this
      exact Option.some.inj this
    rw [h2]
    simp [Lib.trimPrefix, Lib.hasPrefix, List.isPrefixOf]
  · rw [List.drop_of_length_le (by omega), List.drop_of_length_le (by omega)]
    simp [Lib.trimPrefix, Lib.hasPrefix, List.isPrefixOf]
theorem tp_any (s x : List UInt8) (w : World) (h : Lib.trimPrefix s [44] = x) : Calls Tryz.prog 31 #[.string ⟨s.toArray⟩, .string ⟨#[44]⟩] w fun e w' => e = .returned (.string ⟨x.toArray⟩) ∧ w' = w := by
  subst h
  exact Tryz.strings_TrimPrefix ⟨s.toArray⟩ ⟨#[44]⟩ w
theorem ads_end {xs ys : List Ad} {v : List UInt8} (h : (xs ++ ys).take 50 = adsV v) (hx : xs.length ≤ 50) (he : ys = [] ∨ xs.length = 50) : xs = adsV v := by
  rw [← h]
  rcases he with rfl | he
  · rw [List.append_nil, List.take_of_length_le hx]
  · rw [List.take_append, he, List.take_of_length_le (by omega)]
    simp
set_option maxHeartbeats 2000000 in
theorem ads_any (v : List UInt8) (w : World) (hl : v.length ≤ 1000000) :
    Calls Tryz.prog 13 #[.string ⟨v.toArray⟩] w fun e w' => Below w.heap.size w w' ∧ ∃ u, e = .returned u ∧ RowOf Ad.cs 3 w.heap.size w' u (adsV v) := by
  obtain ⟨i0, hi, hz0, hz1, hz2⟩ := info_three adInfo
  have HS : Hid (([] ++ adsL v).take 50 = adsV v) := rfl
  go_enter Tryz.func13, Tryz.ntmps13
  go_wp2
  go_loopw [0, 3] (fun v0 v3 wr => ∃ (t : List UInt8) (xs : List Ad), v0 = .string ⟨t.toArray⟩ ∧ t.length ≤ 1000000 ∧ xs.length ≤ 50 ∧ Hid (RowOf Ad.cs 3 w.heap.size wr v3 xs) ∧ Hid (Below w.heap.size w wr) ∧ Hid ((xs ++ adsL t).take 50 = adsV v)) (fun v0 _ _ => Lib.strSize v0)
  case atStart => exact ⟨v, [], rfl, hl, Nat.zero_le _, RowOf.nil _ _ _ _, Below.refl _ _, HS⟩
  case round =>
    obtain ⟨t, xs, rfl, htl, hxl, HR, HB, HT⟩ := hrel
    clear HS
    obtain ⟨A, c, rfl⟩ := HR.out.form
    have hbs := HB.out.size
    have hsz := size_lit t
    by_cases h0 : t = []
    · have HV := hide (ads_end HT.out hxl (.inl (by rw [h0, adsL_nil])))
      subst h0
      clear HT
      go_wp2
      go_ret
      exact ⟨HB.out, _, rfl, by rw [← HV.out]; exact HR.out⟩
    · have h0' : t.isEmpty = false := by simpa using h0
      by_cases h50 : xs.length = 50
      · have HV := hide (ads_end HT.out hxl (.inr h50))
        have h50' : ¬ ((xs.length : Int) < 50) := by omega
        clear HT h50 h0
        go_wp2
        go_ret
        exact ⟨HB.out, _, rfl, by rw [← HV.out]; exact HR.out⟩
      · have h50' : (xs.length : Int) < 50 := by omega
        have hst := adsL_step t
        have hpl := plE_le 44 .o t
        have HP := hide (fun w => place_any t 44 w htl)
        obtain ⟨k, hk⟩ : ∃ k, plE 44 .o t = k := ⟨_, rfl⟩
        have hkl : (t.take k).length ≤ 1000000 := by rw [List.length_take]; omega
        have HTr := hide (fun w => trim_any (t.take k) w hkl)
        have HTp := hide (fun w => tp_any (t.drop k) (t.drop (k + 1)) w (by rw [← hk]; exact trimP t))
        rw [hk] at hst HP hpl
        have e1 : (⟨t.toArray⟩ : ByteArray).extract 0 k = ⟨(t.take k).toArray⟩ := ext_take t k
        have e2 : (⟨t.toArray⟩ : ByteArray).extract k t.length = ⟨(t.drop k).toArray⟩ := ext_drop t k
        have htr := trim_len (t.take k)
        have hm : Lib.strSize (.string ⟨(t.drop (k + 1)).toArray⟩) < Lib.strSize (.string ⟨t.toArray⟩) := by
          have : 0 < t.length := List.length_pos_iff.2 h0
          show (⟨(t.drop (k + 1)).toArray⟩ : ByteArray).size < (⟨t.toArray⟩ : ByteArray).size
          rw [size_lit, size_lit, List.length_drop]
          omega
        have hdl : (t.drop (k + 1)).length ≤ 1000000 := by rw [List.length_drop]; omega
        generalize Lib.trimS (t.take k) [32, 9] = pc at *
        by_cases hpe : pc = []
        · subst hpe
          have HN : Hid ((xs ++ adsL (t.drop (k + 1))).take 50 = adsV v) := by
            have := HT.out
            rw [hst] at this
            exact this
          generalize t.drop (k + 1) = t2 at *
          generalize t.take k = tk at *
          clear hst HT hk h0 h50
          go_wp2_with (first
            | (go_at_call 28; refine (HP.out _).mono ?_; rintro e w1 ⟨rfl, rfl⟩)
            | (go_at_call 29; refine (HTr.out _).mono ?_; rintro e w2 ⟨rfl, hb2⟩; replace hb2 := hide hb2)
            | (go_at_call 31; refine (HTp.out _).mono ?_; rintro e w3 ⟨rfl, rfl⟩))
          go_roundw
          case rel => exact ⟨t2, xs, rfl, hdl, hxl, HR.out.below hb2.out, HB.out.trans (hb2.out.mono hbs), HN⟩
          case measure => exact hm
        · have hpe' : pc.isEmpty = false := by simpa using hpe
          have HA := hide (fun w => addr_any pc w (by omega))
          have HN : Hid (((xs ++ [adO pc]) ++ adsL (t.drop (k + 1))).take 50 = adsV v) := by
            have := HT.out
            rw [hst, hpe'] at this
            show _ = _
            rw [← this]
            simp
          generalize t.drop (k + 1) = t2 at *
          generalize t.take k = tk at *
          obtain ⟨q, hq⟩ : ∃ q, adO pc = q := ⟨_, rfl⟩
          rw [hq] at HA HN
          unfold adAgg at HA
          obtain ⟨G, hrw, hg⟩ := HR.out
          have HRw := hide hrw
          have HG := hide hg
          clear hst HT hk h0 h50 hpe hq hrw hg HR
          go_wp2_with (first
            | (go_at_call 28; refine (HP.out _).mono ?_; rintro e w1 ⟨rfl, rfl⟩)
            | (go_at_call 29; refine (HTr.out _).mono ?_; rintro e w2 ⟨rfl, hb2⟩; replace hb2 := hide hb2)
            | (go_at_call 30; refine (HA.out _).mono ?_; rintro e w3 ⟨rfl, hb3⟩
               have HB3 := hide (HB.out.trans ((hb2.out.trans (hb3.mono hb2.out.size)).mono hbs))
               have HM3 := hide (Mvs.of_below (S := fun _ => False) (hb2.out.trans (hb3.mono hb2.out.size)))
               have hs3 := HB3.out.size
               clear hb3 hb2)
            | (at_builtin; refine wpList_append_rw rfl _ _ 36 36 rfl 39 i0 (.agg #[.string ⟨#[]⟩, .string ⟨#[]⟩, .string ⟨#[]⟩]) 3 48 Tryz.underlying36 hi hz0 hz1 hz2 rfl rfl (HRw.out.keep (S := fun _ => False) (HM3.out.alloc _) (fun _ _ c => c)) _ 1 q.cs rfl (src_ad q) (by simp only [maxLen]; omega) (by omega) ?_))
          intro v1 w4 G1 hr1 hm1 hg1
          have HR4 := hide (RowOf.growN HG.out hr1 hg1 (by first | omega | (rw [World.size_alloc]; omega)))
          have HB4 := hide ((HB3.out.alloc hs3 _).trans ((hm1.below (fun q hq e => by have := HG.out q e.symm; omega) (by rw [World.size_alloc]; omega))))
          obtain ⟨A1, c1, rfl⟩ := hr1.form
          clear hr1 hm1 hg1
          go_wp2_with (first
            | (go_at_call 31; refine (HTp.out _).mono ?_; rintro e w5 ⟨rfl, rfl⟩))
          go_roundw
          case rel => exact ⟨t2, xs ++ [q], rfl, hdl, by rw [List.length_append]; simp; omega, HR4, HB4, HN⟩
          case measure => exact hm
end Go.Proofs.YtkppeejbmalefaaGreatDoor

end
