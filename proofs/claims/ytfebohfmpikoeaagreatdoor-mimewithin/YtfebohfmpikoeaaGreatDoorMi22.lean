/- Parts stand one behind the other, each within the one it is a kid of: the law's own look, and what Parse makes. -/
import Derived.Test.YtfebohfmpikoeaaGreatDoorMi17
set_option linter.unusedSimpArgs false
set_option linter.unusedVariables false
namespace Go.Proofs.YtfebohfmpikoeaaGreatDoor
open Go.RowKit Go.Shelf
/-- Where the kid before ends. -/
def prevE (h : PH) (ks : List Part) : Nat → Int
  | 0 => h.body
  | i + 1 => match ks[i]? with
    | some k => k.h.end'
    | none => 0
/-- A part as the law wants it, in so many others. -/
def Win : Nat → Nat → Part → Prop
  | 0, _, _ => False
  | n + 1, d, .mk h ks => h.at' ≤ h.body ∧ h.body ≤ h.end' ∧ d ≤ 32 ∧ ks.length ≤ 100 ∧ (h.type = tMulti ↔ ks ≠ []) ∧ ∀ i (hi : i < ks.length), prevE h ks i ≤ ks[i].h.at' ∧ ks[i].h.end' ≤ h.end' ∧ Win n (d + 1) ks[i]
theorem Row'.each {e : Nat} : ∀ {a : Nat} {l : List (Nat × Nat)}, Row' e a l → ∀ i (hi : i < l.length), (match i with | 0 => a | j + 1 => (l[j]?.getD (0, 0)).2) ≤ l[i].1 ∧ l[i].1 ≤ l[i].2 ∧ l[i].2 ≤ e
  | a, [], _, i, hi => by simp at hi
  | a, x :: r, ⟨h1, h2, h3, h4⟩, i, hi => by
    cases i with
    | zero => exact ⟨h1, h2, h3⟩
    | succ j =>
      have hj : j < r.length := by simpa using hi
      have := h4.each j hj
      cases j with
      | zero => exact this
      | succ k => exact this
theorem parse_h (t : Nat) (m : List UInt8) (a b : Nat) : (parseP t m a b).h.at' = a ∧ (parseP t m a b).h.body = bodyN m a b ∧ (parseP t m a b).h.end' = b := by
  have key : ∀ ks, (withK (baseP m a b) ks).h.at' = a ∧ (withK (baseP m a b) ks).h.body = bodyN m a b ∧ (withK (baseP m a b) ks).h.end' = b := fun ks => by
    unfold withK
    split <;> exact ⟨rfl, rfl, rfl⟩
  cases t with
  | zero =>
    rw [parseP]
    split
    · exact key _
    · exact ⟨rfl, rfl, rfl⟩
  | succ t =>
    rw [parseP]
    split
    · exact key _
    · exact ⟨rfl, rfl, rfl⟩
theorem win_leaf {d n : Nat} (h : PH) (hm : h.at' ≤ h.body ∧ h.body ≤ h.end') (hd : d ≤ 32) (ht : h.type ≠ tMulti) : Win (n + 1) d (.mk h []) :=
  ⟨hm.1, hm.2, hd, by simp, ⟨fun e => absurd e ht, fun e => absurd rfl e⟩, fun i hi => by simp at hi⟩
theorem tApp_ne : tApp ≠ tMulti := by decide
theorem win_oct {d n : Nat} (h : PH) (hm : h.at' ≤ h.body ∧ h.body ≤ h.end') (hd : d ≤ 32) : Win (n + 1) d (withK h []) :=
  win_leaf (octP h) hm hd tApp_ne
theorem base_hh {m : List UInt8} {a b : Nat} (hab : a ≤ b) (hbm : b ≤ m.length) : (baseP m a b).at' ≤ (baseP m a b).body ∧ (baseP m a b).body ≤ (baseP m a b).end' := by
  obtain ⟨h1, h2⟩ := bodyN_le m a b hab hbm
  have e1 : (baseP m a b).at' = (a : Int) := rfl
  have e2 : (baseP m a b).body = (bodyN m a b : Int) := rfl
  have e3 : (baseP m a b).end' = (b : Int) := rfl
  rw [e1, e2, e3]
  omega
theorem win_kids {H : PH} {ps : List (Nat × Nat)} {ks : List Part} {n d e a : Nat} (hh : H.at' ≤ H.body ∧ H.body ≤ H.end') (hd : d ≤ 32) (hb : H.body = (a : Int)) (he : H.end' = (e : Int)) (hmu : H.type = tMulti) (hr : Row' e a ps) (hl : ps.length ≤ 100) (hne : ps ≠ []) (hkl : ks.length = ps.length)
    (hk : ∀ i (hi : i < ks.length) (hj : i < ps.length), ks[i].h.at' = (ps[i].1 : Int) ∧ ks[i].h.end' = (ps[i].2 : Int) ∧ Win n (d + 1) ks[i]) : Win (n + 1) d (withK H ks) := by
  have hkne : ks ≠ [] := fun h0 => hne (List.eq_nil_of_length_eq_zero (by rw [← hkl, h0]; rfl))
  have hw : withK H ks = .mk H ks := by
    unfold withK
    rw [if_neg (by simpa using hkne)]
  rw [hw]
  refine ⟨hh.1, hh.2, hd, by omega, ⟨fun _ => hkne, fun _ => hmu⟩, fun i hi => ?_⟩
  have hip : i < ps.length := by omega
  obtain ⟨e1, e2, e3⟩ := hr.each i hip
  obtain ⟨f1, f2, f3⟩ := hk i hi hip
  refine ⟨?_, ?_, f3⟩
  · rw [f1]
    cases i with
    | zero =>
      show H.body ≤ _
      rw [hb]
      exact Int.ofNat_le.2 e1
    | succ j =>
      have hj : j < ks.length := by omega
      have hjp : j < ps.length := by omega
      have hx : prevE H ks (j + 1) = ks[j].h.end' := by
        show (match ks[j]? with | some k => k.h.end' | none => 0) = _
        rw [List.getElem?_eq_getElem hj]
      rw [hx, (hk j hj hjp).2.1]
      have e1' : ((ps[j]?.getD (0, 0)).2) ≤ (ps[j + 1]'hip).1 := e1
      rw [List.getElem?_eq_getElem hjp] at e1'
      exact Int.ofNat_le.2 e1'
  · rw [f2, he]
    exact Int.ofNat_le.2 e3
theorem win_step (m : List UInt8) (t d a b : Nat) (hd : d + (t + 1) = 32) (hab : a ≤ b) (hbm : b ≤ m.length) (IH : ∀ (d a b : Nat), d + t = 32 → a ≤ b → b ≤ m.length → Win (t + 1) d (parseP t m a b)) : Win (t + 1 + 1) d (parseP (t + 1) m a b) := by
  have hh := base_hh hab hbm
  have hb : (baseP m a b).body = (bodyN m a b : Int) := rfl
  have he : (baseP m a b).end' = (b : Int) := rfl
  obtain ⟨hr, hl⟩ := places_row m a b hab hbm
  rw [parseP]
  generalize baseP m a b = H at *
  generalize placesOf m a b = ps at *
  split
  · rename_i hmu
    by_cases h0 : ps = []
    · rw [h0]
      exact win_oct H hh (by omega)
    · refine win_kids (ps := ps) hh (by omega) hb he hmu hr hl h0 (List.length_map _) (fun i hi hj => ?_)
      obtain ⟨_, g2, g3⟩ := hr.each i hj
      rw [List.getElem_map]
      obtain ⟨f1, _, f3⟩ := parse_h t m ps[i].1 ps[i].2
      exact ⟨f1, f3, IH (d + 1) _ _ (by omega) g2 (by omega)⟩
  · rename_i hne
    exact win_leaf H hh (by omega) hne
theorem parse_win (m : List UInt8) (t : Nat) : ∀ (d a b : Nat), d + t = 32 → a ≤ b → b ≤ m.length → Win (t + 1) d (parseP t m a b) := by
  induction t with
  | zero =>
    intro d a b hd hab hbm
    have hh := base_hh hab hbm
    rw [parseP]
    generalize baseP m a b = H at *
    split
    · exact win_oct H hh (by omega)
    · rename_i hne
      exact win_leaf H hh (by omega) hne
  | succ t ih => exact fun d a b hd hab hbm => win_step m t d a b hd hab hbm ih
theorem win_next {h : PH} {ks : List Part} {i : Nat} (hi : i < ks.length) : prevE h ks (i + 1) = ks[i].h.end' := by
  show (match ks[i]? with | some k => k.h.end' | none => 0) = _
  rw [List.getElem?_eq_getElem hi]
/-- The law's look at one part. -/
def WiCall (n : Nat) : Prop := ∀ (d : Nat) (p : Part) (v : Value) (w : World), PA n (fun g => 0 ≤ g) w v p → Win n d p →
  Calls Tryz.prog 26 #[v, .int .i64 (d : Nat)] w fun e w' => e = .returned (.bool true) ∧ Below w.heap.size w w'
set_option maxRecDepth 20000 in
set_option maxHeartbeats 2000000 in
theorem within_leaf (n d : Nat) (h : PH) (Ap : Option Addr) (np cp : Nat) (A : Option Addr) (c : Nat) (w : World) (hw : Win (n + 1) d (.mk h [])) :
    Calls Tryz.prog 26 #[.agg (phA h (.slice Ap np cp) (.slice A 0 c)), .int .i64 (d : Nat)] w fun e w' => e = .returned (.bool true) ∧ Below w.heap.size w w' := by
  obtain ⟨h1, h2, h3, _, h5, _⟩ := hw
  have g1 : ¬ (h.at' > h.body) := by omega
  have g2 : ¬ (h.body > h.end') := by omega
  have g3 : ¬ ((d : Int) > 32) := by omega
  have g5 : (h.type == [109, 117, 108, 116, 105, 112, 97, 114, 116]) = false := by
    rw [beq_eq_false_iff_ne]
    intro e
    exact h5.1 e rfl
  have HK1 := hide (Blk.new w (phA h (.slice Ap np cp) (.slice A 0 c)) 36)
  have HA := hide ((Below.refl w.heap.size w).alloc (Nat.le_refl _) (.cells (phA h (.slice Ap np cp) (.slice A 0 c)) 36))
  obtain ⟨W1, hW1⟩ : ∃ W1, w.alloc (.cells (phA h (.slice Ap np cp) (.slice A 0 c)) 36) = W1 := ⟨_, rfl⟩
  rw [hW1] at HK1 HA
  obtain ⟨c0, c1, c2, c3, c4, c5, c6, c7, c8, c9, c10⟩ := blk11 HK1.out
  unfold phA at hW1
  clear h1 h2 h3 h5 HK1
  go_enter Tryz.func26, Tryz.ntmps26
  unfold phA
  go_wp2
  go_loopw [45] (fun v wx => v = .int .i64 0 ∧ wx = W1) (fun _ _ => 0)
  case atStart => exact ⟨rfl, rfl⟩
  case round =>
    obtain ⟨rfl, rfl⟩ := hrel
    go_wp2
    go_ret
    exact ⟨rfl, HA.out⟩
set_option maxRecDepth 20000 in
set_option maxHeartbeats 2000000 in
theorem within_many (n d : Nat) (IH : WiCall n) (h : PH) (Ap : Option Addr) (np cp : Nat) (A : Option Addr) (c : Nat) (ks : List Part) (hne : ks ≠ []) (w : World)
    (hk : ∀ i (hi : i < ks.length), ∃ g o vs, A = some ⟨g, o, none⟩ ∧ 0 ≤ g ∧ g < w.heap.size ∧ vs.size = 11 ∧ (∀ j, j < 11 → w.cell? ⟨g, o + i * 11 + j, none⟩ = vs[j]?) ∧ PA n (fun g => 0 ≤ g) w (.agg vs) ks[i])
    (hw : Win (n + 1) d (.mk h ks)) :
    Calls Tryz.prog 26 #[.agg (phA h (.slice Ap np cp) (.slice A ks.length c)), .int .i64 (d : Nat)] w fun e w' => e = .returned (.bool true) ∧ Below w.heap.size w w' := by
  obtain ⟨h1, h2, h3, h4, h5, h6⟩ := hw
  have g1 : ¬ (h.at' > h.body) := by omega
  have g2 : ¬ (h.body > h.end') := by omega
  have g3 : ¬ ((d : Int) > 32) := by omega
  have g5 : (h.type == [109, 117, 108, 116, 105, 112, 97, 114, 116]) = true := by
    rw [beq_iff_eq]
    exact h5.2 hne
  have h0 : 0 < ks.length := List.length_pos_iff.2 hne
  obtain ⟨m, hm⟩ : ∃ m, ks.length = m := ⟨_, rfl⟩
  have HM := hide hm
  rw [hm] at h4 h0 ⊢
  have g4 : ¬ ((m : Int) > 100) := by omega
  have g6 : ((m : Int) > 0) := by omega
  have HK1 := hide (Blk.new w (phA h (.slice Ap np cp) (.slice A m c)) 36)
  have HA := hide ((Below.refl w.heap.size w).alloc (Nat.le_refl _) (.cells (phA h (.slice Ap np cp) (.slice A m c)) 36))
  obtain ⟨W1, hW1⟩ : ∃ W1, w.alloc (.cells (phA h (.slice Ap np cp) (.slice A m c)) 36) = W1 := ⟨_, rfl⟩
  rw [hW1] at HK1 HA
  obtain ⟨c0, c1, c2, c3, c4, c5, c6, c7, c8, c9, c10⟩ := blk11 HK1.out
  have HKd := hide hk
  have HWn := hide h6
  have HIH := hide IH
  have hwr : IntKind.i64.wrap ((d : Int) + 1) = ((d + 1 : Nat) : Int) := by
    rw [wrap_nat (by omega) (by omega)]
    omega
  unfold phA at hW1
  clear h1 h2 h3 h5 h6 hk IH hm
  go_enter Tryz.func26, Tryz.ntmps26
  unfold phA
  go_wp2
  clear c0 c1 c2 c3 c4 c5 c6 c7 c8 c9 c10 hW1 g1 g2 g3 g4 g5 g6
  go_loopw [45, 5] (fun v45 v5 wx => ∃ i : Nat, v45 = .int .i64 i ∧ v5 = .int .i64 (prevE h ks i) ∧ i ≤ m ∧ Hid (Below W1.heap.size W1 wx)) (fun v _ _ => m - (intOf v).toNat)
  case atStart => exact ⟨0, rfl, rfl, Nat.zero_le _, Below.refl _ _⟩
  case round =>
    obtain ⟨i, rfl, rfl, him, HB⟩ := hrel
    by_cases hlt : i < m
    · have hlt' : (i : Int) < m := by omega
      have hip : i < ks.length := by rw [HM.out]; exact hlt
      obtain ⟨g, o, vs, rfl, _, hgw, hvs, hcs, hpa⟩ := HKd.out i hip
      obtain ⟨k1, k2, k3⟩ := HWn.out i hip
      have HNx := hide (win_next (h := h) hip)
      generalize ks[i] = kid at *
      generalize prevE h ks i = pe at *
      obtain ⟨A1, q1, A2, q2, hvs2⟩ := hpa.form
      injection hvs2 with hvs2
      subst hvs2
      obtain ⟨n1, hn1⟩ : ∃ n, kid.h.params.length = n := ⟨_, rfl⟩
      obtain ⟨n2, hn2⟩ : ∃ n, kid.kids.length = n := ⟨_, rfl⟩
      rw [hn1, hn2] at hcs hpa
      obtain ⟨H, hH⟩ : ∃ H, kid.h = H := ⟨_, rfl⟩
      rw [hH] at hcs hpa k1 k2 HNx
      have g1 : ¬ (H.at' < pe) := by omega
      have g2 : ¬ (H.end' > h.end') := by omega
      have HBw := hide (HA.out.trans (HB.out.mono HA.out.size))
      obtain ⟨c0, c1, c2, c3, c4, c5, c6, c7, c8, c9, c10⟩ := row11 (fun j hj => (HBw.out.cell (p := ⟨g, o + i * 11 + j, none⟩) hgw).trans (hcs j hj))
      have hK2 : Blk wr w.heap.size (phA h (.slice Ap np cp) (.slice (some ⟨g, o, none⟩) m c)) 36 := (HB.out.block _ HK1.out.lt).trans HK1.out
      have hE := (blk11 hK2).2.2.2.2.2.2.2.2.1
      have hAl := (Below.refl wr.heap.size wr).alloc (Nat.le_refl _) (.cells (phA H (.slice A1 n1 q1) (.slice A2 n2 q2)) 36)
      have HAl := hide (HB.out.trans (hAl.mono HB.out.size))
      have hK3 := Blk.new wr (phA H (.slice A1 n1 q1) (.slice A2 n2 q2)) 36
      have HCw := hide (HIH.out (d + 1) kid _ _ (hpa.below (HBw.out.trans (hAl.mono HBw.out.size))) k3)
      have hE5 : (wr.alloc (.cells (phA H (.slice A1 n1 q1) (.slice A2 n2 q2)) 36)).cell? ⟨w.heap.size, 8, none⟩ = some (.int .i64 h.end') := (hAl.cell (p := ⟨w.heap.size, 8, none⟩) hK2.lt).trans hE
      obtain ⟨W5, hW5⟩ : ∃ W5, wr.alloc (.cells (phA H (.slice A1 n1 q1) (.slice A2 n2 q2)) 36) = W5 := ⟨_, rfl⟩
      rw [hW5] at hE5 HCw hK3 HAl
      obtain ⟨d0, d1, d2, d3, d4, d5, d6, d7, d8, d9, d10⟩ := blk11 hK3
      unfold phA at HCw hW5
      have HK3 := hide hK3
      have HE6 : Hid (prevE h ks (i + 1) = H.end') := HNx.out
      clear hcs hpa hvs hn1 hn2 hH hAl HKd HBw hK2 hE hK3 k1 k2 k3 HWn HNx
      go_wp2_with fail
      refine HCw.out.mono ?_
      rintro e w6 ⟨rfl, hw6⟩
      have hE7 := (blk11 ((hw6.block _ HK3.out.lt).trans HK3.out)).2.2.2.2.2.2.2.2.1
      have HB6 := hide (HAl.out.trans (hw6.mono HAl.out.size))
      clear hw6 HCw c0 c1 c2 c3 c4 c5 c6 c7 c8 c9 c10 d0 d1 d2 d3 d4 d5 d6 d7 d8 d9 d10 hE5 hW5 HK3 HAl
      go_wp2
      go_roundw
      case rel => exact ⟨i + 1, by go_num, by rw [HE6.out], by omega, HB6⟩
      case measure => simp [intOf]; omega
    · obtain rfl : i = m := by omega
      go_wp2
      go_ret
      exact ⟨rfl, HA.out.trans (HB.out.mono HA.out.size)⟩
theorem within_any : ∀ n, WiCall n
  | 0 => fun d p v w hp _ => hp.elim
  | n + 1 => fun d p v w hp hw => by
    cases p with
    | mk h ks =>
      obtain ⟨vp, A, c, rfl, hr, hk⟩ := hp
      obtain ⟨Ap, cp, rfl⟩ := hr.form
      by_cases hne : ks = []
      · subst hne
        exact within_leaf n d h Ap _ cp A c w hw
      · exact within_many n d (within_any n) h Ap _ cp A c ks hne w hk hw
set_option maxRecDepth 20000 in
set_option maxHeartbeats 2000000 in
/-- All of the law. -/
theorem mimeWithin_walk (m : List UInt8) (w : World) (ht : TabM w) (ea ef : Addr) (hE : EF w ea) (hF : EFm w ef) : Calls Tryz.prog 8 #[.string ⟨m.toArray⟩] w fun e w' => e = .returned (.bool true) ∧ Below w.heap.size w w' := by
  have HA := hide (alive10 w ea ef hE hF ht)
  have hsm := size_lit m
  by_cases h1 : m.length ≤ 10000
  · have g1 : ¬ ((m.length : Int) > 10000) := by omega
    have HP : Hid (∀ W, Below w.heap.size w W → Calls Tryz.prog 13 #[.string ⟨m.toArray⟩] W fun e w' => Below W.heap.size W w' ∧ ∃ v, e = .returned v ∧ PA 33 (fun g => W.heap.size ≤ g) w' v (parseP 32 m 0 m.length)) := fun W hW => pparse_any m W ea ef (hE.below hW) (hF.below hW) (by omega)
    have HWn := hide (parse_win m 32 0 0 m.length rfl (Nat.zero_le _) (Nat.le_refl _))
    obtain ⟨f1, _, f3⟩ := parse_h 32 m 0 m.length
    clear hE hF ht
    generalize parseP 32 m 0 m.length = P at *
    go_enter Tryz.func8, Tryz.ntmps8
    go_wp2_with fail
    refine HA.out.mono ?_
    rintro e w1 ⟨rfl, hb1⟩
    have HB1 := hide hb1
    clear hb1
    go_wp2_with fail
    refine (HP.out _ HB1.out).mono ?_
    rintro e w2 ⟨hb2, v, rfl, hp⟩
    have HB2 := hide (HB1.out.trans (hb2.mono HB1.out.size))
    obtain ⟨Ap, cp, Ak, ck, rfl⟩ := hp.form
    obtain ⟨n1, hn1⟩ : ∃ n, P.h.params.length = n := ⟨_, rfl⟩
    obtain ⟨n2, hn2⟩ : ∃ n, P.kids.length = n := ⟨_, rfl⟩
    obtain ⟨H, hH⟩ : ∃ H, P.h = H := ⟨_, rfl⟩
    rw [hn1, hn2, hH] at hp
    rw [hn1, hn2, hH]
    rw [hH] at f1 f3
    have f1 : H.at' = 0 := f1
    have hAl := (Below.refl w2.heap.size w2).alloc (Nat.le_refl _) (.cells (phA H (.slice Ap n1 cp) (.slice Ak n2 ck)) 36)
    have HC := hide (within_any 33 0 P _ _ ((hp.mono (S' := fun g => 0 ≤ g) (fun g _ _ => Nat.zero_le _)).below hAl) HWn.out)
    rw [show ((0 : Nat) : Int) = 0 from rfl] at HC
    have HB3 := hide (HB2.out.trans (hAl.mono HB2.out.size))
    have hK := Blk.new w2 (phA H (.slice Ap n1 cp) (.slice Ak n2 ck)) 36
    obtain ⟨W5, hW5⟩ : ∃ W5, w2.alloc (.cells (phA H (.slice Ap n1 cp) (.slice Ak n2 ck)) 36) = W5 := ⟨_, rfl⟩
    rw [hW5] at hK HC HB3
    obtain ⟨d0, d1, d2, d3, d4, d5, d6, d7, d8, d9, d10⟩ := blk11 hK
    rw [f1] at d6
    rw [f3] at d8
    unfold phA at HC hW5
    rw [f1, f3] at HC hW5
    clear hK hp hAl hn1 hn2 hH hb2 HWn HP
    unfold phA
    rw [f1, f3]
    clear f1 f3
    go_wp2_with fail
    refine HC.out.mono ?_
    rintro e w6 ⟨rfl, hw6⟩
    have HB6 := hide (HB3.out.trans (hw6.mono HB3.out.size))
    clear hw6
    go_wp2
    go_ret
    exact ⟨rfl, HB6.out⟩
  · have g1 : ((m.length : Int) > 10000) := by omega
    go_enter Tryz.func8, Tryz.ntmps8
    go_wp2_with fail
    refine HA.out.mono ?_
    rintro e w1 ⟨rfl, hb1⟩
    have HB1 := hide hb1
    clear hb1
    go_wp2
    go_ret
    exact ⟨rfl, HB1.out⟩
end Go.Proofs.YtfebohfmpikoeaaGreatDoor
