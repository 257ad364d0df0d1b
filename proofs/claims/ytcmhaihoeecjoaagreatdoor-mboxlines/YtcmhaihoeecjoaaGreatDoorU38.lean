/- The document's zone. -/
/- The document's ParseInternal, all ways. -/
import Derived.Test.YtcmhaihoeecjoaaGreatDoorU37
import Derived.Test.YtcmhaihoeecjoaaGreatDoorU30
section
namespace Go.Proofs.YtcmhaihoeecjoaaGreatDoor.Da
open Go.RowKit
/-- A zone's text. -/
def ShZ (s : List UInt8) (g : UInt8) (zh zm : List UInt8) : Prop := s = g :: (zh ++ zm) ∧ (g = 43 ∨ g = 45) ∧ zh.length = 2 ∧ Digs zh ∧ zm.length = 2 ∧ Digs zm
theorem like_zone (q : UInt8) (hq : q.toNat ≠ 48) (s : List UInt8) : likeB s [q, 48, 48, 48, 48] = true ↔ ∃ zh zm, s = q :: (zh ++ zm) ∧ zh.length = 2 ∧ Digs zh ∧ zm.length = 2 ∧ Digs zm := by
  constructor
  · intro h
    have hl := likeB_len h
    match s, hl with
    | [c, a, b, d, e], _ =>
      have h1 : likeB [c, a, b, d, e] [q, 48, 48, 48, 48] = (likeB [c] [q] && likeB [a, b, d, e] (List.replicate 4 48)) := likeB_app [c] [q] [a, b, d, e] (List.replicate 4 48) rfl
      rw [h1, Bool.and_eq_true, likeB_one c q hq, likeB_digs] at h
      obtain ⟨rfl, _, hd⟩ := h
      exact ⟨[a, b], [d, e], rfl, rfl, (by intro x hx; simp at hx; rcases hx with rfl | rfl <;> exact hd _ (by simp)), rfl, (by intro x hx; simp at hx; rcases hx with rfl | rfl <;> exact hd _ (by simp))⟩
  · rintro ⟨zh, zm, rfl, h1, h2, h3, h4⟩
    have e : likeB (q :: (zh ++ zm)) [q, 48, 48, 48, 48] = (likeB [q] [q] && likeB (zh ++ zm) (List.replicate 4 48)) := likeB_app [q] [q] (zh ++ zm) (List.replicate 4 48) rfl
    rw [e, Bool.and_eq_true, likeB_one q q hq, likeB_digs]
    refine ⟨rfl, by simp [h1, h3], ?_⟩
    intro x hx
    rcases List.mem_append.1 hx with hx | hx
    · exact h2 x hx
    · exact h4 x hx
/-- The zone that a text tells. -/
def ZOK (s : List UInt8) (z : Int) : Prop := ∃ g zh zm, ShZ s g zh zm ∧ valL zh 0 ≤ 23 ∧ valL zm 0 ≤ 59 ∧ z = sgn g * ((valL zh 0 : Int) * 3600 + (valL zm 0 : Int) * 60)
theorem like_plus (s : List UInt8) : likeB s [43, 48, 48, 48, 48] = true ↔ ∃ zh zm, ShZ s 43 zh zm := by
  rw [like_zone 43 (by decide)]
  constructor
  · rintro ⟨zh, zm, h1, h2, h3, h4, h5⟩; exact ⟨zh, zm, h1, .inl rfl, h2, h3, h4, h5⟩
  · rintro ⟨zh, zm, h1, _, h2, h3, h4, h5⟩; exact ⟨zh, zm, h1, h2, h3, h4, h5⟩
theorem like_minus (s : List UInt8) : likeB s [45, 48, 48, 48, 48] = true ↔ ∃ zh zm, ShZ s 45 zh zm := by
  rw [like_zone 45 (by decide)]
  constructor
  · rintro ⟨zh, zm, h1, h2, h3, h4, h5⟩; exact ⟨zh, zm, h1, .inr rfl, h2, h3, h4, h5⟩
  · rintro ⟨zh, zm, h1, _, h2, h3, h4, h5⟩; exact ⟨zh, zm, h1, h2, h3, h4, h5⟩
theorem two_lt {d : List UInt8} (h : d.length = 2) (hd : Digs d) : valL d 0 < 100 := by
  have := valL_lt d 0 hd
  rw [h] at this
  omega
set_option maxRecDepth 20000 in
set_option maxHeartbeats 2000000 in
theorem rzone_none (s : List UInt8) (w : World) (hs : s.length ≤ 900) (h1 : likeB s [43, 48, 48, 48, 48] = false) (h2 : likeB s [45, 48, 48, 48, 48] = false) : Calls Tryz.prog 60 #[.string ⟨s.toArray⟩] w fun e w' => e = .returned (.tuple #[.int .i64 0, .bool false]) ∧ Below w.heap.size w w' := by
  have H1 := hide (like_calls hs h1)
  have H2 := hide (like_calls hs h2)
  clear h1 h2
  go_enter Tryz.func60, Tryz.ntmps60
  go_wp2_with (first
    | (go_at_call_of 59 (Value.string { data := #[43, 48, 48, 48, 48] }); refine (H1.out _).mono ?_; rintro e w1 ⟨rfl, hb1⟩; replace hb1 := hide hb1)
    | (go_at_call_of 59 (Value.string { data := #[45, 48, 48, 48, 48] }); refine (H2.out _).mono ?_; rintro e w2 ⟨rfl, hb2⟩; replace hb2 := hide hb2))
  go_ret2
  exact ⟨rfl, hb1.out.trans (hb2.out.mono hb1.out.size)⟩
set_option maxRecDepth 20000 in
set_option maxHeartbeats 2000000 in
theorem rzone_plus_in (s zh zm : List UInt8) (w : World) (hs : s.length ≤ 900) (hz : ShZ s 43 zh zm) (hh : valL zh 0 ≤ 23) (hm : valL zm 0 ≤ 59) : Calls Tryz.prog 60 #[.string ⟨s.toArray⟩] w fun e w' => e = .returned (.tuple #[.int .i64 (3600 * (valL zh 0 : Int) + 60 * (valL zm 0 : Int)), .bool true]) ∧ Below w.heap.size w w' := by
  have h1 : likeB s [43, 48, 48, 48, 48] = true := by
    rw [like_plus]
    exact ⟨zh, zm, hz⟩
  have H1 := hide (like_calls hs h1)
  obtain ⟨hf, _, zhl, zhd, zml, zmd⟩ := hz
  have hL : s.length = 5 := by rw [hf]; simp [zhl, zml]
  have e1 : (⟨s.toArray⟩ : ByteArray).extract 1 3 = ⟨zh.toArray⟩ := piece s [43] zh zm 1 3 hf rfl (by omega)
  have e2 : (⟨s.toArray⟩ : ByteArray).extract 3 5 = ⟨zm.toArray⟩ := piece s (43 :: zh) zm [] 3 5 (by rw [hf]; simp) (by simp [zhl]) (by omega)
  have ex : ∀ h : 0 < (⟨s.toArray⟩ : ByteArray).size, (⟨s.toArray⟩ : ByteArray)[0]'h = 43 := byte_lit s [] _ 43 0 hf rfl
  have HA := hide (fun w => value_any zh w (by omega) zhd)
  have HB0 := hide (fun w => value_any zm w (by omega) zmd)
  have k1 := two_lt zhl zhd
  have k2 := two_lt zml zmd
  clear hf zhd zmd h1
  generalize valL zh 0 = A at *
  generalize valL zm 0 = B at *
  go_enter Tryz.func60, Tryz.ntmps60
  go_wp2_with (first
    | (go_at_call_of 59 (Value.string { data := #[43, 48, 48, 48, 48] }); refine (H1.out _).mono ?_; rintro e w1 ⟨rfl, hb1⟩; replace hb1 := hide hb1))
  have HB := hide hb1.out
  clear hb1
  have hn := ext_some w1
  have hc := ext_cell w1
  refine wp_region_ext (by kernel_rfl) (by kernel_rfl) ?_
  repeat (go_big_quiet_step ((first | (go_at_call_of 61 (Value.string { data := List.toArray zh }); exact ext_same (HA.out _)) | (go_at_call_of 61 (Value.string { data := List.toArray zm }); exact ext_same (HB0.out _)))))
  refine wpQuiet_nil ?_
  rintro w4 ⟨⟨_, hb4⟩, rfl⟩
  have HBF := hide (HB.out.trans (hb4.mono HB.out.size))
  clear hb4
  have c1 : ¬ (23 : Int) < A := by omega
  have c2 : ¬ (59 : Int) < B := by omega
  have c3 : (A : Int) ≤ 99 := by omega
  have c4 : (B : Int) ≤ 99 := by omega
  go_wp2
  go_ret2
  exact ⟨rfl, HBF.out⟩
set_option maxRecDepth 20000 in
set_option maxHeartbeats 2000000 in
theorem rzone_plus_out (s zh zm : List UInt8) (w : World) (hs : s.length ≤ 900) (hz : ShZ s 43 zh zm) (ho : ¬ (valL zh 0 ≤ 23 ∧ valL zm 0 ≤ 59)) : Calls Tryz.prog 60 #[.string ⟨s.toArray⟩] w fun e w' => e = .returned (.tuple #[.int .i64 0, .bool false]) ∧ Below w.heap.size w w' := by
  have h1 : likeB s [43, 48, 48, 48, 48] = true := by
    rw [like_plus]
    exact ⟨zh, zm, hz⟩
  have H1 := hide (like_calls hs h1)
  obtain ⟨hf, _, zhl, zhd, zml, zmd⟩ := hz
  have hL : s.length = 5 := by rw [hf]; simp [zhl, zml]
  have e1 : (⟨s.toArray⟩ : ByteArray).extract 1 3 = ⟨zh.toArray⟩ := piece s [43] zh zm 1 3 hf rfl (by omega)
  have e2 : (⟨s.toArray⟩ : ByteArray).extract 3 5 = ⟨zm.toArray⟩ := piece s (43 :: zh) zm [] 3 5 (by rw [hf]; simp) (by simp [zhl]) (by omega)
  have ex : ∀ h : 0 < (⟨s.toArray⟩ : ByteArray).size, (⟨s.toArray⟩ : ByteArray)[0]'h = 43 := byte_lit s [] _ 43 0 hf rfl
  have HA := hide (fun w => value_any zh w (by omega) zhd)
  have HB0 := hide (fun w => value_any zm w (by omega) zmd)
  have k1 := two_lt zhl zhd
  have k2 := two_lt zml zmd
  clear hf zhd zmd h1
  generalize valL zh 0 = A at *
  generalize valL zm 0 = B at *
  go_enter Tryz.func60, Tryz.ntmps60
  go_wp2_with (first
    | (go_at_call_of 59 (Value.string { data := #[43, 48, 48, 48, 48] }); refine (H1.out _).mono ?_; rintro e w1 ⟨rfl, hb1⟩; replace hb1 := hide hb1))
  have HB := hide hb1.out
  clear hb1
  have hn := ext_some w1
  have hc := ext_cell w1
  refine wp_region_ext (by kernel_rfl) (by kernel_rfl) ?_
  repeat (go_big_quiet_step ((first | (go_at_call_of 61 (Value.string { data := List.toArray zh }); exact ext_same (HA.out _)) | (go_at_call_of 61 (Value.string { data := List.toArray zm }); exact ext_same (HB0.out _)))))
  refine wpQuiet_nil ?_
  rintro w4 ⟨⟨_, hb4⟩, rfl⟩
  have HBF := hide (HB.out.trans (hb4.mono HB.out.size))
  clear hb4
  by_cases c0 : (23 : Int) < A
  · go_wp2
    go_ret2
    exact ⟨rfl, HBF.out⟩
  · have c2 : (59 : Int) < B := by omega
    go_wp2
    go_ret2
    exact ⟨rfl, HBF.out⟩
set_option maxRecDepth 20000 in
set_option maxHeartbeats 2000000 in
theorem rzone_minus_in (s zh zm : List UInt8) (w : World) (hs : s.length ≤ 900) (hz : ShZ s 45 zh zm) (hh : valL zh 0 ≤ 23) (hm : valL zm 0 ≤ 59) : Calls Tryz.prog 60 #[.string ⟨s.toArray⟩] w fun e w' => e = .returned (.tuple #[.int .i64 (-3600 * (valL zh 0 : Int) - 60 * (valL zm 0 : Int)), .bool true]) ∧ Below w.heap.size w w' := by
  have h1 : likeB s [43, 48, 48, 48, 48] = false := by
    cases h : likeB s [43, 48, 48, 48, 48] with
    | false => rfl
    | true =>
      obtain ⟨_, _, h', _⟩ := (like_plus s).1 h
      rw [hz.1] at h'
      injection h' with h'
      exact absurd h' (by decide)
  have H1 := hide (like_calls hs h1)
  have H2 := hide (like_calls hs ((like_minus s).2 ⟨zh, zm, hz⟩))
  obtain ⟨hf, _, zhl, zhd, zml, zmd⟩ := hz
  have hL : s.length = 5 := by rw [hf]; simp [zhl, zml]
  have e1 : (⟨s.toArray⟩ : ByteArray).extract 1 3 = ⟨zh.toArray⟩ := piece s [45] zh zm 1 3 hf rfl (by omega)
  have e2 : (⟨s.toArray⟩ : ByteArray).extract 3 5 = ⟨zm.toArray⟩ := piece s (45 :: zh) zm [] 3 5 (by rw [hf]; simp) (by simp [zhl]) (by omega)
  have ex : ∀ h : 0 < (⟨s.toArray⟩ : ByteArray).size, (⟨s.toArray⟩ : ByteArray)[0]'h = 45 := byte_lit s [] _ 45 0 hf rfl
  have HA := hide (fun w => value_any zh w (by omega) zhd)
  have HB0 := hide (fun w => value_any zm w (by omega) zmd)
  have k1 := two_lt zhl zhd
  have k2 := two_lt zml zmd
  clear hf zhd zmd h1
  generalize valL zh 0 = A at *
  generalize valL zm 0 = B at *
  go_enter Tryz.func60, Tryz.ntmps60
  go_wp2_with (first
    | (go_at_call_of 59 (Value.string { data := #[43, 48, 48, 48, 48] }); refine (H1.out _).mono ?_; rintro e w1 ⟨rfl, hb1⟩; replace hb1 := hide hb1)
    | (go_at_call_of 59 (Value.string { data := #[45, 48, 48, 48, 48] }); refine (H2.out _).mono ?_; rintro e w2 ⟨rfl, hb2⟩; replace hb2 := hide hb2))
  have HB := hide (hb1.out.trans (hb2.out.mono hb1.out.size))
  clear hb1 hb2
  have hn := ext_some w2
  have hc := ext_cell w2
  refine wp_region_ext (by kernel_rfl) (by kernel_rfl) ?_
  repeat (go_big_quiet_step ((first | (go_at_call_of 61 (Value.string { data := List.toArray zh }); exact ext_same (HA.out _)) | (go_at_call_of 61 (Value.string { data := List.toArray zm }); exact ext_same (HB0.out _)))))
  refine wpQuiet_nil ?_
  rintro w4 ⟨⟨_, hb4⟩, rfl⟩
  have HBF := hide (HB.out.trans (hb4.mono HB.out.size))
  clear hb4
  have c1 : ¬ (23 : Int) < A := by omega
  have c2 : ¬ (59 : Int) < B := by omega
  have c3 : (A : Int) ≤ 99 := by omega
  have c4 : (B : Int) ≤ 99 := by omega
  go_wp2
  go_ret2
  exact ⟨rfl, HBF.out⟩
set_option maxRecDepth 20000 in
set_option maxHeartbeats 2000000 in
theorem rzone_minus_out (s zh zm : List UInt8) (w : World) (hs : s.length ≤ 900) (hz : ShZ s 45 zh zm) (ho : ¬ (valL zh 0 ≤ 23 ∧ valL zm 0 ≤ 59)) : Calls Tryz.prog 60 #[.string ⟨s.toArray⟩] w fun e w' => e = .returned (.tuple #[.int .i64 0, .bool false]) ∧ Below w.heap.size w w' := by
  have h1 : likeB s [43, 48, 48, 48, 48] = false := by
    cases h : likeB s [43, 48, 48, 48, 48] with
    | false => rfl
    | true =>
      obtain ⟨_, _, h', _⟩ := (like_plus s).1 h
      rw [hz.1] at h'
      injection h' with h'
      exact absurd h' (by decide)
  have H1 := hide (like_calls hs h1)
  have H2 := hide (like_calls hs ((like_minus s).2 ⟨zh, zm, hz⟩))
  obtain ⟨hf, _, zhl, zhd, zml, zmd⟩ := hz
  have hL : s.length = 5 := by rw [hf]; simp [zhl, zml]
  have e1 : (⟨s.toArray⟩ : ByteArray).extract 1 3 = ⟨zh.toArray⟩ := piece s [45] zh zm 1 3 hf rfl (by omega)
  have e2 : (⟨s.toArray⟩ : ByteArray).extract 3 5 = ⟨zm.toArray⟩ := piece s (45 :: zh) zm [] 3 5 (by rw [hf]; simp) (by simp [zhl]) (by omega)
  have ex : ∀ h : 0 < (⟨s.toArray⟩ : ByteArray).size, (⟨s.toArray⟩ : ByteArray)[0]'h = 45 := byte_lit s [] _ 45 0 hf rfl
  have HA := hide (fun w => value_any zh w (by omega) zhd)
  have HB0 := hide (fun w => value_any zm w (by omega) zmd)
  have k1 := two_lt zhl zhd
  have k2 := two_lt zml zmd
  clear hf zhd zmd h1
  generalize valL zh 0 = A at *
  generalize valL zm 0 = B at *
  go_enter Tryz.func60, Tryz.ntmps60
  go_wp2_with (first
    | (go_at_call_of 59 (Value.string { data := #[43, 48, 48, 48, 48] }); refine (H1.out _).mono ?_; rintro e w1 ⟨rfl, hb1⟩; replace hb1 := hide hb1)
    | (go_at_call_of 59 (Value.string { data := #[45, 48, 48, 48, 48] }); refine (H2.out _).mono ?_; rintro e w2 ⟨rfl, hb2⟩; replace hb2 := hide hb2))
  have HB := hide (hb1.out.trans (hb2.out.mono hb1.out.size))
  clear hb1 hb2
  have hn := ext_some w2
  have hc := ext_cell w2
  refine wp_region_ext (by kernel_rfl) (by kernel_rfl) ?_
  repeat (go_big_quiet_step ((first | (go_at_call_of 61 (Value.string { data := List.toArray zh }); exact ext_same (HA.out _)) | (go_at_call_of 61 (Value.string { data := List.toArray zm }); exact ext_same (HB0.out _)))))
  refine wpQuiet_nil ?_
  rintro w4 ⟨⟨_, hb4⟩, rfl⟩
  have HBF := hide (HB.out.trans (hb4.mono HB.out.size))
  clear hb4
  by_cases c0 : (23 : Int) < A
  · go_wp2
    go_ret2
    exact ⟨rfl, HBF.out⟩
  · have c2 : (59 : Int) < B := by omega
    go_wp2
    go_ret2
    exact ⟨rfl, HBF.out⟩
theorem rzone_yes (s : List UInt8) (z : Int) (w : World) (hs : s.length ≤ 900) (h : ZOK s z) : Calls Tryz.prog 60 #[.string ⟨s.toArray⟩] w fun e w' => e = .returned (.tuple #[.int .i64 z, .bool true]) ∧ Below w.heap.size w w' := by
  obtain ⟨g, zh, zm, hz, h1, h2, rfl⟩ := h
  rcases hz.2.1 with rfl | rfl
  · have := rzone_plus_in s zh zm w hs hz h1 h2
    rwa [show (3600 * (valL zh 0 : Int) + 60 * (valL zm 0 : Int)) = sgn 43 * ((valL zh 0 : Int) * 3600 + (valL zm 0 : Int) * 60) from by simp [sgn]; omega] at this
  · have := rzone_minus_in s zh zm w hs hz h1 h2
    rwa [show (-3600 * (valL zh 0 : Int) - 60 * (valL zm 0 : Int)) = sgn 45 * ((valL zh 0 : Int) * 3600 + (valL zm 0 : Int) * 60) from by simp [sgn]; omega] at this
theorem rzone_no (s : List UInt8) (w : World) (hs : s.length ≤ 900) (h : ∀ z, ¬ ZOK s z) : Calls Tryz.prog 60 #[.string ⟨s.toArray⟩] w fun e w' => e = .returned (.tuple #[.int .i64 0, .bool false]) ∧ Below w.heap.size w w' := by
  cases h1 : likeB s [43, 48, 48, 48, 48] with
  | true =>
    obtain ⟨zh, zm, hz⟩ := (like_plus s).1 h1
    exact rzone_plus_out s zh zm w hs hz (fun hc => h _ ⟨43, zh, zm, hz, hc.1, hc.2, rfl⟩)
  | false =>
    cases h2 : likeB s [45, 48, 48, 48, 48] with
    | true =>
      obtain ⟨zh, zm, hz⟩ := (like_minus s).1 h2
      exact rzone_minus_out s zh zm w hs hz (fun hc => h _ ⟨45, zh, zm, hz, hc.1, hc.2, rfl⟩)
    | false => exact rzone_none s w hs h1 h2
end Go.Proofs.YtcmhaihoeecjoaaGreatDoor.Da

end
section
namespace Go.Proofs.YtcmhaihoeecjoaaGreatDoor.Da
open Go.RowKit
theorem zok_range {s : List UInt8} {z : Int} (h : ZOK s z) : -90000 ≤ z ∧ z ≤ 90000 := by
  obtain ⟨g, zh, zm, hz, h1, h2, rfl⟩ := h
  unfold sgn
  split <;> omega
end Go.Proofs.YtcmhaihoeecjoaaGreatDoor.Da

end
