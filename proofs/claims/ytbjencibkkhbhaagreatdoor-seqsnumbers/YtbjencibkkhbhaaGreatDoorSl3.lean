/- The laws SeqsSets and SeqsTexts, wherever package seqs answers as told. -/
import Derived.Test.YtbjencibkkhbhaaGreatDoorSl2
import Derived.Test.YtbjencibkkhbhaaGreatDoorSq9
set_option linter.unusedSimpArgs false
set_option linter.unusedVariables false
namespace Go.Proofs.YtbjencibkkhbhaaGreatDoor
open Go.RowKit Go.Shelf
def CText (w : World) (ea : Nat → Addr) : Prop := ∀ (W : World) (v : Value) (rs : List (Int × Int)), rs.length ≤ 1000 → Below w.heap.size w W → RA W v rs → Calls Tryz.prog 14 #[v] W fun e w' => Below W.heap.size W w' ∧ ((∃ t, txO rs = some t ∧ e = .returned (.tuple #[.string ⟨t.toArray⟩, .nilIface])) ∨ (txO rs = none ∧ e = .returned (.tuple #[.string ⟨#[]⟩, errF ea])))
theorem ra_nil (w : World) : RA w (.slice none 0 0) [] := ⟨none, 0, rfl, fun i hi => by simp at hi⟩
theorem set_len {s : List UInt8} {set : List (Nat × Nat)} (h : sqS s = some set) : set.length ≤ 50 := by
  unfold sqS at h
  split at h
  · rw [mapM_len _ _ h]; assumption
  · cases h
set_option maxRecDepth 20000 in
set_option maxHeartbeats 2000000 in
theorem seqsSets_walk {w : World} {ea : Nat → Addr} (hE : Errs w ea) (hA : CAlive w) (hN : CSet w ea) (s : List UInt8) :
    Calls Tryz.prog 3 #[.string ⟨s.toArray⟩] w fun e w' => e = .returned (.bool true) ∧ Below w.heap.size w w' := by
  have HA : Hid (Calls Tryz.prog 9 #[] w fun e w' => e = .returned (.bool true) ∧ Below w.heap.size w w') := hA
  have hsz := size_lit s
  have HF := hide (numF hE)
  have HN := hide (hN s)
  have HR := hide (fun W h => rset_any s W h)
  unfold errF at HF HN
  clear hE hA hN
  by_cases h1 : s.length ≤ 2000
  case neg =>
    have h1' : (2000 : Int) < s.length := by omega
    go_enter Tryz.func3, Tryz.ntmps3
    go_wp2_with (go_at_call 9; refine HA.out.mono ?_; rintro e w1 ⟨rfl, hb1⟩)
    go_ret
    exact ⟨rfl, hb1⟩
  have h1' : ¬ (2000 : Int) < s.length := by omega
  cases h0 : sqS s with
  | none =>
    have HN2 : Hid (∀ W, Below w.heap.size w W → Calls Tryz.prog 10 #[.string ⟨s.toArray⟩] W fun e w' => e = .returned (.tuple #[.slice none 0 0, .iface 151 (.pointer (some (ea 1)))]) ∧ Below w.heap.size w w') := fun W hW => (HN.out W (by omega) hW).mono fun e w' h => by
      obtain ⟨hb, ⟨set, A, c, h, _⟩ | ⟨_, he⟩⟩ := h
      · rw [h0] at h; cases h
      · exact ⟨he, hW.trans (hb.mono hW.size)⟩
    have HR2 : Hid (∀ W, Below w.heap.size w W → Calls Tryz.prog 11 #[.string ⟨s.toArray⟩] W fun e w' => e = .returned (.tuple #[.slice none 0 0, .bool false]) ∧ Below w.heap.size w w') := fun W hW => (HR.out W (by omega)).mono fun e w' h => by
      rw [h0] at h
      exact ⟨h.2, hW.trans (h.1.mono hW.size)⟩
    have HS : Hid (∀ W, Below w.heap.size w W → Calls Tryz.prog 12 #[.slice none 0 0, .slice none 0 0] W fun e w' => e = .returned (.bool true) ∧ Below w.heap.size w w') := fun W hW => (rsamer_yes W (ra_nil W) (ra_nil W) (by simp)).mono fun e w' h => by
      obtain ⟨he, n, rfl⟩ := h
      exact ⟨he, hW.trans ((bel_drewN W n).mono hW.size)⟩
    clear HN HR h0
    go_enter Tryz.func3, Tryz.ntmps3
    go_wp2_with (first
      | (go_at_call 9; refine HA.out.mono ?_; rintro e w1 ⟨rfl, hb1⟩; replace hb1 := hide hb1)
      | (go_at_call 10; refine (HN2.out _ hb1.out).mono ?_; rintro e w2 ⟨rfl, hb2⟩; replace hb2 := hide hb2)
      | (go_at_call 11; refine (HR2.out _ hb2.out).mono ?_; rintro e w3 ⟨rfl, hb3⟩; replace hb3 := hide hb3)
      | (go_at_call 12; refine (HS.out _ hb3.out).mono ?_; rintro e w4 ⟨rfl, hb4⟩; replace hb4 := hide hb4)
      | (go_at_call 13; refine (HF.out _ hb4.out).mono ?_; rintro e w5 ⟨rfl, hb5⟩; replace hb5 := hide hb5))
    go_ret
    exact ⟨rfl, hb5.out⟩
  | some set =>
    have hsl := set_len h0
    have HN2 : Hid (∀ W, Below w.heap.size w W → Calls Tryz.prog 10 #[.string ⟨s.toArray⟩] W fun e w' => ∃ A c, e = .returned (.tuple #[.slice A set.length c, .nilIface]) ∧ Below w.heap.size w w' ∧ RA w' (.slice A set.length c) (set.map natR)) := fun W hW => (HN.out W (by omega) hW).mono fun e w' h => by
      obtain ⟨hb, ⟨set', A, c, h, he, hr⟩ | ⟨h, _⟩⟩ := h
      · rw [h0] at h; cases h; exact ⟨A, c, he, hW.trans (hb.mono hW.size), hr⟩
      · rw [h0] at h; cases h
    have HR2 : Hid (∀ W, Below w.heap.size w W → Calls Tryz.prog 11 #[.string ⟨s.toArray⟩] W fun e w' => ∃ A c, e = .returned (.tuple #[.slice A set.length c, .bool true]) ∧ Below W.heap.size W w' ∧ RA w' (.slice A set.length c) (set.map natR)) := fun W hW => (HR.out W (by omega)).mono fun e w' h => by
      rw [h0] at h
      obtain ⟨hb, v, he, hr⟩ := h
      obtain ⟨A, c, rfl, _⟩ := id hr
      rw [List.length_map] at he hr
      exact ⟨A, c, he, hb, hr⟩
    clear HN HR h0
    go_enter Tryz.func3, Tryz.ntmps3
    go_wp2_with (first
      | (go_at_call 9; refine HA.out.mono ?_; rintro e w1 ⟨rfl, hb1⟩; replace hb1 := hide hb1)
      | (go_at_call 10; refine (HN2.out _ hb1.out).mono ?_; rintro e w2 ⟨A2, c2, rfl, hb2, hr2⟩; replace hb2 := hide hb2; replace hr2 := hide hr2)
      | (go_at_call 11; refine (HR2.out _ hb2.out).mono ?_; rintro e w3 ⟨A3, c3, rfl, hb3, hr3⟩; replace hb3 := hide hb3; replace hr3 := hide hr3))
    refine (rsamer_yes _ (hr2.out.below hb3.out) hr3.out (by rw [List.length_map]; omega)).mono ?_
    rintro e w4 ⟨rfl, n4, rfl⟩
    have HB := hide (hb2.out.trans (hb3.out.mono hb2.out.size))
    go_wp2
    go_ret
    exact ⟨rfl, HB.out.trans ((bel_drewN w3 n4).mono HB.out.size)⟩
theorem nat_rat {rs : List (Int × Int)} (h : rs.all rgOk = true) : (rs.map ratN).map natR = rs ∧ ∀ r ∈ rs.map ratN, r.1 ≤ 2147483648 ∧ r.2 ≤ 2147483648 := by
  constructor
  · rw [List.map_map]
    conv => rhs; rw [← List.map_id rs]
    refine List.map_congr_left fun r hr => ?_
    have := List.all_eq_true.1 h r hr
    simp [rgOk] at this
    simp [natR, ratN]
    ext <;> simp <;> omega
  · intro r hr
    obtain ⟨q, hq, rfl⟩ := List.mem_map.1 hr
    have := List.all_eq_true.1 h q hq
    simp [rgOk] at this
    simp [ratN]
    omega
theorem jn_len_le (c : UInt8) (n : Nat) : ∀ ts : List (List UInt8), (∀ t ∈ ts, t.length ≤ n) → (jn c ts).length ≤ ts.length * (n + 1)
  | [], _ => by simp [jn]
  | [t], h => by have := h t (by simp); simp [jn]; omega
  | t :: u :: ts, h => by
    have h1 := h t (by simp)
    have h2 := jn_len_le c n (u :: ts) (fun x hx => h x (by simp only [List.mem_cons] at hx ⊢; exact .inr hx))
    rw [jn_cons (by simp), List.length_append, List.length_cons, List.length_cons, Nat.add_mul]
    omega
theorem tx_len {rs : List (Int × Int)} {t : List UInt8} (h : txO rs = some t) : t.length ≤ 100000 ∧ sqS t = some (rs.map ratN) ∧ (rs.map ratN).map natR = rs := by
  unfold txO at h
  split at h
  · rename_i hh
    obtain ⟨h1, h2, h3⟩ := hh
    cases h
    have h4 := nat_rat h1
    refine ⟨?_, sq_back (fun e => by have := congrArg List.length e; rw [List.length_map, List.length_nil] at this; omega) (by rw [List.length_map]; exact h3) h4.2, h4.1⟩
    unfold sqT
    have := jn_len_le 44 21 ((rs.map ratN).map sqTI) (fun t ht => by
      obtain ⟨r, hr, rfl⟩ := List.mem_map.1 ht
      have hb := h4.2 r hr
      have l1 := sqT1_len hb.1
      have l2 := sqT1_len hb.2
      unfold sqTI
      split <;> simp <;> omega)
    rw [List.length_map, List.length_map] at this
    omega
  · cases h
set_option maxRecDepth 20000 in
set_option maxHeartbeats 2000000 in
theorem seqsTexts_walk {w : World} {ea : Nat → Addr} (hE : Errs w ea) (hA : CAlive w) (hS : CSet w ea) (hT : CText w ea) {v : Value} {rs : List (Int × Int)} (hv : RA w v rs) :
    Calls Tryz.prog 4 #[v] w fun e w' => e = .returned (.bool true) ∧ Below w.heap.size w w' := by
  have HA : Hid (Calls Tryz.prog 9 #[] w fun e w' => e = .returned (.bool true) ∧ Below w.heap.size w w') := hA
  have HX := hide hv
  obtain ⟨A, c, rfl, _⟩ := hv
  have HF := hide (numF hE)
  by_cases h1 : rs.length ≤ 200
  case neg =>
    have h1' : (200 : Int) < rs.length := by omega
    clear hE hA hS hT
    go_enter Tryz.func4, Tryz.ntmps4
    go_wp2_with (go_at_call 9; refine HA.out.mono ?_; rintro e w1 ⟨rfl, hb1⟩)
    go_ret
    exact ⟨rfl, hb1⟩
  have h1' : ¬ (200 : Int) < rs.length := by omega
  have HT := hide (fun W hW => hT W (.slice A rs.length c) rs (by omega) hW (HX.out.below hW))
  have HR : Hid (∀ W, Below w.heap.size w W → Calls Tryz.prog 15 #[.slice A rs.length c] W fun e w' => e = txV (txO rs) ∧ Below w.heap.size w w') := fun W hW => (rtext14_any (HX.out.below hW) (by omega)).mono fun e w' h => ⟨h.1, hW.trans (h.2.mono hW.size)⟩
  unfold errF at HF HT
  cases h0 : txO rs with
  | none =>
    have HT2 : Hid (∀ W, Below w.heap.size w W → Calls Tryz.prog 14 #[.slice A rs.length c] W fun e w' => e = .returned (.tuple #[.string ⟨#[]⟩, .iface 151 (.pointer (some (ea 1)))]) ∧ Below w.heap.size w w') := fun W hW => (HT.out W hW).mono fun e w' h => by
      obtain ⟨hb, ⟨t, h, _⟩ | ⟨_, he⟩⟩ := h
      · rw [h0] at h; cases h
      · exact ⟨he, hW.trans (hb.mono hW.size)⟩
    rw [h0] at HR
    have HR2 : Hid (∀ W, Below w.heap.size w W → Calls Tryz.prog 15 #[.slice A rs.length c] W fun e w' => e = .returned (.tuple #[.string ⟨#[]⟩, .bool false]) ∧ Below w.heap.size w w') := HR.out
    clear hE hA hS hT HT HR h0
    go_enter Tryz.func4, Tryz.ntmps4
    go_wp2_with (first
      | (go_at_call 9; refine HA.out.mono ?_; rintro e w1 ⟨rfl, hb1⟩; replace hb1 := hide hb1)
      | (go_at_call 14; refine (HT2.out _ hb1.out).mono ?_; rintro e w2 ⟨rfl, hb2⟩; replace hb2 := hide hb2)
      | (go_at_call 15; refine (HR2.out _ hb2.out).mono ?_; rintro e w3 ⟨rfl, hb3⟩; replace hb3 := hide hb3)
      | (go_at_call 13; refine (HF.out _ hb3.out).mono ?_; rintro e w5 ⟨rfl, hb5⟩; replace hb5 := hide hb5))
    go_ret
    exact ⟨rfl, hb5.out⟩
  | some t =>
    obtain ⟨htl, hts, hrr⟩ := tx_len h0
    have HT2 : Hid (∀ W, Below w.heap.size w W → Calls Tryz.prog 14 #[.slice A rs.length c] W fun e w' => e = .returned (.tuple #[.string ⟨t.toArray⟩, .nilIface]) ∧ Below w.heap.size w w') := fun W hW => (HT.out W hW).mono fun e w' h => by
      obtain ⟨hb, ⟨t', h, he⟩ | ⟨h, _⟩⟩ := h
      · rw [h0] at h; cases h; exact ⟨he, hW.trans (hb.mono hW.size)⟩
      · rw [h0] at h; cases h
    rw [h0] at HR
    have HR2 : Hid (∀ W, Below w.heap.size w W → Calls Tryz.prog 15 #[.slice A rs.length c] W fun e w' => e = .returned (.tuple #[.string ⟨t.toArray⟩, .bool true]) ∧ Below w.heap.size w w') := HR.out
    have HS2 : Hid (∀ W, Below w.heap.size w W → Calls Tryz.prog 10 #[.string ⟨t.toArray⟩] W fun e w' => ∃ A c, e = .returned (.tuple #[.slice A rs.length c, .nilIface]) ∧ Below w.heap.size w w' ∧ RA w' (.slice A rs.length c) rs) := fun W hW => (hS t W htl hW).mono fun e w' h => by
      obtain ⟨hb, ⟨set', A, c, h, he, hr⟩ | ⟨h, _⟩⟩ := h
      · rw [hts] at h
        cases h
        rw [hrr] at hr
        rw [List.length_map] at he hr
        exact ⟨A, c, he, hW.trans (hb.mono hW.size), hr⟩
      · rw [hts] at h; cases h
    clear hE hA hS hT HT HR h0 htl hts hrr
    go_enter Tryz.func4, Tryz.ntmps4
    go_wp2_with (first
      | (go_at_call 9; refine HA.out.mono ?_; rintro e w1 ⟨rfl, hb1⟩; replace hb1 := hide hb1)
      | (go_at_call 14; refine (HT2.out _ hb1.out).mono ?_; rintro e w2 ⟨rfl, hb2⟩; replace hb2 := hide hb2)
      | (go_at_call 15; refine (HR2.out _ hb2.out).mono ?_; rintro e w3 ⟨rfl, hb3⟩; replace hb3 := hide hb3)
      | (go_at_call 10; refine (HS2.out _ hb3.out).mono ?_; rintro e w4 ⟨A4, c4, rfl, hb4, hr4⟩; replace hb4 := hide hb4; replace hr4 := hide hr4))
    refine (rsamer_yes _ hr4.out (HX.out.below hb4.out) (by omega)).mono ?_
    rintro e w6 ⟨rfl, n6, rfl⟩
    go_wp2
    go_ret
    exact ⟨rfl, hb4.out.trans ((bel_drewN w4 n6).mono hb4.out.size)⟩
end Go.Proofs.YtbjencibkkhbhaaGreatDoor
