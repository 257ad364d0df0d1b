/- A disk's names: List. Texts in a slice; whether one is among them. -/
/- What a change asks of the log's files ahead of it. -/
import Derived.Test.YtcbkmcagnmpifaaGreatDoorU28
import Derived.Test.YtcbkmcagnmpifaaGreatDoorIter
section
namespace Go.Proofs.YtcbkmcagnmpifaaGreatDoor
open Go.RowKit Go.Maps Go.Sort
/-- The slice v reads as the texts ns. -/
abbrev TR (w : World) (v : Value) (ns : List (List UInt8)) : Prop := AR w v (ns.map encStr)
theorem ar_of_owns {w : World} {base : Nat} {e : TypeId} {v : Value} {n : Nat} {xs : List Value} (h : w.ownsRow base e 1 v n xs) : AR w v xs := by
  have hR := Rw.of_owns h
  have hl : xs.length = n := by rw [hR.1]; simp
  rcases hR.2 with ⟨rfl, h0, _⟩ | ⟨g, o, cap, _, rfl, h1, h2, h3, h4, _⟩
  · have : xs = [] := List.length_eq_zero_iff.1 (by omega)
    subst this
    exact ⟨none, 0, rfl, Nat.le_refl _, Nat.zero_le _, fun _ => rfl, fun h => absurd rfl h⟩
  · exact ⟨_, cap, by rw [hl], by omega, h2, (fun e => by cases e), fun _ => ⟨g, o, rfl, h3, h4⟩⟩
section
variable (w0 w : World) (d : Nat) (ρ : Nat → Option Role) (s : St)
set_option maxRecDepth 8000 in
set_option maxHeartbeats 2000000 in
theorem list_any (h : DK w0 w d ρ s) (hoff : s.off = false) (hN : s.N ≤ 1000000) :
    Calls Tryz.prog 75 #[pv d] w fun e w' => ∃ (v : Value) (ss : List (List UInt8)), e = .returned (.tuple #[v, .nilIface]) ∧ ss.Perm (strKeys s.D) ∧ TR w' v (ss.mergeSort (fun x y => decide (x ≤ y))) ∧ Below w.heap.size w w' ∧ ∀ A n c, v = .slice (some A) n c → w.heap.size ≤ A.block := by
  obtain ⟨bn, bs, bc, vs, vl, Gs, Gl, cs, h⟩ := h
  have hc := h.blk.cell
  rw [hoff] at hc
  have hsz := h.names.size_le
  have HK := hide (callsIn_wide.1 (Tryz.maps_Keys_112 (some bn) w))
  have HS := hide (callsIn_wide.1 (Tryz.slices_Sorted_keys_111_112 bn s.N s.D ptrElem w h.names (by simp only [maxLen]; omega) (by omega)))
  clear h
  unfold pv
  go_enter Tryz.func75, Tryz.ntmps75
  go_wp2_with (first | (go_at_call 112; refine HK.out.mono ?_; rintro e w' ⟨rfl, rfl⟩) | (go_at_call 111; refine HS.out.mono ?_; rintro e w' ⟨v, ss, rfl, hS, hrow, hnil, hb⟩; replace hS := hide hS; replace hrow := hide hrow; replace hb := hide hb; clear hnil))
  go_ret2
  refine ⟨v, ss, rfl, hS.out, ar_of_owns hrow.out, ((Below.refl _ w).alloc (Nat.le_refl _) _).trans (hb.out.mono (by simp)), ?_⟩
  rintro A n c rfl
  rcases hrow.out.2 with ⟨h, _⟩ | ⟨g, cap, cur, hv, hg, _⟩
  · cases h
  · cases hv
    simp at hg
    show w.heap.size ≤ g
    omega
end
set_option maxRecDepth 8000 in
set_option maxHeartbeats 2000000 in
theorem indexS_any (ns : List (List UInt8)) (v : Value) (w : World) (h : TR w v ns) (x : List UInt8) :
    Calls Tryz.prog 124 #[v, .string ⟨x.toArray⟩] w fun e w' => ∃ r : Int, e = .returned (.int .i64 r) ∧ decide (0 ≤ r) = ns.contains x ∧ w' = w := by
  have HO := hide h
  obtain ⟨A, c, rfl, hl, hm, _⟩ := h
  rw [List.length_map] at *
  have hmx : c ≤ 9223372036854775807 := by simp only [maxLen] at hm; omega
  clear hm
  obtain ⟨R, hR⟩ : ∃ R, Hid (R = ns.contains x) := ⟨_, rfl⟩
  rw [← hR.out]
  go_enter Tryz.func124, Tryz.ntmps124
  go_wp2
  go_loop [5, 8] (fun _ u => ∃ k : Nat, k ≤ ns.length ∧ u = .int .i64 k ∧ Hid (ns.contains x = (ns.drop k).contains x)) (fun _ u => ns.length - (intOf u).toNat)
  case atStart => exact ⟨0, Nat.zero_le _, rfl, rfl⟩
  case round =>
    obtain ⟨k, hkl, rfl, hA⟩ := hrel
    by_cases hlt : k < ns.length
    · have hltz : (k : Int) < (ns.length : Int) := by omega
      obtain ⟨g, o, rfl, hcell⟩ : ∃ g o, A = some ⟨g, o, none⟩ ∧ w.cell? ⟨g, o + k, none⟩ = some (.string ⟨ns[k].toArray⟩) := by
        obtain ⟨A', c', hv, _, _, _, h5⟩ := HO.out
        simp only [Value.slice.injEq] at hv
        obtain ⟨rfl, _, rfl⟩ := hv
        obtain ⟨g, o, rfl, _, h6⟩ := h5 (fun e => by
          have : ns = [] := by simpa using e
          rw [this] at hlt
          simp at hlt)
        exact ⟨g, o, rfl, h6 k _ (by rw [List.getElem?_map, List.getElem?_eq_getElem hlt]; rfl)⟩
      have HD := List.drop_eq_getElem_cons hlt
      generalize ns[k] = y at hcell HD
      cases hq : (x == y) with
      | true =>
        have e : Hid (ns.contains x = true) := by
          show _ = _
          rw [hA.out, HD, List.contains_cons, hq]
          rfl
        clear HD
        go_wp2
        go_ret
        exact ⟨_, rfl, by have h9 := hR.out.trans e.out; subst h9; simp, rfl⟩
      | false =>
        have e : Hid (ns.contains x = (ns.drop (k + 1)).contains x) := by
          show _ = _
          rw [hA.out, HD, List.contains_cons, hq]
          rfl
        clear HD
        go_wp2
        go_round
        case rel => exact ⟨k + 1, by omega, by go_num, e⟩
        case measure => simp [intOf]; omega
    · have hltz : ¬ (k : Int) < (ns.length : Int) := by omega
      have e : Hid (ns.contains x = false) := by
        show _ = _
        rw [hA.out, List.drop_eq_nil_of_le (by omega)]
        rfl
      go_wp2
      go_ret
      exact ⟨_, rfl, by have h9 := hR.out.trans e.out; subst h9; simp, rfl⟩
set_option maxRecDepth 8000 in
set_option maxHeartbeats 2000000 in
theorem containsS_any (ns : List (List UInt8)) (v : Value) (w : World) (h : TR w v ns) (x : List UInt8) :
    Calls Tryz.prog 96 #[v, .string ⟨x.toArray⟩] w fun e w' => e = .returned (.bool (ns.contains x)) ∧ w' = w := by
  have HI := hide (indexS_any ns v w h x)
  clear h
  go_enter Tryz.func96, Tryz.ntmps96
  go_wp2_with (go_at_call 124; refine HI.out.mono ?_; rintro e w' ⟨r, rfl, hr, rfl⟩; replace hr := hide hr)
  go_ret
  exact ⟨by rw [← hr.out]; rfl, rfl⟩
end Go.Proofs.YtcbkmcagnmpifaaGreatDoor

end
section
namespace Go.Proofs.YtcbkmcagnmpifaaGreatDoor
open Go.RowKit Go.Maps Go.Sort
/-- A name that no file has, or one's. -/
def Dich (s : St) (name : List UInt8) : Prop := s.D.atKey (.string name) .nil = .nil ∨ ∃ b fa, s.D.atKey (.string name) .nil = pd b ∧ s.φ b = some fa
def szOf (s : St) (name : List UInt8) : Nat := lenD s.φ (s.D.atKey (.string name) .nil)
theorem DK.dich {w0 w : World} {d : Nat} {ρ : Nat → Option Role} {s : St} (h : DK w0 w d ρ s) (name : List UInt8) : Dich s name := by
  obtain ⟨bn, bs, bc, vs, vl, Gs, Gl, cs, h⟩ := h
  have key : s.D.atKey (.string name) .nil = .nil ∨ ∃ b, s.D.atKey (.string name) .nil = pd b := by
    have he := h.eD
    have hm := h.names.isMap
    cases hD : s.D with
    | map es =>
      rw [hD] at he
      unfold DataW.atKey
      cases hf : es.find? (fun p => p.1.sameKey (.string name)) with
      | none => exact .inl (by simp [hf])
      | some p =>
        obtain ⟨b, hb⟩ := he p (List.mem_of_find?_eq_some hf)
        exact .inr ⟨b, by simp [hf, hb]⟩
    | _ => exact absurd hm (by rw [hD]; simp [IsMap])
  rcases key with h1 | ⟨b, hb⟩
  · exact .inl h1
  · obtain ⟨fa, hfa⟩ := Option.isSome_iff_exists.1 (h.vD _ b hb)
    exact .inr ⟨b, fa, hb, hfa⟩
theorem szOf_none {s : St} {name : List UInt8} (h : s.D.atKey (.string name) .nil = .nil) : szOf s name = 0 := by
  unfold szOf
  rw [h]
  rfl
theorem szOf_some {s : St} {name : List UInt8} {b : Nat} {fa : FA} (h : s.D.atKey (.string name) .nil = pd b) (hφ : s.φ b = some fa) : szOf s name = fa.bytes.length := by
  unfold szOf
  rw [h, lenD_pd hφ]
section
variable (w0 w : World) (l d : Nat) (dead : Bool) (ρ : Nat → Option Role) (s : St) (a : Nat → Addr)
set_option maxRecDepth 8000 in
set_option maxHeartbeats 2000000 in
theorem csize_any (hE : Errs w0 a) (h : LG w0 w l d dead ρ s) (hoff : s.off = false) (vo vr : Value) (name : List UInt8) (hr : rightB name = true) :
    Calls Tryz.prog 95 #[.agg #[pv l, vo, vr], .string ⟨name.toArray⟩] w fun e w' => e = .returned (.int .i64 (szOf s name)) ∧ Below w.heap.size w w' := by
  obtain ⟨W, hW⟩ : ∃ W, Hid (W = w.alloc (.cells #[pv l, vo, vr] 84)) := ⟨_, rfl⟩
  have hb : Below w.heap.size w W := by rw [hW.out]; exact (Below.refl _ _).alloc (Nat.le_refl _) _
  have hL := h.then hb
  have hcl := h.lb.cell
  have hll := h.lb.lt
  have HB := hide hb
  rcases h.dk.dich name with hn | ⟨b, fa, hb', hφ⟩
  · rw [szOf_none hn]
    have HS := hide (size_none w0 W d ρ s a hE hL.dk hoff name hr hn)
    clear hL h hb
    unfold pv errV at *
    go_enter Tryz.func95, Tryz.ntmps95
    go_wp2_with (first | (go_at_call 123; rw [← hW.out]; refine HS.out.mono ?_; rintro e w' ⟨rfl, m, rfl⟩))
    go_ret
    exact ⟨rfl, HB.out.trans ((below_drewN _ _).mono HB.out.size)⟩
  · rw [szOf_some hb' hφ]
    have HS := hide (size_there w0 W d ρ s hL.dk hoff name hr b fa hb' hφ)
    clear hL h hb
    unfold pv at *
    go_enter Tryz.func95, Tryz.ntmps95
    go_wp2_with (first | (go_at_call 123; rw [← hW.out]; refine HS.out.mono ?_; rintro e w' ⟨rfl, rfl⟩))
    go_ret
    exact ⟨rfl, HB.out⟩
def misB (s : St) (x : OpA) : Bool := x.kind == 1 && x.at_ != (szOf s x.name : Int)
set_option maxRecDepth 8000 in
set_option maxHeartbeats 2000000 in
theorem misplaced_any (hE : Errs w0 a) (h : LG w0 w l d dead ρ s) (hoff : s.off = false) (vo vr : Value) (x : OpA) (hr : rightB x.name = true) :
    Calls Tryz.prog 66 #[.agg #[pv l, vo, vr], .agg x.cells] w fun e w' => e = .returned (.bool (misB s x)) ∧ Below w.heap.size w w' := by
  obtain ⟨W, hW⟩ : ∃ W, Hid (W = (w.alloc (.cells #[pv l, vo, vr] 84)).alloc (.cells x.cells 35)) := ⟨_, rfl⟩
  have hb : Below w.heap.size w W := by rw [hW.out]; exact ((Below.refl _ _).alloc (Nat.le_refl _) _).alloc (by simp) _
  have k0 : Blk W w.heap.size #[pv l, vo, vr] 84 := by rw [hW.out]; exact (Blk.new _ _ _).alloc _
  have k1 : Blk W (w.heap.size + 1) x.cells 35 := by rw [hW.out]; exact Blk.new1 _ _ _ _
  have HS := hide (fun u : Ext W => csize_any w0 u.w l d dead ρ s a hE ((h.then hb).then u.ok) hoff vo vr x.name hr)
  have HB := hide hb
  obtain ⟨R, hR⟩ : ∃ R, Hid (R = misB s x) := ⟨_, rfl⟩
  rw [← hR.out]
  have hR' := hR.out
  unfold misB at hR'
  obtain ⟨kd, nm, att, vl, bs⟩ := x
  unfold OpA.cells at *
  simp only at hR' HS k1 hW ⊢
  have c0 := k0.cell
  have c1 := k1.cell
  have l0 := k0.lt
  have l1 := k1.lt
  have hns := ext_some W
  have hce := ext_cell W
  generalize szOf s nm = z at hR' HS
  clear k0 k1 h hb hR
  unfold pv at *
  go_enter Tryz.func66, Tryz.ntmps66
  go_wp2_with fail
  rw [← hW.out]
  cases hk : (kd == 1) with
  | true =>
    rw [hk, Bool.true_and] at hR'
    replace hR' := hide hR'
    refine wp_region_ext (by kernel_rfl) (by kernel_rfl) ?_
    repeat (go_big_quiet_step (first | (go_at_call 95; exact ext_call (HS.out _))))
    refine wpQuiet_nil ?_
    rintro w1 ⟨⟨_, hb1⟩, rfl⟩
    go_wp2
    go_ret
    refine ⟨?_, HB.out.trans (hb1.mono HB.out.size)⟩
    rw [hR'.out]
    rfl
  | false =>
    rw [hk, Bool.false_and] at hR'
    replace hR' := hide hR'
    refine wp_region_ext (by kernel_rfl) (by kernel_rfl) ?_
    repeat (go_big_quiet_step (first | (go_at_call 95; exact ext_call (HS.out _))))
    refine wpQuiet_nil ?_
    rintro w1 ⟨⟨_, hb1⟩, rfl⟩
    go_wp2
    go_ret
    refine ⟨?_, HB.out.trans (hb1.mono HB.out.size)⟩
    rw [hR'.out]
    rfl
end
end Go.Proofs.YtcbkmcagnmpifaaGreatDoor

end
