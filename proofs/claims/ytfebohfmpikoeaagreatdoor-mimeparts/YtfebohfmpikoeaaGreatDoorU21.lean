/- The document's cuts. -/
import Derived.Test.YtfebohfmpikoeaaGreatDoorU20
set_option linter.unusedSimpArgs false
set_option linter.unusedVariables false
namespace Go.Proofs.YtfebohfmpikoeaaGreatDoor
open Go.RowKit Go.Shelf
/-- A span's three cells. -/
def spC (k : Nat × Nat) : List Value := [.int .i64 0, .int .i64 (k.1 : Nat), .int .i64 (k.2 : Nat)]
theorem sp_len (k : Nat × Nat) : (spC k).length = 3 := rfl
theorem src_sp {w : World} (a b : Nat) {c : Nat} : Src Tryz.prog 3 71 (.slice (some ⟨w.heap.size, 0, none⟩) 1 c) 1 (spC (a, b)) (w.alloc (.cells #[.int .i64 0, .int .i64 (a : Nat), .int .i64 (b : Nat)] 74)) := by
  refine Src.ofSlice _ Tryz.underlying71 ⟨w.heap.size, 0, none⟩ 1 c _ (by simp [spC]) (fun j u hu => ?_) (by simp [Value.oneCell', spC])
  rw [Go.WideShapes.add_plain, Nat.zero_add, World.cell?_alloc_mark]
  rw [← hu, ← List.getElem?_toArray]
  rfl
theorem spInfo : (Tryz.prog.info? 74).map (fun i => (i.zero, i.size, i.bytes)) = some (some (.agg #[.int .i64 0, .int .i64 0, .int .i64 0]), 3, 24) := by kernel_rfl
theorem Rw.putS {w : World} {n sz : Nat} {cs : List Value} {g o c : Nat} (h : Rw w sz (.slice (some ⟨g, o, none⟩) n c) n cs (some g)) (i : Nat) (hi : i < cs.length) (u : Value) : Rw (w.setCell ⟨g, o + i, none⟩ u) sz (.slice (some ⟨g, o, none⟩) n c) n (cs.set i u) (some g) := by
  rcases h.2 with ⟨h, _⟩ | ⟨g', o', cap', k1, k2, h1, h2, h3, h4, h5⟩
  · cases h
  · cases k1
    cases k2
    refine ⟨by rw [List.length_set]; exact h.1, .inr ⟨g, o, c, rfl, rfl, h1, h2, by simpa [World.setCell] using h3, fun j x hx => ?_, fun j hj => ?_⟩⟩
    · by_cases hji : j = i
      · subst hji
        have hjl := (List.getElem?_eq_some_iff.1 hx).1
        rw [List.length_set] at hjl
        rw [List.getElem?_set_self hjl] at hx
        cases hx
        exact World.cell?_setCell_same _ _ _ (h4 j cs[j] (List.getElem?_eq_getElem hjl))
      · rw [List.getElem?_set_ne (fun e => hji e.symm)] at hx
        rw [World.cell?_setCell_other _ ⟨g, o + i, none⟩ ⟨g, o + j, none⟩ _ (fun e => hji (by have := congrArg Addr.off e; simp only at this; omega))]
        exact h4 j x hx
    · refine ⟨?_, by rw [World.frozen?_setCell]; exact (h5 j hj).2⟩
      exact World.isSome_setCells g [u] (o + i) w _ (h5 j hj).1
/-- The row of places under way. -/
structure CU (w w2 wr : World) (v : Value) (xs : List (Nat × Nat)) : Prop where
  row : ∃ G, Rw wr 3 v xs.length (xs.flatMap spC) G ∧ ∀ g, G = some g → (g = w.heap.size ∨ w2.heap.size ≤ g)
  mv : Mvs (fun k => k = w.heap.size) w2 wr
theorem CU.grow {w w2 wr w1 : World} {v1 : Value} {xs : List (Nat × Nat)} {x : Nat × Nat} {G G1 : Option Nat} {ob : Obj} (hm : Mvs (fun k => k = w.heap.size) w2 wr) (hg : ∀ g, G = some g → (g = w.heap.size ∨ w2.heap.size ≤ g)) (hr : Rw w1 3 v1 (xs.length + 1) (xs.flatMap spC ++ spC x) G1) (hm1 : Mvs (fun k => some k = G) (wr.alloc ob) w1) (hG : G1 = G ∨ ∃ N, G1 = some N ∧ w2.heap.size ≤ N) : CU w w2 w1 v1 (xs ++ [x]) := by
  have hz : (wr.alloc ob).heap.size = wr.heap.size + 1 := World.size_alloc _ _
  have hs := hm.size
  refine ⟨⟨G1, ?_, ?_⟩, ?_⟩
  · rw [List.length_append, List.flatMap_append]
    simpa using hr
  · rintro g rfl
    rcases hG with h | h
    · exact hg g h.symm
    · obtain ⟨N, h, hN⟩ := h
      cases h
      exact .inr hN
  · have h1 : Mvs (fun k => k = w.heap.size) w2 (wr.alloc ob) := hm.alloc ob
    refine ⟨hm1.os.trans h1.os, hm1.tape.trans h1.tape, hm1.output.trans h1.output, Nat.le_trans h1.size hm1.size, fun k hk hs' => ?_⟩
    have hk2 : k < (wr.alloc ob).heap.size := by omega
    refine (hm1.block k hk2 (fun e => ?_)).trans (h1.block k hk hs')
    rcases hg k e.symm with h | h
    · exact hs' h
    · omega
theorem CU.put {w w2 wr : World} {g o c : Nat} {xs : List (Nat × Nat)} {k e e' : Nat} (h : CU w w2 wr (.slice (some ⟨g, o, none⟩) (xs.length + 1) c) (xs ++ [(k, e)])) : CU w w2 (wr.setCell ⟨g, o + xs.length * 3 + 2, none⟩ (.int .i64 (e' : Nat))) (.slice (some ⟨g, o, none⟩) (xs.length + 1) c) (xs ++ [(k, e')]) := by
  obtain ⟨⟨G, hr, hg⟩, hm⟩ := h
  have hG : G = some g := by
    rcases hr.2 with ⟨h, _⟩ | ⟨g', o', cap', k1, k2, _⟩
    · cases h
    · injection k2 with k2
      injection k2 with k2
      injection k2 with k2
      rw [k1, k2]
  subst hG
  have hl : (xs.flatMap spC).length = xs.length * 3 := flat_len sp_len xs
  have hn : (xs ++ [(k, e)]).length = xs.length + 1 := by simp
  have hn' : (xs ++ [(k, e')]).length = xs.length + 1 := by simp
  rw [hn] at hr
  have h2 := hr.putS (xs.length * 3 + 2) (by rw [List.flatMap_append, List.length_append, hl]; simp [spC]) (.int .i64 (e' : Nat))
  have hset : ((xs ++ [(k, e)]).flatMap spC).set (xs.length * 3 + 2) (.int .i64 (e' : Nat)) = (xs ++ [(k, e')]).flatMap spC := by
    rw [List.flatMap_append, List.flatMap_append, List.set_append_right _ _ (by omega), hl, show xs.length * 3 + 2 - xs.length * 3 = 2 by omega]
    rfl
  rw [hset, ← Nat.add_assoc] at h2
  refine ⟨⟨some g, by rw [hn']; exact h2, hg⟩, ?_⟩
  have hmv : Mvs (fun j => j = g) wr (wr.setCell ⟨g, o + xs.length * 3 + 2, none⟩ (.int .i64 (e' : Nat))) := (Mvs.refl _ _).setCell _ _ (fun _ => rfl)
  refine ⟨hmv.os.trans hm.os, hmv.tape.trans hm.tape, hmv.output.trans hm.output, Nat.le_trans hm.size hmv.size, fun j hj hs' => ?_⟩
  have hs := hm.size
  refine (hmv.block j (by omega) (fun e => ?_)).trans (hm.block j hj hs')
  rcases hg g rfl with h | h <;> omega
theorem CU.last {w w2 wr : World} {v : Value} {xs : List (Nat × Nat)} {k e : Nat} (h : CU w w2 wr v (xs ++ [(k, e)])) : ∃ g o c, v = .slice (some ⟨g, o, none⟩) (xs.length + 1) c ∧ xs.length + 1 ≤ c ∧ c ≤ maxLen ∧ wr.cell? ⟨g, o + xs.length * 3 + 1, none⟩ = some (.int .i64 (k : Nat)) ∧ wr.cell? ⟨g, o + xs.length * 3 + 2, none⟩ = some (.int .i64 (e : Nat)) ∧ wr.frozen? ⟨g, o + xs.length * 3 + 2, none⟩ = false := by
  obtain ⟨⟨G, hr, hg⟩, hm⟩ := h
  have hn : (xs ++ [(k, e)]).length = xs.length + 1 := by simp
  have hl : (xs.flatMap spC).length = xs.length * 3 := flat_len sp_len xs
  rw [hn] at hr
  rcases hr.2 with ⟨_, h0, _⟩ | ⟨g, o, cap, _, hv, h1, h2, h3, h4, h5⟩
  · omega
  · have hx : ∀ j, j < 3 → ((xs ++ [(k, e)]).flatMap spC)[xs.length * 3 + j]? = (spC (k, e))[j]? := fun j hj => by
      rw [List.flatMap_append, List.getElem?_append_right (by omega), hl, show xs.length * 3 + j - xs.length * 3 = j by omega]
      simp
    refine ⟨g, o, cap, hv, h1, h2, ?_, ?_, ?_⟩
    · rw [Nat.add_assoc]
      exact h4 _ _ (hx 1 (by omega))
    · rw [Nat.add_assoc]
      exact h4 _ _ (hx 2 (by omega))
    · rw [Nat.add_assoc]
      exact (h5 _ (by omega)).2
/-- What is known between two lines. -/
structure CK (m bd : List UInt8) (e : Nat) (X : List (List UInt8)) (KP : List (Nat × Nat)) (i a : Nat) (dn : List (Nat × Nat)) (cur : Option Nat) : Prop where
  kp : dn ++ kidsP m bd e (X.drop i) a cur = KP
  no : cur = none → dn = []
  at' : a + (X.drop i).flatten.length = e
  tx : ∀ j, j < (X.drop i).flatten.length → m[a + j]? = (X.drop i).flatten[j]?
  ok : LOK (X.drop i)
  cu : ∀ k, cur = some k → 2 ≤ k ∧ k ≤ a ∧ (X.drop i ≠ [] → m[a - 1]? = some 10)
def outOf (dn : List (Nat × Nat)) (e : Nat) (cur : Option Nat) : List (Nat × Nat) := dn ++ (cur.map fun k => (k, e)).toList
theorem trimE_len (x : List UInt8) : (trimE x).length ≤ x.length := by
  unfold trimE Lib.trimRightS
  rw [List.length_reverse]
  refine Nat.le_trans (dropWhile_le _ _) ?_
  rw [List.length_reverse]
  exact txt_len x
section
variable {m bd : List UInt8} {e : Nat} {X : List (List UInt8)} {KP : List (Nat × Nat)} {i a : Nat} {dn : List (Nat × Nat)} {cur : Option Nat} {x : List UInt8}
theorem CK.step (h : CK m bd e X KP i a dn cur) (hd : X.drop i = x :: X.drop (i + 1)) : (a + x.length) + (X.drop (i + 1)).flatten.length = e ∧ (∀ j, j < (X.drop (i + 1)).flatten.length → m[(a + x.length) + j]? = (X.drop (i + 1)).flatten[j]?) ∧ LOK (X.drop (i + 1)) ∧ (X.drop (i + 1) ≠ [] → m[a + x.length - 1]? = some 10) ∧ a + x.length ≤ e := by
  have h1 := h.at'
  have h2 := h.tx
  have h3 := h.ok
  rw [hd] at h1 h2 h3
  rw [List.flatten_cons] at h1 h2
  rw [List.length_append] at h1 h2
  refine ⟨by omega, fun j hj => ?_, h3.2, fun hne => ?_, by omega⟩
  · have := h2 (x.length + j) (by omega)
    rw [List.getElem?_append_right (by omega)] at this
    rw [Nat.add_assoc, this]
    congr 1
    omega
  · rcases h3.1 with ht | ⟨he, _⟩
    · obtain ⟨p, rfl, _⟩ := ht
      have := h2 p.length (by simp; omega)
      rw [List.length_append, List.length_singleton, show a + (p.length + 1) - 1 = a + p.length by omega, this]
      simp
    · exact absurd he hne
theorem CK.skip (h : CK m bd e X KP i a dn cur) (hd : X.drop i = x :: X.drop (i + 1)) (h1 : trimE x ≠ dlm bd) (h2 : trimE x ≠ clo bd) : CK m bd e X KP (i + 1) (a + x.length) dn cur := by
  obtain ⟨g1, g2, g3, g4, _⟩ := h.step hd
  refine ⟨?_, h.no, g1, g2, g3, fun k hk => ⟨(h.cu k hk).1, by have := (h.cu k hk).2.1; omega, g4⟩⟩
  have := h.kp
  rw [hd, kidsP, if_neg h1, if_neg h2] at this
  exact this
theorem CK.delim (h : CK m bd e X KP i a dn cur) (hd : X.drop i = x :: X.drop (i + 1)) (h1 : trimE x = dlm bd) : CK m bd e X KP (i + 1) (a + x.length) (dn ++ (cur.map (kidE m a)).toList) (some (a + x.length)) := by
  obtain ⟨g1, g2, g3, g4, _⟩ := h.step hd
  have hl := trimE_len x
  have hl2 : (dlm bd).length = bd.length + 2 := rfl
  rw [h1, hl2] at hl
  refine ⟨?_, fun e => (by cases e), g1, g2, g3, fun k hk => ?_⟩
  · have := h.kp
    rw [hd, kidsP, if_pos h1] at this
    rw [List.append_assoc]
    exact this
  · cases hk
    exact ⟨by omega, Nat.le_refl _, g4⟩
theorem CK.clos (h : CK m bd e X KP i a dn cur) (hd : X.drop i = x :: X.drop (i + 1)) (h1 : trimE x = clo bd) : dn ++ (cur.map (kidE m a)).toList = KP := by
  have := h.kp
  rw [hd, kidsP, if_neg (by rw [h1]; exact clo_ne bd), if_pos h1] at this
  exact this
theorem CK.ends (h : CK m bd e X KP i a dn cur) (hd : X.drop i = []) : outOf dn e cur = KP := by
  have := h.kp
  rw [hd] at this
  unfold outOf
  cases cur with
  | none => exact this
  | some k => exact this
theorem CK.kid {k : Nat} (h : CK m bd e X KP i a dn (some k)) (hd : X.drop i = x :: X.drop (i + 1)) (ha : a ≤ m.length) : kidE m a k = (k, max k (backE m a)) := by
  obtain ⟨h1, h2, h3⟩ := h.cu k rfl
  have := kidE_back h2 ha (fun _ => h3 (by rw [hd]; simp))
  rw [← this]
  rfl
end
theorem back13 {m : List UInt8} {a : Nat} (ha : 2 ≤ a) (h1 : m[a - 1]? = some 10) (h2 : m[a - 2]? = some 13) : backE m a = a - 2 := by
  unfold backE
  rw [if_pos ⟨h1, by omega⟩, if_pos ⟨h2, by omega⟩]
theorem backN {m : List UInt8} {a : Nat} {c : UInt8} (ha : 2 ≤ a) (h1 : m[a - 1]? = some 10) (h2 : m[a - 2]? = some c) (hc : c ≠ 13) : backE m a = a - 1 := by
  unfold backE
  rw [if_pos ⟨h1, by omega⟩, if_neg (fun h => hc (Option.some.inj (h2.symm.trans h.1)))]
set_option maxRecDepth 20000 in
set_option maxHeartbeats 4000000 in
theorem cuts_any (m bd : List UInt8) (a0 e : Nat) (w : World) (hae : a0 ≤ e) (hem : e ≤ m.length) (hml : m.length ≤ 20000) (hbd : bd.length ≤ 20000) :
    Calls Tryz.prog 39 #[.string ⟨m.toArray⟩, .int .i64 (a0 : Nat), .int .i64 (e : Nat), .string ⟨bd.toArray⟩] w fun r w' => ∃ v, r = .returned v ∧ RowOf spC 3 w.heap.size w' v (kidsP m bd e (splitS (seg m a0 e)) a0 none) ∧ Below w.heap.size w w' := by
  obtain ⟨i0, hi, hz0, hz1, hz2⟩ := info_three spInfo
  have hsm := size_lit m
  have hsb := size_lit bd
  have eS : (⟨m.toArray⟩ : ByteArray).extract a0 e = ⟨(seg m a0 e).toArray⟩ := ext_mid m a0 e
  have hSl : (seg m a0 e).length ≤ 20000 := by rw [seg_len m a0 e hem]; omega
  have HSp := hide (fun W => rsplit_any (seg m a0 e) W hSl)
  obtain ⟨KP, hKP⟩ : ∃ KP, kidsP m bd e (splitS (seg m a0 e)) a0 none = KP := ⟨_, rfl⟩
  rw [hKP]
  have HK0 : Hid (CK m bd e (splitS (seg m a0 e)) KP 0 a0 [] none) := by
    refine ⟨?_, fun _ => rfl, ?_, fun j hj => ?_, ?_, fun k hk => by cases hk⟩
    · rw [List.drop_zero, List.nil_append]
      exact hKP
    · rw [List.drop_zero, splitS_flat, seg_len m a0 e hem]
      omega
    · rw [List.drop_zero, splitS_flat] at hj ⊢
      rw [seg_len m a0 e hem] at hj
      unfold seg
      rw [List.getElem?_take_of_lt (by omega), List.getElem?_drop]
    · rw [List.drop_zero]
      exact lok _
  have HFl : Hid ((splitS (seg m a0 e)).flatten.length ≤ 20000) := by
    show _ ≤ _
    rw [splitS_flat]
    exact hSl
  have HXl : Hid ((splitS (seg m a0 e)).length ≤ 20000) := Nat.le_trans (splitS_len _) hSl
  generalize hS : seg m a0 e = S at *
  generalize hX : splitS S = X at *
  clear hX hS hKP hSl
  have hDm : dlm bd = 45 :: 45 :: bd := rfl
  have hCm : clo bd = (45 :: 45 :: bd) ++ [45, 45] := rfl
  have hcat1 : (⟨#[45, 45]⟩ : ByteArray) ++ ⟨bd.toArray⟩ = ⟨(dlm bd).toArray⟩ := cat_lit [45, 45] bd
  have hcat2 : (⟨(dlm bd).toArray⟩ : ByteArray) ++ ⟨#[45, 45]⟩ = ⟨(clo bd).toArray⟩ := cat_lit (dlm bd) [45, 45]
  have hCD := clo_ne bd
  obtain ⟨D, hD⟩ : ∃ D, dlm bd = D := ⟨_, rfl⟩
  obtain ⟨C, hC⟩ : ∃ C, clo bd = C := ⟨_, rfl⟩
  have hDl : D.length ≤ 30000 := by rw [← hD]; show bd.length + 2 ≤ _; omega
  have hsD := size_lit D
  have hsC := size_lit C
  rw [hD] at hcat1 hcat2 hCD
  rw [hC] at hcat2 hCD
  have HD := hide hD
  have HC := hide hC
  have hCDb : (C == D) = false := by rw [beq_eq_false_iff_ne]; exact hCD
  have hael : (a0 : Int) ≤ e := by omega
  have heml : (e : Int) ≤ m.length := by omega
  clear hD hC hDm hCm hCD
  have hA := (Below.refl w.heap.size w).alloc (Nat.le_refl _) (.cells #[] 74)
  have HRw0 : Hid (Rw (w.alloc (.cells #[] 74)) 3 (.slice (some ⟨w.heap.size, 0, none⟩) 0 0) 0 [] (some w.heap.size)) := Rw.new (e := 74) [] [] (Blk.new _ _ _) rfl rfl (Nat.le_refl _) (Nat.zero_le _)
  have HA := hide hA
  clear hA
  go_enter Tryz.func39, Tryz.ntmps39
  go_wp2_with fail
  refine (HSp.out _).mono ?_
  rintro r w2 ⟨v2, rfl, hT⟩
  have hTb := hT.1
  have hz : (w.alloc (.cells #[] 74)).heap.size = w.heap.size + 1 := World.size_alloc _ _
  have hw2 : w.heap.size < w2.heap.size := by have := hTb.size; omega
  have HCU0 : Hid (CU w w2 w2 (.slice (some ⟨w.heap.size, 0, none⟩) 0 0) []) := ⟨⟨some w.heap.size, HRw0.out.keep (S := fun _ => False) (Mvs.of_below hTb) (fun _ _ c => c), fun g hg => by cases hg; exact .inl rfl⟩, Mvs.refl _ _⟩
  have HB2 := hide (HA.out.trans (hTb.mono (by omega)))
  obtain ⟨A2, c2, rfl, HRd⟩ : ∃ A c, v2 = .slice A X.length c ∧ Hid (∀ W, Mvs (fun k => k = w.heap.size) w2 W → ∀ i (hi : i < X.length), ∃ g o, A = some ⟨g, o, none⟩ ∧ W.cell? ⟨g, o + i, none⟩ = some (.string ⟨X[i].toArray⟩)) := by
    obtain ⟨_, G, hr, hg⟩ := hT
    obtain ⟨A, c, rfl⟩ := hr.form
    refine ⟨A, c, rfl, fun W hW i hi => ?_⟩
    rcases hr.2 with ⟨_, h0, _⟩ | ⟨g, o, cap, hG, hv, _, _, hgs, hc, _⟩
    · omega
    · cases hv
      have h9 := hg g hG
      refine ⟨g, o, rfl, (hW.cell (a := ⟨g, o + i, none⟩) hgs (by show ¬ g = w.heap.size; omega)).trans (hc i _ ?_)⟩
      rw [List.getElem?_map, List.getElem?_eq_getElem hi]
      rfl
  have HM2 := hide hw2
  have hXl := HXl.out
  clear hT hTb hz hw2 HSp HA HRw0
  go_wp2
  go_loopw [22, 1, 9] (fun v22 v1 v9 wr => ∃ (i a : Nat) (dn : List (Nat × Nat)) (cur : Option Nat), v22 = .int .i64 i ∧ v1 = .int .i64 a ∧ i ≤ X.length ∧ dn.length ≤ i ∧ Hid (CK m bd e X KP i a dn cur) ∧ Hid (CU w w2 wr v9 (outOf dn e cur))) (fun v22 _ _ _ => X.length - (intOf v22).toNat)
  case atStart => exact ⟨0, a0, [], none, rfl, rfl, Nat.zero_le _, Nat.le_refl _, HK0, HCU0⟩
  case round =>
    obtain ⟨i, a, dn, cur, rfl, rfl, hiX, hdi, HK, HU⟩ := hrel
    clear HK0 HCU0
    by_cases hlt : i < X.length
    · have hlt' : (i : Int) < X.length := by omega
      obtain ⟨g2, o2, rfl, hcx⟩ := HRd.out _ HU.out.mv i hlt
      have HDr := hide (List.drop_eq_getElem_cons hlt)
      have HXi : Hid (X[i].length ≤ 20000) := Nat.le_trans (flat_at_le hlt) HFl.out
      generalize X[i] = x at *
      have HTr := hide (fun W => rtrimmed_any x W (by have := HXi.out; omega))
      have hst := (HK.out.step HDr.out)
      have hax : a + x.length ≤ e := hst.2.2.2.2
      clear hst
      have hsx := size_lit x
      have hax2 : (a : Int) + x.length ≤ 20000 := by omega
      obtain ⟨T, hT⟩ : ∃ T, trimE x = T := ⟨_, rfl⟩
      rw [hT] at HTr
      have HTe := hide hT
      have hsT := size_lit T
      clear hT
      by_cases h1 : T = D
      · subst h1
        have HKn := hide (HK.out.delim HDr.out (HTe.out.trans HD.out.symm))
        cases cur with
        | none =>
          obtain rfl : dn = [] := HK.out.no rfl
          obtain ⟨⟨G, hr, hg⟩, hm⟩ := HU.out
          have hr : Rw wr 3 u9 0 [] G := hr
          obtain ⟨A, c, rfl⟩ := hr.form
          have HR := hide hr
          have HG := hide hg
          have HM := hide hm
          clear hr hg hm HU HK
          go_wp2_with fail
          refine (HTr.out _).ret ?_
          go_wp2_with (at_builtin; refine wpList_append_rw rfl _ _ 71 71 rfl 74 i0 (.agg #[.int .i64 0, .int .i64 0, .int .i64 0]) 3 24 Tryz.underlying71 hi hz0 hz1 hz2 rfl rfl (HR.out.keep (S := fun _ => False) ((Mvs.refl _ _).alloc _) (fun _ _ c => c)) _ 1 _ rfl (src_sp (a + x.length) e) (by simp only [maxLen]; omega) (by omega) ?_)
          intro u9' w9 G9 hr9 hm9 hg9
          obtain ⟨A9, c9, rfl⟩ := hr9.form
          have HU9 := hide (CU.grow (xs := []) HM.out HG.out hr9 hm9 (hg9.imp id (fun h => ⟨_, h, by have h9 := HM.out.size; first | omega | (simp [World.setCell] at h9; omega)⟩)))
          clear hr9 hm9 hg9 HR HG HM
          go_wp2
          go_roundw
          case rel => exact ⟨i + 1, a + x.length, [], some (a + x.length), by go_num, by go_num, by omega, by simp, HKn, HU9⟩
          case measure => simp [intOf]; omega
        | some k =>
          obtain ⟨hk2, hka, hm10⟩ := HK.out.cu k rfl
          have hm10 := hm10 (by rw [HDr.out]; simp)
          have HKd := hide (HK.out.kid HDr.out (by omega))
          have hk2a : 2 ≤ a := by omega
          obtain ⟨a1, ha1⟩ : ∃ a1, a1 = a - 1 := ⟨_, rfl⟩
          obtain ⟨a2, ha2⟩ : ∃ a2, a2 = a - 2 := ⟨_, rfl⟩
          have hl1 : a1 < m.length := by omega
          have hl2 : a2 < m.length := by omega
          have hm1 := List.getElem?_eq_getElem hl1
          have hm2 := List.getElem?_eq_getElem hl2
          obtain ⟨b1, hb1, hat1⟩ := at_str m a1 hl1
          obtain ⟨b2, hb2, hat2⟩ := at_str m a2 hl2
          rw [hb1] at hm1
          rw [hb2] at hm2
          obtain rfl : b1 = 10 := by
            rw [ha1, hm10] at hm1
            exact (Option.some.inj hm1).symm
          have e1 : (a : Int) - 1 = a1 := by omega
          have e2 : (a1 : Int) - 1 = a2 := by omega
          have g0 : (a : Int) > 0 := by omega
          have g1 : (a1 : Int) > 0 := by omega
          have i1 : (a1 : Int) < m.length := by omega
          have i2 : (a2 : Int) < m.length := by omega
          rw [ha2] at hm2
          obtain ⟨g, o, c, rfl, hc1, hc2, cB, cE, fE⟩ := CU.last (xs := dn) HU.out
          have HPut := hide (fun E : Nat => CU.put (e' := E) (xs := dn) HU.out)
          obtain ⟨K, hK⟩ : ∃ K, dn.length = K := ⟨_, rfl⟩
          have HKl := hide hK
          rw [hK] at hc1 cB cE fE HPut hdi ⊢
          have hK2 : K ≤ 20000 := by omega
          have HH1 := hide ha1
          have HH2 := hide ha2
          clear hb1 hb2 hm1 hl1 hl2 hK HU HK ha1 ha2
          by_cases h13 : b2 = 13
          · have hB := back13 hk2a hm10 (by rw [hm2, h13])
            subst h13
            by_cases hlt2 : a2 < k
            · have hlt3 : ((a2 : Nat) : Int) < k := by omega
              have HE : Hid (kidE m a k = (k, k)) := by
                show _ = _
                rw [HKd.out, hB]
                have := HH1.out
                have := HH2.out
                congr 1
                omega
              have HP := hide (HPut.out k)
              clear hB HKd HPut hm10 hm2
              obtain ⟨⟨G, hr, hg⟩, hm⟩ := HP.out
              have hr : Rw (wr.setCell ⟨g, o + K * 3 + 2, none⟩ (.int .i64 (k : Nat))) 3 (.slice (some ⟨g, o, none⟩) (K + 1) c) (K + 1) ((dn ++ [(k, k)]).flatMap spC) G := by
                have h9 := hr
                rw [List.length_append, List.length_singleton, HKl.out] at h9
                exact h9
              obtain ⟨W5, hW5⟩ : ∃ W5, wr.setCell ⟨g, o + K * 3 + 2, none⟩ (.int .i64 (k : Nat)) = W5 := ⟨_, rfl⟩
              rw [hW5] at hr hm
              have HR := hide hr
              have HG := hide hg
              have HM := hide hm
              clear hr hg hm HP
              go_wp2_with fail
              refine (HTr.out _).ret ?_
              go_wp2_with (at_builtin; refine wpList_append_rw rfl _ _ 71 71 rfl 74 i0 (.agg #[.int .i64 0, .int .i64 0, .int .i64 0]) 3 24 Tryz.underlying71 hi hz0 hz1 hz2 rfl rfl (HR.out.keep (S := fun _ => False) ((Mvs.refl _ _).alloc _) (fun _ _ c => c)) _ 1 _ rfl (src_sp (a + x.length) e) (by simp only [maxLen]; omega) (by omega) ?_)
              intro u9' w9 G9 hr9 hm9 hg9
              obtain ⟨A9, c9, rfl⟩ := hr9.form
              have HU9 := hide (CU.grow (xs := dn ++ [(k, k)]) (x := (a + x.length, e)) HM.out HG.out (by rw [List.length_append, List.length_singleton, HKl.out]; simpa [List.flatMap_append] using hr9) hm9 (hg9.imp id (fun h => ⟨_, h, by have h9 := HM.out.size; first | omega | (simp [World.setCell] at h9; omega)⟩)))
              clear hr9 hm9 hg9 HR HG HM
              go_wp2
              go_roundw
              case rel => exact ⟨i + 1, a + x.length, dn ++ ((some k).map (kidE m a)).toList, some (a + x.length), by go_num, by go_num, by omega, by simp [HKl.out]; omega, HKn, by show CU _ _ _ _ (outOf _ _ _); rw [show (Option.map (kidE m a) (some k)) = some (k, k) from congrArg some HE.out]; exact HU9.out⟩
              case measure => simp [intOf]; omega
            · have hlt3 : ¬ ((a2 : Nat) : Int) < k := by omega
              have HE : Hid (kidE m a k = (k, a2)) := by
                show _ = _
                rw [HKd.out, hB]
                have := HH1.out
                have := HH2.out
                congr 1
                omega
              have HP := hide (HPut.out a2)
              clear hB HKd HPut hm10 hm2
              obtain ⟨⟨G, hr, hg⟩, hm⟩ := HP.out
              have hr : Rw (wr.setCell ⟨g, o + K * 3 + 2, none⟩ (.int .i64 (a2 : Nat))) 3 (.slice (some ⟨g, o, none⟩) (K + 1) c) (K + 1) ((dn ++ [(k, a2)]).flatMap spC) G := by
                have h9 := hr
                rw [List.length_append, List.length_singleton, HKl.out] at h9
                exact h9
              obtain ⟨W5, hW5⟩ : ∃ W5, wr.setCell ⟨g, o + K * 3 + 2, none⟩ (.int .i64 (a2 : Nat)) = W5 := ⟨_, rfl⟩
              rw [hW5] at hr hm
              have HR := hide hr
              have HG := hide hg
              have HM := hide hm
              clear hr hg hm HP
              go_wp2_with fail
              refine (HTr.out _).ret ?_
              go_wp2_with (at_builtin; refine wpList_append_rw rfl _ _ 71 71 rfl 74 i0 (.agg #[.int .i64 0, .int .i64 0, .int .i64 0]) 3 24 Tryz.underlying71 hi hz0 hz1 hz2 rfl rfl (HR.out.keep (S := fun _ => False) ((Mvs.refl _ _).alloc _) (fun _ _ c => c)) _ 1 _ rfl (src_sp (a + x.length) e) (by simp only [maxLen]; omega) (by omega) ?_)
              intro u9' w9 G9 hr9 hm9 hg9
              obtain ⟨A9, c9, rfl⟩ := hr9.form
              have HU9 := hide (CU.grow (xs := dn ++ [(k, a2)]) (x := (a + x.length, e)) HM.out HG.out (by rw [List.length_append, List.length_singleton, HKl.out]; simpa [List.flatMap_append] using hr9) hm9 (hg9.imp id (fun h => ⟨_, h, by have h9 := HM.out.size; first | omega | (simp [World.setCell] at h9; omega)⟩)))
              clear hr9 hm9 hg9 HR HG HM
              go_wp2
              go_roundw
              case rel => exact ⟨i + 1, a + x.length, dn ++ ((some k).map (kidE m a)).toList, some (a + x.length), by go_num, by go_num, by omega, by simp [HKl.out]; omega, HKn, by show CU _ _ _ _ (outOf _ _ _); rw [show (Option.map (kidE m a) (some k)) = some (k, a2) from congrArg some HE.out]; exact HU9.out⟩
              case measure => simp [intOf]; omega
          · have hB := backN hk2a hm10 hm2 h13
            have h13' : ((b2.toNat : Int) == 13) = false := by
              rw [beq_eq_false_iff_ne]
              intro e
              exact h13 (UInt8.toNat_inj.1 (by simpa using (by omega : b2.toNat = 13)))
            by_cases hlt2 : a1 < k
            · have hlt3 : ((a1 : Nat) : Int) < k := by omega
              have HE : Hid (kidE m a k = (k, k)) := by
                show _ = _
                rw [HKd.out, hB]
                have := HH1.out
                have := HH2.out
                congr 1
                omega
              have HP := hide (HPut.out k)
              clear hB HKd HPut hm10 hm2
              obtain ⟨⟨G, hr, hg⟩, hm⟩ := HP.out
              have hr : Rw (wr.setCell ⟨g, o + K * 3 + 2, none⟩ (.int .i64 (k : Nat))) 3 (.slice (some ⟨g, o, none⟩) (K + 1) c) (K + 1) ((dn ++ [(k, k)]).flatMap spC) G := by
                have h9 := hr
                rw [List.length_append, List.length_singleton, HKl.out] at h9
                exact h9
              obtain ⟨W5, hW5⟩ : ∃ W5, wr.setCell ⟨g, o + K * 3 + 2, none⟩ (.int .i64 (k : Nat)) = W5 := ⟨_, rfl⟩
              rw [hW5] at hr hm
              have HR := hide hr
              have HG := hide hg
              have HM := hide hm
              clear hr hg hm HP
              go_wp2_with fail
              refine (HTr.out _).ret ?_
              go_wp2_with (at_builtin; refine wpList_append_rw rfl _ _ 71 71 rfl 74 i0 (.agg #[.int .i64 0, .int .i64 0, .int .i64 0]) 3 24 Tryz.underlying71 hi hz0 hz1 hz2 rfl rfl (HR.out.keep (S := fun _ => False) ((Mvs.refl _ _).alloc _) (fun _ _ c => c)) _ 1 _ rfl (src_sp (a + x.length) e) (by simp only [maxLen]; omega) (by omega) ?_)
              intro u9' w9 G9 hr9 hm9 hg9
              obtain ⟨A9, c9, rfl⟩ := hr9.form
              have HU9 := hide (CU.grow (xs := dn ++ [(k, k)]) (x := (a + x.length, e)) HM.out HG.out (by rw [List.length_append, List.length_singleton, HKl.out]; simpa [List.flatMap_append] using hr9) hm9 (hg9.imp id (fun h => ⟨_, h, by have h9 := HM.out.size; first | omega | (simp [World.setCell] at h9; omega)⟩)))
              clear hr9 hm9 hg9 HR HG HM
              go_wp2
              go_roundw
              case rel => exact ⟨i + 1, a + x.length, dn ++ ((some k).map (kidE m a)).toList, some (a + x.length), by go_num, by go_num, by omega, by simp [HKl.out]; omega, HKn, by show CU _ _ _ _ (outOf _ _ _); rw [show (Option.map (kidE m a) (some k)) = some (k, k) from congrArg some HE.out]; exact HU9.out⟩
              case measure => simp [intOf]; omega
            · have hlt3 : ¬ ((a1 : Nat) : Int) < k := by omega
              have HE : Hid (kidE m a k = (k, a1)) := by
                show _ = _
                rw [HKd.out, hB]
                have := HH1.out
                have := HH2.out
                congr 1
                omega
              have HP := hide (HPut.out a1)
              clear hB HKd HPut hm10 hm2
              obtain ⟨⟨G, hr, hg⟩, hm⟩ := HP.out
              have hr : Rw (wr.setCell ⟨g, o + K * 3 + 2, none⟩ (.int .i64 (a1 : Nat))) 3 (.slice (some ⟨g, o, none⟩) (K + 1) c) (K + 1) ((dn ++ [(k, a1)]).flatMap spC) G := by
                have h9 := hr
                rw [List.length_append, List.length_singleton, HKl.out] at h9
                exact h9
              obtain ⟨W5, hW5⟩ : ∃ W5, wr.setCell ⟨g, o + K * 3 + 2, none⟩ (.int .i64 (a1 : Nat)) = W5 := ⟨_, rfl⟩
              rw [hW5] at hr hm
              have HR := hide hr
              have HG := hide hg
              have HM := hide hm
              clear hr hg hm HP
              go_wp2_with fail
              refine (HTr.out _).ret ?_
              go_wp2_with (at_builtin; refine wpList_append_rw rfl _ _ 71 71 rfl 74 i0 (.agg #[.int .i64 0, .int .i64 0, .int .i64 0]) 3 24 Tryz.underlying71 hi hz0 hz1 hz2 rfl rfl (HR.out.keep (S := fun _ => False) ((Mvs.refl _ _).alloc _) (fun _ _ c => c)) _ 1 _ rfl (src_sp (a + x.length) e) (by simp only [maxLen]; omega) (by omega) ?_)
              intro u9' w9 G9 hr9 hm9 hg9
              obtain ⟨A9, c9, rfl⟩ := hr9.form
              have HU9 := hide (CU.grow (xs := dn ++ [(k, a1)]) (x := (a + x.length, e)) HM.out HG.out (by rw [List.length_append, List.length_singleton, HKl.out]; simpa [List.flatMap_append] using hr9) hm9 (hg9.imp id (fun h => ⟨_, h, by have h9 := HM.out.size; first | omega | (simp [World.setCell] at h9; omega)⟩)))
              clear hr9 hm9 hg9 HR HG HM
              go_wp2
              go_roundw
              case rel => exact ⟨i + 1, a + x.length, dn ++ ((some k).map (kidE m a)).toList, some (a + x.length), by go_num, by go_num, by omega, by simp [HKl.out]; omega, HKn, by show CU _ _ _ _ (outOf _ _ _); rw [show (Option.map (kidE m a) (some k)) = some (k, a1) from congrArg some HE.out]; exact HU9.out⟩
              case measure => simp [intOf]; omega
      · by_cases h2 : T = C
        · subst h2
          have HKe := hide (HK.out.clos HDr.out (HTe.out.trans HC.out.symm))
          cases cur with
          | none =>
            obtain rfl : dn = [] := HK.out.no rfl
            obtain ⟨⟨G, hr, hg⟩, hm⟩ := HU.out
            have hr : Rw wr 3 u9 0 [] G := hr
            obtain ⟨A, c, rfl⟩ := hr.form
            have HO : Hid (RowOf spC 3 w.heap.size wr (.slice A 0 c) KP ∧ Below w.heap.size w wr) := by
              have := HM2.out
              refine ⟨?_, HB2.out.trans (hm.below (fun k hk => by omega) (by omega))⟩
              rw [← HKe.out]
              exact ⟨G, hr, fun g hG => by rcases hg g hG with h | h <;> omega⟩
            clear hr hg hm HU HK HKe
            go_wp2_with fail
            refine (HTr.out _).ret ?_
            go_wp2
            go_ret
            exact ⟨_, rfl, HO.out.1, HO.out.2⟩
          | some k =>
            obtain ⟨hk2, hka, hm10⟩ := HK.out.cu k rfl
            have hm10 := hm10 (by rw [HDr.out]; simp)
            have HKd := hide (HK.out.kid HDr.out (by omega))
            have hk2a : 2 ≤ a := by omega
            obtain ⟨a1, ha1⟩ : ∃ a1, a1 = a - 1 := ⟨_, rfl⟩
            obtain ⟨a2, ha2⟩ : ∃ a2, a2 = a - 2 := ⟨_, rfl⟩
            have hl1 : a1 < m.length := by omega
            have hl2 : a2 < m.length := by omega
            have hm1 := List.getElem?_eq_getElem hl1
            have hm2 := List.getElem?_eq_getElem hl2
            obtain ⟨b1, hb1, hat1⟩ := at_str m a1 hl1
            obtain ⟨b2, hb2, hat2⟩ := at_str m a2 hl2
            rw [hb1] at hm1
            rw [hb2] at hm2
            obtain rfl : b1 = 10 := by
              rw [ha1, hm10] at hm1
              exact (Option.some.inj hm1).symm
            have e1 : (a : Int) - 1 = a1 := by omega
            have e2 : (a1 : Int) - 1 = a2 := by omega
            have g0 : (a : Int) > 0 := by omega
            have g1 : (a1 : Int) > 0 := by omega
            have i1 : (a1 : Int) < m.length := by omega
            have i2 : (a2 : Int) < m.length := by omega
            rw [ha2] at hm2
            obtain ⟨g, o, c, rfl, hc1, hc2, cB, cE, fE⟩ := CU.last (xs := dn) HU.out
            have HPut := hide (fun E : Nat => CU.put (e' := E) (xs := dn) HU.out)
            obtain ⟨K, hK⟩ : ∃ K, dn.length = K := ⟨_, rfl⟩
            have HKl := hide hK
            rw [hK] at hc1 cB cE fE HPut hdi ⊢
            have hK2 : K ≤ 20000 := by omega
            have HH1 := hide ha1
            have HH2 := hide ha2
            clear hb1 hb2 hm1 hl1 hl2 hK HU HK ha1 ha2
            by_cases h13 : b2 = 13
            · have hB := back13 hk2a hm10 (by rw [hm2, h13])
              subst h13
              by_cases hlt2 : a2 < k
              · have hlt3 : ((a2 : Nat) : Int) < k := by omega
                have HE : Hid (kidE m a k = (k, k)) := by
                  show _ = _
                  rw [HKd.out, hB]
                  have := HH1.out
                  have := HH2.out
                  congr 1
                  omega
                have HP := hide (HPut.out k)
                clear hB HKd HPut hm10 hm2
                obtain ⟨⟨G, hr, hg⟩, hm⟩ := HP.out
                have HO : Hid (RowOf spC 3 w.heap.size (wr.setCell ⟨g, o + K * 3 + 2, none⟩ (.int .i64 (k : Nat))) (.slice (some ⟨g, o, none⟩) (K + 1) c) KP ∧ Below w.heap.size w (wr.setCell ⟨g, o + K * 3 + 2, none⟩ (.int .i64 (k : Nat)))) := by
                  have := HM2.out
                  refine ⟨?_, HB2.out.trans (hm.below (fun k hk => by omega) (by omega))⟩
                  rw [← HKe.out, show (Option.map (kidE m a) (some k)) = some (k, k) from congrArg some HE.out]
                  exact ⟨G, hr, fun g hG => by rcases hg g hG with h | h <;> omega⟩
                clear hr hg hm HP HKe HE
                go_wp2_with fail
                refine (HTr.out _).ret ?_
                go_wp2
                go_ret
                exact ⟨_, rfl, HO.out.1, HO.out.2⟩
              · have hlt3 : ¬ ((a2 : Nat) : Int) < k := by omega
                have HE : Hid (kidE m a k = (k, a2)) := by
                  show _ = _
                  rw [HKd.out, hB]
                  have := HH1.out
                  have := HH2.out
                  congr 1
                  omega
                have HP := hide (HPut.out a2)
                clear hB HKd HPut hm10 hm2
                obtain ⟨⟨G, hr, hg⟩, hm⟩ := HP.out
                have HO : Hid (RowOf spC 3 w.heap.size (wr.setCell ⟨g, o + K * 3 + 2, none⟩ (.int .i64 (a2 : Nat))) (.slice (some ⟨g, o, none⟩) (K + 1) c) KP ∧ Below w.heap.size w (wr.setCell ⟨g, o + K * 3 + 2, none⟩ (.int .i64 (a2 : Nat)))) := by
                  have := HM2.out
                  refine ⟨?_, HB2.out.trans (hm.below (fun k hk => by omega) (by omega))⟩
                  rw [← HKe.out, show (Option.map (kidE m a) (some k)) = some (k, a2) from congrArg some HE.out]
                  exact ⟨G, hr, fun g hG => by rcases hg g hG with h | h <;> omega⟩
                clear hr hg hm HP HKe HE
                go_wp2_with fail
                refine (HTr.out _).ret ?_
                go_wp2
                go_ret
                exact ⟨_, rfl, HO.out.1, HO.out.2⟩
            · have hB := backN hk2a hm10 hm2 h13
              have h13' : ((b2.toNat : Int) == 13) = false := by
                rw [beq_eq_false_iff_ne]
                intro e
                exact h13 (UInt8.toNat_inj.1 (by simpa using (by omega : b2.toNat = 13)))
              by_cases hlt2 : a1 < k
              · have hlt3 : ((a1 : Nat) : Int) < k := by omega
                have HE : Hid (kidE m a k = (k, k)) := by
                  show _ = _
                  rw [HKd.out, hB]
                  have := HH1.out
                  have := HH2.out
                  congr 1
                  omega
                have HP := hide (HPut.out k)
                clear hB HKd HPut hm10 hm2
                obtain ⟨⟨G, hr, hg⟩, hm⟩ := HP.out
                have HO : Hid (RowOf spC 3 w.heap.size (wr.setCell ⟨g, o + K * 3 + 2, none⟩ (.int .i64 (k : Nat))) (.slice (some ⟨g, o, none⟩) (K + 1) c) KP ∧ Below w.heap.size w (wr.setCell ⟨g, o + K * 3 + 2, none⟩ (.int .i64 (k : Nat)))) := by
                  have := HM2.out
                  refine ⟨?_, HB2.out.trans (hm.below (fun k hk => by omega) (by omega))⟩
                  rw [← HKe.out, show (Option.map (kidE m a) (some k)) = some (k, k) from congrArg some HE.out]
                  exact ⟨G, hr, fun g hG => by rcases hg g hG with h | h <;> omega⟩
                clear hr hg hm HP HKe HE
                go_wp2_with fail
                refine (HTr.out _).ret ?_
                go_wp2
                go_ret
                exact ⟨_, rfl, HO.out.1, HO.out.2⟩
              · have hlt3 : ¬ ((a1 : Nat) : Int) < k := by omega
                have HE : Hid (kidE m a k = (k, a1)) := by
                  show _ = _
                  rw [HKd.out, hB]
                  have := HH1.out
                  have := HH2.out
                  congr 1
                  omega
                have HP := hide (HPut.out a1)
                clear hB HKd HPut hm10 hm2
                obtain ⟨⟨G, hr, hg⟩, hm⟩ := HP.out
                have HO : Hid (RowOf spC 3 w.heap.size (wr.setCell ⟨g, o + K * 3 + 2, none⟩ (.int .i64 (a1 : Nat))) (.slice (some ⟨g, o, none⟩) (K + 1) c) KP ∧ Below w.heap.size w (wr.setCell ⟨g, o + K * 3 + 2, none⟩ (.int .i64 (a1 : Nat)))) := by
                  have := HM2.out
                  refine ⟨?_, HB2.out.trans (hm.below (fun k hk => by omega) (by omega))⟩
                  rw [← HKe.out, show (Option.map (kidE m a) (some k)) = some (k, a1) from congrArg some HE.out]
                  exact ⟨G, hr, fun g hG => by rcases hg g hG with h | h <;> omega⟩
                clear hr hg hm HP HKe HE
                go_wp2_with fail
                refine (HTr.out _).ret ?_
                go_wp2
                go_ret
                exact ⟨_, rfl, HO.out.1, HO.out.2⟩
        · have hb1 : (T == D) = false := by rw [beq_eq_false_iff_ne]; exact h1
          have hb2 : (T == C) = false := by rw [beq_eq_false_iff_ne]; exact h2
          have HKn := hide (HK.out.skip HDr.out (fun e => h1 (HTe.out.symm.trans (e.trans HD.out))) (fun e => h2 (HTe.out.symm.trans (e.trans HC.out))))
          have HUn := HU
          obtain ⟨⟨G, hr, _⟩, _⟩ := HU.out
          obtain ⟨A, c, rfl⟩ := hr.form
          clear hr HK HU h1 h2
          generalize (outOf dn e cur).length = nn at *
          go_wp2_with fail
          refine (HTr.out _).ret ?_
          go_wp2
          go_roundw
          case rel => exact ⟨i + 1, a + x.length, dn, cur, by go_num, by go_num, by omega, by omega, HKn, HUn⟩
          case measure => simp [intOf]; omega
    · obtain rfl : i = X.length := by omega
      have HKe : Hid (outOf dn e cur = KP) := HK.out.ends (by rw [List.drop_length])
      have HU2 : Hid (RowOf spC 3 w.heap.size wr u9 KP ∧ Below w.heap.size w wr) := by
        rw [← HKe.out]
        obtain ⟨⟨G, hr, hg⟩, hm⟩ := HU.out
        have := HM2.out
        exact ⟨⟨G, hr, fun g hG => by rcases hg g hG with h | h <;> omega⟩, HB2.out.trans (hm.below (fun k hk => by omega) (by omega))⟩
      obtain ⟨A, c, rfl⟩ := HU2.out.1.form
      generalize KP.length = nn at *
      clear HK HU HKe
      go_wp2
      go_ret
      exact ⟨_, rfl, HU2.out.1, HU2.out.2⟩
end Go.Proofs.YtfebohfmpikoeaaGreatDoor
