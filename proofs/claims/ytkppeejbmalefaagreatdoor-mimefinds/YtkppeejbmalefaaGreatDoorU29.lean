/- The program's copies of lists. -/
/- The document's Text, colon, blank, trim of layer 9. -/
import Derived.Test.YtkppeejbmalefaaGreatDoorU27
import Derived.Test.YtkppeejbmalefaaGreatDoorU28
import Derived.Test.YtkppeejbmalefaaGreatDoorU10
section
set_option linter.unusedSimpArgs false
set_option linter.unusedVariables false
namespace Go.Proofs.YtkppeejbmalefaaGreatDoor
open Go.RowKit Go.Shelf
theorem cells_flat {α : Type} {f : α → List Value} {sz : Nat} (hf : ∀ x, (f x).length = sz) (hz : 0 < sz) {w : World} {xs : List α} {g o : Nat} (hc : ∀ i (hi : i < xs.length) j, j < sz → w.cell? ⟨g, o + i * sz + j, none⟩ = (f xs[i])[j]?) : ∀ j u, (xs.flatMap f)[j]? = some u → w.cell? ⟨g, o + j, none⟩ = some u := by
  intro j u hu
  have hj := (List.getElem?_eq_some_iff.1 hu).1
  rw [flat_len hf] at hj
  have hi : j / sz < xs.length := Nat.div_lt_of_lt_mul (by rw [Nat.mul_comm]; exact hj)
  have hr : j % sz < sz := Nat.mod_lt _ hz
  have e : j / sz * sz + j % sz = j := by rw [Nat.mul_comm]; exact Nat.div_add_mod j sz
  have h1 := flat_at hf xs (j / sz) hi (j % sz) hr
  rw [e, hu] at h1
  have h2 := hc (j / sz) hi (j % sz) hr
  rw [Nat.add_assoc, e, ← h1] at h2
  exact h2
def ClOut {α : Type} (f : α → List Value) (sz : Nat) (xs : List α) (w : World) (e : Ending) (w' : World) : Prop := ∃ v, e = .returned v ∧ RowOf f sz w.heap.size w' v xs ∧ Below w.heap.size w w'
set_option maxRecDepth 20000 in
set_option maxHeartbeats 1000000 in
theorem pclone_any {S : Nat → Prop} (ps : List Pm) (A : Option Addr) (cp : Nat) (w : World) (hr : ReadS S Pm.cs 2 w (.slice A ps.length cp) ps) (hl : ps.length * 32 ≤ 140737488355328) :
    Calls Tryz.prog 57 #[.slice A ps.length cp] w (ClOut Pm.cs 2 ps w) := by
  obtain ⟨i0, hi, hz0, hz1, hz2⟩ := info_three pmInfo
  obtain ⟨B, cb, e, hc⟩ := hr
  injection e with e1 e2 e3
  subst e1
  subst e3
  have q : ∀ (w : World) (a : Option Addr) (n c n' c' : Nat), (binOp .eql 25 (.slice a n c) (.slice none n' c')).run Tryz.prog w = .ok (.bool a.isNone) w := fun w a n c n' c' => Lib.run_eql_slice_nil w _ _ a n c n' c' Tryz.underlying25
  cases A with
  | none =>
    have h0 : ps = [] := by
      cases ps with
      | nil => rfl
      | cons x r =>
        obtain ⟨g, o, e, _⟩ := hc 0 (by simp)
        cases e
    subst h0
    clear hc
    go_enter Tryz.func57, Tryz.ntmps57
    go_wp2
    go_ret
    exact ⟨_, rfl, RowOf.nil _ _ _ _, Below.refl _ _⟩
  | some a =>
    have HS : Hid (∀ W, Below w.heap.size w W → Src Tryz.prog 2 25 (.slice (some a) ps.length cp) ps.length (ps.flatMap Pm.cs) W) := fun W hW => by
      refine Src.ofSlice _ Tryz.underlying25 a ps.length cp _ (by rw [flat_len pm_len]) (fun j u hu => ?_) (fun u hu => ?_)
      · cases ps with
        | nil => simp at hu
        | cons x r =>
          obtain ⟨g, o, e, _, hg, _⟩ := hc 0 (by simp)
          cases e
          rw [Go.WideShapes.add_plain]
          refine (hW.cell (p := ⟨g, o + j, none⟩) hg).trans (cells_flat pm_len (by omega) (fun i hi j hj => ?_) j u hu)
          obtain ⟨g', o', e', _, _, h9⟩ := hc i hi
          cases e'
          exact h9 j hj
      · obtain ⟨p, _, hp⟩ := List.mem_flatMap.1 hu
        simp [Pm.cs] at hp
        rcases hp with rfl | rfl <;> rfl
    have hb0 := (Below.refl w.heap.size w).alloc (Nat.le_refl _) (.cells #[] 56)
    have HB0 := hide hb0
    have HR0 : Hid (Rw (w.alloc (.cells #[] 56)) 2 (.slice (some ⟨w.heap.size, 0, none⟩) 0 0) 0 [] (some w.heap.size)) := Rw.new (e := 56) [] [] (Blk.new _ _ _) rfl rfl (Nat.le_refl _) (Nat.zero_le _)
    obtain ⟨n, hn⟩ : ∃ n, ps.length = n := ⟨_, rfl⟩
    have HN := hide hn
    rw [hn] at HS hl ⊢
    clear hc hn hb0
    go_enter Tryz.func57, Tryz.ntmps57
    go_wp2_with (at_builtin; refine wpList_append_rw rfl _ _ 25 25 rfl 56 i0 (.agg #[.string ⟨#[]⟩, .string ⟨#[]⟩]) 2 32 Tryz.underlying25 hi hz0 hz1 hz2 rfl rfl HR0.out _ n _ rfl (HS.out _ HB0.out) (by simp only [maxLen]; omega) (by omega) ?_)
    intro v' w1 G1 hr1 hm1 hg1
    have HO : Hid (RowOf Pm.cs 2 w.heap.size w1 v' ps ∧ Below w.heap.size w w1) := by
      refine ⟨⟨G1, by rw [HN.out]; exact hr1, fun g hg => ?_⟩, HB0.out.trans (hm1.below (B := w.heap.size) (fun k hk e => ?_) HB0.out.size)⟩
      · rcases hg1 with h | h
        · rw [h] at hg
          cases hg
          exact Nat.le_refl _
        · rw [h] at hg
          cases hg
          omega
      · omega
    obtain ⟨A1, c1, rfl⟩ := hr1.form
    clear hr1 hm1 hg1
    go_wp2
    go_ret
    exact ⟨_, rfl, HO.out.1, HO.out.2⟩
theorem flat11_len : ∀ (f : List (Array Value)), (∀ vs ∈ f, vs.size = 11) → (f.flatMap Array.toList).length = f.length * 11
  | [], _ => by simp
  | x :: r, h => by
    rw [List.flatMap_cons, List.length_append, flat11_len r (fun v hv => h v (by simp [hv])), Array.length_toList, h x (by simp), List.length_cons]
    omega
theorem cells_flat11 {xs : List (Array Value)} (hx : ∀ x ∈ xs, x.size = 11) {w : World} {g o : Nat} (hc : ∀ i (hi : i < xs.length) j, j < 11 → w.cell? ⟨g, o + i * 11 + j, none⟩ = (xs[i].toList)[j]?) : ∀ j u, (xs.flatMap Array.toList)[j]? = some u → w.cell? ⟨g, o + j, none⟩ = some u := by
  intro j u hu
  have hj := (List.getElem?_eq_some_iff.1 hu).1
  rw [flat11_len xs hx] at hj
  have hi : j / 11 < xs.length := by omega
  have hr : j % 11 < 11 := by omega
  have e : j / 11 * 11 + j % 11 = j := by omega
  have h1 := flat11 xs hx (j / 11) hi (j % 11) hr
  rw [e, hu] at h1
  have h2 := hc (j / 11) hi (j % 11) hr
  rw [Nat.add_assoc, e, Array.getElem?_toList, ← h1] at h2
  exact h2
set_option maxRecDepth 20000 in
set_option maxHeartbeats 1000000 in
theorem kclone_any {S : Nat → Prop} (ps : List (Array Value)) (hp11 : ∀ x ∈ ps, x.size = 11 ∧ ∀ u ∈ x.toList, u.oneCell' = true) (A : Option Addr) (cp : Nat) (w : World) (hr : ReadS S Array.toList 11 w (.slice A ps.length cp) ps) (hl : ps.length * 160 ≤ 140737488355328) :
    Calls Tryz.prog 58 #[.slice A ps.length cp] w (ClOut Array.toList 11 ps w) := by
  obtain ⟨i0, hi, hz0, hz1, hz2⟩ := info_three ptInfo
  obtain ⟨B, cb, e, hc⟩ := hr
  injection e with e1 e2 e3
  subst e1
  subst e3
  have q : ∀ (w : World) (a : Option Addr) (n c n' c' : Nat), (binOp .eql 26 (.slice a n c) (.slice none n' c')).run Tryz.prog w = .ok (.bool a.isNone) w := fun w a n c n' c' => Lib.run_eql_slice_nil w _ _ a n c n' c' Tryz.underlying26
  cases A with
  | none =>
    have h0 : ps = [] := by
      cases ps with
      | nil => rfl
      | cons x r =>
        obtain ⟨g, o, e, _⟩ := hc 0 (by simp)
        cases e
    subst h0
    clear hc
    go_enter Tryz.func58, Tryz.ntmps58
    go_wp2
    go_ret
    exact ⟨_, rfl, RowOf.nil _ _ _ _, Below.refl _ _⟩
  | some a =>
    have HS : Hid (∀ W, Below w.heap.size w W → Src Tryz.prog 11 26 (.slice (some a) ps.length cp) ps.length (ps.flatMap Array.toList) W) := fun W hW => by
      refine Src.ofSlice _ Tryz.underlying26 a ps.length cp _ (flat11_len ps (fun x hx => (hp11 x hx).1)) (fun j u hu => ?_) (fun u hu => ?_)
      · cases ps with
        | nil => simp at hu
        | cons x r =>
          obtain ⟨g, o, e, _, hg, _⟩ := hc 0 (by simp)
          cases e
          rw [Go.WideShapes.add_plain]
          refine (hW.cell (p := ⟨g, o + j, none⟩) hg).trans (cells_flat11 (fun x hx => (hp11 x hx).1) (fun i hi j hj => ?_) j u hu)
          obtain ⟨g', o', e', _, _, h9⟩ := hc i hi
          cases e'
          exact h9 j hj
      · obtain ⟨p, hpm, hp⟩ := List.mem_flatMap.1 hu
        exact (hp11 p hpm).2 u hp
    have hb0 := (Below.refl w.heap.size w).alloc (Nat.le_refl _) (.cells #[] 28)
    have HB0 := hide hb0
    have HR0 : Hid (Rw (w.alloc (.cells #[] 28)) 11 (.slice (some ⟨w.heap.size, 0, none⟩) 0 0) 0 [] (some w.heap.size)) := Rw.new (e := 28) [] [] (Blk.new _ _ _) rfl rfl (Nat.le_refl _) (Nat.zero_le _)
    obtain ⟨n, hn⟩ : ∃ n, ps.length = n := ⟨_, rfl⟩
    have HN := hide hn
    rw [hn] at HS hl ⊢
    clear hc hn hb0
    go_enter Tryz.func58, Tryz.ntmps58
    go_wp2_with (at_builtin; refine wpList_append_rw rfl _ _ 26 26 rfl 28 i0 (.agg #[.string ⟨#[]⟩, .string ⟨#[]⟩, .slice none 0 0, .string ⟨#[]⟩, .string ⟨#[]⟩, .string ⟨#[]⟩, .int .i64 0, .int .i64 0, .int .i64 0, .int .i64 0, .slice none 0 0]) 11 160 Tryz.underlying26 hi hz0 hz1 hz2 rfl rfl HR0.out _ n _ rfl (HS.out _ HB0.out) (by simp only [maxLen]; omega) (by omega) ?_)
    intro v' w1 G1 hr1 hm1 hg1
    have HO : Hid (RowOf Array.toList 11 w.heap.size w1 v' ps ∧ Below w.heap.size w w1) := by
      refine ⟨⟨G1, by rw [HN.out]; exact hr1, fun g hg => ?_⟩, HB0.out.trans (hm1.below (B := w.heap.size) (fun k hk e => ?_) HB0.out.size)⟩
      · rcases hg1 with h | h
        · rw [h] at hg
          cases hg
          exact Nat.le_refl _
        · rw [h] at hg
          cases hg
          omega
      · omega
    obtain ⟨A1, c1, rfl⟩ := hr1.form
    clear hr1 hm1 hg1
    go_wp2
    go_ret
    exact ⟨_, rfl, HO.out.1, HO.out.2⟩
end Go.Proofs.YtkppeejbmalefaaGreatDoor

end
section
namespace Go.Proofs.YtkppeejbmalefaaGreatDoor
open Go.RowKit Go.Shelf
theorem txt_snoc (q : List UInt8) (c : UInt8) : txt (q ++ [c]) = if c = 10 then cr q else q ++ [c] := by
  unfold txt
  simp
theorem cr_snoc (q : List UInt8) (c : UInt8) : cr (q ++ [c]) = if c = 13 then q else q ++ [c] := by
  unfold cr
  simp
theorem at_snoc (q : List UInt8) (c : UInt8) (r : List UInt8) (h : q.length < (⟨(q ++ c :: r).toArray⟩ : ByteArray).size) : (⟨(q ++ c :: r).toArray⟩ : ByteArray)[q.length]'h = c := by
  show (q ++ c :: r)[q.length]'(by simp) = c
  rw [List.getElem_append_right (Nat.le_refl _)]
  simp
theorem not_byte {x : UInt8} {n : Nat} (hn : n < 256) (h : x ≠ n.toUInt8) : ¬ ((x.toNat : Int) = n) := by
  intro e
  apply h
  apply UInt8.toNat_inj.1
  have : x.toNat = n := by omega
  rw [this]
  simp
  omega
set_option maxRecDepth 20000 in
set_option maxHeartbeats 1000000 in
theorem rtext_any (l : List UInt8) (w : World) (hl : l.length ≤ 1000000) : Calls Tryz.prog 39 #[.string ⟨l.toArray⟩] w fun e w' => e = .returned (.string ⟨(txt l).toArray⟩) ∧ w' = w := by
  rcases List.eq_nil_or_concat l with rfl | ⟨q, c, rfl⟩
  · go_enter Tryz.func39, Tryz.ntmps39
    go_wp2
    go_ret
    exact ⟨rfl, rfl⟩
  · rw [List.concat_eq_append] at hl ⊢
    have hat := at_snoc q c []
    have hsz := size_lit (q ++ [c])
    have hln : (q ++ [c]).length = q.length + 1 := by simp
    by_cases hc : c = 10
    · subst hc
      rw [txt_snoc, if_pos rfl]
      rcases List.eq_nil_or_concat q with rfl | ⟨r, d, rfl⟩
      · go_enter Tryz.func39, Tryz.ntmps39
        go_wp2
        go_ret
        exact ⟨rfl, rfl⟩
      · rw [List.concat_eq_append] at *
        rw [cr_snoc]
        have hat2 := at_snoc r d [10]
        have e0 : r ++ [d] ++ [10] = r ++ d :: [10] := by simp
        have hq : (r ++ [d]).length = r.length + 1 := by simp
        rw [hq] at hat
        rw [e0] at hat hsz hln ⊢
        rw [hln, hq] at hsz
        have hl2 : r.length + 1 + 1 ≤ 1000000 := by rw [e0, hln, hq] at hl; exact hl
        have eT : (⟨(r ++ d :: [10]).toArray⟩ : ByteArray).extract 0 (r.length + 1) = ⟨(r ++ [d]).toArray⟩ := by
          rw [ext_take, ← e0, ← hq, List.take_left' rfl]
        have eR : (⟨(r ++ d :: [10]).toArray⟩ : ByteArray).extract 0 r.length = ⟨r.toArray⟩ := by
          rw [ext_take, List.take_left' rfl]
        obtain ⟨L, hL⟩ : ∃ L, r ++ d :: [10] = L := ⟨_, rfl⟩
        rw [hL] at hat hat2 hsz eT eR ⊢
        obtain ⟨R, hR⟩ : ∃ R, r ++ [d] = R := ⟨_, rfl⟩
        rw [hR] at eT ⊢
        obtain ⟨n, hn⟩ : ∃ n, r.length = n := ⟨_, rfl⟩
        rw [hn] at hat hat2 hsz eT eR hl2
        have hi1 : ((n : Int) + 1 + 1 - 1) = n + 1 := by omega
        have hi2 : ((n : Int) + 1 - 1) = n := by omega
        clear hL hn e0 hq hln hl hR
        by_cases hd : d = 13
        · subst hd
          rw [if_pos rfl]
          go_enter Tryz.func39, Tryz.ntmps39
          go_wp2
          go_ret
          exact ⟨rfl, rfl⟩
        · rw [if_neg hd]
          have hd' := not_byte (n := 13) (by decide) hd
          go_enter Tryz.func39, Tryz.ntmps39
          go_wp2
          go_ret
          exact ⟨rfl, rfl⟩
    · rw [txt_snoc, if_neg hc]
      have hc' := not_byte (n := 10) (by decide) hc
      rw [hln] at hsz
      have eT : (⟨(q ++ [c]).toArray⟩ : ByteArray).extract 0 (q.length + 1) = ⟨(q ++ [c]).toArray⟩ := by
        rw [ext_take, ← hln, List.take_length]
      have hl2 : q.length + 1 ≤ 1000000 := by rw [hln] at hl; exact hl
      obtain ⟨L, hL⟩ : ∃ L, q ++ [c] = L := ⟨_, rfl⟩
      rw [hL] at hat hsz eT ⊢
      obtain ⟨n, hn⟩ : ∃ n, q.length = n := ⟨_, rfl⟩
      rw [hn] at hat hsz eT hl2
      have hi2 : ((n : Int) + 1 - 1) = n := by omega
      clear hL hn hln hl
      go_enter Tryz.func39, Tryz.ntmps39
      go_wp2
      go_ret
      exact ⟨rfl, rfl⟩
/-- A blank. -/
def bkB (c : UInt8) : Bool := c == 32 || c == 9
theorem rblank_any (c : UInt8) (w : World) : Calls Tryz.prog 41 #[.int .u8 (c.toNat : Nat)] w fun e w' => e = .returned (.bool (bkB c)) ∧ w' = w := by
  by_cases h1 : c = 32
  · subst h1
    go_enter Tryz.func41, Tryz.ntmps41
    go_wp2
    go_ret
    exact ⟨rfl, rfl⟩
  · have h1' := not_byte (n := 32) (by decide) h1
    by_cases h2 : c = 9
    · subst h2
      go_enter Tryz.func41, Tryz.ntmps41
      go_wp2
      go_ret
      exact ⟨rfl, rfl⟩
    · have h2' := not_byte (n := 9) (by decide) h2
      have HV : Hid (bkB c = false) := by
        show _ = _
        simp [bkB, h1, h2]
      have k1 : ((c.toNat : Int) == 32) = false := beq_eq_false_iff_ne.2 h1'
      have k2 : ((c.toNat : Int) == 9) = false := beq_eq_false_iff_ne.2 h2'
      clear h1' h2' h1 h2
      go_enter Tryz.func41, Tryz.ntmps41
      go_wp2
      go_ret
      exact ⟨by rw [HV.out]; rfl, rfl⟩
/-- Where a field's name ends. -/
def colN (t : List UInt8) : Int := match nameO t with
  | some p => (p.length : Nat)
  | none => -1
theorem nameO_none_of {t : List UInt8} (h : ∀ p q, t = p ++ 58 :: q → (58 : UInt8) ∉ p → p ≠ [] → p.all nbB = true → False) : nameO t = none := by
  cases hn : nameO t with
  | none => rfl
  | some p =>
    obtain ⟨q, h1, h2, h3, h4⟩ := nameO_some hn
    exact (h p q h1 h2 h3 h4).elim
theorem colN_none {t : List UInt8} (h : nameO t = none) : colN t = -1 := by
  unfold colN
  rw [h]
theorem colN_some {t p : List UInt8} (h : nameO t = some p) : colN t = (p.length : Nat) := by
  unfold colN
  rw [h]
theorem take_ne {t : List UInt8} {j : Nat} (hlt : j < t.length) (h0 : ¬ j = 0) : t.take j ≠ [] := by
  intro h
  have h8 : (t.take j).length = 0 := by
    rw [h]
    rfl
  rw [List.length_take] at h8
  omega
def ncB (c : UInt8) : Bool := nbB c && c != 58
theorem ncB_at {t : List UInt8} {i j : Nat} (h : (t.take i).all ncB = true) (hj : j < i) (hjt : j < t.length) : ncB t[j] = true := by
  rw [List.all_eq_true] at h
  have hk : j < (t.take i).length := by rw [List.length_take]; omega
  have := h ((t.take i)[j]'hk) (List.getElem_mem hk)
  rwa [List.getElem_take] at this
theorem take_ncB_next {p : List UInt8} {k : Nat} (hk : k < p.length) (h : (p.take k).all ncB = true) (hc : ncB p[k] = true) : (p.take (k + 1)).all ncB = true := by
  rw [List.take_succ_eq_append_getElem hk, List.all_append, h]
  simp [hc]
set_option maxRecDepth 20000 in
set_option maxHeartbeats 1000000 in
theorem rcolon_any (t : List UInt8) (w : World) (hl : t.length ≤ 1000000) : Calls Tryz.prog 40 #[.string ⟨t.toArray⟩] w fun e w' => e = .returned (.int .i64 (colN t)) ∧ w' = w := by
  have hsz := size_lit t
  go_enter Tryz.func40, Tryz.ntmps40
  go_wp2
  go_loopw [3] (fun v wr => wr = w ∧ ∃ j : Nat, v = .int .i64 j ∧ j ≤ t.length ∧ Hid ((t.take j).all ncB = true)) (fun v _ => t.length - (intOf v).toNat)
  case atStart => exact ⟨rfl, 0, rfl, Nat.zero_le _, by simp [Hid]⟩
  case round =>
    obtain ⟨rfl, j, rfl, hj, HA⟩ := hrel
    by_cases hlt : j < t.length
    · obtain ⟨c, hc, hat⟩ : ∃ c, t[j] = c ∧ ∀ h : j < (⟨t.toArray⟩ : ByteArray).size, (⟨t.toArray⟩ : ByteArray)[j]'h = c := ⟨_, rfl, fun _ => rfl⟩
      have hlt' : (j : Int) < t.length := by omega
      by_cases h58 : c = 58
      · subst h58
        by_cases h0 : j = 0
        · subst h0
          have HV : Hid (colN t = -1) := by
            refine colN_none (nameO_none_of fun p q e h1 h2 _ => ?_)
            cases p with
            | nil => exact h2 rfl
            | cons x p =>
              subst e
              simp at hc
              exact h1 (by simp [hc])
          clear hc
          go_wp2
          go_ret
          exact ⟨by rw [HV.out]; rfl, rfl⟩
        · have HV : Hid (colN t = (j : Int)) := by
            show _ = _
            have e : t = t.take j ++ 58 :: t.drop (j + 1) := by
              conv => lhs; rw [← List.take_append_drop j t, List.drop_eq_getElem_cons hlt, hc]
            have hn : nameO t = some (t.take j) := by
              have h9 := HA.out
              rw [List.all_eq_true] at h9
              rw [e]
              have h58 : (58 : UInt8) ∉ t.take j := fun hm => by
                have := h9 _ hm
                simp [ncB] at this
              have := nameO_of (q := t.drop (j + 1)) h58 (take_ne hlt h0) (by
                rw [List.all_eq_true]
                intro x hx
                have := h9 x hx
                simp only [ncB, Bool.and_eq_true] at this
                exact this.1)
              rw [this, ← e]
            rw [colN_some hn, List.length_take]
            omega
          have h0' : ¬ ((j : Int) = 0) := by omega
          clear hc
          go_wp2
          go_ret
          exact ⟨by rw [HV.out]; rfl, rfl⟩
      · have h58' := not_byte (n := 58) (by decide) h58
        cases hb : nbB c with
        | true =>
          have HA2 := hide (take_ncB_next hlt HA.out (by rw [hc]; simp [ncB, hb, h58]))
          obtain ⟨g1, g2⟩ := nbB_lo hb
          have g1' : ¬ ((c.toNat : Int) < 33) := by omega
          have g2' : ¬ ((c.toNat : Int) > 126) := by omega
          clear hc hb
          go_wp2
          go_roundw
          case rel => exact ⟨trivial, j + 1, by go_num, by omega, HA2⟩
          case measure => simp [intOf]; omega
        | false =>
          have HV : Hid (colN t = -1) := by
            refine colN_none (nameO_none_of fun p q e h1 _ h3 => ?_)
            by_cases hjp : j < p.length
            · have h4 : p[j] = c := by
                subst e
                rw [← hc, List.getElem_append_left hjp]
              rw [List.all_eq_true] at h3
              have := h3 _ (List.getElem_mem hjp)
              rw [h4, hb] at this
              cases this
            · by_cases he : j = p.length
              · subst e
                subst he
                rw [List.getElem_append_right (Nat.le_refl _)] at hc
                simp at hc
                exact h58 hc.symm
              · have hpt : p.length < t.length := by omega
                have := ncB_at HA.out (j := p.length) (by omega) hpt
                have h5 : t[p.length] = 58 := by
                  subst e
                  rw [List.getElem_append_right (Nat.le_refl _)]
                  simp
                rw [h5] at this
                cases this
          rcases nbB_hi hb with g | g
          · have g1' : (c.toNat : Int) < 33 := by omega
            clear hc hb
            go_wp2
            go_ret
            exact ⟨by rw [HV.out]; rfl, rfl⟩
          · have g0' : ¬ ((c.toNat : Int) < 33) := by omega
            have g1' : (c.toNat : Int) > 126 := by omega
            clear hc hb
            go_wp2
            go_ret
            exact ⟨by rw [HV.out]; rfl, rfl⟩
    · obtain rfl : j = t.length := by omega
      have HV : Hid (colN t = -1) := by
        refine colN_none (nameO_none_of fun p q e _ _ _ => ?_)
        have h9 := HA.out
        rw [List.take_length, List.all_eq_true] at h9
        have := h9 58 (by rw [e]; simp)
        cases this
      go_wp2
      go_ret
      exact ⟨by rw [HV.out]; rfl, rfl⟩
theorem right_cons (c : UInt8) (l : List UInt8) : Lib.trimRightS (c :: l) [32, 9] = if Lib.trimRightS l [32, 9] = [] then (if bkB c then [] else [c]) else c :: Lib.trimRightS l [32, 9] := by
  unfold Lib.trimRightS
  rw [List.reverse_cons, List.dropWhile_append]
  have hp : ∀ x : UInt8, ([32, 9] : List UInt8).contains x = bkB x := fun x => by
    unfold bkB
    rw [Bool.eq_iff_iff]
    simp
  by_cases h : (l.reverse.dropWhile fun x => ([32, 9] : List UInt8).contains x) = []
  · rw [h]
    simp only [List.isEmpty_nil, if_true, List.reverse_nil]
    rw [List.dropWhile_cons, hp]
    split <;> simp
  · have h2 : (l.reverse.dropWhile fun x => ([32, 9] : List UInt8).contains x).isEmpty = false := by simpa using h
    rw [if_neg (by rw [h2]; simp), if_neg (by simpa using h)]
    simp
theorem left_cons (c : UInt8) (l : List UInt8) : Lib.trimLeftS (c :: l) [32, 9] = if bkB c then Lib.trimLeftS l [32, 9] else c :: l := by
  unfold Lib.trimLeftS
  have hp : ([32, 9] : List UInt8).contains c = bkB c := by
    unfold bkB
    rw [Bool.eq_iff_iff]
    simp
  rw [List.dropWhile_cons, hp]
theorem trim_swap : ∀ (l : List UInt8), Lib.trimRightS (Lib.trimLeftS l [32, 9]) [32, 9] = Lib.trimS l [32, 9]
  | [] => rfl
  | c :: l => by
    have ih := trim_swap l
    unfold Lib.trimS at *
    rw [left_cons]
    by_cases hc : bkB c = true
    · rw [if_pos hc, ih, right_cons, if_pos hc]
      by_cases h : Lib.trimRightS l [32, 9] = []
      · rw [if_pos h, h]
      · rw [if_neg h, left_cons, if_pos hc]
    · rw [if_neg hc, right_cons, if_neg hc]
      by_cases h : Lib.trimRightS l [32, 9] = []
      · rw [if_pos h, left_cons, if_neg hc]
      · rw [if_neg h, left_cons, if_neg hc]
theorem right_snoc (q : List UInt8) (c : UInt8) : Lib.trimRightS (q ++ [c]) [32, 9] = if bkB c then Lib.trimRightS q [32, 9] else q ++ [c] := by
  unfold Lib.trimRightS
  have hp : ([32, 9] : List UInt8).contains c = bkB c := by
    unfold bkB
    rw [Bool.eq_iff_iff]
    simp
  rw [List.reverse_append, List.reverse_singleton, List.singleton_append, List.dropWhile_cons, hp]
  split <;> simp
set_option maxRecDepth 20000 in
set_option maxHeartbeats 1000000 in
theorem rtrim_any (s : List UInt8) (w : World) (hl0 : s.length ≤ 1000000) : Calls Tryz.prog 42 #[.string ⟨s.toArray⟩] w fun e w' => e = .returned (.string ⟨(Lib.trimS s [32, 9]).toArray⟩) ∧ w' = w := by
  go_enter Tryz.func42, Tryz.ntmps42
  go_wp2
  go_loopw [0] (fun v wr => wr = w ∧ ∃ t : List UInt8, v = .string ⟨t.toArray⟩ ∧ t.length ≤ 1000000 ∧ Hid (Lib.trimLeftS t [32, 9] = Lib.trimLeftS s [32, 9])) (fun v _ => Lib.strSize v)
  case atStart => exact ⟨rfl, s, rfl, hl0, rfl⟩
  case round =>
    obtain ⟨rfl, t, rfl, hl, HT⟩ := hrel
    cases t with
    | nil =>
      have HR : Hid (Lib.trimRightS [] [32, 9] = Lib.trimS s [32, 9]) := by
        show _ = _
        rw [← trim_swap s, ← HT.out]
        rfl
      clear HT
      go_wp2
      go_loopw [0] (fun v wq => wq = wr ∧ ∃ u : List UInt8, v = .string ⟨u.toArray⟩ ∧ u.length ≤ 1000000 ∧ Hid (Lib.trimRightS u [32, 9] = Lib.trimS s [32, 9])) (fun v _ => Lib.strSize v)
      case atStart => exact ⟨rfl, [], rfl, by simp, HR.out⟩
      case round =>
        clear HR
        obtain ⟨rfl, u, rfl, hul, HU⟩ := hrel
        rcases List.eq_nil_or_concat u with rfl | ⟨q, c, hq⟩
        · have HV : Hid (Lib.trimS s [32, 9] = []) := by
            show _ = _
            rw [← HU.out]
            rfl
          go_wp2
          go_ret
          exact ⟨by rw [HV.out]; rfl, rfl⟩
        · rw [List.concat_eq_append] at hq
          have hat : ∀ h, (⟨u.toArray⟩ : ByteArray)[q.length]'h = c := by
            subst hq
            exact at_snoc q c []
          have hsz := size_lit u
          have hln : u.length = q.length + 1 := by rw [hq]; simp
          have eT : (⟨u.toArray⟩ : ByteArray).extract 0 q.length = ⟨q.toArray⟩ := by rw [ext_take, hq, List.take_left' rfl]
          have HB := hide (rblank_any c)
          have HU2 : Hid (Lib.trimS s [32, 9] = if bkB c then Lib.trimRightS q [32, 9] else u) := by
            show _ = _
            rw [← HU.out, hq, right_snoc]
          rw [hln] at hsz hul
          have hzq : Lib.strSize (.string ⟨q.toArray⟩) < Lib.strSize (.string ⟨u.toArray⟩) := by
            show (⟨q.toArray⟩ : ByteArray).size < (⟨u.toArray⟩ : ByteArray).size
            rw [size_lit, size_lit, hln]
            omega
          have HZ := hide hzq
          obtain ⟨n, hn⟩ : ∃ n, q.length = n := ⟨_, rfl⟩
          have HQ := hide hn
          rw [hn] at hat hsz eT hul
          have hi2 : ((n : Int) + 1 - 1) = n := by omega
          clear hq hln hn HU hzq
          cases hb : bkB c with
          | true =>
            rw [hb] at HB HU2
            clear hb
            go_wp2_with (first
              | (go_at_call 41; refine (HB.out _).mono ?_; rintro e w2 ⟨rfl, rfl⟩))
            go_roundw
            case rel => exact ⟨trivial, q, rfl, by have := HQ.out; omega, HU2.out.symm⟩
            case measure => exact HZ.out
          | false =>
            rw [hb] at HB HU2
            have HV : Hid (Lib.trimS s [32, 9] = u) := HU2.out
            clear hb HU2
            go_wp2_with (first
              | (go_at_call 41; refine (HB.out _).mono ?_; rintro e w2 ⟨rfl, rfl⟩))
            go_ret
            exact ⟨by rw [HV.out]; rfl, rfl⟩
    | cons c r =>
      have hat : ∀ h, (⟨(c :: r).toArray⟩ : ByteArray)[0]'h = c := fun _ => rfl
      have hsz := size_lit (c :: r)
      have hln : (c :: r).length = r.length + 1 := rfl
      have eD := ext_drop (c :: r) 1
      rw [show (c :: r).drop 1 = r from rfl] at eD
      have HB := hide (rblank_any c)
      have HT2 : Hid (Lib.trimLeftS s [32, 9] = if bkB c then Lib.trimLeftS r [32, 9] else c :: r) := by
        show _ = _
        rw [← HT.out, left_cons]
      have hzq : Lib.strSize (.string ⟨r.toArray⟩) < Lib.strSize (.string ⟨(c :: r).toArray⟩) := by
        show (⟨r.toArray⟩ : ByteArray).size < (⟨(c :: r).toArray⟩ : ByteArray).size
        rw [size_lit, size_lit, hln]
        omega
      have HZ := hide hzq
      have hlr : r.length ≤ 1000000 := by omega
      have HLR := hide hlr
      have hpos : 0 < (c :: r).length := by simp
      generalize c :: r = t at *
      clear hln HT hzq hlr
      cases hb : bkB c with
      | true =>
        rw [hb] at HB HT2
        clear hb
        go_wp2_with (first
          | (go_at_call 41; refine (HB.out _).mono ?_; rintro e w2 ⟨rfl, rfl⟩))
        go_roundw
        case rel => exact ⟨trivial, r, rfl, HLR.out, HT2.out.symm⟩
        case measure => exact HZ.out
      | false =>
        rw [hb] at HB HT2
        have HR : Hid (Lib.trimRightS t [32, 9] = Lib.trimS s [32, 9]) := by
          show _ = _
          rw [← trim_swap s, HT2.out]
          rfl
        clear hb HT2
        go_wp2_with (first
          | (go_at_call 41; refine (HB.out _).mono ?_; rintro e w2 ⟨rfl, rfl⟩))
        clear hat hsz eD HB HZ HLR hpos
        go_loopw [0] (fun v wq => wq = w2 ∧ ∃ u : List UInt8, v = .string ⟨u.toArray⟩ ∧ u.length ≤ 1000000 ∧ Hid (Lib.trimRightS u [32, 9] = Lib.trimS s [32, 9])) (fun v _ => Lib.strSize v)
        case atStart => exact ⟨rfl, t, rfl, hl, HR.out⟩
        case round =>
          clear HR
          obtain ⟨rfl, u, rfl, hul, HU⟩ := hrel
          rcases List.eq_nil_or_concat u with rfl | ⟨q, c, hq⟩
          · have HV : Hid (Lib.trimS s [32, 9] = []) := by
              show _ = _
              rw [← HU.out]
              rfl
            go_wp2
            go_ret
            exact ⟨by rw [HV.out]; rfl, rfl⟩
          · rw [List.concat_eq_append] at hq
            have hat : ∀ h, (⟨u.toArray⟩ : ByteArray)[q.length]'h = c := by
              subst hq
              exact at_snoc q c []
            have hsz := size_lit u
            have hln : u.length = q.length + 1 := by rw [hq]; simp
            have eT : (⟨u.toArray⟩ : ByteArray).extract 0 q.length = ⟨q.toArray⟩ := by rw [ext_take, hq, List.take_left' rfl]
            have HB := hide (rblank_any c)
            have HU2 : Hid (Lib.trimS s [32, 9] = if bkB c then Lib.trimRightS q [32, 9] else u) := by
              show _ = _
              rw [← HU.out, hq, right_snoc]
            rw [hln] at hsz hul
            have hzq : Lib.strSize (.string ⟨q.toArray⟩) < Lib.strSize (.string ⟨u.toArray⟩) := by
              show (⟨q.toArray⟩ : ByteArray).size < (⟨u.toArray⟩ : ByteArray).size
              rw [size_lit, size_lit, hln]
              omega
            have HZ := hide hzq
            obtain ⟨n, hn⟩ : ∃ n, q.length = n := ⟨_, rfl⟩
            have HQ := hide hn
            rw [hn] at hat hsz eT hul
            have hi2 : ((n : Int) + 1 - 1) = n := by omega
            clear hq hln hn HU hzq
            cases hb : bkB c with
            | true =>
              rw [hb] at HB HU2
              clear hb
              go_wp2_with (first
                | (go_at_call 41; refine (HB.out _).mono ?_; rintro e w2 ⟨rfl, rfl⟩))
              go_roundw
              case rel => exact ⟨trivial, q, rfl, by have := HQ.out; omega, HU2.out.symm⟩
              case measure => exact HZ.out
            | false =>
              rw [hb] at HB HU2
              have HV : Hid (Lib.trimS s [32, 9] = u) := HU2.out
              clear hb HU2
              go_wp2_with (first
                | (go_at_call 41; refine (HB.out _).mono ?_; rintro e w2 ⟨rfl, rfl⟩))
              go_ret
              exact ⟨by rw [HV.out]; rfl, rfl⟩
end Go.Proofs.YtkppeejbmalefaaGreatDoor

end
