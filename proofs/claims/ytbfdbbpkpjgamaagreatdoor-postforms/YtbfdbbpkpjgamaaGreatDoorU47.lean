/- The law PostForms, walked. -/
import Derived.Test.YtbfdbbpkpjgamaaGreatDoorU40
import Derived.Test.YtbfdbbpkpjgamaaGreatDoorU41
import Derived.Test.YtbfdbbpkpjgamaaGreatDoorU42
import Derived.Test.YtbfdbbpkpjgamaaGreatDoorU46
import Derived.Deep.RegionWith
set_option linter.unusedVariables false
set_option linter.unusedSimpArgs false
namespace Go.Proofs.YtbfdbbpkpjgamaaGreatDoor
open Go.RowKit Go.Shelf
theorem fiV_P (o : Option Nat) : fiV o = fiP o := by cases o <;> rfl
theorem eqL_refl {α : Type} (p : α → α → Bool) (hp : ∀ a, p a a = true) : ∀ xs : List α, eqL p xs xs = true
  | [] => rfl
  | x :: r => by
    unfold eqL
    rw [hp, eqL_refl p hp r]
    rfl
theorem stt_refl (s : Stt) : sttEq s s = true := by
  have h1 : ∀ m, msgEq m m = true := fun m => by simp [msgEq]
  have h2 : ∀ b, bxEq b b = true := fun b => by simp [bxEq, eqL_refl msgEq h1]
  have h3 : ∀ b, sbEq b b = true := fun b => by simp [sbEq]
  have h4 : ∀ i, inEq i i = true := fun i => by simp [inEq]
  have h5 : ∀ q, itEq q q = true := fun q => by simp [itEq, eqL_refl inEq h4]
  simp [sttEq, eqL_refl bxEq h2, eqL_refl sbEq h3, eqL_refl itEq h5]
set_option maxRecDepth 20000 in
set_option maxHeartbeats 16000000 in
theorem postForms_walk {W : World} {ea : Nat → Addr} (hE : Errs W ea) {A1 A2 A3 B1 B2 B3 : Option Addr} {c1 c2 c3 d1 d2 d3 : Nat} {s t : Stt} (u : Int) (n : List UInt8) (hs : StR W (.agg #[.slice A1 s.boxes.length c1, .slice A2 s.subs.length c2, .slice A3 s.queue.length c3, .int .i64 s.nextValid, .int .i64 s.nextItem]) s) (ht : StR W (.agg #[.slice B1 t.boxes.length d1, .slice B2 t.subs.length d2, .slice B3 t.queue.length d3, .int .i64 t.nextValid, .int .i64 t.nextItem]) t) (zs : SzS s) (zt : SzS t) (hc : s.boxes.length ≤ c1) :
    Calls Tryz.prog 3 #[.agg #[.slice A1 s.boxes.length c1, .slice A2 s.subs.length c2, .slice A3 s.queue.length c3, .int .i64 s.nextValid, .int .i64 s.nextItem, .slice B1 t.boxes.length d1, .slice B2 t.subs.length d2, .slice B3 t.queue.length d3, .int .i64 t.nextValid, .int .i64 t.nextItem, .int .i64 u, .string ⟨n.toArray⟩]] W fun e w' => e = .returned (.bool true) ∧ Below W.heap.size W w' := by
  have HEr := hide hE
  have HS := hide hs
  have HT := hide ht
  have hsz := size_lit n
  have HZs := hide zs
  have HZt := hide zt
  clear hE hs ht zs zt
  have HB0' := hide ((Below.refl W.heap.size W).alloc (Nat.le_refl _) (.cells #[.slice A1 s.boxes.length c1, .slice A2 s.subs.length c2, .slice A3 s.queue.length c3, .int .i64 s.nextValid, .int .i64 s.nextItem, .slice B1 t.boxes.length d1, .slice B2 t.subs.length d2, .slice B3 t.queue.length d3, .int .i64 t.nextValid, .int .i64 t.nextItem, .int .i64 u, .string ⟨n.toArray⟩] 28))
  have HF0 := hide (Blk.new W #[.slice A1 s.boxes.length c1, .slice A2 s.subs.length c2, .slice A3 s.queue.length c3, .int .i64 s.nextValid, .int .i64 s.nextItem, .slice B1 t.boxes.length d1, .slice B2 t.subs.length d2, .slice B3 t.queue.length d3, .int .i64 t.nextValid, .int .i64 t.nextItem, .int .i64 u, .string ⟨n.toArray⟩] 28)
  go_enter Tryz.func3, Tryz.ntmps3
  go_upto_region 1 with fail
  obtain ⟨W0, hW0⟩ : ∃ W0, Hid (W.alloc (.cells #[.slice A1 s.boxes.length c1, .slice A2 s.subs.length c2, .slice A3 s.queue.length c3, .int .i64 s.nextValid, .int .i64 s.nextItem, .slice B1 t.boxes.length d1, .slice B2 t.subs.length d2, .slice B3 t.queue.length d3, .int .i64 t.nextValid, .int .i64 t.nextItem, .int .i64 u, .string ⟨n.toArray⟩] 28) = W0) := ⟨_, hide rfl⟩
  rw [hW0.out] at HB0' HF0 ⊢
  clear hW0
  go_cut [3, 4, 5, 6] from 11 (fun v3 v4 v5 v6 wq => ∃ b3 b4 : Nat, v3 = .pointer (some ⟨b3, 0, none⟩) ∧ v4 = .pointer (some ⟨b4, 0, none⟩) ∧ v5 = .int .i64 u ∧ v6 = .string ⟨n.toArray⟩ ∧ Hid (Below W.heap.size W wq) ∧ Hid (Blk wq b3 #[.slice A1 s.boxes.length c1, .slice A2 s.subs.length c2, .slice A3 s.queue.length c3, .int .i64 s.nextValid, .int .i64 s.nextItem] 26) ∧ Hid (Blk wq b4 #[.slice B1 t.boxes.length d1, .slice B2 t.subs.length d2, .slice B3 t.queue.length d3, .int .i64 t.nextValid, .int .i64 t.nextItem] 26))
  case first =>
    have hX0 : W.heap.size < W0.heap.size := HF0.out.lt
    have HB0 := HB0'.out
    refine regionL 13 (fun W' => Blk W' W.heap.size #[.slice A1 s.boxes.length c1, .slice A2 s.subs.length c2, .slice A3 s.queue.length c3, .int .i64 s.nextValid, .int .i64 s.nextItem, .slice B1 t.boxes.length d1, .slice B2 t.subs.length d2, .slice B3 t.queue.length d3, .int .i64 t.nextValid, .int .i64 t.nextItem, .int .i64 u, .string ⟨n.toArray⟩] 28) (by kernel_rfl) ?_
    have HT0 : Blk W0.drew W.heap.size #[.slice A1 s.boxes.length c1, .slice A2 s.subs.length c2, .slice A3 s.queue.length c3, .int .i64 s.nextValid, .int .i64 s.nextItem, .slice B1 t.boxes.length d1, .slice B2 t.subs.length d2, .slice B3 t.queue.length d3, .int .i64 t.nextValid, .int .i64 t.nextItem, .int .i64 u, .string ⟨n.toArray⟩] 28 := HF0.out
    refine takeW (i := 0) (v := .pointer (some ⟨W.heap.size, 0, none⟩)) rfl (by kernel_rfl) (by kernel_rfl) (by kernel_rfl) rfl (fun _ _ _ h => h) (fun _ => HT0) (Or.inl ⟨by rfl, fun W _ => by go_simp⟩) ?_
    try simp only [Act.put, List.getElem_toArray, List.getElem_cons_succ, List.getElem_cons_zero, List.setIfInBounds_toArray, List.set_cons_zero, List.set_cons_succ]
    refine takeL (i := 1) (v := .agg #[.slice A1 s.boxes.length c1, .slice A2 s.subs.length c2, .slice A3 s.queue.length c3, .int .i64 s.nextValid, .int .i64 s.nextItem]) rfl (by kernel_rfl) (by kernel_rfl) (by kernel_rfl) (by kernel_rfl) (by kernel_rfl) (fun _ _ _ h => h) HT0 (Or.inl ⟨by rfl, fun W hW => by have t0 := hW.cell 0; have t1 := hW.cell 1; have t2 := hW.cell 2; have t3 := hW.cell 3; have t4 := hW.cell 4; go_simp⟩) ?_
    try simp only [Act.put, List.getElem_toArray, List.getElem_cons_succ, List.getElem_cons_zero, List.setIfInBounds_toArray, List.set_cons_zero, List.set_cons_succ]
    refine takeW (i := 2) (v := .pointer (some ⟨W.heap.size, 5, none⟩)) rfl (by kernel_rfl) (by kernel_rfl) (by kernel_rfl) rfl (fun _ _ _ h => h) (fun _ => HT0) (Or.inl ⟨by rfl, fun W _ => by go_simp⟩) ?_
    try simp only [Act.put, List.getElem_toArray, List.getElem_cons_succ, List.getElem_cons_zero, List.setIfInBounds_toArray, List.set_cons_zero, List.set_cons_succ]
    refine takeL (i := 3) (v := .agg #[.slice B1 t.boxes.length d1, .slice B2 t.subs.length d2, .slice B3 t.queue.length d3, .int .i64 t.nextValid, .int .i64 t.nextItem]) rfl (by kernel_rfl) (by kernel_rfl) (by kernel_rfl) (by kernel_rfl) (by kernel_rfl) (fun _ _ _ h => h) HT0 (Or.inl ⟨by rfl, fun W hW => by have t5 := hW.cell 5; have t6 := hW.cell 6; have t7 := hW.cell 7; have t8 := hW.cell 8; have t9 := hW.cell 9; go_simp⟩) ?_
    try simp only [Act.put, List.getElem_toArray, List.getElem_cons_succ, List.getElem_cons_zero, List.setIfInBounds_toArray, List.set_cons_zero, List.set_cons_succ]
    refine takeW (i := 4) (v := .pointer (some ⟨W.heap.size, 10, none⟩)) rfl (by kernel_rfl) (by kernel_rfl) (by kernel_rfl) rfl (fun _ _ _ h => h) (fun _ => HT0) (Or.inl ⟨by rfl, fun W _ => by go_simp⟩) ?_
    try simp only [Act.put, List.getElem_toArray, List.getElem_cons_succ, List.getElem_cons_zero, List.setIfInBounds_toArray, List.set_cons_zero, List.set_cons_succ]
    refine takeL (i := 5) (v := .int .i64 u) rfl (by kernel_rfl) (by kernel_rfl) (by kernel_rfl) (by kernel_rfl) (by kernel_rfl) (fun _ _ _ h => h) HT0 (Or.inl ⟨by rfl, fun W hW => by have t10 := hW.cell 10; go_simp⟩) ?_
    try simp only [Act.put, List.getElem_toArray, List.getElem_cons_succ, List.getElem_cons_zero, List.setIfInBounds_toArray, List.set_cons_zero, List.set_cons_succ]
    refine takeW (i := 6) (v := .pointer (some ⟨W.heap.size, 11, none⟩)) rfl (by kernel_rfl) (by kernel_rfl) (by kernel_rfl) rfl (fun _ _ _ h => h) (fun _ => HT0) (Or.inl ⟨by rfl, fun W _ => by go_simp⟩) ?_
    try simp only [Act.put, List.getElem_toArray, List.getElem_cons_succ, List.getElem_cons_zero, List.setIfInBounds_toArray, List.set_cons_zero, List.set_cons_succ]
    refine takeL (i := 7) (v := .string ⟨n.toArray⟩) rfl (by kernel_rfl) (by kernel_rfl) (by kernel_rfl) (by kernel_rfl) (by kernel_rfl) (fun _ _ _ h => h) HT0 (Or.inl ⟨by rfl, fun W hW => by have t11 := hW.cell 11; go_simp⟩) ?_
    try simp only [Act.put, List.getElem_toArray, List.getElem_cons_succ, List.getElem_cons_zero, List.setIfInBounds_toArray, List.set_cons_zero, List.set_cons_succ]
    refine readyL (rs := [8, 9]) (by kernel_rfl) (by simp) ?_
    refine AllL.cons rfl (fun K hK => ?_) (AllL.cons rfl (fun K hK => ?_) AllL.nil)
    · skip
      try simp only [List.getElem_toArray, List.getElem_cons_succ, List.getElem_cons_zero]
      go_simp
      have HT1 : Blk (W0.alloc (.cells #[.slice none 0 0, .slice none 0 0, .slice none 0 0, .int .i64 0, .int .i64 0] 26)).drew W.heap.size #[.slice A1 s.boxes.length c1, .slice A2 s.subs.length c2, .slice A3 s.queue.length c3, .int .i64 s.nextValid, .int .i64 s.nextItem, .slice B1 t.boxes.length d1, .slice B2 t.subs.length d2, .slice B3 t.queue.length d3, .int .i64 t.nextValid, .int .i64 t.nextItem, .int .i64 u, .string ⟨n.toArray⟩] 28 := HT0.alloc _
      refine hK.out _ _ (fun _ => HT1) (fun _ => ?_)
      clear hK K
      try simp only [Act.put, List.getElem_toArray, List.getElem_cons_succ, List.getElem_cons_zero, List.setIfInBounds_toArray, List.set_cons_zero, List.set_cons_succ]
      refine readyL (rs := [9]) (by kernel_rfl) (by simp) ?_
      refine AllL.cons rfl (fun K hK => ?_) AllL.nil
      try simp only [List.getElem_toArray, List.getElem_cons_succ, List.getElem_cons_zero]
      go_simp
      have HT2 : Blk ((W0.alloc (.cells #[.slice none 0 0, .slice none 0 0, .slice none 0 0, .int .i64 0, .int .i64 0] 26)).alloc (.cells #[.slice none 0 0, .slice none 0 0, .slice none 0 0, .int .i64 0, .int .i64 0] 26)).drew W.heap.size #[.slice A1 s.boxes.length c1, .slice A2 s.subs.length c2, .slice A3 s.queue.length c3, .int .i64 s.nextValid, .int .i64 s.nextItem, .slice B1 t.boxes.length d1, .slice B2 t.subs.length d2, .slice B3 t.queue.length d3, .int .i64 t.nextValid, .int .i64 t.nextItem, .int .i64 u, .string ⟨n.toArray⟩] 28 := HT1.alloc _
      refine hK.out _ _ (fun _ => HT2) (fun _ => ?_)
      clear hK K
      try simp only [Act.put, List.getElem_toArray, List.getElem_cons_succ, List.getElem_cons_zero, List.setIfInBounds_toArray, List.set_cons_zero, List.set_cons_succ]
      have HBz : Below W.heap.size W ((W0.alloc (.cells #[.slice none 0 0, .slice none 0 0, .slice none 0 0, .int .i64 0, .int .i64 0] 26)).alloc (.cells #[.slice none 0 0, .slice none 0 0, .slice none 0 0, .int .i64 0, .int .i64 0] 26)).drew := ((HB0.alloc HB0.size _).alloc (by have := HB0.size; simp; omega) _).drew
      have HP : Blk ((W0.alloc (.cells #[.slice none 0 0, .slice none 0 0, .slice none 0 0, .int .i64 0, .int .i64 0] 26)).alloc (.cells #[.slice none 0 0, .slice none 0 0, .slice none 0 0, .int .i64 0, .int .i64 0] 26)).drew W0.heap.size #[.slice none 0 0, .slice none 0 0, .slice none 0 0, .int .i64 0, .int .i64 0] 26 := (Blk.new W0 _ _).alloc _
      have HQ : Blk ((W0.alloc (.cells #[.slice none 0 0, .slice none 0 0, .slice none 0 0, .int .i64 0, .int .i64 0] 26)).alloc (.cells #[.slice none 0 0, .slice none 0 0, .slice none 0 0, .int .i64 0, .int .i64 0] 26)).drew (W0.heap.size + 1) #[.slice none 0 0, .slice none 0 0, .slice none 0 0, .int .i64 0, .int .i64 0] 26 := Blk.new1 W0 _ _ _
      obtain ⟨W2, hW2⟩ : ∃ W2, Hid (((W0.alloc (.cells #[.slice none 0 0, .slice none 0 0, .slice none 0 0, .int .i64 0, .int .i64 0] 26)).alloc (.cells #[.slice none 0 0, .slice none 0 0, .slice none 0 0, .int .i64 0, .int .i64 0] 26)).drew = W2) := ⟨_, hide rfl⟩
      rw [hW2.out] at HT2 HBz HP HQ ⊢
      clear hW2 HT1
      have HM3 : Mvs (fun k => k = W0.heap.size) W2 (W2.setRow (W0.heap.size) #[.slice A1 s.boxes.length c1, .slice A2 s.subs.length c2, .slice A3 s.queue.length c3, .int .i64 s.nextValid, .int .i64 s.nextItem]) := row_mvs _ _ _
      have H3 : Blk (W2.setRow (W0.heap.size) #[.slice A1 s.boxes.length c1, .slice A2 s.subs.length c2, .slice A3 s.queue.length c3, .int .i64 s.nextValid, .int .i64 s.nextItem]) (W0.heap.size) #[.slice A1 s.boxes.length c1, .slice A2 s.subs.length c2, .slice A3 s.queue.length c3, .int .i64 s.nextValid, .int .i64 s.nextItem] 26 := row_blk HP
      have H4 : Blk (W2.setRow (W0.heap.size) #[.slice A1 s.boxes.length c1, .slice A2 s.subs.length c2, .slice A3 s.queue.length c3, .int .i64 s.nextValid, .int .i64 s.nextItem]) (W0.heap.size + 1) #[.slice none 0 0, .slice none 0 0, .slice none 0 0, .int .i64 0, .int .i64 0] 26 := HM3.blk HQ (by omega)
      have HT3 : Blk (W2.setRow (W0.heap.size) #[.slice A1 s.boxes.length c1, .slice A2 s.subs.length c2, .slice A3 s.queue.length c3, .int .i64 s.nextValid, .int .i64 s.nextItem]) W.heap.size #[.slice A1 s.boxes.length c1, .slice A2 s.subs.length c2, .slice A3 s.queue.length c3, .int .i64 s.nextValid, .int .i64 s.nextItem, .slice B1 t.boxes.length d1, .slice B2 t.subs.length d2, .slice B3 t.queue.length d3, .int .i64 t.nextValid, .int .i64 t.nextItem, .int .i64 u, .string ⟨n.toArray⟩] 28 := HM3.blk HT2 (by have := hX0; omega)
      refine readyL (rs := [10]) (by kernel_rfl) (by simp) ?_
      refine AllL.cons rfl (fun K hK => ?_) AllL.nil
      try simp only [List.getElem_toArray, List.getElem_cons_succ, List.getElem_cons_zero]
      refine step_store_row (by rfl) 26 (.tmp 3) (.tmp 12) (by rfl) (W0.heap.size) #[.slice A1 s.boxes.length c1, .slice A2 s.subs.length c2, .slice A3 s.queue.length c3, .int .i64 s.nextValid, .int .i64 s.nextItem] (by simp [Act.eval, Act.put]) (by simp [Act.eval, Act.put]) 26 #[.slice none 0 0, .slice none 0 0, .slice none 0 0, .int .i64 0, .int .i64 0] HP (by kernel_rfl) rfl (by simp [Value.oneCell']) ?_
      refine hK.out _ _ (fun _ => HT3) (fun _ => ?_)
      clear hK K
      try simp only [Act.put, List.getElem_toArray, List.getElem_cons_succ, List.getElem_cons_zero, List.setIfInBounds_toArray, List.set_cons_zero, List.set_cons_succ]
      obtain ⟨W3, hW3⟩ : ∃ W3, Hid (W2.setRow (W0.heap.size) #[.slice A1 s.boxes.length c1, .slice A2 s.subs.length c2, .slice A3 s.queue.length c3, .int .i64 s.nextValid, .int .i64 s.nextItem] = W3) := ⟨_, hide rfl⟩
      rw [hW3.out] at HM3 H3 H4 HT3 ⊢
      clear hW3
      have HM4 : Mvs (fun k => k = W0.heap.size + 1) W3 (W3.setRow (W0.heap.size + 1) #[.slice B1 t.boxes.length d1, .slice B2 t.subs.length d2, .slice B3 t.queue.length d3, .int .i64 t.nextValid, .int .i64 t.nextItem]) := row_mvs _ _ _
      have G4 : Blk (W3.setRow (W0.heap.size + 1) #[.slice B1 t.boxes.length d1, .slice B2 t.subs.length d2, .slice B3 t.queue.length d3, .int .i64 t.nextValid, .int .i64 t.nextItem]) (W0.heap.size + 1) #[.slice B1 t.boxes.length d1, .slice B2 t.subs.length d2, .slice B3 t.queue.length d3, .int .i64 t.nextValid, .int .i64 t.nextItem] 26 := row_blk H4
      have G3 : Blk (W3.setRow (W0.heap.size + 1) #[.slice B1 t.boxes.length d1, .slice B2 t.subs.length d2, .slice B3 t.queue.length d3, .int .i64 t.nextValid, .int .i64 t.nextItem]) (W0.heap.size) #[.slice A1 s.boxes.length c1, .slice A2 s.subs.length c2, .slice A3 s.queue.length c3, .int .i64 s.nextValid, .int .i64 s.nextItem] 26 := HM4.blk H3 (by omega)
      have HT4 : Blk (W3.setRow (W0.heap.size + 1) #[.slice B1 t.boxes.length d1, .slice B2 t.subs.length d2, .slice B3 t.queue.length d3, .int .i64 t.nextValid, .int .i64 t.nextItem]) W.heap.size #[.slice A1 s.boxes.length c1, .slice A2 s.subs.length c2, .slice A3 s.queue.length c3, .int .i64 s.nextValid, .int .i64 s.nextItem, .slice B1 t.boxes.length d1, .slice B2 t.subs.length d2, .slice B3 t.queue.length d3, .int .i64 t.nextValid, .int .i64 t.nextItem, .int .i64 u, .string ⟨n.toArray⟩] 28 := HM4.blk HT3 (by have := hX0; omega)
      refine readyL (rs := [11]) (by kernel_rfl) (by simp) ?_
      refine AllL.cons rfl (fun K hK => ?_) AllL.nil
      try simp only [List.getElem_toArray, List.getElem_cons_succ, List.getElem_cons_zero]
      refine step_store_row (by rfl) 26 (.tmp 4) (.tmp 14) (by rfl) (W0.heap.size + 1) #[.slice B1 t.boxes.length d1, .slice B2 t.subs.length d2, .slice B3 t.queue.length d3, .int .i64 t.nextValid, .int .i64 t.nextItem] (by simp [Act.eval, Act.put]) (by simp [Act.eval, Act.put]) 26 #[.slice none 0 0, .slice none 0 0, .slice none 0 0, .int .i64 0, .int .i64 0] H4 (by kernel_rfl) rfl (by simp [Value.oneCell']) ?_
      refine hK.out _ _ (fun _ => HT4) (fun _ => ?_)
      clear hK K HT0
      try simp only [Act.put, List.getElem_toArray, List.getElem_cons_succ, List.getElem_cons_zero, List.setIfInBounds_toArray, List.set_cons_zero, List.set_cons_succ]
      have HBf : Below W.heap.size W (W3.setRow (W0.heap.size + 1) #[.slice B1 t.boxes.length d1, .slice B2 t.subs.length d2, .slice B3 t.queue.length d3, .int .i64 t.nextValid, .int .i64 t.nextItem]) := (HBz.trans (HM3.below (fun k hk e => by have := hX0; omega) HBz.size)).trans (HM4.below (fun k hk e => by have := hX0; omega) (Nat.le_trans HBz.size HM3.size))
      obtain ⟨W4, hW4⟩ : ∃ W4, Hid (W3.setRow (W0.heap.size + 1) #[.slice B1 t.boxes.length d1, .slice B2 t.subs.length d2, .slice B3 t.queue.length d3, .int .i64 t.nextValid, .int .i64 t.nextItem] = W4) := ⟨_, hide rfl⟩
      rw [hW4.out] at G3 G4 HT4 HBf ⊢
      clear hW4 HM3 HM4 H3 H4 HT3 HT2 HP HQ HBz
      have HT0 := HT4
      refine takeW (i := 12) (v := .int .i64 u) rfl (by kernel_rfl) (by kernel_rfl) (by kernel_rfl) rfl (fun _ _ _ h => h) (fun _ => HT0) (Or.inl ⟨by rfl, fun W _ => by go_simp⟩) ?_
      try simp only [Act.put, List.getElem_toArray, List.getElem_cons_succ, List.getElem_cons_zero, List.setIfInBounds_toArray, List.set_cons_zero, List.set_cons_succ]
      refine readyL (rs := [13]) (by kernel_rfl) (by simp) ?_
      refine AllL.cons rfl (fun K hK => ?_) AllL.nil
      try simp only [List.getElem_toArray, List.getElem_cons_succ, List.getElem_cons_zero]
      go_simp
      refine hK.out _ _ (vac (by kernel_rfl)) (fun _ => ?_)
      clear hK K
      try simp only [Act.put, List.getElem_toArray, List.getElem_cons_succ, List.getElem_cons_zero, List.setIfInBounds_toArray, List.set_cons_zero, List.set_cons_succ]
      refine doneL (by kernel_rfl) ?_ _
      go_wp2
      go_meet
      case rel => exact ⟨_, _, rfl, rfl, rfl, rfl, HBf, G3, G4⟩
    · skip
      try simp only [List.getElem_toArray, List.getElem_cons_succ, List.getElem_cons_zero]
      go_simp
      have HT1 : Blk (W0.alloc (.cells #[.slice none 0 0, .slice none 0 0, .slice none 0 0, .int .i64 0, .int .i64 0] 26)).drew W.heap.size #[.slice A1 s.boxes.length c1, .slice A2 s.subs.length c2, .slice A3 s.queue.length c3, .int .i64 s.nextValid, .int .i64 s.nextItem, .slice B1 t.boxes.length d1, .slice B2 t.subs.length d2, .slice B3 t.queue.length d3, .int .i64 t.nextValid, .int .i64 t.nextItem, .int .i64 u, .string ⟨n.toArray⟩] 28 := HT0.alloc _
      refine hK.out _ _ (fun _ => HT1) (fun _ => ?_)
      clear hK K
      try simp only [Act.put, List.getElem_toArray, List.getElem_cons_succ, List.getElem_cons_zero, List.setIfInBounds_toArray, List.set_cons_zero, List.set_cons_succ]
      refine readyL (rs := [8]) (by kernel_rfl) (by simp) ?_
      refine AllL.cons rfl (fun K hK => ?_) AllL.nil
      try simp only [List.getElem_toArray, List.getElem_cons_succ, List.getElem_cons_zero]
      go_simp
      have HT2 : Blk ((W0.alloc (.cells #[.slice none 0 0, .slice none 0 0, .slice none 0 0, .int .i64 0, .int .i64 0] 26)).alloc (.cells #[.slice none 0 0, .slice none 0 0, .slice none 0 0, .int .i64 0, .int .i64 0] 26)).drew W.heap.size #[.slice A1 s.boxes.length c1, .slice A2 s.subs.length c2, .slice A3 s.queue.length c3, .int .i64 s.nextValid, .int .i64 s.nextItem, .slice B1 t.boxes.length d1, .slice B2 t.subs.length d2, .slice B3 t.queue.length d3, .int .i64 t.nextValid, .int .i64 t.nextItem, .int .i64 u, .string ⟨n.toArray⟩] 28 := HT1.alloc _
      refine hK.out _ _ (fun _ => HT2) (fun _ => ?_)
      clear hK K
      try simp only [Act.put, List.getElem_toArray, List.getElem_cons_succ, List.getElem_cons_zero, List.setIfInBounds_toArray, List.set_cons_zero, List.set_cons_succ]
      have HBz : Below W.heap.size W ((W0.alloc (.cells #[.slice none 0 0, .slice none 0 0, .slice none 0 0, .int .i64 0, .int .i64 0] 26)).alloc (.cells #[.slice none 0 0, .slice none 0 0, .slice none 0 0, .int .i64 0, .int .i64 0] 26)).drew := ((HB0.alloc HB0.size _).alloc (by have := HB0.size; simp; omega) _).drew
      have HP : Blk ((W0.alloc (.cells #[.slice none 0 0, .slice none 0 0, .slice none 0 0, .int .i64 0, .int .i64 0] 26)).alloc (.cells #[.slice none 0 0, .slice none 0 0, .slice none 0 0, .int .i64 0, .int .i64 0] 26)).drew W0.heap.size #[.slice none 0 0, .slice none 0 0, .slice none 0 0, .int .i64 0, .int .i64 0] 26 := (Blk.new W0 _ _).alloc _
      have HQ : Blk ((W0.alloc (.cells #[.slice none 0 0, .slice none 0 0, .slice none 0 0, .int .i64 0, .int .i64 0] 26)).alloc (.cells #[.slice none 0 0, .slice none 0 0, .slice none 0 0, .int .i64 0, .int .i64 0] 26)).drew (W0.heap.size + 1) #[.slice none 0 0, .slice none 0 0, .slice none 0 0, .int .i64 0, .int .i64 0] 26 := Blk.new1 W0 _ _ _
      obtain ⟨W2, hW2⟩ : ∃ W2, Hid (((W0.alloc (.cells #[.slice none 0 0, .slice none 0 0, .slice none 0 0, .int .i64 0, .int .i64 0] 26)).alloc (.cells #[.slice none 0 0, .slice none 0 0, .slice none 0 0, .int .i64 0, .int .i64 0] 26)).drew = W2) := ⟨_, hide rfl⟩
      rw [hW2.out] at HT2 HBz HP HQ ⊢
      clear hW2 HT1
      have HM3 : Mvs (fun k => k = W0.heap.size + 1) W2 (W2.setRow (W0.heap.size + 1) #[.slice A1 s.boxes.length c1, .slice A2 s.subs.length c2, .slice A3 s.queue.length c3, .int .i64 s.nextValid, .int .i64 s.nextItem]) := row_mvs _ _ _
      have H3 : Blk (W2.setRow (W0.heap.size + 1) #[.slice A1 s.boxes.length c1, .slice A2 s.subs.length c2, .slice A3 s.queue.length c3, .int .i64 s.nextValid, .int .i64 s.nextItem]) (W0.heap.size + 1) #[.slice A1 s.boxes.length c1, .slice A2 s.subs.length c2, .slice A3 s.queue.length c3, .int .i64 s.nextValid, .int .i64 s.nextItem] 26 := row_blk HQ
      have H4 : Blk (W2.setRow (W0.heap.size + 1) #[.slice A1 s.boxes.length c1, .slice A2 s.subs.length c2, .slice A3 s.queue.length c3, .int .i64 s.nextValid, .int .i64 s.nextItem]) (W0.heap.size) #[.slice none 0 0, .slice none 0 0, .slice none 0 0, .int .i64 0, .int .i64 0] 26 := HM3.blk HP (by omega)
      have HT3 : Blk (W2.setRow (W0.heap.size + 1) #[.slice A1 s.boxes.length c1, .slice A2 s.subs.length c2, .slice A3 s.queue.length c3, .int .i64 s.nextValid, .int .i64 s.nextItem]) W.heap.size #[.slice A1 s.boxes.length c1, .slice A2 s.subs.length c2, .slice A3 s.queue.length c3, .int .i64 s.nextValid, .int .i64 s.nextItem, .slice B1 t.boxes.length d1, .slice B2 t.subs.length d2, .slice B3 t.queue.length d3, .int .i64 t.nextValid, .int .i64 t.nextItem, .int .i64 u, .string ⟨n.toArray⟩] 28 := HM3.blk HT2 (by have := hX0; omega)
      refine readyL (rs := [10]) (by kernel_rfl) (by simp) ?_
      refine AllL.cons rfl (fun K hK => ?_) AllL.nil
      try simp only [List.getElem_toArray, List.getElem_cons_succ, List.getElem_cons_zero]
      refine step_store_row (by rfl) 26 (.tmp 3) (.tmp 12) (by rfl) (W0.heap.size + 1) #[.slice A1 s.boxes.length c1, .slice A2 s.subs.length c2, .slice A3 s.queue.length c3, .int .i64 s.nextValid, .int .i64 s.nextItem] (by simp [Act.eval, Act.put]) (by simp [Act.eval, Act.put]) 26 #[.slice none 0 0, .slice none 0 0, .slice none 0 0, .int .i64 0, .int .i64 0] HQ (by kernel_rfl) rfl (by simp [Value.oneCell']) ?_
      refine hK.out _ _ (fun _ => HT3) (fun _ => ?_)
      clear hK K
      try simp only [Act.put, List.getElem_toArray, List.getElem_cons_succ, List.getElem_cons_zero, List.setIfInBounds_toArray, List.set_cons_zero, List.set_cons_succ]
      obtain ⟨W3, hW3⟩ : ∃ W3, Hid (W2.setRow (W0.heap.size + 1) #[.slice A1 s.boxes.length c1, .slice A2 s.subs.length c2, .slice A3 s.queue.length c3, .int .i64 s.nextValid, .int .i64 s.nextItem] = W3) := ⟨_, hide rfl⟩
      rw [hW3.out] at HM3 H3 H4 HT3 ⊢
      clear hW3
      have HM4 : Mvs (fun k => k = W0.heap.size) W3 (W3.setRow (W0.heap.size) #[.slice B1 t.boxes.length d1, .slice B2 t.subs.length d2, .slice B3 t.queue.length d3, .int .i64 t.nextValid, .int .i64 t.nextItem]) := row_mvs _ _ _
      have G4 : Blk (W3.setRow (W0.heap.size) #[.slice B1 t.boxes.length d1, .slice B2 t.subs.length d2, .slice B3 t.queue.length d3, .int .i64 t.nextValid, .int .i64 t.nextItem]) (W0.heap.size) #[.slice B1 t.boxes.length d1, .slice B2 t.subs.length d2, .slice B3 t.queue.length d3, .int .i64 t.nextValid, .int .i64 t.nextItem] 26 := row_blk H4
      have G3 : Blk (W3.setRow (W0.heap.size) #[.slice B1 t.boxes.length d1, .slice B2 t.subs.length d2, .slice B3 t.queue.length d3, .int .i64 t.nextValid, .int .i64 t.nextItem]) (W0.heap.size + 1) #[.slice A1 s.boxes.length c1, .slice A2 s.subs.length c2, .slice A3 s.queue.length c3, .int .i64 s.nextValid, .int .i64 s.nextItem] 26 := HM4.blk H3 (by omega)
      have HT4 : Blk (W3.setRow (W0.heap.size) #[.slice B1 t.boxes.length d1, .slice B2 t.subs.length d2, .slice B3 t.queue.length d3, .int .i64 t.nextValid, .int .i64 t.nextItem]) W.heap.size #[.slice A1 s.boxes.length c1, .slice A2 s.subs.length c2, .slice A3 s.queue.length c3, .int .i64 s.nextValid, .int .i64 s.nextItem, .slice B1 t.boxes.length d1, .slice B2 t.subs.length d2, .slice B3 t.queue.length d3, .int .i64 t.nextValid, .int .i64 t.nextItem, .int .i64 u, .string ⟨n.toArray⟩] 28 := HM4.blk HT3 (by have := hX0; omega)
      refine readyL (rs := [11]) (by kernel_rfl) (by simp) ?_
      refine AllL.cons rfl (fun K hK => ?_) AllL.nil
      try simp only [List.getElem_toArray, List.getElem_cons_succ, List.getElem_cons_zero]
      refine step_store_row (by rfl) 26 (.tmp 4) (.tmp 14) (by rfl) (W0.heap.size) #[.slice B1 t.boxes.length d1, .slice B2 t.subs.length d2, .slice B3 t.queue.length d3, .int .i64 t.nextValid, .int .i64 t.nextItem] (by simp [Act.eval, Act.put]) (by simp [Act.eval, Act.put]) 26 #[.slice none 0 0, .slice none 0 0, .slice none 0 0, .int .i64 0, .int .i64 0] H4 (by kernel_rfl) rfl (by simp [Value.oneCell']) ?_
      refine hK.out _ _ (fun _ => HT4) (fun _ => ?_)
      clear hK K HT0
      try simp only [Act.put, List.getElem_toArray, List.getElem_cons_succ, List.getElem_cons_zero, List.setIfInBounds_toArray, List.set_cons_zero, List.set_cons_succ]
      have HBf : Below W.heap.size W (W3.setRow (W0.heap.size) #[.slice B1 t.boxes.length d1, .slice B2 t.subs.length d2, .slice B3 t.queue.length d3, .int .i64 t.nextValid, .int .i64 t.nextItem]) := (HBz.trans (HM3.below (fun k hk e => by have := hX0; omega) HBz.size)).trans (HM4.below (fun k hk e => by have := hX0; omega) (Nat.le_trans HBz.size HM3.size))
      obtain ⟨W4, hW4⟩ : ∃ W4, Hid (W3.setRow (W0.heap.size) #[.slice B1 t.boxes.length d1, .slice B2 t.subs.length d2, .slice B3 t.queue.length d3, .int .i64 t.nextValid, .int .i64 t.nextItem] = W4) := ⟨_, hide rfl⟩
      rw [hW4.out] at G3 G4 HT4 HBf ⊢
      clear hW4 HM3 HM4 H3 H4 HT3 HT2 HP HQ HBz
      have HT0 := HT4
      refine takeW (i := 12) (v := .int .i64 u) rfl (by kernel_rfl) (by kernel_rfl) (by kernel_rfl) rfl (fun _ _ _ h => h) (fun _ => HT0) (Or.inl ⟨by rfl, fun W _ => by go_simp⟩) ?_
      try simp only [Act.put, List.getElem_toArray, List.getElem_cons_succ, List.getElem_cons_zero, List.setIfInBounds_toArray, List.set_cons_zero, List.set_cons_succ]
      refine readyL (rs := [13]) (by kernel_rfl) (by simp) ?_
      refine AllL.cons rfl (fun K hK => ?_) AllL.nil
      try simp only [List.getElem_toArray, List.getElem_cons_succ, List.getElem_cons_zero]
      go_simp
      refine hK.out _ _ (vac (by kernel_rfl)) (fun _ => ?_)
      clear hK K
      try simp only [Act.put, List.getElem_toArray, List.getElem_cons_succ, List.getElem_cons_zero, List.setIfInBounds_toArray, List.set_cons_zero, List.set_cons_succ]
      refine doneL (by kernel_rfl) ?_ _
      go_wp2
      go_meet
      case rel => exact ⟨_, _, rfl, rfl, rfl, rfl, HBf, G3, G4⟩
  case rest =>
    obtain ⟨b3, b4, rfl, rfl, rfl, rfl, HB0, HK30, HK40⟩ := hcut
    clear HB0' HF0
    go_wp2_with fail
    refine (alive15_any (HEr.out.below HB0.out)).mono ?_
    rintro e w1 ⟨rfl, hb⟩
    have HB1 := hide (HB0.out.trans (hb.mono HB0.out.size))
    have HK31 := hide (HK30.out.below hb HK30.out.lt)
    have HK41 := hide (HK40.out.below hb HK40.out.lt)
    have p01 := HK31.out.cell 0
    have p11 := HK31.out.cell 1
    have p21 := HK31.out.cell 2
    have p31 := HK31.out.cell 3
    have p41 := HK31.out.cell 4
    have q01 := HK41.out.cell 0
    have q11 := HK41.out.cell 1
    have q21 := HK41.out.cell 2
    have q31 := HK41.out.cell 3
    have q41 := HK41.out.cell 4
    simp only [List.getElem?_toArray, List.getElem?_cons_zero, List.getElem?_cons_succ] at p01 q01 p11 q11 p21 q21 p31 q31 p41 q41
    clear hb
    go_wp2_with fail
    refine (rbig15_any (HS.out.below HB1.out) HZs.out).mono ?_
    rintro e w2 ⟨bl, rfl, hbl, hb⟩
    have HB2 := hide (HB1.out.trans (hb.mono HB1.out.size))
    have HK32 := hide (HK31.out.below hb HK31.out.lt)
    have HK42 := hide (HK41.out.below hb HK41.out.lt)
    have p02 := HK32.out.cell 0
    have p12 := HK32.out.cell 1
    have p22 := HK32.out.cell 2
    have p32 := HK32.out.cell 3
    have p42 := HK32.out.cell 4
    have q02 := HK42.out.cell 0
    have q12 := HK42.out.cell 1
    have q22 := HK42.out.cell 2
    have q32 := HK42.out.cell 3
    have q42 := HK42.out.cell 4
    simp only [List.getElem?_toArray, List.getElem?_cons_zero, List.getElem?_cons_succ] at p02 q02 p12 q12 p22 q22 p32 q32 p42 q42
    clear hb p01 p11 p21 p31 p41 q01 q11 q21 q31 q41
    cases bl with
    | true =>
      go_wp2
      exact bodyPost_ret (v := .bool true) (by simp [results, Tryz.results3, go_sem]) rfl ⟨rfl, HB2.out⟩
    | false =>
    have HDs := hide (hbl rfl)
    clear hbl
    go_wp2_with fail
    refine (rbig15_any (HT.out.below HB2.out) HZt.out).mono ?_
    rintro e w3 ⟨bl, rfl, hbl, hb⟩
    have HB3 := hide (HB2.out.trans (hb.mono HB2.out.size))
    have HK33 := hide (HK32.out.below hb HK32.out.lt)
    have HK43 := hide (HK42.out.below hb HK42.out.lt)
    have p03 := HK33.out.cell 0
    have p13 := HK33.out.cell 1
    have p23 := HK33.out.cell 2
    have p33 := HK33.out.cell 3
    have p43 := HK33.out.cell 4
    have q03 := HK43.out.cell 0
    have q13 := HK43.out.cell 1
    have q23 := HK43.out.cell 2
    have q33 := HK43.out.cell 3
    have q43 := HK43.out.cell 4
    simp only [List.getElem?_toArray, List.getElem?_cons_zero, List.getElem?_cons_succ] at p03 q03 p13 q13 p23 q23 p33 q33 p43 q43
    clear hb p02 p12 p22 p32 p42 q02 q12 q22 q32 q42
    cases bl with
    | true =>
      go_wp2
      exact bodyPost_ret (v := .bool true) (by simp [results, Tryz.results3, go_sem]) rfl ⟨rfl, HB3.out⟩
    | false =>
    have HDt := hide (hbl rfl)
    clear hbl
    by_cases hn : 200 < n.length
    · have hnz : (200 : Int) < n.length := by omega
      go_wp2
      exact bodyPost_ret (v := .bool true) (by simp [results, Tryz.results3, go_sem]) rfl ⟨rfl, HB3.out⟩
    have hnz : ¬ (200 : Int) < n.length := by omega
    have hnz2 : decide ((200 : Int) < (n.length : Int)) = false := decide_eq_false hnz
    clear hnz
    have HCk := hide (fun (w : World) (hW : Below W.heap.size W w) => pcheck_any (HEr.out.below hW) (HS.out.below hW) HDs.out)
    have HFo := hide (fun (w : World) (hW : Below W.heap.size W w) => rform15_any (HS.out.below hW) HDs.out (by intro A n c x1 x2 x3 x4 e; cases e; exact hc))
    have HSm := hide (fun (w : World) (hW : Below W.heap.size W w) => psame_any (HS.out.below hW) (HT.out.below hW) HDs.out)
    have HSr := hide (fun (w : World) (hW : Below W.heap.size W w) => rsame15_any (HS.out.below hW) (HT.out.below hW) HDs.out)
    have HSs := hide (fun (w : World) (hW : Below W.heap.size W w) => psame_any (HS.out.below hW) (HS.out.below hW) HDs.out)
    rw [stt_refl] at HSs
    have HFp := hide (fun (w : World) (hW : Below W.heap.size W w) => pfind_any (HS.out.below hW) u n HDs.out.boxes)
    have HFr := hide (fun (w : World) (hW : Below W.heap.size W w) => rfind15_any (HS.out.below hW) u n HDs.out.boxes)
    rw [fiV_P] at HFr
    have HNm : Hid (∀ w, Below W.heap.size W w → Calls Tryz.prog 11 #[erV ea 2] w fun e w' => e = .returned (.int .i64 2) ∧ Below w.heap.size w w') := fun w hW => num_err 1 (by omega) w ea (HEr.out.below hW)
    unfold erV at HCk HNm
    clear hn
    cases hf : poForm s with
    | true =>
      rw [hf] at HCk HFo
      simp only [if_true, Bool.false_eq_true, if_false] at HCk
      go_upto_region 8 with (first | (go_at_call 9; refine (HCk.out _ HB3.out).mono ?_; rintro e w4 ⟨rfl, hb⟩; have HB4 := hide (HB3.out.trans (hb.mono HB3.out.size)); have HK34 := hide (HK33.out.below hb HK33.out.lt); have HK44 := hide (HK43.out.below hb HK43.out.lt); have p04 := HK34.out.cell 0; have p14 := HK34.out.cell 1; have p24 := HK34.out.cell 2; have p34 := HK34.out.cell 3; have p44 := HK34.out.cell 4; have q04 := HK44.out.cell 0; have q14 := HK44.out.cell 1; have q24 := HK44.out.cell 2; have q34 := HK44.out.cell 3; have q44 := HK44.out.cell 4; simp only [List.getElem?_toArray, List.getElem?_cons_zero, List.getElem?_cons_succ] at p04 q04 p14 q14 p24 q24 p34 q34 p44 q44; clear hb p03 p13 p23 p33 p43 q03 q13 q23 q33 q43) | (go_at_call 10; refine (HFo.out _ HB4.out).mono ?_; rintro e w5 ⟨rfl, hb⟩; have HB5 := hide (HB4.out.trans (hb.mono HB4.out.size)); have HK35 := hide (HK34.out.below hb HK34.out.lt); have HK45 := hide (HK44.out.below hb HK44.out.lt); have p05 := HK35.out.cell 0; have p15 := HK35.out.cell 1; have p25 := HK35.out.cell 2; have p35 := HK35.out.cell 3; have p45 := HK35.out.cell 4; have q05 := HK45.out.cell 0; have q15 := HK45.out.cell 1; have q25 := HK45.out.cell 2; have q35 := HK45.out.cell 3; have q45 := HK45.out.cell 4; simp only [List.getElem?_toArray, List.getElem?_cons_zero, List.getElem?_cons_succ] at p05 q05 p15 q15 p25 q25 p35 q35 p45 q45; clear hb p04 p14 p24 p34 p44 q04 q14 q24 q34 q44))
      generalize sttEq s t = T at *
      generalize fiP (poFind s.boxes u n) = r at *
      have hl3 := HK35.out.lt
      have hl4 := HK45.out.lt
      have hn0 := ext_some w5
      have hcx := ext_cell w5
      refine wp_region_ext (by kernel_rfl) (by kernel_rfl) ?_
      repeat (go_big_quiet_step ((first | (go_at_call 11; exact ext_call (HNm.out _ (HB5.out.trans ((Ext.ok _).mono HB5.out.size)))) | (go_at_call_of 12 (Value.agg #[Value.slice B1 t.boxes.length d1, Value.slice B2 t.subs.length d2, Value.slice B3 t.queue.length d3, Value.int IntKind.i64 t.nextValid, Value.int IntKind.i64 t.nextItem]); exact ext_call (HSm.out _ (HB5.out.trans ((Ext.ok _).mono HB5.out.size)))) | (go_at_call_of 12 (Value.agg #[Value.slice A1 s.boxes.length c1, Value.slice A2 s.subs.length c2, Value.slice A3 s.queue.length c3, Value.int IntKind.i64 s.nextValid, Value.int IntKind.i64 s.nextItem]); exact ext_call (HSs.out _ (HB5.out.trans ((Ext.ok _).mono HB5.out.size)))) | (go_at_call 13; exact ext_call (HSr.out _ (HB5.out.trans ((Ext.ok _).mono HB5.out.size)))) | (go_at_call 14; exact ext_call (HFp.out _ (HB5.out.trans ((Ext.ok _).mono HB5.out.size)))) | (go_at_call 15; exact ext_call (HFr.out _ (HB5.out.trans ((Ext.ok _).mono HB5.out.size)))))))
      refine wpQuiet_nil ?_
      rintro w6 ⟨u6, rfl⟩
      have hb := u6.ok
      have HB6 := hide (HB5.out.trans (hb.mono HB5.out.size))
      have HK36 := hide (HK35.out.below hb HK35.out.lt)
      have HK46 := hide (HK45.out.below hb HK45.out.lt)
      have p06 := HK36.out.cell 0
      have p16 := HK36.out.cell 1
      have p26 := HK36.out.cell 2
      have p36 := HK36.out.cell 3
      have p46 := HK36.out.cell 4
      have q06 := HK46.out.cell 0
      have q16 := HK46.out.cell 1
      have q26 := HK46.out.cell 2
      have q36 := HK46.out.cell 3
      have q46 := HK46.out.cell 4
      simp only [List.getElem?_toArray, List.getElem?_cons_zero, List.getElem?_cons_succ] at p06 q06 p16 q16 p26 q26 p36 q36 p46 q46
      clear hb p05 p15 p25 p35 p45 q05 q15 q25 q35 q45
      generalize u6.w = w6 at *
      clear hcx hn0
      go_wp2
      clear p06 p16 p26 p36 p46 q06 q16 q26 q36 q46 HK36 HK46 HK30 HK40 HK31 HK41 HK32 HK42 HK33 HK43 HK34 HK44 HK35 HK45
      obtain ⟨W6, hW6⟩ : ∃ W6, Hid (w6 = W6) := ⟨_, hide rfl⟩
      rw [hW6.out] at HB6 ⊢
      clear hW6
      have HX1 : Hid (RdE 5 BxAt W (.slice A1 s.boxes.length c1) s.boxes) := by obtain ⟨_, _, _, e, k1, k2, k3⟩ := HS.out; simp only [Value.agg.injEq, Array.mk.injEq, List.cons.injEq, and_true] at e; obtain ⟨rfl, _⟩ := e; exact k1
      go_loopw [78] (fun v78 wr => ∃ k : Nat, v78 = .int .i64 k ∧ k ≤ s.boxes.length ∧ Hid (Below W.heap.size W wr)) (fun v78 _ => s.boxes.length - (intOf v78).toNat)
      case atStart => exact ⟨0, rfl, Nat.zero_le _, HB6.out⟩
      case round =>
        obtain ⟨k, rfl, hk, HB⟩ := hrel
        clear HB6
        by_cases hlt : k < s.boxes.length
        · have hltz : (k : Int) < (s.boxes.length : Int) := by omega
          have hk1 : Hid (k + 1 ≤ s.boxes.length) := hlt
          have hlb1 := HDs.out.boxes
          obtain ⟨g, o, eA, hg, g0, g1, g2, g3, mv, g4, hm⟩ := (HX1.out.below stb_bx HB.out).at hlt
          subst eA
          have hbd := HDs.out.bx _ (List.getElem_mem hlt)
          generalize s.boxes[k] = b at *
          obtain ⟨Am, cm, rfl⟩ := hm.form
          have HBV : BxV wr (.agg #[.int .i64 b.user, .string ⟨b.name.toArray⟩, .int .i64 b.valid, .int .i64 b.next, .slice Am b.msgs.length cm]) b := ⟨_, rfl, hm⟩
          have AL : Below wr.heap.size wr (wr.alloc (.cells #[.int .i64 b.user, .string ⟨b.name.toArray⟩, .int .i64 b.valid, .int .i64 b.next, .slice Am b.msgs.length cm] 39)) := (Below.refl wr.heap.size wr).alloc (Nat.le_refl _) _
          have HBy := hide (fun (w : World) (hW : Below (wr.alloc (.cells #[.int .i64 b.user, .string ⟨b.name.toArray⟩, .int .i64 b.valid, .int .i64 b.next, .slice Am b.msgs.length cm] 39)).heap.size (wr.alloc (.cells #[.int .i64 b.user, .string ⟨b.name.toArray⟩, .int .i64 b.valid, .int .i64 b.next, .slice Am b.msgs.length cm] 39)) w) => pbytes_any ((HBV.below AL).below hW) hbd.msgs hbd.body)
          have HBz := hide (fun (w : World) (hW : Below (wr.alloc (.cells #[.int .i64 b.user, .string ⟨b.name.toArray⟩, .int .i64 b.valid, .int .i64 b.next, .slice Am b.msgs.length cm] 39)).heap.size (wr.alloc (.cells #[.int .i64 b.user, .string ⟨b.name.toArray⟩, .int .i64 b.valid, .int .i64 b.next, .slice Am b.msgs.length cm] 39)) w) => rbytes15_any ((HBV.below AL).below hW) hbd.msgs hbd.body)
          generalize poBytes b = nby at *
          have HBa := hide (HB.out.trans (AL.mono HB.out.size))
          have r0 : wr.cell? ⟨g, o + k * 5, none⟩ = some (.int .i64 b.user) := g0
          have r1 : wr.cell? ⟨g, o + k * 5 + 1, none⟩ = some (.string ⟨b.name.toArray⟩) := g1
          have r2 : wr.cell? ⟨g, o + k * 5 + 2, none⟩ = some (.int .i64 b.valid) := g2
          have r3 : wr.cell? ⟨g, o + k * 5 + 3, none⟩ = some (.int .i64 b.next) := g3
          clear g0 g1 g2 g3 HBV AL hm hbd
          obtain ⟨b0, b1, b2, b9, bm⟩ := b
          dsimp only at *
          generalize bm.length = lm at *
          have HKb := hide (Blk.new wr #[.int .i64 b0, .string ⟨b1.toArray⟩, .int .i64 b2, .int .i64 b9, .slice Am lm cm] 39)
          have y0 := HKb.out.cell 0
          have y1 := HKb.out.cell 1
          have y2 := HKb.out.cell 2
          have y3 := HKb.out.cell 3
          have y4 := HKb.out.cell 4
          simp only [List.getElem?_toArray, List.getElem?_cons_zero, List.getElem?_cons_succ] at y0 y1 y2 y3 y4
          have hlb := HKb.out.lt
          go_wp2
          obtain ⟨Wx, hWx⟩ : ∃ Wx, Hid ((wr.alloc (.cells #[.int .i64 b0, .string ⟨b1.toArray⟩, .int .i64 b2, .int .i64 b9, .slice Am lm cm] 39)) = Wx) := ⟨_, hide rfl⟩
          rw [hWx.out] at HBy HBz HBa HKb y0 y1 y2 y3 y4 hlb ⊢
          clear hWx r0 r1 r2 r3 g4
          have hn0 := ext_some Wx
          have hcx := ext_cell Wx
          refine wp_region_ext (by kernel_rfl) (by kernel_rfl) ?_
          repeat (go_big_quiet_step ((first | (go_at_call 16; exact ext_call (HBy.out _ (Ext.ok _))) | (go_at_call 17; exact ext_call (HBz.out _ (Ext.ok _))))))
          refine wpQuiet_nil ?_
          rintro w7 ⟨u7, rfl⟩
          have HB7 := hide (HBa.out.trans (u7.ok.mono HBa.out.size))
          generalize u7.w = w7 at *
          clear hcx hn0
          go_wp2
          go_roundw
          case rel => exact ⟨k + 1, by go_num, hk1.out, HB7.out⟩
          case measure => have := hk1.out; simp [intOf]; omega
        · obtain rfl : k = s.boxes.length := by omega
          have hltz : ¬ (s.boxes.length : Int) < (s.boxes.length : Int) := by omega
          go_wp2
          exact bodyPost_ret (v := .bool true) (by simp [results, Tryz.results3, go_sem]) rfl ⟨rfl, HB.out⟩
    | false =>
      rw [hf] at HCk HFo
      simp only [if_true, Bool.false_eq_true, if_false] at HCk
      go_upto_region 8 with (first | (go_at_call 9; refine (HCk.out _ HB3.out).mono ?_; rintro e w4 ⟨rfl, hb⟩; have HB4 := hide (HB3.out.trans (hb.mono HB3.out.size)); have HK34 := hide (HK33.out.below hb HK33.out.lt); have HK44 := hide (HK43.out.below hb HK43.out.lt); have p04 := HK34.out.cell 0; have p14 := HK34.out.cell 1; have p24 := HK34.out.cell 2; have p34 := HK34.out.cell 3; have p44 := HK34.out.cell 4; have q04 := HK44.out.cell 0; have q14 := HK44.out.cell 1; have q24 := HK44.out.cell 2; have q34 := HK44.out.cell 3; have q44 := HK44.out.cell 4; simp only [List.getElem?_toArray, List.getElem?_cons_zero, List.getElem?_cons_succ] at p04 q04 p14 q14 p24 q24 p34 q34 p44 q44; clear hb p03 p13 p23 p33 p43 q03 q13 q23 q33 q43) | (go_at_call 10; refine (HFo.out _ HB4.out).mono ?_; rintro e w5 ⟨rfl, hb⟩; have HB5 := hide (HB4.out.trans (hb.mono HB4.out.size)); have HK35 := hide (HK34.out.below hb HK34.out.lt); have HK45 := hide (HK44.out.below hb HK44.out.lt); have p05 := HK35.out.cell 0; have p15 := HK35.out.cell 1; have p25 := HK35.out.cell 2; have p35 := HK35.out.cell 3; have p45 := HK35.out.cell 4; have q05 := HK45.out.cell 0; have q15 := HK45.out.cell 1; have q25 := HK45.out.cell 2; have q35 := HK45.out.cell 3; have q45 := HK45.out.cell 4; simp only [List.getElem?_toArray, List.getElem?_cons_zero, List.getElem?_cons_succ] at p05 q05 p15 q15 p25 q25 p35 q35 p45 q45; clear hb p04 p14 p24 p34 p44 q04 q14 q24 q34 q44))
      generalize sttEq s t = T at *
      generalize fiP (poFind s.boxes u n) = r at *
      have hl3 := HK35.out.lt
      have hl4 := HK45.out.lt
      have hn0 := ext_some w5
      have hcx := ext_cell w5
      refine wp_region_ext (by kernel_rfl) (by kernel_rfl) ?_
      repeat (go_big_quiet_step ((first | (go_at_call 11; exact ext_call (HNm.out _ (HB5.out.trans ((Ext.ok _).mono HB5.out.size)))) | (go_at_call_of 12 (Value.agg #[Value.slice B1 t.boxes.length d1, Value.slice B2 t.subs.length d2, Value.slice B3 t.queue.length d3, Value.int IntKind.i64 t.nextValid, Value.int IntKind.i64 t.nextItem]); exact ext_call (HSm.out _ (HB5.out.trans ((Ext.ok _).mono HB5.out.size)))) | (go_at_call_of 12 (Value.agg #[Value.slice A1 s.boxes.length c1, Value.slice A2 s.subs.length c2, Value.slice A3 s.queue.length c3, Value.int IntKind.i64 s.nextValid, Value.int IntKind.i64 s.nextItem]); exact ext_call (HSs.out _ (HB5.out.trans ((Ext.ok _).mono HB5.out.size)))) | (go_at_call 13; exact ext_call (HSr.out _ (HB5.out.trans ((Ext.ok _).mono HB5.out.size)))) | (go_at_call 14; exact ext_call (HFp.out _ (HB5.out.trans ((Ext.ok _).mono HB5.out.size)))) | (go_at_call 15; exact ext_call (HFr.out _ (HB5.out.trans ((Ext.ok _).mono HB5.out.size)))))))
      refine wpQuiet_nil ?_
      rintro w6 ⟨u6, rfl⟩
      have hb := u6.ok
      have HB6 := hide (HB5.out.trans (hb.mono HB5.out.size))
      have HK36 := hide (HK35.out.below hb HK35.out.lt)
      have HK46 := hide (HK45.out.below hb HK45.out.lt)
      have p06 := HK36.out.cell 0
      have p16 := HK36.out.cell 1
      have p26 := HK36.out.cell 2
      have p36 := HK36.out.cell 3
      have p46 := HK36.out.cell 4
      have q06 := HK46.out.cell 0
      have q16 := HK46.out.cell 1
      have q26 := HK46.out.cell 2
      have q36 := HK46.out.cell 3
      have q46 := HK46.out.cell 4
      simp only [List.getElem?_toArray, List.getElem?_cons_zero, List.getElem?_cons_succ] at p06 q06 p16 q16 p26 q26 p36 q36 p46 q46
      clear hb p05 p15 p25 p35 p45 q05 q15 q25 q35 q45
      generalize u6.w = w6 at *
      clear hcx hn0
      go_wp2
      clear p06 p16 p26 p36 p46 q06 q16 q26 q36 q46 HK36 HK46 HK30 HK40 HK31 HK41 HK32 HK42 HK33 HK43 HK34 HK44 HK35 HK45
      obtain ⟨W6, hW6⟩ : ∃ W6, Hid (w6 = W6) := ⟨_, hide rfl⟩
      rw [hW6.out] at HB6 ⊢
      clear hW6
      have HX1 : Hid (RdE 5 BxAt W (.slice A1 s.boxes.length c1) s.boxes) := by obtain ⟨_, _, _, e, k1, k2, k3⟩ := HS.out; simp only [Value.agg.injEq, Array.mk.injEq, List.cons.injEq, and_true] at e; obtain ⟨rfl, _⟩ := e; exact k1
      go_loopw [78] (fun v78 wr => ∃ k : Nat, v78 = .int .i64 k ∧ k ≤ s.boxes.length ∧ Hid (Below W.heap.size W wr)) (fun v78 _ => s.boxes.length - (intOf v78).toNat)
      case atStart => exact ⟨0, rfl, Nat.zero_le _, HB6.out⟩
      case round =>
        obtain ⟨k, rfl, hk, HB⟩ := hrel
        clear HB6
        by_cases hlt : k < s.boxes.length
        · have hltz : (k : Int) < (s.boxes.length : Int) := by omega
          have hk1 : Hid (k + 1 ≤ s.boxes.length) := hlt
          have hlb1 := HDs.out.boxes
          obtain ⟨g, o, eA, hg, g0, g1, g2, g3, mv, g4, hm⟩ := (HX1.out.below stb_bx HB.out).at hlt
          subst eA
          have hbd := HDs.out.bx _ (List.getElem_mem hlt)
          generalize s.boxes[k] = b at *
          obtain ⟨Am, cm, rfl⟩ := hm.form
          have HBV : BxV wr (.agg #[.int .i64 b.user, .string ⟨b.name.toArray⟩, .int .i64 b.valid, .int .i64 b.next, .slice Am b.msgs.length cm]) b := ⟨_, rfl, hm⟩
          have AL : Below wr.heap.size wr (wr.alloc (.cells #[.int .i64 b.user, .string ⟨b.name.toArray⟩, .int .i64 b.valid, .int .i64 b.next, .slice Am b.msgs.length cm] 39)) := (Below.refl wr.heap.size wr).alloc (Nat.le_refl _) _
          have HBy := hide (fun (w : World) (hW : Below (wr.alloc (.cells #[.int .i64 b.user, .string ⟨b.name.toArray⟩, .int .i64 b.valid, .int .i64 b.next, .slice Am b.msgs.length cm] 39)).heap.size (wr.alloc (.cells #[.int .i64 b.user, .string ⟨b.name.toArray⟩, .int .i64 b.valid, .int .i64 b.next, .slice Am b.msgs.length cm] 39)) w) => pbytes_any ((HBV.below AL).below hW) hbd.msgs hbd.body)
          have HBz := hide (fun (w : World) (hW : Below (wr.alloc (.cells #[.int .i64 b.user, .string ⟨b.name.toArray⟩, .int .i64 b.valid, .int .i64 b.next, .slice Am b.msgs.length cm] 39)).heap.size (wr.alloc (.cells #[.int .i64 b.user, .string ⟨b.name.toArray⟩, .int .i64 b.valid, .int .i64 b.next, .slice Am b.msgs.length cm] 39)) w) => rbytes15_any ((HBV.below AL).below hW) hbd.msgs hbd.body)
          generalize poBytes b = nby at *
          have HBa := hide (HB.out.trans (AL.mono HB.out.size))
          have r0 : wr.cell? ⟨g, o + k * 5, none⟩ = some (.int .i64 b.user) := g0
          have r1 : wr.cell? ⟨g, o + k * 5 + 1, none⟩ = some (.string ⟨b.name.toArray⟩) := g1
          have r2 : wr.cell? ⟨g, o + k * 5 + 2, none⟩ = some (.int .i64 b.valid) := g2
          have r3 : wr.cell? ⟨g, o + k * 5 + 3, none⟩ = some (.int .i64 b.next) := g3
          clear g0 g1 g2 g3 HBV AL hm hbd
          obtain ⟨b0, b1, b2, b9, bm⟩ := b
          dsimp only at *
          generalize bm.length = lm at *
          have HKb := hide (Blk.new wr #[.int .i64 b0, .string ⟨b1.toArray⟩, .int .i64 b2, .int .i64 b9, .slice Am lm cm] 39)
          have y0 := HKb.out.cell 0
          have y1 := HKb.out.cell 1
          have y2 := HKb.out.cell 2
          have y3 := HKb.out.cell 3
          have y4 := HKb.out.cell 4
          simp only [List.getElem?_toArray, List.getElem?_cons_zero, List.getElem?_cons_succ] at y0 y1 y2 y3 y4
          have hlb := HKb.out.lt
          go_wp2
          obtain ⟨Wx, hWx⟩ : ∃ Wx, Hid ((wr.alloc (.cells #[.int .i64 b0, .string ⟨b1.toArray⟩, .int .i64 b2, .int .i64 b9, .slice Am lm cm] 39)) = Wx) := ⟨_, hide rfl⟩
          rw [hWx.out] at HBy HBz HBa HKb y0 y1 y2 y3 y4 hlb ⊢
          clear hWx r0 r1 r2 r3 g4
          have hn0 := ext_some Wx
          have hcx := ext_cell Wx
          refine wp_region_ext (by kernel_rfl) (by kernel_rfl) ?_
          repeat (go_big_quiet_step ((first | (go_at_call 16; exact ext_call (HBy.out _ (Ext.ok _))) | (go_at_call 17; exact ext_call (HBz.out _ (Ext.ok _))))))
          refine wpQuiet_nil ?_
          rintro w7 ⟨u7, rfl⟩
          have HB7 := hide (HBa.out.trans (u7.ok.mono HBa.out.size))
          generalize u7.w = w7 at *
          clear hcx hn0
          go_wp2
          go_roundw
          case rel => exact ⟨k + 1, by go_num, hk1.out, HB7.out⟩
          case measure => have := hk1.out; simp [intOf]; omega
        · obtain rfl : k = s.boxes.length := by omega
          have hltz : ¬ (s.boxes.length : Int) < (s.boxes.length : Int) := by omega
          go_wp2
          exact bodyPost_ret (v := .bool true) (by simp [results, Tryz.results3, go_sem]) rfl ⟨rfl, HB.out⟩
end Go.Proofs.YtbfdbbpkpjgamaaGreatDoor
