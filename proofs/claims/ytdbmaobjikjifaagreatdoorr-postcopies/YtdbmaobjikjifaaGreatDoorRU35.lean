/- Package post: how things are ordered, with the world's shape; boxes and subscriptions sorted. -/
/- Package post: a box is made. -/
/- Package post: what a renaming refuses. -/
import Derived.Test.YtdbmaobjikjifaaGreatDoorRU32
import Derived.Test.YtdbmaobjikjifaaGreatDoorRU34
import Derived.Test.YtdbmaobjikjifaaGreatDoorRU33
section
set_option linter.unusedVariables false
set_option linter.unusedSimpArgs false
namespace Go.Proofs.YtdbmaobjikjifaaGreatDoorR
open Go.RowKit Go.Shelf
section
variable {P : Program}
/-- wp_region_then, whatever the worlds of its first operations keep to. -/
theorem wp_region_thenC {W : World} {C : World → Prop} {id : Nat} {Q : Exit → Act → World → Prop} {a : Act} {l : List Oper} (c n f : Nat) (hm : P.follows .mixedOrders = true) (hs : Region.noSelect l.toArray = true) (hf : l.length = c + (f + 1))
    (hB : lexE .any l.toArray c n c 0 (Array.replicate l.length false) = true) (hC : C W.drew)
    (h : wpQuiet P l.toArray C (fun a' => ∀ w', C w' → anyL P .any l.toArray Q l.length (fun _ => True) (f + 1) (fstL c 0 (Array.replicate l.length false)) a' w') (l.take c) a) : (Code.region id l.toArray true).wp P Q a W := by
  have hlc : (l.take c).length = c := by rw [List.length_take]; omega
  refine wp_region_any hm (any_of_E (C := C) (c := c) (R := fun f L a => ∀ w', C w' → anyL P .any l.toArray Q l.length (fun _ => True) (f + 1) L a w') (fun f L a w hw hR => any_of_L _ _ _ _ (hR w hw)) _ _ _ _ hC ?_)
  have := anyE_lex (P := P) (md := .any) (ops := l.toArray) (C := C) (c := c) (n := n) (R := fun f L a => ∀ w', C w' → anyL P .any l.toArray Q l.length (fun _ => True) (f + 1) L a w') hs (l.take c) 0 f (Array.replicate l.length false) a
    (fun j o hj => by
      rw [Nat.zero_add, List.getElem?_toArray]
      rw [List.getElem?_take] at hj
      split at hj
      · exact hj
      · cases hj) (by rw [hlc]; exact hB) (by rw [hlc]; exact h)
  rw [hlc] at this
  rw [List.size_toArray, hf]
  rw [hf] at this
  exact this
end
set_option maxRecDepth 20000 in
set_option maxHeartbeats 2000000 in
theorem psubOrder_grow (u v : Int) (n m : List UInt8) (w : World) : Calls Tryz.prog 36 #[.agg #[.int .i64 u, .string ⟨n.toArray⟩], .agg #[.int .i64 v, .string ⟨m.toArray⟩]] w fun e w' => e = .returned (.int .i64 (sbO u n v m)) ∧ ∃ q os', w' = Sort.grow (w.drewN q) os' := by
  have H1 := hide (fun (W : World) => cmpI_any u v W)
  have H2 := hide (fun (W : World) => cmpS_any n m W)
  have HO := hide (fun W g c h0 h1 => or2_any (ciV u v) (csV n m) W g c h0 h1)
  have HR : Hid (sbO u n v m = if ciV u v = 0 then csV n m else ciV u v) := rfl
  obtain ⟨R, hR⟩ : ∃ R, Hid (R = sbO u n v m) := ⟨_, hide rfl⟩
  rw [← hR.out] at HR ⊢
  generalize ciV u v = p at *
  generalize csV n m = q at *
  have HK1 := hide ((Blk.new w #[.int .i64 u, .string ⟨n.toArray⟩] 68).alloc (.cells #[.int .i64 v, .string ⟨m.toArray⟩] 68))
  have HK2 := hide (Blk.new1 w (.cells #[.int .i64 u, .string ⟨n.toArray⟩] 68) #[.int .i64 v, .string ⟨m.toArray⟩] 68)
  go_enter Tryz.func36, Tryz.ntmps36
  go_wp2
  obtain ⟨W0, HW0⟩ : ∃ W0, Hid ((w.alloc (.cells #[.int .i64 u, .string ⟨n.toArray⟩] 68)).alloc (.cells #[.int .i64 v, .string ⟨m.toArray⟩] 68) = W0) := ⟨_, hide rfl⟩
  rw [HW0.out] at HK1 HK2 ⊢
  have hn0 : Nonempty Nat := ⟨0⟩
  have c0 : W0.cell? ⟨w.heap.size, 0, none⟩ = some (.int .i64 u) := HK1.out.cell 0
  have c1 : W0.cell? ⟨w.heap.size, 1, none⟩ = some (.string ⟨n.toArray⟩) := HK1.out.cell 1
  have c2 : W0.cell? ⟨w.heap.size + 1, 0, none⟩ = some (.int .i64 v) := HK2.out.cell 0
  have c3 : W0.cell? ⟨w.heap.size + 1, 1, none⟩ = some (.string ⟨m.toArray⟩) := HK2.out.cell 1
  refine wp_region_thenC (C := fun w' => ∃ k, w' = W0.drewN k) 10 6 2 (by kernel_rfl) (by kernel_rfl) rfl (by kernel_rfl) ⟨1, rfl⟩ ?_
  simp only [List.take_succ_cons, List.take_zero]
  repeat (go_big_quiet_step ((first | (go_at_call 68; exact (H1.out _).mono fun e w' h => ⟨h.1, _, h.2⟩) | (go_at_call 76; exact (H2.out _).mono fun e w' h => ⟨h.1, _, h.2⟩))))
  refine wpQuiet_nil ?_
  rintro w6 ⟨k6, rfl⟩
  refine readyL (rs := [10]) (by kernel_rfl) (by simp) ?_
  refine AllL.cons rfl (fun K hK => ?_) AllL.nil
  try simp only [List.getElem_toArray, List.getElem_cons_succ, List.getElem_cons_zero]
  go_simp
  refine hK.out _ _ (fun _ => trivial) (fun _ => ?_)
  clear hK K
  try simp only [Act.put, List.getElem_toArray, List.getElem_cons_succ, List.getElem_cons_zero, List.setIfInBounds_toArray, List.set_cons_zero, List.set_cons_succ]
  refine readyL (rs := [11]) (by kernel_rfl) (by simp) ?_
  refine AllL.cons rfl (fun K hK => ?_) AllL.nil
  try simp only [List.getElem_toArray, List.getElem_cons_succ, List.getElem_cons_zero]
  go_simp
  refine (HO.out _ _ _ ((Blk.new W0 _ _).cell 0) ((Blk.new W0 _ _).cell 1)).mono ?_
  rintro e w7 ⟨rfl, rfl⟩
  rw [← HR.out]
  refine hK.out _ _ (fun _ => trivial) (fun _ => ?_)
  clear hK K
  try simp only [Act.put, List.getElem_toArray, List.getElem_cons_succ, List.getElem_cons_zero, List.setIfInBounds_toArray, List.set_cons_zero, List.set_cons_succ]
  refine readyL (rs := [12]) (by kernel_rfl) (by simp) ?_
  refine AllL.cons rfl (fun K hK => ?_) AllL.nil
  try simp only [List.getElem_toArray, List.getElem_cons_succ, List.getElem_cons_zero]
  go_simp
  refine hK.out _ _ (fun _ => trivial) (fun _ => ?_)
  clear hK K
  try simp only [Act.put, List.getElem_toArray, List.getElem_cons_succ, List.getElem_cons_zero, List.setIfInBounds_toArray, List.set_cons_zero, List.set_cons_succ]
  refine doneL (by kernel_rfl) ?_ _
  go_wp2
  go_ret
  refine ⟨rfl, k6, #[.cells #[.int .i64 u, .string ⟨n.toArray⟩] 68, .cells #[.int .i64 v, .string ⟨m.toArray⟩] 68, .cells #[.int .i64 p, .int .i64 q] 3], ?_⟩
  rw [← HW0.out]
  show (((w.drewN k6).alloc _).alloc _).alloc _ = _
  rw [Sort.alloc_eq_grow, Sort.alloc_eq_grow, Sort.alloc_eq_grow, Sort.grow_grow, Sort.grow_grow]
  rfl
set_option maxRecDepth 20000 in
set_option maxHeartbeats 2000000 in
theorem pboxOrder_grow (u v : Int) (n m : List UInt8) (i0 i1 j0 j1 : Int) (c0 c1 : Value) (w : World) : Calls Tryz.prog 29 #[.agg #[.int .i64 u, .string ⟨n.toArray⟩, .int .i64 i0, .int .i64 i1, c0], .agg #[.int .i64 v, .string ⟨m.toArray⟩, .int .i64 j0, .int .i64 j1, c1]] w fun e w' => e = .returned (.int .i64 (sbO u n v m)) ∧ ∃ q os', w' = Sort.grow (w.drewN q) os' := by
  have H1 := hide (fun (W : World) => psubOrder_grow u v n m W)
  generalize sbO u n v m = R at *
  go_enter Tryz.func29, Tryz.ntmps29
  go_wp2_with (go_at_call 36; refine (H1.out _).mono ?_; rintro e w1 ⟨rfl, q, os', rfl⟩)
  go_ret
  refine ⟨rfl, q, #[.cells #[.int .i64 u, .string ⟨n.toArray⟩, .int .i64 i0, .int .i64 i1, c0] 45, .cells #[.int .i64 v, .string ⟨m.toArray⟩, .int .i64 j0, .int .i64 j1, c1] 45] ++ os', ?_⟩
  show Sort.grow (((w.drewN q).alloc _).alloc _) os' = _
  rw [Sort.alloc_eq_grow, Sort.alloc_eq_grow, Sort.grow_grow, Sort.grow_grow, ← Array.append_assoc]
  rfl
/-- A box with its slice, part by part. -/
structure BS where
  b : Bx
  A : Option Addr
  n : Nat
  c : Nat
  G : Option Nat
instance : Inhabited BS := ⟨⟨⟨0, [], 0, 0, []⟩, none, 0, 0, none⟩⟩
def BS.bl (x : BS) : BL := ⟨x.b, .slice x.A x.n x.c, x.G⟩
def bsC (x : BS) : List Value := blC x.bl
theorem bs_list : ∀ lb : List BL, (∀ x ∈ lb, ∃ A n c, x.v = .slice A n c) → ∃ D : List BS, D.map BS.bl = lb
  | [], _ => ⟨[], rfl⟩
  | x :: r, h => by
    obtain ⟨D, hD⟩ := bs_list r (fun y hy => h y (List.mem_cons_of_mem _ hy))
    obtain ⟨A, n, c, e⟩ := h x (by simp)
    exact ⟨⟨x.b, A, n, c, x.G⟩ :: D, by rw [List.map_cons, hD]; unfold BS.bl; rw [← e]⟩
theorem ltOf_bs (x y : BS) : ltOf (fun x y : BS => sbO x.b.user x.b.name y.b.user y.b.name) x y = bxLt x.b y.b := by
  show decide (sbO x.b.user x.b.name y.b.user y.b.name < 0) = poLt x.b.user x.b.name y.b.user y.b.name
  have h := sbO_ge x.b.user x.b.name y.b.user y.b.name
  by_cases h0 : 0 ≤ sbO x.b.user x.b.name y.b.user y.b.name
  · rw [decide_eq_true h0] at h
    have : poLt x.b.user x.b.name y.b.user y.b.name = false := by cases hp : poLt x.b.user x.b.name y.b.user y.b.name <;> simp_all
    rw [this]
    exact decide_eq_false (by omega)
  · rw [decide_eq_false h0] at h
    have : poLt x.b.user x.b.name y.b.user y.b.name = true := by cases hp : poLt x.b.user x.b.name y.b.user y.b.name <;> simp_all
    rw [this]
    exact decide_eq_true (by omega)
theorem poLt_iff (u : Int) (n : List UInt8) (v : Int) (m : List UInt8) : poLt u n v m = true ↔ u < v ∨ (u = v ∧ n < m) := by
  unfold poLt
  simp
theorem swo_bs : Sort.SWO (ltOf fun x y : BS => sbO x.b.user x.b.name y.b.user y.b.name) := by
  have e := ltOf_bs
  refine ⟨fun x => ?_, fun x y z h1 h2 => ?_, fun x y z h1 h2 => ?_⟩
  · rw [e]
    unfold bxLt
    cases hp : poLt x.b.user x.b.name x.b.user x.b.name with
    | false => rfl
    | true =>
      rcases (poLt_iff _ _ _ _).1 hp with h | ⟨_, h⟩
      · omega
      · exact absurd h (List.lt_irrefl _)
  · rw [e] at *
    unfold bxLt at *
    rw [poLt_iff] at *
    rcases h1 with h1 | ⟨h1, h1'⟩
    · rcases h2 with h2 | ⟨h2, h2'⟩
      · exact .inl (by omega)
      · exact .inl (by omega)
    · rcases h2 with h2 | ⟨h2, h2'⟩
      · exact .inl (by omega)
      · exact .inr ⟨by omega, List.lt_trans h1' h2'⟩
  · rw [e] at *
    unfold bxLt at *
    cases hp : poLt x.b.user x.b.name z.b.user z.b.name with
    | false => rfl
    | true =>
      have a1 : ¬ poLt x.b.user x.b.name y.b.user y.b.name = true := by rw [h1]; simp
      have a2 : ¬ poLt y.b.user y.b.name z.b.user z.b.name = true := by rw [h2]; simp
      rw [poLt_iff] at a1 a2 hp
      exfalso
      rcases hp with h | ⟨h, h'⟩
      · have b1 : ¬ x.b.user < y.b.user := fun h => a1 (.inl h)
        have b2 : ¬ y.b.user < z.b.user := fun h => a2 (.inl h)
        omega
      · have b1 : ¬ x.b.user < y.b.user := fun h => a1 (.inl h)
        have b2 : ¬ y.b.user < z.b.user := fun h => a2 (.inl h)
        have b3 : x.b.user = y.b.user := by omega
        have b4 : y.b.user = z.b.user := by omega
        have c1 : ¬ x.b.name < y.b.name := fun h => a1 (.inr ⟨b3, h⟩)
        have c2 : ¬ y.b.name < z.b.name := fun h => a2 (.inr ⟨b4, h⟩)
        exact absurd h' (List.not_lt.2 (List.le_trans (List.not_lt.1 c2) (List.not_lt.1 c1)))
theorem sortWorldK_mvs {α : Type} [Inhabited α] (f : α → List Value) (k : Nat) (w : World) (g o n : Nat) (d : Array α) (os : Array Obj) : Mvs (fun j => j = g) w (sortWorldK f k w g o n d os) := by
  refine ⟨rfl, rfl, rfl, ?_, fun j hj hne => ?_⟩
  · unfold sortWorldK Sort.putRowK Sort.grow
    show w.heap.size ≤ ((Sort.putRow id (Sort.ahead w n) g o (Sort.flatK f k d)).heap ++ os).size
    rw [Array.size_append, Sort.size_putRow]
    show w.heap.size ≤ w.heap.size + _
    omega
  · show ((w.heap.modify g _) ++ os)[j]? = _
    rw [Array.getElem?_append_left (by simpa using hj), Array.getElem?_modify, if_neg (fun e => hne e.symm)]
set_option maxHeartbeats 1000000 in
/-- slices.SortFunc on boxes. -/
theorem psortBox_any {w : World} {g o cap : Nat} {lb : List BL} (h : Rw w 5 (.slice (some ⟨g, o, none⟩) lb.length cap) lb.length (lb.flatMap blC) (some g)) (hv : ∀ x ∈ lb, ∃ A n c, x.v = .slice A n c) (hl : lb.length ≤ 1000000) :
    Calls Tryz.prog 81 #[.slice (some ⟨g, o, none⟩) lb.length cap, .func (.func 29) #[] #[]] w fun e w' => e = .returned (.tuple #[]) ∧ Mvs (fun k => k = g) w w' ∧ ∃ lb' : List BL, lb'.Perm lb ∧ (∀ i j (hi : i < lb'.length) (hj : j < lb'.length), i < j → bxLt lb'[j].b lb'[i].b = false) ∧ ∀ i (hi : i < lb'.length), ∀ j, j < 5 → w'.cell? ⟨g, o + i * 5 + j, none⟩ = (blC lb'[i])[j]? := by
  obtain ⟨D, rfl⟩ := bs_list lb hv
  have hlt := h.lt g rfl
  obtain ⟨A2, c2, e2, _, hat⟩ := rw_at blC_len h
  cases e2
  rw [List.length_map] at hl ⊢
  have eg : ∀ args w, (callFunc 29 args).run Tryz.prog w = .ok (.enter 29 args) w := enters_of Tryz.func29 (by kernel_rfl) rfl
  have hH : Sort.HoldsK bsC 5 w g o D.toArray := by
    intro j hj
    rw [Sort.size_flatK, List.size_toArray] at hj
    rw [Sort.get_flatK _ _ _ _ (by rw [List.size_toArray]; exact hj)]
    have hi : j / 5 < (D.map BS.bl).length := by rw [List.length_map]; omega
    obtain ⟨g', o', e, _, _, _, hc⟩ := hat (j / 5) hi
    cases e
    obtain ⟨a1, a2⟩ := hc (j % 5) (by omega)
    have hj2 : o + j / 5 * 5 + j % 5 = o + j := by omega
    rw [hj2] at a1 a2
    refine ⟨?_, a2⟩
    rw [a1, List.getElem_map]
    have hD : D.toArray[j / 5]! = D[j / 5]'(by rw [List.length_map] at hi; exact hi) := by
      rw [getElem!_pos _ _ (by simpa using hi)]
      simp
    rw [hD]
    have hlen : j % 5 < (bsC (D[j / 5]'(by rw [List.length_map] at hi; exact hi))).length := by show j % 5 < 5; omega
    show (bsC _)[j % 5]? = _
    rw [List.getElem?_eq_getElem hlen, getElem!_pos _ (j % 5) hlen]
    rfl
  have hcon := AnyQ.slices_SortFunc Tryz.sortBoxes 5 Tryz.isAgg45 Tryz.sizeOf45 bsC (fun _ => rfl) (fun x v hv => blC_one x.bl ⟨_, _, _, rfl⟩ v hv) (fun x y : BS => sbO x.b.user x.b.name y.b.user y.b.name) swo_bs 29 #[] g o cap D.toArray w eg (fun _ _ _ _ x y => pboxOrder_grow _ _ _ _ _ _ _ _ _ _ _) hH hlt (by rw [List.size_toArray]; omega)
  rw [List.size_toArray] at hcon
  refine hcon.mono ?_
  rintro e w' ⟨rfl, d', n, os, ⟨hp1, hp2, hp3⟩, hs, rfl⟩
  replace hp1 : d'.size = D.length := hp1.trans (by simp)
  have hk := holdsK_sortWorldK_c bsC 5 w g o D.toArray d' n os hH hlt (by rw [List.size_toArray]; exact hp1)
  refine ⟨rfl, sortWorldK_mvs _ _ _ _ _ _ _ _, d'.toList.map BS.bl, ?_, fun i j hi hj hij => ?_, fun i hi j hj => ?_⟩
  · have e1 : d'.extract 0 D.length = d' := by
      have h0 := Array.extract_size (xs := d')
      rwa [hp1] at h0
    have e2 : D.toArray.extract 0 D.length = D.toArray := by
      have := Array.extract_size (xs := D.toArray)
      rwa [List.size_toArray] at this
    rw [e1, e2] at hp3
    exact (by simpa using hp3 : d'.toList.Perm D).map BS.bl
  · rw [List.length_map, Array.length_toList] at hi hj
    have := hs i j (Nat.zero_le _) hij (by omega)
    rw [getElem!_pos _ i hi, getElem!_pos _ j hj, ltOf_bs] at this
    simpa [BS.bl] using this
  · rw [List.length_map, Array.length_toList] at hi
    have hm : i * 5 + j < (Sort.flatK bsC 5 d').size := by rw [Sort.size_flatK]; omega
    have k0 := (hk (i * 5 + j) hm).1
    rw [Sort.get_flatK _ _ _ _ (by omega), show (i * 5 + j) / 5 = i by omega, show (i * 5 + j) % 5 = j by omega, ← Nat.add_assoc, getElem!_pos _ i hi] at k0
    rw [k0, List.getElem_map]
    have hlen : j < (bsC d'[i]).length := by show j < 5; omega
    rw [getElem!_pos _ j hlen]
    show _ = (bsC _)[j]?
    rw [List.getElem?_eq_getElem (show j < (bsC _).length by show j < 5; omega)]
    simp only [Array.getElem_toList]
    rfl
end Go.Proofs.YtdbmaobjikjifaaGreatDoorR

end
section
set_option linter.unusedVariables false
set_option linter.unusedSimpArgs false
namespace Go.Proofs.YtdbmaobjikjifaaGreatDoorR
open Go.RowKit Go.Shelf
/-- What an actor leaves: a state, and an answer. -/
def FS (w0 w : World) (X : Nat) (s : Stt) (us : List Int) (n : Int) : Prop :=
  Below w0.heap.size w0 w ∧ w0.heap.size ≤ X ∧ X < w.heap.size ∧ ∃ bv sv qv uv, w.cell? ⟨X, 0, none⟩ = some bv ∧ w.cell? ⟨X, 1, none⟩ = some sv ∧ w.cell? ⟨X, 2, none⟩ = some qv ∧ w.cell? ⟨X, 3, none⟩ = some (.int .i64 s.nextValid) ∧ w.cell? ⟨X, 4, none⟩ = some (.int .i64 s.nextItem) ∧ w.cell? ⟨X, 17, none⟩ = some uv ∧ w.cell? ⟨X, 18, none⟩ = some (.int .i64 n) ∧
    ∀ w2, Mvs (fun k => k < w0.heap.size) w w2 → StR w2 (.agg #[bv, sv, qv, .int .i64 s.nextValid, .int .i64 s.nextItem]) s ∧ RdE 1 IntAt w2 uv us
/-- What an actor's lists read as behind a turn of its row of boxes. -/
theorem AS.sorted {w0 w w1 : World} {X g o n c : Nat} {p : PA} {lb2 : List BL} (h : AS w0 w X p) (hg : p.gb = some g) (hv : p.vb = .slice (some ⟨g, o, none⟩) n c) (hm : Mvs (fun k => some k = p.gb ∨ k = X ∨ k < w0.heap.size) w w1) (hlen : lb2.length = n) (hmem : ∀ x ∈ lb2, x ∈ p.lb)
    (hc : ∀ i (hi : i < lb2.length), ∀ j, j < 5 → w1.cell? ⟨g, o + i * 5 + j, none⟩ = (blC lb2[i])[j]?) (nv ni : Int) :
    StR w1 (.agg #[p.vb, p.vs, p.vq, .int .i64 nv, .int .i64 ni]) ⟨lb2.map BL.b, p.ls, p.lq.map QL.q, nv, ni⟩ ∧ RdE 1 IntAt w1 p.vu p.us := by
  have hkeep : ∀ b, b ∈ (p.gs :: p.gq :: p.gu :: (p.lb.map BL.G ++ p.lq.map QL.G)) → ∀ g, b = some g → ¬ (some g = p.gb ∨ g = X ∨ g < w0.heap.size) := fun b hb g e => by
    have ho := h.own g (by rw [← e]; unfold PA.blocks; exact List.mem_cons_of_mem _ hb)
    rintro (h1 | h1 | h1)
    · exact sep_other (l := []) h.sep (.inr hb) g e h1
    · exact ho.2 h1
    · omega
  have hlb : ∀ y ∈ p.lb, y.G ∈ (p.gs :: p.gq :: p.gu :: (p.lb.map BL.G ++ p.lq.map QL.G)) := fun y hy => by simp; right; right; right; left; exact ⟨y, hy, rfl⟩
  have hlq : ∀ y ∈ p.lq, y.G ∈ (p.gs :: p.gq :: p.gu :: (p.lb.map BL.G ++ p.lq.map QL.G)) := fun y hy => by simp; right; right; right; right; exact ⟨y, hy, rfl⟩
  have hgl : g < w1.heap.size := Nat.lt_of_lt_of_le (h.rb.lt g hg) hm.size
  refine ⟨⟨_, _, _, rfl, ⟨_, _, by rw [hv, ← hlen, List.length_map], fun i hi => ?_⟩, sbC_rd (h.rs.keep hm (hkeep _ (by simp))), qlC_rd (h.rq.keep hm (hkeep _ (by simp))) (fun x hx => inC_rd ((h.rf x hx).keep hm (hkeep _ (hlq x hx))))⟩, inC_rd (h.ru.keep hm (hkeep _ (by simp)))⟩
  · rw [List.length_map] at hi
    rw [List.getElem_map]
    have hx := hmem _ (List.getElem_mem hi)
    exact ⟨g, o, rfl, hgl, hc i hi 0 (by omega), hc i hi 1 (by omega), hc i hi 2 (by omega), hc i hi 3 (by omega), _, hc i hi 4 (by omega), msC_rd ((h.rm _ hx).keep hm (hkeep _ (hlb _ hx)))⟩
theorem AS.sepb {w0 w : World} {X : Nat} {p : PA} (h : AS w0 w X p) : Sep (p.lb.map BL.G) := by
  have := h.sep
  unfold PA.blocks Sep at this
  simp only [List.pairwise_cons] at this
  exact (List.pairwise_append.1 this.2.2.2.2).1
theorem sep_snoc {l : List (Option Nat)} (h : Sep l) : Sep (l ++ [none]) := by
  unfold Sep at h ⊢
  rw [List.pairwise_append]
  refine ⟨h, by simp, fun a _ b hb g _ e => ?_⟩
  rw [List.mem_singleton.1 hb] at e
  cases e
/-- Why a box is not made. -/
def qCreate (p : PA) : Nat := if (poFind p.st.boxes p.a.user p.a.name).isSome then 6 else if p.lb.length = 24 ∨ p.nv = 2147483648 then 11 else 0
theorem wrap1 {x : Int} (h0 : 0 ≤ x) (h1 : x ≤ 4000000000000000) : IntKind.i64.wrap (x + 1) = x + 1 := by
  rw [IntKind.wrap_i64]
  omega
set_option maxRecDepth 20000 in
set_option maxHeartbeats 8000000 in
theorem pcreate_no {w0 w : World} {X : Nat} {p : PA} {ea : Nat → Addr} (h : AS w0 w X p) (hE : Errs w0 ea) (hl : p.lb.length ≤ 1000000) (hq : qCreate p ≠ 0) :
    Calls Tryz.prog 48 #[.pointer (some ⟨X, 0, none⟩)] w fun e w' => e = .returned (erV ea (qCreate p)) ∧ Below w.heap.size w w' := by
  have H1 := hide (pplace_any h p.a.name hl)
  obtain ⟨Ab, cb, e1⟩ := h.rb.form
  have HB : Hid (∀ W, Below w.heap.size w W → W.cell? ⟨X, 0, none⟩ = some (.slice Ab p.lb.length cb)) := fun W hW => by rw [← e1]; exact (h.blk.below hW h.blk.lt).cell 0
  have HN : Hid (∀ W, Below w.heap.size w W → W.cell? ⟨X, 3, none⟩ = some (.int .i64 p.nv)) := fun W hW => (h.blk.below hW h.blk.lt).cell 3
  have k11 : w.cell? ⟨X, 11, none⟩ = some (.string ⟨p.a.name.toArray⟩) := h.blk.cell 11
  have HE6 : Hid (∀ W, Below w.heap.size w W → W.cell? ⟨4, 0, none⟩ = some (.iface 216 (.pointer (some (ea 5))))) := fun W hW => (hE.below (h.bel.trans (hW.mono h.bel.size))).cell 5 (by omega)
  have HE11 : Hid (∀ W, Below w.heap.size w W → W.cell? ⟨5, 0, none⟩ = some (.iface 216 (.pointer (some (ea 10))))) := fun W hW => (hE.below (h.bel.trans (hW.mono h.bel.size))).cell 10 (by omega)
  obtain ⟨V, HV⟩ : ∃ V, Hid (V = erV ea (qCreate p)) := ⟨_, hide rfl⟩
  rw [← HV.out]
  unfold qCreate at hq HV
  clear h e1
  cases hf : poFind p.st.boxes p.a.user p.a.name with
  | some i =>
    rw [hf] at H1 HV
    change Hid (Calls _ _ _ _ fun e w' => e = .returned (.int .i64 (i : Int)) ∧ _) at H1
    have HF : Hid (V = .iface 216 (.pointer (some (ea 5)))) := by show _ = _; rw [HV.out]; rfl
    clear HV hq hf
    generalize p.a.name = nm at *
    have hi0 : (0 : Int) ≤ i := by omega
    go_enter Tryz.func48, Tryz.ntmps48
    go_wp2_with (go_at_call 80; refine H1.out.mono ?_; rintro e w1 ⟨rfl, hb1⟩; have c1 := HE6.out _ hb1; replace hb1 := hide hb1)
    go_ret
    exact ⟨by rw [HF.out]; rfl, hb1.out⟩
  | none =>
    rw [hf] at H1 HV hq
    change Hid (Calls _ _ _ _ fun e w' => e = .returned (.int .i64 (-1)) ∧ _) at H1
    simp only [Option.isSome_none, Bool.false_eq_true, if_false] at hq HV
    have hor : p.lb.length = 24 ∨ p.nv = 2147483648 := by
      by_cases h0 : p.lb.length = 24 ∨ p.nv = 2147483648
      · exact h0
      · rw [if_neg h0] at hq
        exact absurd rfl hq
    have HF : Hid (V = .iface 216 (.pointer (some (ea 10)))) := by show _ = _; rw [HV.out, if_pos hor]; rfl
    clear HV hq hf
    generalize p.a.name = nm at *
    generalize p.lb.length = nb at *
    generalize p.nv = nv at *
    by_cases h24 : nb = 24
    · subst h24
      go_enter Tryz.func48, Tryz.ntmps48
      go_wp2_with (go_at_call 80; refine H1.out.mono ?_; rintro e w1 ⟨rfl, hb1⟩; have c1 := HE11.out _ hb1; have c2 := HB.out _ hb1; replace hb1 := hide hb1)
      go_ret
      exact ⟨by rw [HF.out]; rfl, hb1.out⟩
    · have hnv : nv = 2147483648 := by omega
      subst hnv
      have h24z : ¬ (nb : Int) = 24 := by omega
      go_enter Tryz.func48, Tryz.ntmps48
      go_wp2_with (go_at_call 80; refine H1.out.mono ?_; rintro e w1 ⟨rfl, hb1⟩; have c1 := HE11.out _ hb1; have c2 := HB.out _ hb1; have c3 := HN.out _ hb1; replace hb1 := hide hb1)
      go_ret
      exact ⟨by rw [HF.out]; rfl, hb1.out⟩
set_option maxRecDepth 20000 in
set_option maxHeartbeats 16000000 in
theorem pcreate_yes {w0 w : World} {X : Nat} {p : PA} (h : AS w0 w X p) (hl : p.lb.length ≤ 1000) (hv : 0 ≤ p.nv ∧ p.nv ≤ 2147483648) (hq : qCreate p = 0) :
    Calls Tryz.prog 48 #[.pointer (some ⟨X, 0, none⟩)] w fun e w' => e = .returned .nilIface ∧ ∃ bs, FS w0 w' X ⟨bs, p.ls, p.lq.map QL.q, p.nv + 1, p.ni⟩ p.us p.n ∧ bs.Perm (p.lb.map BL.b ++ [⟨p.a.user, p.a.name, p.nv, 1, []⟩]) ∧ ∀ i j (hi : i < bs.length) (hj : j < bs.length), i < j → bxLt bs[j] bs[i] = false := by
  have H1 := hide (pplace_any h p.a.name (by omega))
  obtain ⟨Ab, cb, e1⟩ := h.rb.form
  obtain ⟨i0, hi, hz0, hz1, hz2⟩ := infoP infoBox
  have HS := hide h
  have HB : Hid (∀ W, Below w.heap.size w W → W.cell? ⟨X, 0, none⟩ = some (.slice Ab p.lb.length cb)) := fun W hW => by rw [← e1]; exact (h.blk.below hW h.blk.lt).cell 0
  have HN : Hid (∀ W, Below w.heap.size w W → W.cell? ⟨X, 3, none⟩ = some (.int .i64 p.nv)) := fun W hW => (h.blk.below hW h.blk.lt).cell 3
  have k11 : w.cell? ⟨X, 11, none⟩ = some (.string ⟨p.a.name.toArray⟩) := h.blk.cell 11
  unfold qCreate at hq
  have hf : poFind p.st.boxes p.a.user p.a.name = none := by
    cases hf : poFind p.st.boxes p.a.user p.a.name with
    | none => rfl
    | some i => rw [hf] at hq; simp at hq
  rw [hf] at H1 hq
  change Hid (Calls _ _ _ _ fun e w' => e = .returned (.int .i64 (-1)) ∧ _) at H1
  simp only [Option.isSome_none, Bool.false_eq_true, if_false] at hq
  have hor : ¬ (p.lb.length = 24 ∨ p.nv = 2147483648) := fun h0 => by rw [if_pos h0] at hq; cases hq
  have h24 : ¬ (p.lb.length : Int) = 24 := by omega
  have hnv : ¬ p.nv = 2147483648 := fun e => hor (.inr e)
  have hnvb : (p.nv == 2147483648) = false := beq_eq_false_iff_ne.2 hnv
  clear h hq hf hor
  obtain ⟨nb, hnb⟩ : ∃ nb, Hid (p.lb.length = nb) := ⟨_, hide rfl⟩
  rw [hnb.out] at e1 HB hl h24
  go_enter Tryz.func48, Tryz.ntmps48
  go_upto_region 5 with (go_at_call 80; refine H1.out.mono ?_; rintro e w2 ⟨rfl, hb1⟩; have c2 := HB.out _ hb1; have c3 := HN.out _ hb1; replace hb1 := hide hb1)
  have HS2 := hide (HS.out.below hb1.out)
  clear c2 c3 HB HN H1 k11
  refine regionL 27 (fun W => W.cell? ⟨X, 0, none⟩ = some (.slice Ab nb cb) ∧ W.cell? ⟨X, 6, none⟩ = some (.int .i64 p.a.user) ∧ W.cell? ⟨X, 11, none⟩ = some (.string ⟨p.a.name.toArray⟩) ∧ W.cell? ⟨X, 3, none⟩ = some (.int .i64 p.nv)) (by kernel_rfl) ?_
  have HT0 : w2.drew.cell? ⟨X, 0, none⟩ = some (.slice Ab nb cb) ∧ w2.drew.cell? ⟨X, 6, none⟩ = some (.int .i64 p.a.user) ∧ w2.drew.cell? ⟨X, 11, none⟩ = some (.string ⟨p.a.name.toArray⟩) ∧ w2.drew.cell? ⟨X, 3, none⟩ = some (.int .i64 p.nv) := ⟨(HS2.out.blk.cell 0).trans (congrArg some e1), HS2.out.blk.cell 6, HS2.out.blk.cell 11, HS2.out.blk.cell 3⟩
  refine takeW (i := 0) (v := .pointer (some ⟨X, 0, none⟩)) rfl (by kernel_rfl) (by kernel_rfl) (by kernel_rfl) rfl (fun _ _ _ h => h) (fun _ => HT0) (Or.inl ⟨by rfl, fun W _ => by go_simp⟩) ?_
  try simp only [Act.put, List.getElem_toArray, List.getElem_cons_succ, List.getElem_cons_zero, List.setIfInBounds_toArray, List.set_cons_zero, List.set_cons_succ]
  refine takeW (i := 1) (v := .pointer (some ⟨X, 0, none⟩)) rfl (by kernel_rfl) (by kernel_rfl) (by kernel_rfl) rfl (fun _ _ _ h => h) (fun _ => HT0) (Or.inl ⟨by rfl, fun W _ => by go_simp⟩) ?_
  try simp only [Act.put, List.getElem_toArray, List.getElem_cons_succ, List.getElem_cons_zero, List.setIfInBounds_toArray, List.set_cons_zero, List.set_cons_succ]
  refine takeW (i := 2) (v := .pointer (some ⟨X, 0, none⟩)) rfl (by kernel_rfl) (by kernel_rfl) (by kernel_rfl) rfl (fun _ _ _ h => h) (fun _ => HT0) (Or.inl ⟨by rfl, fun W _ => by go_simp⟩) ?_
  try simp only [Act.put, List.getElem_toArray, List.getElem_cons_succ, List.getElem_cons_zero, List.setIfInBounds_toArray, List.set_cons_zero, List.set_cons_succ]
  refine takeW (i := 3) (v := .pointer (some ⟨X, 0, none⟩)) rfl (by kernel_rfl) (by kernel_rfl) (by kernel_rfl) rfl (fun _ _ _ h => h) (fun _ => HT0) (Or.inl ⟨by rfl, fun W _ => by go_simp⟩) ?_
  try simp only [Act.put, List.getElem_toArray, List.getElem_cons_succ, List.getElem_cons_zero, List.setIfInBounds_toArray, List.set_cons_zero, List.set_cons_succ]
  refine takeW (i := 4) (v := .pointer (some ⟨X, 0, none⟩)) rfl (by kernel_rfl) (by kernel_rfl) (by kernel_rfl) rfl (fun _ _ _ h => h) (fun _ => HT0) (Or.inl ⟨by rfl, fun W _ => by go_simp⟩) ?_
  try simp only [Act.put, List.getElem_toArray, List.getElem_cons_succ, List.getElem_cons_zero, List.setIfInBounds_toArray, List.set_cons_zero, List.set_cons_succ]
  refine takeL (i := 5) (v := .slice Ab nb cb) rfl (by kernel_rfl) (by kernel_rfl) (by kernel_rfl) (by kernel_rfl) (by kernel_rfl) (fun _ _ _ h => h) HT0 (Or.inl ⟨by rfl, fun W hW => by obtain ⟨t0, t1, t2, t3⟩ := hW; go_simp⟩) ?_
  try simp only [Act.put, List.getElem_toArray, List.getElem_cons_succ, List.getElem_cons_zero, List.setIfInBounds_toArray, List.set_cons_zero, List.set_cons_succ]
  refine takeW (i := 6) (v := .pointer (some ⟨X, 0, none⟩)) rfl (by kernel_rfl) (by kernel_rfl) (by kernel_rfl) rfl (fun _ _ _ h => h) (fun _ => HT0) (Or.inl ⟨by rfl, fun W _ => by go_simp⟩) ?_
  try simp only [Act.put, List.getElem_toArray, List.getElem_cons_succ, List.getElem_cons_zero, List.setIfInBounds_toArray, List.set_cons_zero, List.set_cons_succ]
  refine takeW (i := 7) (v := .pointer (some ⟨X, 0, none⟩)) rfl (by kernel_rfl) (by kernel_rfl) (by kernel_rfl) rfl (fun _ _ _ h => h) (fun _ => HT0) (Or.inl ⟨by rfl, fun W _ => by go_simp⟩) ?_
  try simp only [Act.put, List.getElem_toArray, List.getElem_cons_succ, List.getElem_cons_zero, List.setIfInBounds_toArray, List.set_cons_zero, List.set_cons_succ]
  refine takeW (i := 8) (v := .pointer (some ⟨X, 5, none⟩)) rfl (by kernel_rfl) (by kernel_rfl) (by kernel_rfl) rfl (fun _ _ _ h => h) (fun _ => HT0) (Or.inl ⟨by rfl, fun W _ => by go_simp⟩) ?_
  try simp only [Act.put, List.getElem_toArray, List.getElem_cons_succ, List.getElem_cons_zero, List.setIfInBounds_toArray, List.set_cons_zero, List.set_cons_succ]
  refine takeW (i := 9) (v := .pointer (some ⟨X, 6, none⟩)) rfl (by kernel_rfl) (by kernel_rfl) (by kernel_rfl) rfl (fun _ _ _ h => h) (fun _ => HT0) (Or.inl ⟨by rfl, fun W _ => by go_simp⟩) ?_
  try simp only [Act.put, List.getElem_toArray, List.getElem_cons_succ, List.getElem_cons_zero, List.setIfInBounds_toArray, List.set_cons_zero, List.set_cons_succ]
  refine takeL (i := 10) (v := .int .i64 p.a.user) rfl (by kernel_rfl) (by kernel_rfl) (by kernel_rfl) (by kernel_rfl) (by kernel_rfl) (fun _ _ _ h => h) HT0 (Or.inl ⟨by rfl, fun W hW => by obtain ⟨t0, t1, t2, t3⟩ := hW; go_simp⟩) ?_
  try simp only [Act.put, List.getElem_toArray, List.getElem_cons_succ, List.getElem_cons_zero, List.setIfInBounds_toArray, List.set_cons_zero, List.set_cons_succ]
  refine takeW (i := 11) (v := .pointer (some ⟨X, 0, none⟩)) rfl (by kernel_rfl) (by kernel_rfl) (by kernel_rfl) rfl (fun _ _ _ h => h) (fun _ => HT0) (Or.inl ⟨by rfl, fun W _ => by go_simp⟩) ?_
  try simp only [Act.put, List.getElem_toArray, List.getElem_cons_succ, List.getElem_cons_zero, List.setIfInBounds_toArray, List.set_cons_zero, List.set_cons_succ]
  refine takeW (i := 12) (v := .pointer (some ⟨X, 0, none⟩)) rfl (by kernel_rfl) (by kernel_rfl) (by kernel_rfl) rfl (fun _ _ _ h => h) (fun _ => HT0) (Or.inl ⟨by rfl, fun W _ => by go_simp⟩) ?_
  try simp only [Act.put, List.getElem_toArray, List.getElem_cons_succ, List.getElem_cons_zero, List.setIfInBounds_toArray, List.set_cons_zero, List.set_cons_succ]
  refine takeW (i := 13) (v := .pointer (some ⟨X, 5, none⟩)) rfl (by kernel_rfl) (by kernel_rfl) (by kernel_rfl) rfl (fun _ _ _ h => h) (fun _ => HT0) (Or.inl ⟨by rfl, fun W _ => by go_simp⟩) ?_
  try simp only [Act.put, List.getElem_toArray, List.getElem_cons_succ, List.getElem_cons_zero, List.setIfInBounds_toArray, List.set_cons_zero, List.set_cons_succ]
  refine takeW (i := 14) (v := .pointer (some ⟨X, 11, none⟩)) rfl (by kernel_rfl) (by kernel_rfl) (by kernel_rfl) rfl (fun _ _ _ h => h) (fun _ => HT0) (Or.inl ⟨by rfl, fun W _ => by go_simp⟩) ?_
  try simp only [Act.put, List.getElem_toArray, List.getElem_cons_succ, List.getElem_cons_zero, List.setIfInBounds_toArray, List.set_cons_zero, List.set_cons_succ]
  refine takeL (i := 15) (v := .string ⟨p.a.name.toArray⟩) rfl (by kernel_rfl) (by kernel_rfl) (by kernel_rfl) (by kernel_rfl) (by kernel_rfl) (fun _ _ _ h => h) HT0 (Or.inl ⟨by rfl, fun W hW => by obtain ⟨t0, t1, t2, t3⟩ := hW; go_simp⟩) ?_
  try simp only [Act.put, List.getElem_toArray, List.getElem_cons_succ, List.getElem_cons_zero, List.setIfInBounds_toArray, List.set_cons_zero, List.set_cons_succ]
  refine takeW (i := 16) (v := .pointer (some ⟨X, 0, none⟩)) rfl (by kernel_rfl) (by kernel_rfl) (by kernel_rfl) rfl (fun _ _ _ h => h) (fun _ => HT0) (Or.inl ⟨by rfl, fun W _ => by go_simp⟩) ?_
  try simp only [Act.put, List.getElem_toArray, List.getElem_cons_succ, List.getElem_cons_zero, List.setIfInBounds_toArray, List.set_cons_zero, List.set_cons_succ]
  refine takeW (i := 17) (v := .pointer (some ⟨X, 0, none⟩)) rfl (by kernel_rfl) (by kernel_rfl) (by kernel_rfl) rfl (fun _ _ _ h => h) (fun _ => HT0) (Or.inl ⟨by rfl, fun W _ => by go_simp⟩) ?_
  try simp only [Act.put, List.getElem_toArray, List.getElem_cons_succ, List.getElem_cons_zero, List.setIfInBounds_toArray, List.set_cons_zero, List.set_cons_succ]
  refine takeW (i := 18) (v := .pointer (some ⟨X, 0, none⟩)) rfl (by kernel_rfl) (by kernel_rfl) (by kernel_rfl) rfl (fun _ _ _ h => h) (fun _ => HT0) (Or.inl ⟨by rfl, fun W _ => by go_simp⟩) ?_
  try simp only [Act.put, List.getElem_toArray, List.getElem_cons_succ, List.getElem_cons_zero, List.setIfInBounds_toArray, List.set_cons_zero, List.set_cons_succ]
  refine takeW (i := 19) (v := .pointer (some ⟨X, 3, none⟩)) rfl (by kernel_rfl) (by kernel_rfl) (by kernel_rfl) rfl (fun _ _ _ h => h) (fun _ => HT0) (Or.inl ⟨by rfl, fun W _ => by go_simp⟩) ?_
  try simp only [Act.put, List.getElem_toArray, List.getElem_cons_succ, List.getElem_cons_zero, List.setIfInBounds_toArray, List.set_cons_zero, List.set_cons_succ]
  refine takeL (i := 20) (v := .int .i64 p.nv) rfl (by kernel_rfl) (by kernel_rfl) (by kernel_rfl) (by kernel_rfl) (by kernel_rfl) (fun _ _ _ h => h) HT0 (Or.inl ⟨by rfl, fun W hW => by obtain ⟨t0, t1, t2, t3⟩ := hW; go_simp⟩) ?_
  try simp only [Act.put, List.getElem_toArray, List.getElem_cons_succ, List.getElem_cons_zero, List.setIfInBounds_toArray, List.set_cons_zero, List.set_cons_succ]
  refine takeW (i := 21) (v := .agg #[.int .i64 p.a.user, .string ⟨p.a.name.toArray⟩, .int .i64 p.nv, .int .i64 1, .slice none 0 0]) rfl (by kernel_rfl) (by kernel_rfl) (by kernel_rfl) rfl (fun _ _ _ h => h) (fun _ => HT0) (Or.inl ⟨by rfl, fun W _ => by go_simp⟩) ?_
  try simp only [Act.put, List.getElem_toArray, List.getElem_cons_succ, List.getElem_cons_zero, List.setIfInBounds_toArray, List.set_cons_zero, List.set_cons_succ]
  refine readyL (rs := [22]) (by kernel_rfl) (by simp) ?_
  refine AllL.cons rfl (fun K hK => ?_) AllL.nil
  try simp only [List.getElem_toArray, List.getElem_cons_succ, List.getElem_cons_zero]
  go_simp
  have HS3 := hide (HS2.out.below (w' := w2.drew.alloc (.cells #[.int .i64 p.a.user, .string ⟨p.a.name.toArray⟩, .int .i64 p.nv, .int .i64 1, .slice none 0 0] 45)) ((Below.refl _ _).drew.alloc (Nat.le_refl _) _))
  have HT1 : (w2.drew.alloc (.cells #[.int .i64 p.a.user, .string ⟨p.a.name.toArray⟩, .int .i64 p.nv, .int .i64 1, .slice none 0 0] 45)).cell? ⟨X, 0, none⟩ = some (.slice Ab nb cb) ∧ (w2.drew.alloc (.cells #[.int .i64 p.a.user, .string ⟨p.a.name.toArray⟩, .int .i64 p.nv, .int .i64 1, .slice none 0 0] 45)).cell? ⟨X, 6, none⟩ = some (.int .i64 p.a.user) ∧ (w2.drew.alloc (.cells #[.int .i64 p.a.user, .string ⟨p.a.name.toArray⟩, .int .i64 p.nv, .int .i64 1, .slice none 0 0] 45)).cell? ⟨X, 11, none⟩ = some (.string ⟨p.a.name.toArray⟩) ∧ (w2.drew.alloc (.cells #[.int .i64 p.a.user, .string ⟨p.a.name.toArray⟩, .int .i64 p.nv, .int .i64 1, .slice none 0 0] 45)).cell? ⟨X, 3, none⟩ = some (.int .i64 p.nv) := ⟨(HS3.out.blk.cell 0).trans (congrArg some e1), HS3.out.blk.cell 6, HS3.out.blk.cell 11, HS3.out.blk.cell 3⟩
  refine hK.out _ _ (fun _ => HT1) (fun _ => ?_)
  clear hK K HT0
  have HT0 := HT1
  clear HT1
  try simp only [Act.put, List.getElem_toArray, List.getElem_cons_succ, List.getElem_cons_zero, List.setIfInBounds_toArray, List.set_cons_zero, List.set_cons_succ]
  have hrb : Rw (w2.drew.alloc (.cells #[.int .i64 p.a.user, .string ⟨p.a.name.toArray⟩, .int .i64 p.nv, .int .i64 1, .slice none 0 0] 45)) 5 (.slice Ab nb cb) nb (p.lb.flatMap blC) p.gb := by
    have := HS3.out.rb
    rwa [e1, hnb.out] at this
  have hsrc : Src Tryz.prog 5 24 (.slice (some ⟨w2.heap.size, 0, none⟩) 1 1) 1 (blC (⟨⟨p.a.user, p.a.name, p.nv, 1, []⟩, .slice none 0 0, none⟩ : BL)) (w2.drew.alloc (.cells #[.int .i64 p.a.user, .string ⟨p.a.name.toArray⟩, .int .i64 p.nv, .int .i64 1, .slice none 0 0] 45)) := by
    have hk := Blk.new w2.drew #[.int .i64 p.a.user, .string ⟨p.a.name.toArray⟩, .int .i64 p.nv, .int .i64 1, .slice none 0 0] 45
    refine Src.ofSlice _ Tryz.underlying24 ⟨w2.heap.size, 0, none⟩ 1 1 _ rfl (fun j u hu => ?_) (blC_one _ ⟨_, _, _, rfl⟩)
    rw [Go.WideShapes.add_plain, Nat.zero_add]
    exact (hk.cell j).trans (by rw [← hu]; simp [blC])
  refine readyL (rs := [23]) (by kernel_rfl) (by simp) ?_
  refine AllL.cons rfl (fun K hK => ?_) AllL.nil
  refine step_append_rw (by rfl) (.tmp 35) (.tmp 52) 24 24 (by rfl) 45 i0 (.agg #[.int .i64 0, .string ⟨#[]⟩, .int .i64 0, .int .i64 0, .slice none 0 0]) 5 64 Tryz.underlying24 hi hz0 hz1 hz2 (by rfl) (by simp [Act.eval, Act.put]) hrb (.slice (some ⟨w2.heap.size, 0, none⟩) 1 1) 1 _ (by simp [Act.eval, Act.put]) hsrc (by simp only [maxLen]; omega) (by omega) ?_
  intro v3 w3 G3 hr3 hm3 hg3
  have hmw : Mvs (fun k => some k = p.gb) w2 w3 := (((Mvs.refl (fun k => some k = p.gb) w2).drew).alloc _).trans hm3
  have hXb : ¬ some X = p.gb := fun e => (HS2.out.own X (by rw [e]; simp [PA.blocks])).2 rfl
  have hb3 := hmw.blk HS2.out.blk hXb
  have HT1 : w3.cell? ⟨X, 0, none⟩ = some (.slice Ab nb cb) ∧ w3.cell? ⟨X, 6, none⟩ = some (.int .i64 p.a.user) ∧ w3.cell? ⟨X, 11, none⟩ = some (.string ⟨p.a.name.toArray⟩) ∧ w3.cell? ⟨X, 3, none⟩ = some (.int .i64 p.nv) := ⟨(hb3.cell 0).trans (congrArg some e1), hb3.cell 6, hb3.cell 11, hb3.cell 3⟩
  refine hK.out _ _ (fun _ => HT1) (fun _ => ?_)
  clear hK K HT0
  have HT0 := HT1
  clear HT1
  try simp only [Act.put, List.getElem_toArray, List.getElem_cons_succ, List.getElem_cons_zero, List.setIfInBounds_toArray, List.set_cons_zero, List.set_cons_succ]
  refine takeW (i := 24) (v := .pointer (some ⟨X, 0, none⟩)) rfl (by kernel_rfl) (by kernel_rfl) (by kernel_rfl) rfl (fun _ _ _ h => h) (fun _ => HT0) (Or.inl ⟨by rfl, fun W _ => by go_simp⟩) ?_
  try simp only [Act.put, List.getElem_toArray, List.getElem_cons_succ, List.getElem_cons_zero, List.setIfInBounds_toArray, List.set_cons_zero, List.set_cons_succ]
  refine takeW (i := 25) (v := .pointer (some ⟨X, 0, none⟩)) rfl (by kernel_rfl) (by kernel_rfl) (by kernel_rfl) rfl (fun _ _ _ h => h) (fun _ => HT0) (Or.inl ⟨by rfl, fun W _ => by go_simp⟩) ?_
  try simp only [Act.put, List.getElem_toArray, List.getElem_cons_succ, List.getElem_cons_zero, List.setIfInBounds_toArray, List.set_cons_zero, List.set_cons_succ]
  refine takeW (i := 26) (v := .pointer (some ⟨X, 0, none⟩)) rfl (by kernel_rfl) (by kernel_rfl) (by kernel_rfl) rfl (fun _ _ _ h => h) (fun _ => HT0) (Or.inl ⟨by rfl, fun W _ => by go_simp⟩) ?_
  try simp only [Act.put, List.getElem_toArray, List.getElem_cons_succ, List.getElem_cons_zero, List.setIfInBounds_toArray, List.set_cons_zero, List.set_cons_succ]
  obtain ⟨A3, c3, hv3⟩ := hr3.form
  subst hv3
  have e0 := HT0.1
  have y0 := hb3.frozen 0
  refine readyL (rs := [27]) (by kernel_rfl) (by simp) ?_
  refine AllL.cons rfl (fun K hK => ?_) AllL.nil
  try simp only [List.getElem_toArray, List.getElem_cons_succ, List.getElem_cons_zero]
  go_simp
  refine hK.out _ _ (vac (by kernel_rfl)) (fun _ => ?_)
  clear hK K HT0
  try simp only [Act.put, List.getElem_toArray, List.getElem_cons_succ, List.getElem_cons_zero, List.setIfInBounds_toArray, List.set_cons_zero, List.set_cons_succ]
  refine doneL (by kernel_rfl) ?_ _
  have hA := HS2.out.boxes (v' := .slice A3 (nb + 1) c3) (lb' := p.lb ++ [(⟨⟨p.a.user, p.a.name, p.nv, 1, []⟩, .slice none 0 0, none⟩ : BL)]) (G' := G3) hmw (by
    rw [List.length_append, List.flatMap_append, hnb.out]
    simpa using hr3) (hg3.imp id (fun e => ⟨_, e, by simp⟩)) (fun x hx => by
    rcases List.mem_append.1 hx with hx | hx
    · exact .inl ⟨x, hx, rfl, rfl, rfl⟩
    · rw [List.mem_singleton.1 hx]
      exact .inr ⟨rfl, rfl, rfl⟩) (by rw [List.map_append]; exact sep_snoc HS2.out.sepb)
  rcases id hr3.2 with ⟨_, h0, _⟩ | ⟨g, o, cap, eg1, eg2, hcap, _⟩
  · omega
  cases eg2
  subst eg1
  have hn4 : (p.lb ++ [(⟨⟨p.a.user, p.a.name, p.nv, 1, []⟩, .slice none 0 0, none⟩ : BL)]).length = nb + 1 := by rw [List.length_append, hnb.out]; rfl
  have HSo := hide (psortBox_any (lb := p.lb ++ [(⟨⟨p.a.user, p.a.name, p.nv, 1, []⟩, .slice none 0 0, none⟩ : BL)]) (g := g) (o := o) (cap := c3) (by
    have := hA.rb
    have e : ({ p with lb := p.lb ++ [(⟨⟨p.a.user, p.a.name, p.nv, 1, []⟩, .slice none 0 0, none⟩ : BL)], vb := .slice (some ⟨g, o, none⟩) (nb + 1) c3, gb := some g } : PA).vb = .slice (some ⟨g, o, none⟩) (p.lb ++ [(⟨⟨p.a.user, p.a.name, p.nv, 1, []⟩, .slice none 0 0, none⟩ : BL)]).length c3 := by rw [hn4]
    rwa [e] at this) (fun x hx => by obtain ⟨A, c, e⟩ := (hA.rm x hx).form; exact ⟨_, _, _, e⟩) (by rw [hn4]; omega))
  rw [hn4] at HSo
  have HA := hide hA
  clear hA hr3 hmw hb3 hm3 hg3 HS2 hrb hsrc hXb e0 y0
  generalize w3.setCell ⟨X, 0, none⟩ (.slice (some ⟨g, o, none⟩) (nb + 1) c3) = W4 at *
  have q0 : W4.cell? ⟨X, 0, none⟩ = some (.slice (some ⟨g, o, none⟩) (nb + 1) c3) := HA.out.blk.cell 0
  have hgX : ¬ X = g := fun e => (HA.out.own g (by simp [PA.blocks])).2 e.symm
  have hw1 := wrap1 hv.1 (by omega)
  go_wp2_with (go_at_call 81; refine HSo.out.mono ?_; rintro e w5 ⟨rfl, hmv, lb2, hperm, hsort, hcells⟩; have hb5 := hmv.blk HA.out.blk hgX; have q3 : w5.cell? ⟨X, 3, none⟩ = some (.int .i64 p.nv) := hb5.cell 3; have y3 := hb5.frozen 3; replace hperm := hide hperm; replace hsort := hide hsort; replace hcells := hide hcells; replace hmv := hide hmv)
  go_ret
  have hb6 := hb5.set 3 (.int .i64 (p.nv + 1))
  have hm6 : Mvs (fun k => some k = some g ∨ k = X) W4 (w5.setCell ⟨X, 3, none⟩ (.int .i64 (p.nv + 1))) := (hmv.out.mono (fun _ _ e => .inl (by rw [e]))).setCell _ _ (fun _ => .inr rfl)
  have hl2 : lb2.length = nb + 1 := by rw [hperm.out.length_eq, hn4]
  have hgw := (HA.out.own g (by simp [PA.blocks])).1
  have f3 : Below w0.heap.size w0 (w5.setCell ⟨X, 3, none⟩ (.int .i64 (p.nv + 1))) := HA.out.bel.trans (hm6.below (fun k hk e => by
    rcases e with e | e
    · cases e; omega
    · have := HA.out.hX; omega) HA.out.bel.size)
  have f1 : ∀ w2, Mvs (fun k => k < w0.heap.size) (w5.setCell ⟨X, 3, none⟩ (.int .i64 (p.nv + 1))) w2 → StR w2 (.agg #[.slice (some ⟨g, o, none⟩) (nb + 1) c3, p.vs, p.vq, .int .i64 (p.nv + 1), .int .i64 p.ni]) ⟨lb2.map BL.b, p.ls, p.lq.map QL.q, p.nv + 1, p.ni⟩ ∧ RdE 1 IntAt w2 p.vu p.us := fun w2 hw2 => HA.out.sorted (lb2 := lb2) (g := g) (o := o) (n := nb + 1) (c := c3) rfl rfl ((hm6.mono (fun k _ e => e.imp id (fun e => Or.inl e))).trans' hw2 (fun k _ e => .inr (.inr e))) hl2 (fun x hx => hperm.out.mem_iff.1 hx) (fun i hi j hj => by
    rw [hw2.cell (a := ⟨g, o + i * 5 + j, none⟩) (by have := HA.out.rb.lt g rfl; exact Nat.lt_of_lt_of_le this hm6.size) (by show ¬ g < w0.heap.size; omega), World.cell?_setCell_other _ ⟨X, 3, none⟩ ⟨g, o + i * 5 + j, none⟩ _ (fun e => hgX (congrArg Addr.block e))]
    exact hcells.out i hi j hj) (p.nv + 1) p.ni
  refine ⟨rfl, lb2.map BL.b, ⟨f3, HA.out.hX, hb6.lt, _, _, _, _, hb6.cell 0, hb6.cell 1, hb6.cell 2, hb6.cell 3, hb6.cell 4, hb6.cell 17, hb6.cell 18, f1⟩, ?_, fun i j hi hj hij => ?_⟩
  · have := hperm.out.map BL.b
    rwa [List.map_append] at this
  · rw [List.length_map] at hi hj
    rw [List.getElem_map, List.getElem_map]
    exact hsort.out i j hi hj hij
end Go.Proofs.YtdbmaobjikjifaaGreatDoorR

end
section
set_option linter.unusedVariables false
set_option linter.unusedSimpArgs false
namespace Go.Proofs.YtdbmaobjikjifaaGreatDoorR
open Go.RowKit Go.Shelf
theorem fiP_any {α : Type} (xs : List α) (p : α → Bool) : decide (0 ≤ fiP (xs.findIdx? p)) = xs.any p := by
  cases h : xs.findIdx? p with
  | none =>
    have := List.findIdx?_eq_none_iff.1 h
    have e : xs.any p = false := by
      rw [List.any_eq_false]
      intro x hx
      rw [this x hx]
      simp
    rw [e]
    rfl
  | some i =>
    obtain ⟨hi, h1, _⟩ := List.findIdx?_eq_some_iff_getElem.1 h
    have e : xs.any p = true := List.any_eq_true.2 ⟨_, List.getElem_mem hi, h1⟩
    rw [e]
    exact decide_eq_true (by show (0 : Int) ≤ (i : Int); omega)
set_option maxRecDepth 20000 in
set_option maxHeartbeats 2000000 in
theorem pcontBox_any {xs : List Bx} {v : Value} {w : World} (h : RdE 5 BxAt w v xs) (hl : xs.length ≤ 1000000) (p : Bx → Bool) (F : Nat) (fi ca : Array Value) (eg : ∀ args w, (callFunc F args).run Tryz.prog w = .ok (.enter F args) w)
    (hp : ∀ i (hi : i < xs.length) v W, Below w.heap.size w W → BxV W v xs[i] → Calls Tryz.prog F (fi ++ #[v] ++ ca) W fun e w' => e = .returned (.bool (p xs[i])) ∧ Below W.heap.size W w') :
    Calls Tryz.prog 83 #[v, .func (.func F) fi ca] w fun e w' => e = .returned (.bool (xs.any p)) ∧ Below w.heap.size w w' := by
  have HC := hide (pidxBox_any h hl p F fi ca eg hp)
  have HF := hide (fiP_any xs p)
  obtain ⟨A, c, rfl⟩ := h.form
  clear h hp eg
  generalize xs.any p = T at *
  generalize fiP (xs.findIdx? p) = r at *
  have hr : decide (0 ≤ r) = T := HF.out
  go_enter Tryz.func83, Tryz.ntmps83
  go_wp2_with (go_at_call 15; refine HC.out.mono ?_; rintro e w1 ⟨rfl, hb1⟩; replace hb1 := hide hb1)
  go_ret
  exact ⟨by first | rfl | (rw [← hr]; rfl), hb1.out⟩
set_option maxRecDepth 20000 in
set_option maxHeartbeats 8000000 in
theorem prename_no {w0 w : World} {X : Nat} {p : PA} {ea : Nat → Addr} (h : AS w0 w X p) (hE : Errs w0 ea) (hl : p.lb.length ≤ 1000000) (hbn : ∀ x ∈ p.st.boxes, x.name.length ≤ 1000000) (h2 : p.a.name.length ≤ 1000000) (h3 : p.a.dst.length ≤ 1000000) (hq : qRen p ≠ 0) :
    Calls Tryz.prog 51 #[.pointer (some ⟨X, 0, none⟩)] w fun e w' => e = .returned (erV ea (qRen p)) ∧ Below w.heap.size w w' := by
  have H1 := hide (pplace_any h p.a.name hl)
  obtain ⟨Ab, cb, e1⟩ := h.rb.form
  have HB : Hid (∀ W, Below w.heap.size w W → W.cell? ⟨X, 0, none⟩ = some (.slice Ab p.lb.length cb)) := fun W hW => by rw [← e1]; exact (h.blk.below hW h.blk.lt).cell 0
  have k11 : w.cell? ⟨X, 11, none⟩ = some (.string ⟨p.a.name.toArray⟩) := h.blk.cell 11
  have k12 : w.cell? ⟨X, 12, none⟩ = some (.string ⟨p.a.dst.toArray⟩) := h.blk.cell 12
  have hst := fun (W : World) (hW : AS w0 W X p) => blC_rd hW.rb (fun x hx => msC_rd (hW.rm x hx))
  rw [e1] at hst
  have hbx : p.lb.map BL.b = p.st.boxes := rfl
  rw [hbx] at hst
  have HL : Hid (∀ W, Below w.heap.size w W → Calls Tryz.prog 83 #[.slice Ab p.lb.length cb, .func (.func 84) #[.pointer (some ⟨X, 0, none⟩)] #[]] W fun e w' => e = .returned (.bool (p.st.boxes.any (lngB p))) ∧ Below W.heap.size W w') := fun W hW => by
    have := pcontBox_any (hst W (h.below hW)) (by rw [boxes_len]; exact hl) (lngB p) 84 #[.pointer (some ⟨X, 0, none⟩)] #[] (enters_of Tryz.func84 (by kernel_rfl) rfl) (fun i hi v W2 hW2 hv => plong_any ((h.below hW).below hW2) hv (hbn _ (List.getElem_mem hi)) h2 h3)
    exact this
  have HH : Hid (∀ W, Below w.heap.size w W → Calls Tryz.prog 83 #[.slice Ab p.lb.length cb, .func (.func 85) #[.pointer (some ⟨X, 0, none⟩)] #[]] W fun e w' => e = .returned (.bool (p.st.boxes.any (hldB p))) ∧ Below W.heap.size W w') := fun W hW => by
    have := pcontBox_any (hst W (h.below hW)) (by rw [boxes_len]; exact hl) (hldB p) 85 #[.pointer (some ⟨X, 0, none⟩)] #[] (enters_of Tryz.func85 (by kernel_rfl) rfl) (fun i hi v W2 hW2 hv => pheld_any ((h.below hW).below hW2) hv (hbn _ (List.getElem_mem hi)) h2 h3 hl hbn)
    exact this
  have HE3 : Hid (∀ W, Below w.heap.size w W → W.cell? ⟨7, 0, none⟩ = some (.iface 216 (.pointer (some (ea 2))))) := fun W hW => (hE.below (h.bel.trans (hW.mono h.bel.size))).cell 2 (by omega)
  have HE4 : Hid (∀ W, Below w.heap.size w W → W.cell? ⟨3, 0, none⟩ = some (.iface 216 (.pointer (some (ea 3))))) := fun W hW => (hE.below (h.bel.trans (hW.mono h.bel.size))).cell 3 (by omega)
  have HE5 : Hid (∀ W, Below w.heap.size w W → W.cell? ⟨6, 0, none⟩ = some (.iface 216 (.pointer (some (ea 4))))) := fun W hW => (hE.below (h.bel.trans (hW.mono h.bel.size))).cell 4 (by omega)
  have HE6 : Hid (∀ W, Below w.heap.size w W → W.cell? ⟨4, 0, none⟩ = some (.iface 216 (.pointer (some (ea 5))))) := fun W hW => (hE.below (h.bel.trans (hW.mono h.bel.size))).cell 5 (by omega)
  obtain ⟨V, HV⟩ : ∃ V, Hid (V = erV ea (qRen p)) := ⟨_, hide rfl⟩
  rw [← HV.out]
  unfold qRen at hq HV
  clear h hst e1 hbx
  have hzz : p.lb.length = p.st.boxes.length := (boxes_len p).symm
  generalize p.lb.length = nb at *
  generalize p.st.boxes.any (lngB p) = T3 at *
  generalize p.st.boxes.any (hldB p) = T6 at *
  clear hbn hzz
  by_cases gn : p.a.name = inboxU
  · rw [if_pos (Or.inl gn)] at HV
    rw [gn] at k11
    unfold inboxU at k11
    have c4 := HE4.out w (Below.refl _ _)
    have HF : Hid (V = .iface 216 (.pointer (some (ea 3)))) := by show _ = _; rw [HV.out]; rfl
    go_enter Tryz.func51, Tryz.ntmps51
    go_wp2
    go_ret
    exact ⟨by rw [HF.out]; rfl, Below.refl _ _⟩
  have gnb : (p.a.name == [73, 78, 66, 79, 88]) = false := beq_eq_false_iff_ne.2 gn
  by_cases gd : p.a.dst = inboxU
  · rw [if_pos (Or.inr gd)] at HV
    rw [gd] at k12
    unfold inboxU at k12
    have c4 := HE4.out w (Below.refl _ _)
    have HF : Hid (V = .iface 216 (.pointer (some (ea 3)))) := by show _ = _; rw [HV.out]; rfl
    have gn' : ¬ p.a.name = [73, 78, 66, 79, 88] := gn
    go_enter Tryz.func51, Tryz.ntmps51
    go_wp2
    go_ret
    exact ⟨by rw [HF.out]; rfl, Below.refl _ _⟩
  have gdb : (p.a.dst == [73, 78, 66, 79, 88]) = false := beq_eq_false_iff_ne.2 gd
  have gn' : ¬ p.a.name = [73, 78, 66, 79, 88] := gn
  have gd' : ¬ p.a.dst = [73, 78, 66, 79, 88] := gd
  rw [if_neg (by rintro (h | h); exact gn h; exact gd h)] at HV hq
  clear HE4 gn gd
  cases hf : poFind p.st.boxes p.a.user p.a.name with
  | none =>
    rw [hf] at H1 HV hq
    change Hid (Calls _ _ _ _ fun e w' => e = .returned (.int .i64 (-1)) ∧ _) at H1
    rw [if_pos rfl] at HV
    have HF : Hid (V = .iface 216 (.pointer (some (ea 4)))) := by show _ = _; rw [HV.out]; rfl
    clear HV hf hq
    go_enter Tryz.func51, Tryz.ntmps51
    go_wp2_with (go_at_call 80; refine H1.out.mono ?_; rintro e w1 ⟨rfl, hb1⟩; have c0 := HB.out _ hb1; have c5 := HE5.out _ hb1; replace hb1 := hide hb1)
    go_ret
    exact ⟨by rw [HF.out]; rfl, hb1.out⟩
  | some i =>
    rw [hf] at H1 HV hq
    change Hid (Calls _ _ _ _ fun e w' => e = .returned (.int .i64 (i : Int)) ∧ _) at H1
    rw [if_neg (by simp)] at HV hq
    have hi0 : (0 : Int) ≤ i := by omega
    have hi1 : ¬ (i : Int) < 0 := by omega
    cases T3 with
    | true =>
      rw [if_pos rfl] at HV
      have HF : Hid (V = .iface 216 (.pointer (some (ea 2)))) := by show _ = _; rw [HV.out]; rfl
      clear HV hf hq
      go_enter Tryz.func51, Tryz.ntmps51
      go_wp2_with (first | (go_at_call 80; refine H1.out.mono ?_; rintro e w1 ⟨rfl, hb1⟩; have c0 := HB.out _ hb1; have c5 := HE5.out _ hb1; replace hb1 := hide hb1) | (go_at_call 83; refine (HL.out _ hb1.out).mono ?_; rintro e w2 ⟨rfl, hb2⟩; have hb12 := hide (hb1.out.trans (hb2.mono hb1.out.size)); have c02 := HB.out _ hb12.out; have c3 := HE3.out _ hb12.out; clear hb2))
      go_ret
      exact ⟨by rw [HF.out]; rfl, hb12.out⟩
    | false =>
      rw [if_neg (by simp)] at HV hq
      cases T6 with
      | false => exact absurd (by rw [if_neg (by simp)]) hq
      | true =>
        rw [if_pos rfl] at HV
        have HF : Hid (V = .iface 216 (.pointer (some (ea 5)))) := by show _ = _; rw [HV.out]; rfl
        clear HV hf hq
        go_enter Tryz.func51, Tryz.ntmps51
        go_wp2_with (first | (go_at_call 80; refine H1.out.mono ?_; rintro e w1 ⟨rfl, hb1⟩; have c0 := HB.out _ hb1; have c5 := HE5.out _ hb1; replace hb1 := hide hb1) | (go_at_call 83; refine (HH.out _ hb12.out).mono ?_; rintro e w3 ⟨rfl, hb3⟩; have hb13 := hide (hb12.out.trans (hb3.mono hb12.out.size)); have c6 := HE6.out _ hb13.out; clear hb3) | (go_at_call 83; refine (HL.out _ hb1.out).mono ?_; rintro e w2 ⟨rfl, hb2⟩; have hb12 := hide (hb1.out.trans (hb2.mono hb1.out.size)); have c02 := HB.out _ hb12.out; have c3 := HE3.out _ hb12.out; clear hb2))
        go_ret
        exact ⟨by rw [HF.out]; rfl, hb13.out⟩
end Go.Proofs.YtdbmaobjikjifaaGreatDoorR

end
