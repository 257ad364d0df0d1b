/- Fields of package header. -/
import Derived.Test.YtegplihhbdmnbaaGreatDoorU09
namespace Go.Proofs.YtegplihhbdmnbaaGreatDoor
open Go.RowKit Go.Shelf
attribute [local go_sem] Oper.semAt_some
/-- The state between two fields. -/
def SI (w : World) (m : List UInt8) (pre : List Fd) (W : World) : Prop :=
  (∃ v, Blk W (w.heap.size + 1 + 1 + 1) #[v] 148 ∧ Fds (w.heap.size + 7) W v pre) ∧ Blk W (w.heap.size + 1) #[.slice none 0 0] 148 ∧ Blk W (w.heap.size + 1 + 1) #[.nilIface] 28 ∧ Blk W w.heap.size #[.string ⟨m.toArray⟩] 9 ∧ Below w.heap.size w W ∧ pre.length ≤ 200
theorem SI.keep {w W W' : World} {m : List UInt8} {pre : List Fd} {S : Nat → Prop} (h : SI w m pre W) (hm : Mvs S W W') (h1 : ∀ k, k < w.heap.size + 4 → ¬ S k) (h2 : ∀ k, w.heap.size + 7 ≤ k → ¬ S k) : SI w m pre W' := by
  obtain ⟨⟨v, b1, b2⟩, b3, b4, b5, b6, b7⟩ := h
  exact ⟨⟨v, hm.blk b1 (h1 _ (by omega)), b2.keep hm h2⟩, hm.blk b3 (h1 _ (by omega)), hm.blk b4 (h1 _ (by omega)), hm.blk b5 (h1 _ (by omega)), below_mvs b6 hm (fun k hk => h1 k (by omega)) (Nat.le_refl _), b7⟩
def SX (w : World) (m : List UInt8) (ea : Addr) (c : Code) (W : World) : Prop :=
  c = .ret ∧ Blk W (w.heap.size + 1) #[.slice none 0 0] 148 ∧ Blk W (w.heap.size + 1 + 1) #[errP ea] 28 ∧ Below w.heap.size w W ∧ 200 < (hd (splitS m) 0).1.length
theorem SX.keep {w W W' : World} {m : List UInt8} {ea : Addr} {c : Code} {S : Nat → Prop} (h : SX w m ea c W) (hm : Mvs S W W') (h1 : ∀ k, k < w.heap.size + 4 → ¬ S k) : SX w m ea c W' :=
  ⟨h.1, hm.blk h.2.1 (h1 _ (by omega)), hm.blk h.2.2.1 (h1 _ (by omega)), below_mvs h.2.2.2.1 hm (fun k hk => h1 k (by omega)) (Nat.le_refl _), h.2.2.2.2⟩
/-- What Fields answers. -/
def FOut (m : List UInt8) (ea : Addr) (w : World) (e : Ending) (w' : World) : Prop := Below w.heap.size w w' ∧
  ((200 < (hd (splitS m) 0).1.length ∧ e = .returned (.tuple #[.slice none 0 0, errP ea])) ∨
   ((hd (splitS m) 0).1.length ≤ 200 ∧ ∃ v, e = .returned (.tuple #[v, .nilIface]) ∧ Fds w.heap.size w' v (hd (splitS m) 0).1))
theorem leaveF {W w : World} {m : List UInt8} {ea : Addr} {v1 v2 : Value} {tmps : Array Value} {r1 r2 : Nat} (h1 : Blk W r1 #[v1] 148) (h2 : Blk W r2 #[v2] 28) (hO : FOut m ea w (.returned (.tuple #[v1, v2])) W)
    (ht1 : tmps[2]? = some (.pointer (some ⟨r1, 0, none⟩)) := by rfl) (ht2 : tmps[3]? = some (.pointer (some ⟨r2, 0, none⟩)) := by rfl) :
    LeavesInM Fence.wide 5 Tryz.prog Tryz.f111 tmps (FOut m ea w) [] .returning W := by
  have c1 := h1.cell
  have c2 := h2.cell
  refine ⟨.tuple #[v1, v2], ?_, hO⟩
  simp [results, Tryz.results111, go_sem, ht1, ht2, c1, c2]
set_option linter.unusedSimpArgs false in
set_option linter.unusedVariables false in
set_option maxRecDepth 20000 in
set_option maxHeartbeats 4000000 in
theorem fields_any (m : List UInt8) (w : World) (ea : Addr) (hE : 200 < (hd (splitS m) 0).1.length → EF w ea) (hm : m.length ≤ 1000000) :
    Calls Tryz.prog 111 #[.string ⟨m.toArray⟩] w (FOut m ea w) := by
  obtain ⟨i0, hi, hz0, hz1, hz2⟩ := info_three fdInfo
  have hsz0 := size_lit m
  have HM0 := hide hm
  have HEr := hide hE
  clear hE
  refine (callsIn_wide (n := 5)).1 ?_
  refine callsIn_of_wp_marks Tryz.func111 rfl trivial ?_ rfl
  simp only [Tryz.ntmps111, List.size_toArray, List.length_cons, List.length_nil, Nat.reduceAdd, Nat.reduceSub, Array.replicate_succ, Array.replicate_zero, List.push_toArray, List.append_toArray, List.nil_append, List.cons_append]
  gi_wp2_with (first
      | (refine ⟨trivial, ?_⟩; gi_at_call 133; refine (callsIn_wide.2 (places_any m _)).mono ?_; rintro e w' ⟨rfl, rfl⟩))
  obtain ⟨W0, hW0⟩ : ∃ W0, (((((w.alloc (.cells #[.string ⟨m.toArray⟩] 9)).alloc (.cells #[.slice none 0 0] 148)).alloc (.cells #[.nilIface] 28)).alloc (.cells #[.slice none 0 0] 148)).alloc (.cells #[.string ⟨m.toArray⟩] 9)) = W0 := ⟨_, rfl⟩
  have hsz : W0.heap.size = w.heap.size + 5 := by rw [← hW0]; simp
  have hBs : Blk W0 (w.heap.size + 1 + 1 + 1 + 1) #[.string ⟨m.toArray⟩] 9 := by
    rw [← hW0]
    have := Blk.new ((((w.alloc (.cells #[.string ⟨m.toArray⟩] 9)).alloc (.cells #[.slice none 0 0] 148)).alloc (.cells #[.nilIface] 28)).alloc (.cells #[.slice none 0 0] 148)) #[.string ⟨m.toArray⟩] 9
    simpa using this
  have hB3 : Blk W0 (w.heap.size + 1 + 1 + 1) #[.slice none 0 0] 148 := by
    rw [← hW0]
    have := Blk.new (((w.alloc (.cells #[.string ⟨m.toArray⟩] 9)).alloc (.cells #[.slice none 0 0] 148)).alloc (.cells #[.nilIface] 28)) #[.slice none 0 0] 148
    simp at this
    exact this.alloc _
  have hI0 : SI w m [] W0 := by
    refine ⟨⟨_, hB3, Fds.nil _ _⟩, ?_⟩
    rw [← hW0]
    exact ⟨(((Blk.new1 w _ _ _).alloc _).alloc _).alloc _, ((Blk.new2 w _ _ _ _).alloc _).alloc _, ((((Blk.new w _ _).alloc _).alloc _).alloc _).alloc _, ((((((Below.refl _ _).alloc (Nat.le_refl _) _).alloc (by simp) _).alloc (by simp; omega) _).alloc (by simp; omega) _).alloc (by simp; omega) _), by simp⟩
  rw [hW0]
  clear hW0 hB3
  have HSZ := hide hsz
  have hsub : ∀ k, (k < w.heap.size + 4 ∨ w.heap.size + 7 ≤ k) → ¬ Own3 (w.heap.size + 1 + 1 + 1 + 1) W0.heap.size k := by rintro k hk (h | h | h) <;> omega
  clear hsz
  refine range_places (by omega) (s := m) (Bs := w.heap.size + 1 + 1 + 1 + 1) hm rfl rfl hBs (SI w m) (SX w m ea)
    (fun pre W W' h _ hm => h.keep hm (fun k hk => hsub k (.inl hk)) (fun k hk => hsub k (.inr hk)))
    (fun c W W' h _ hm => h.keep hm (fun k hk => hsub k (.inl hk))) hI0
    (fun b x => { tmps := #[.string ⟨m.toArray⟩, .pointer (some ⟨w.heap.size, 0, none⟩), .pointer (some ⟨w.heap.size + 1, 0, none⟩), .pointer (some ⟨w.heap.size + 1 + 1, 0, none⟩), .pointer (some ⟨w.heap.size + 1 + 1 + 1, 0, none⟩), .string ⟨x.name.toArray⟩, .pointer (some ⟨b, 0, none⟩), .string ⟨m.toArray⟩,
      .func (.func 147) #[] #[.pointer (some ⟨w.heap.size + 1 + 1 + 1 + 1, 0, none⟩)], .string ⟨x.name.toArray⟩, .agg (plc x), undef, undef, undef, undef, undef, undef, undef, undef, undef, undef, undef, undef, undef, undef, undef, undef, undef, undef, undef, undef, undef, undef, undef, undef, undef], defers := [] }) ?assign ?body ?done ?stop
  case assign =>
    intro l x W K hK
    obtain ⟨p, v, f0, f1⟩ := x
    simp only [plc] at hK ⊢
    gi_wp2
    exact hK _ _ ((Below.refl _ _).alloc (Nat.le_refl _) _) (Blk.new _ _ _) (Nat.le_refl _)
  case body =>
    rintro l xs f W b ⟨⟨v, b1, b2⟩, b3, b4, b5, b6, b7⟩ hUU hpost hlt hbk hr hu hd
    have hmem : f ∈ (Go.Proofs.YtegplihhbdmnbaaGreatDoor.hd (splitS m) 0).1 := by
      obtain ⟨post, hp⟩ := hpost
      rw [← hp]
      simp
    have hgood := good_hd hmem
    have HPO := hide hpost
    obtain ⟨p, V, f0, f1⟩ := f
    have hg1 : f0 + p.length + 1 ≤ f1 := hgood.lo
    have hg2 : f1 ≤ m.length := hgood.hi
    have HVal : Hid (valB ((m.drop (f0 + p.length + 1)).take (f1 - (f0 + p.length + 1))) = V) := hgood.val
    have hbsz := b6.size
    have hc1 := b1.cell 0
    have hf1 := b1.frozen 0
    have hlt1 := b1.lt
    have B1 := hide b1
    have B2 := hide b3
    have B3 := hide b4
    have B4 := hide b5
    have B5 := hide b6
    have HBK := hide hbk
    have HXL := hide b7
    obtain ⟨G, hr', hg'⟩ := b2
    obtain ⟨A, c, rfl⟩ := hr'.form
    have hr := hide hr'
    have hg := hide hg'
    have HUD := hide (And.intro hu hd)
    have hbG : ¬ some b = G := by
      intro e
      obtain ⟨U, ⟨⟨vU, u1, GU, hrU, _⟩, _⟩, hUb, hUW⟩ := hUU
      have hlt3 := u1.lt
      have e1 : W.heap[w.heap.size + 1 + 1 + 1]? = some (.cells #[vU] 148) := (hUW _ (hsub _ (.inl (by omega))) hlt3).trans u1
      have e2 : W.heap[w.heap.size + 1 + 1 + 1]? = some (.cells #[.slice A xs.length c] 148) := b1
      rw [e2] at e1
      have e3 : vU = .slice A xs.length c := by simpa using e1.symm
      subst e3
      rcases hr'.2 with ⟨h0, _, h1⟩ | ⟨g, o, cap, h0, h1, _⟩
      · rw [h1] at e
        cases e
      · rcases hrU.2 with ⟨h2, _, _⟩ | ⟨g', o', cap', _, h3, _, _, h4, _⟩
        · rw [h1] at h2
          cases h2
        · rw [h1] at h3
          have h5 : g = g' := (by simpa using h3 : (g = g' ∧ o = o') ∧ cap = cap').1.1
          have h6 : b = g := by rw [h0] at e; simpa using e
          omega
    have hGn : ∀ k, k < w.heap.size + 7 → ¬ some k = G := fun k hk e => by have := hg.out k e.symm; omega
    have hsb := hsub b
    have hbl : b < W.heap.size := hbk.lt
    clear b1 b3 b4 b5 b6 b7 hpost hu hd hr' hg' hmem hgood hUU
    by_cases hfull : xs.length = 200
    · have HBAD : Hid (200 < (Go.Proofs.YtegplihhbdmnbaaGreatDoor.hd (splitS m) 0).1.length) := by
        obtain ⟨post, hp⟩ := HPO.out
        show _ < _
        rw [← hp]
        simp
        omega
      have hce : W.cell? ⟨10, 0, none⟩ = some ((.iface 183 (.pointer (some ea)))) := by
        exact (B5.out.cell (p := ⟨10, 0, none⟩) (HEr.out HBAD.out).low).trans (HEr.out HBAD.out).cell
      have hle : 10 < w.heap.size := (HEr.out HBAD.out).low
      have q2 := B2.out.cell 0
      have q2f := B2.out.frozen 0
      have q3 := B3.out.cell 0
      have q3f := B3.out.frozen 0
      clear hr hg hGn HVal hg1 hg2
      rw [hfull] at hc1
      gi_wp2
      refine regionI 2 (fun W => W.cell? ⟨10, 0, none⟩ = some ((.iface 183 (.pointer (some ea))))) (by kernel_rfl) (by kernel_rfl) ?_
      have HT0 : W.drew.cell? ⟨10, 0, none⟩ = some ((.iface 183 (.pointer (some ea)))) := hce
      refine takeL (i := 0) (v := (.iface 183 (.pointer (some ea)))) rfl (by kernel_rfl) (by kernel_rfl) (by kernel_rfl) (by kernel_rfl) (by kernel_rfl) (fun _ _ _ h => absurd h.1 (by simp)) HT0 (Or.inl ⟨by rfl, fun W hW => by go_simp⟩) ?_
      simp only [Act.put, List.getElem_toArray, List.getElem_cons_succ, List.getElem_cons_zero, List.setIfInBounds_toArray, List.set_cons_zero, List.set_cons_succ]
      refine readyL (rs := [1]) (by kernel_rfl) (by simp) ?_
      refine AllL.cons rfl (fun K hK => ?_) AllL.nil
      try simp only [List.getElem_toArray, List.getElem_cons_succ, List.getElem_cons_zero]
      go_simp
      refine hK.out _ _ (fun _ => ?_) (fun HTn => ?_)
      · show (W.setCell ⟨w.heap.size + 1, 0, none⟩ (.slice none 0 0)).cell? ⟨10, 0, none⟩ = _
        rw [World.cell?_setCell_other]
        · exact HT0
        · intro e
          have := congrArg Addr.block e
          dsimp only at this
          omega
      clear hK K
      refine readyL (rs := [2]) (by kernel_rfl) (by simp) ?_
      refine AllL.cons rfl (fun K hK => ?_) AllL.nil
      have q3' : (W.setCell ⟨w.heap.size + 1, 0, none⟩ (.slice none 0 0)).drew.cell? ⟨w.heap.size + 1 + 1, 0, none⟩ = some .nilIface := (B3.out.set_other ⟨w.heap.size + 1, 0, none⟩ (.slice none 0 0) (by simp)).cell 0
      have q3f' : (W.setCell ⟨w.heap.size + 1, 0, none⟩ (.slice none 0 0)).drew.frozen? ⟨w.heap.size + 1 + 1, 0, none⟩ = false := (B3.out.set_other ⟨w.heap.size + 1, 0, none⟩ (.slice none 0 0) (by simp)).frozen 0
      try simp only [List.getElem_toArray, List.getElem_cons_succ, List.getElem_cons_zero]
      go_simp
      refine hK.out _ _ (vac (by kernel_rfl)) (fun _ => ?_)
      clear hK K HT0
      refine doneL (by kernel_rfl) ⟨rfl, ?_⟩ _
      gi_wp2
      refine ⟨fun k hk => ?_, rfl, ?_, ?_, ?_, HBAD.out⟩
      · have hk3 : ¬ (k < w.heap.size + 4 ∨ w.heap.size + 7 ≤ k) := fun h => hsub k h hk
        exact (heap_setCell_other (by omega)).trans ((heap_setCell_other (by omega)).trans rfl)
      · exact (B2.out.set 0 _).set_other _ _ (by simp)
      · exact (B3.out.set_other _ _ (by simp)).set 0 _
      · exact ((B5.out.drew).setCell (p := ⟨w.heap.size + 1, 0, none⟩) (by simp) _).setCell (p := ⟨w.heap.size + 1 + 1, 0, none⟩) (by simp; omega) _
    · obtain ⟨k, hk⟩ : ∃ k, xs.length = k := ⟨_, rfl⟩
      have HXK := hide hk
      rw [hk] at hr hfull hc1 B1
      have hk200 : k < 200 := by
        have := HXL.out
        rw [hk] at this
        omega
      have hfull' : ¬ ((k : Int) = 200) := by omega
      have hbT : ∀ {W' : World} {S : Nat → Prop}, Mvs S W W' → (∀ j, j < w.heap.size + 7 → ¬ S j) → ¬ S b → W'.cell? ⟨w.heap.size + 1 + 1 + 1, 0, none⟩ = some (.slice A k c) ∧ W'.cell? ⟨w.heap.size, 0, none⟩ = some (.string ⟨m.toArray⟩) ∧ W'.cell? ⟨b, 0, none⟩ = some (.int .i64 (f0 : Nat)) ∧ W'.cell? ⟨b, 1, none⟩ = some (.int .i64 (f1 : Nat)) := fun hm hs hb =>
        ⟨(hm.blk B1.out (hs _ (by omega))).cell 0, (hm.blk B4.out (hs _ (by omega))).cell 0, (hm.blk HBK.out hb).cell 0, (hm.blk HBK.out hb).cell 1⟩
      have HH : Hid (∀ W', Mvs (fun _ => False) W W' → W'.cell? ⟨w.heap.size + 1 + 1 + 1, 0, none⟩ = some (.slice A k c) ∧ W'.cell? ⟨w.heap.size, 0, none⟩ = some (.string ⟨m.toArray⟩) ∧ W'.cell? ⟨b, 0, none⟩ = some (.int .i64 (f0 : Nat)) ∧ W'.cell? ⟨b, 1, none⟩ = some (.int .i64 (f1 : Nat))) := fun W' hm => hbT hm (fun _ _ c => c) (fun c => c)
      have HHG : Hid (∀ W', Mvs (fun k => some k = G) W W' → W'.cell? ⟨w.heap.size + 1 + 1 + 1, 0, none⟩ = some (.slice A k c) ∧ W'.cell? ⟨w.heap.size, 0, none⟩ = some (.string ⟨m.toArray⟩) ∧ W'.cell? ⟨b, 0, none⟩ = some (.int .i64 (f0 : Nat)) ∧ W'.cell? ⟨b, 1, none⟩ = some (.int .i64 (f1 : Nat))) := fun W' hm => hbT hm (fun j hj => hGn j hj) hbG
      have HVa : Hid (∀ w, Calls Tryz.prog 134 #[.string ⟨((m.drop (f0 + p.length + 1)).take (f1 - (f0 + p.length + 1))).toArray⟩] w fun e w' => e = .returned (.string ⟨V.toArray⟩) ∧ Below w.heap.size w w') := fun w => by
        have := value_any ((m.drop (f0 + p.length + 1)).take (f1 - (f0 + p.length + 1))) w (by have := HM0.out; simp; omega)
        rw [HVal.out] at this
        exact this
      have e1 := ext_mid m (f0 + p.length + 1) f1
      have hpz := size_lit p
      obtain ⟨S, hS⟩ : ∃ S, (m.drop (f0 + p.length + 1)).take (f1 - (f0 + p.length + 1)) = S := ⟨_, rfl⟩
      rw [hS] at HVa e1
      obtain ⟨np, hnp⟩ : ∃ np, p.length = np := ⟨_, rfl⟩
      rw [hnp] at e1 hpz hg1
      clear hS HVal hnp hk hbT
      have g1 : ((f0 : Int) + np + 1 ≤ f1) := by omega
      have g2 : (f1 : Int) ≤ m.length := by omega
      have g3 : (0 : Int) ≤ (f0 : Int) + np + 1 := by omega
      have g4 : ((f0 : Int) + np + 1).toNat = f0 + np + 1 := by omega
      have g5 : IntKind.i64.wrap ((f0 : Int) + np) = (f0 : Int) + np := wrap_nat (by omega) (by omega)
      have g6 : IntKind.i64.wrap ((f0 : Int) + np + 1) = (f0 : Int) + np + 1 := wrap_nat (by omega) (by omega)
      gi_wp2
      refine regionI 20 (fun W => W.cell? ⟨w.heap.size + 1 + 1 + 1, 0, none⟩ = some (.slice A k c) ∧ W.cell? ⟨w.heap.size, 0, none⟩ = some (.string ⟨m.toArray⟩) ∧ W.cell? ⟨b, 0, none⟩ = some (.int .i64 (f0 : Nat)) ∧ W.cell? ⟨b, 1, none⟩ = some (.int .i64 (f1 : Nat))) (by kernel_rfl) (by kernel_rfl) ?_
      have HT0 := HH.out W.drew (Mvs.refl _ _).drew
      refine takeL (i := 0) (v := (.slice A k c)) rfl (by kernel_rfl) (by kernel_rfl) (by kernel_rfl) (by kernel_rfl) (by kernel_rfl) (fun _ _ _ h => absurd h.1 (by simp)) HT0 (Or.inl ⟨by rfl, fun W hW => by obtain ⟨t0, t1, t2, t3⟩ := hW; go_simp⟩) ?_
      simp only [Act.put, List.getElem_toArray, List.getElem_cons_succ, List.getElem_cons_zero, List.setIfInBounds_toArray, List.set_cons_zero, List.set_cons_succ]
      refine takeW (i := 1) (v := (.string ⟨p.toArray⟩)) rfl (by kernel_rfl) (by kernel_rfl) (by kernel_rfl) rfl (fun _ _ _ h => absurd h.1 (by simp)) (fun _ => HT0) (Or.inl ⟨by rfl, fun W _ => by go_simp⟩) ?_
      simp only [Act.put, List.getElem_toArray, List.getElem_cons_succ, List.getElem_cons_zero, List.setIfInBounds_toArray, List.set_cons_zero, List.set_cons_succ]
      refine takeL (i := 2) (v := (.string ⟨m.toArray⟩)) rfl (by kernel_rfl) (by kernel_rfl) (by kernel_rfl) (by kernel_rfl) (by kernel_rfl) (fun _ _ _ h => absurd h.1 (by simp)) HT0 (Or.inl ⟨by rfl, fun W hW => by obtain ⟨t0, t1, t2, t3⟩ := hW; go_simp⟩) ?_
      simp only [Act.put, List.getElem_toArray, List.getElem_cons_succ, List.getElem_cons_zero, List.setIfInBounds_toArray, List.set_cons_zero, List.set_cons_succ]
      refine takeW (i := 3) (v := (.pointer (some ⟨b, 0, none⟩))) rfl (by kernel_rfl) (by kernel_rfl) (by kernel_rfl) rfl (fun _ _ _ h => absurd h.1 (by simp)) (fun _ => HT0) (Or.inl ⟨by rfl, fun W _ => by go_simp⟩) ?_
      simp only [Act.put, List.getElem_toArray, List.getElem_cons_succ, List.getElem_cons_zero, List.setIfInBounds_toArray, List.set_cons_zero, List.set_cons_succ]
      refine takeL (i := 4) (v := (.int .i64 (f0 : Nat))) rfl (by kernel_rfl) (by kernel_rfl) (by kernel_rfl) (by kernel_rfl) (by kernel_rfl) (fun _ _ _ h => absurd h.1 (by simp)) HT0 (Or.inl ⟨by rfl, fun W hW => by obtain ⟨t0, t1, t2, t3⟩ := hW; go_simp⟩) ?_
      simp only [Act.put, List.getElem_toArray, List.getElem_cons_succ, List.getElem_cons_zero, List.setIfInBounds_toArray, List.set_cons_zero, List.set_cons_succ]
      refine takeW (i := 5) (v := (.string ⟨p.toArray⟩)) rfl (by kernel_rfl) (by kernel_rfl) (by kernel_rfl) rfl (fun _ _ _ h => absurd h.1 (by simp)) (fun _ => HT0) (Or.inl ⟨by rfl, fun W _ => by go_simp⟩) ?_
      simp only [Act.put, List.getElem_toArray, List.getElem_cons_succ, List.getElem_cons_zero, List.setIfInBounds_toArray, List.set_cons_zero, List.set_cons_succ]
      refine takeW (i := 6) (v := (.int .i64 (np : Nat))) rfl (by kernel_rfl) (by kernel_rfl) (by kernel_rfl) rfl (fun _ _ _ h => absurd h.1 (by simp)) (fun _ => HT0) (Or.inl ⟨by rfl, fun W _ => by go_simp⟩) ?_
      simp only [Act.put, List.getElem_toArray, List.getElem_cons_succ, List.getElem_cons_zero, List.setIfInBounds_toArray, List.set_cons_zero, List.set_cons_succ]
      refine takeW (i := 7) (v := (.int .i64 ((f0 : Int) + np))) rfl (by kernel_rfl) (by kernel_rfl) (by kernel_rfl) rfl (fun _ _ _ h => absurd h.1 (by simp)) (fun _ => HT0) (Or.inl ⟨by rfl, fun W _ => by go_simp⟩) ?_
      simp only [Act.put, List.getElem_toArray, List.getElem_cons_succ, List.getElem_cons_zero, List.setIfInBounds_toArray, List.set_cons_zero, List.set_cons_succ]
      refine takeW (i := 8) (v := (.int .i64 ((f0 : Int) + np + 1))) rfl (by kernel_rfl) (by kernel_rfl) (by kernel_rfl) rfl (fun _ _ _ h => absurd h.1 (by simp)) (fun _ => HT0) (Or.inl ⟨by rfl, fun W _ => by go_simp⟩) ?_
      simp only [Act.put, List.getElem_toArray, List.getElem_cons_succ, List.getElem_cons_zero, List.setIfInBounds_toArray, List.set_cons_zero, List.set_cons_succ]
      refine takeW (i := 9) (v := (.pointer (some ⟨b, 1, none⟩))) rfl (by kernel_rfl) (by kernel_rfl) (by kernel_rfl) rfl (fun _ _ _ h => absurd h.1 (by simp)) (fun _ => HT0) (Or.inl ⟨by rfl, fun W _ => by go_simp⟩) ?_
      simp only [Act.put, List.getElem_toArray, List.getElem_cons_succ, List.getElem_cons_zero, List.setIfInBounds_toArray, List.set_cons_zero, List.set_cons_succ]
      refine takeL (i := 10) (v := (.int .i64 (f1 : Nat))) rfl (by kernel_rfl) (by kernel_rfl) (by kernel_rfl) (by kernel_rfl) (by kernel_rfl) (fun _ _ _ h => absurd h.1 (by simp)) HT0 (Or.inl ⟨by rfl, fun W hW => by obtain ⟨t0, t1, t2, t3⟩ := hW; go_simp⟩) ?_
      simp only [Act.put, List.getElem_toArray, List.getElem_cons_succ, List.getElem_cons_zero, List.setIfInBounds_toArray, List.set_cons_zero, List.set_cons_succ]
      refine takeW (i := 11) (v := (.string ⟨S.toArray⟩)) rfl (by kernel_rfl) (by kernel_rfl) (by kernel_rfl) rfl (fun _ _ _ h => absurd h.1 (by simp)) (fun _ => HT0) (Or.inl ⟨by rfl, fun W _ => by go_simp⟩) ?_
      simp only [Act.put, List.getElem_toArray, List.getElem_cons_succ, List.getElem_cons_zero, List.setIfInBounds_toArray, List.set_cons_zero, List.set_cons_succ]
      refine takeW (i := 13) (v := (.pointer (some ⟨b, 0, none⟩))) rfl (by kernel_rfl) (by kernel_rfl) (by kernel_rfl) rfl (fun _ _ _ h => absurd h.1 (by simp)) (fun _ => HT0) (Or.inl ⟨by rfl, fun W _ => by go_simp⟩) ?_
      simp only [Act.put, List.getElem_toArray, List.getElem_cons_succ, List.getElem_cons_zero, List.setIfInBounds_toArray, List.set_cons_zero, List.set_cons_succ]
      refine takeL (i := 14) (v := (.int .i64 (f0 : Nat))) rfl (by kernel_rfl) (by kernel_rfl) (by kernel_rfl) (by kernel_rfl) (by kernel_rfl) (fun _ _ _ h => absurd h.1 (by simp)) HT0 (Or.inl ⟨by rfl, fun W hW => by obtain ⟨t0, t1, t2, t3⟩ := hW; go_simp⟩) ?_
      simp only [Act.put, List.getElem_toArray, List.getElem_cons_succ, List.getElem_cons_zero, List.setIfInBounds_toArray, List.set_cons_zero, List.set_cons_succ]
      refine takeW (i := 15) (v := (.pointer (some ⟨b, 1, none⟩))) rfl (by kernel_rfl) (by kernel_rfl) (by kernel_rfl) rfl (fun _ _ _ h => absurd h.1 (by simp)) (fun _ => HT0) (Or.inl ⟨by rfl, fun W _ => by go_simp⟩) ?_
      simp only [Act.put, List.getElem_toArray, List.getElem_cons_succ, List.getElem_cons_zero, List.setIfInBounds_toArray, List.set_cons_zero, List.set_cons_succ]
      refine takeL (i := 16) (v := (.int .i64 (f1 : Nat))) rfl (by kernel_rfl) (by kernel_rfl) (by kernel_rfl) (by kernel_rfl) (by kernel_rfl) (fun _ _ _ h => absurd h.1 (by simp)) HT0 (Or.inl ⟨by rfl, fun W hW => by obtain ⟨t0, t1, t2, t3⟩ := hW; go_simp⟩) ?_
      simp only [Act.put, List.getElem_toArray, List.getElem_cons_succ, List.getElem_cons_zero, List.setIfInBounds_toArray, List.set_cons_zero, List.set_cons_succ]
      refine readyL (rs := [12]) (by kernel_rfl) (by simp) ?_
      refine AllL.cons rfl (fun K hK => ?_) AllL.nil
      try simp only [List.getElem_toArray, List.getElem_cons_succ, List.getElem_cons_zero]
      go_simp
      refine (HVa.out _).mono ?_
      rintro e w2 ⟨rfl, hb2⟩
      have hm2 : Mvs (fun _ => False) W w2 := ((Mvs.refl _ _).drew).then hb2
      refine hK.out _ _ (fun _ => HH.out _ hm2) (fun HTn => ?_)
      clear hK K HT0
      have HT0 := HTn (by kernel_rfl)
      clear HTn hb2
      replace hm2 := hide hm2
      try simp only [Act.put, List.getElem_toArray, List.getElem_cons_succ, List.getElem_cons_zero, List.setIfInBounds_toArray, List.set_cons_zero, List.set_cons_succ]
      refine takeW (i := 17) (v := (.agg #[.string ⟨p.toArray⟩, .string ⟨V.toArray⟩, .int .i64 (f0 : Nat), .int .i64 (f1 : Nat)])) rfl (by kernel_rfl) (by kernel_rfl) (by kernel_rfl) rfl (fun _ _ _ h => absurd h.1 (by simp)) (fun _ => HT0) (Or.inl ⟨by rfl, fun W _ => by go_simp⟩) ?_
      simp only [Act.put, List.getElem_toArray, List.getElem_cons_succ, List.getElem_cons_zero, List.setIfInBounds_toArray, List.set_cons_zero, List.set_cons_succ]
      refine readyL (rs := [18]) (by kernel_rfl) (by simp) ?_
      refine AllL.cons rfl (fun K hK => ?_) AllL.nil
      try simp only [List.getElem_toArray, List.getElem_cons_succ, List.getElem_cons_zero]
      go_simp
      refine hK.out _ _ (fun _ => HH.out _ (hm2.out.alloc _)) (fun HTn => ?_)
      clear hK K HT0
      have HT0 := HTn (by kernel_rfl)
      clear HTn
      refine readyL (rs := [19]) (by kernel_rfl) (by simp) ?_
      refine AllL.cons rfl (fun K hK => ?_) AllL.nil
      refine step_append_rw (by rfl) (.tmp 15) (.tmp 33) 148 148 (by rfl) 180 i0 (.agg #[.string ⟨#[]⟩, .string ⟨#[]⟩, .int .i64 0, .int .i64 0]) 4 48 Tryz.underlying148 hi hz0 hz1 hz2 (by rfl) (by simp [Act.eval, Act.put]) (hr.out.keep (hm2.out.alloc _) (fun _ _ c => c)) (.slice (some ⟨w2.heap.size, 0, none⟩) 1 1) 1 (Fd.cs ⟨p, V, f0, f1⟩) (by simp [Act.eval, Act.put]) (src_fd ⟨p, V, f0, f1⟩) (by simp only [maxLen]; omega) (by omega) ?_
      intro v3 w3 G3 hr3 hm3 hg3
      obtain ⟨A3, c3, rfl⟩ := hr3.form
      have hmw : Mvs (fun k => some k = G) W w3 := ((hm2.out.alloc _).mono (fun _ _ h => h.elim)).trans' hm3 (fun _ _ h => h)
      refine hK.out _ _ (fun _ => HHG.out _ hmw) (fun HTn => ?_)
      clear hK K HT0
      have HT0 := HTn (by kernel_rfl)
      clear HTn
      simp only [Act.put, List.getElem_toArray, List.getElem_cons_succ, List.getElem_cons_zero, List.setIfInBounds_toArray, List.set_cons_zero, List.set_cons_succ]
      have N1 := hide (hmw.blk B1.out (hGn _ (by omega)))
      have N2 := hide (hmw.blk B2.out (hGn _ (by omega)))
      have N3 := hide (hmw.blk B3.out (hGn _ (by omega)))
      have N4 := hide (hmw.blk B4.out (hGn _ (by omega)))
      have N5 := hide (below_mvs B5.out hmw (fun k hk => hGn k (by omega)) (Nat.le_refl _))
      have hszw := hmw.size
      have d1 := N1.out.cell 0
      have d2 := N1.out.frozen 0
      have hs2 := hm2.out.size
      have HM := hide hmw
      have NR : Hid (Fds (w.heap.size + 7) w3 (.slice A3 (k + 1) c3) (xs ++ [⟨p, V, f0, f1⟩])) := by
        refine ⟨G3, ?_, ?_⟩
        · rw [fdC_snoc, List.length_append, HXK.out]
          exact hr3
        · rintro g rfl
          rcases hg3 with e | e
          · exact hg.out g e.symm
          · have h9 := HSZ.out
            have h10 := (Array.getElem?_eq_some_iff.1 HUD.out.2).1
            have this := Option.some.inj e
            rw [World.size_alloc] at this
            omega
      clear hr3 hm3 hg3 hmw
      refine readyL (rs := [20]) (by kernel_rfl) (by simp) ?_
      refine AllL.cons rfl (fun K hK => ?_) AllL.nil
      try simp only [List.getElem_toArray, List.getElem_cons_succ, List.getElem_cons_zero]
      go_simp
      refine hK.out _ _ (vac (by kernel_rfl)) (fun _ => ?_)
      clear hK K HT0
      refine doneL (by kernel_rfl) ⟨rfl, ?_⟩ _
      gi_wp2
      have hcast : True := trivial
      refine ⟨Kept3.mvs (S := fun k => k < w.heap.size + 4 ∨ some k = G) ((HM.out.mono (fun _ _ h => .inr h)).setCell _ _ (fun _ => .inl (by dsimp only; omega))) (fun k hk => ?_), ⟨.slice A3 (k + 1) c3, ?_, ?_⟩, ?_, ?_, ?_, ?_, ?_⟩
      · have h1 : ¬ (k < w.heap.size + 4 ∨ w.heap.size + 7 ≤ k) := fun h => hsub k h hk
        have := HSZ.out
        have := HUD.out.1.lt
        have := (Array.getElem?_eq_some_iff.1 HUD.out.2).1
        refine ⟨by rcases hk with h | h | h <;> omega, ?_⟩
        rintro (h | h)
        · omega
        · exact hGn k (by omega) h
      · exact N1.out.set 0 _
      · exact NR.out.keep (S := fun k => k < w.heap.size + 4) ((Mvs.refl _ _).setCell _ _ (fun _ => by dsimp only; omega)) (fun k hk => by omega)
      · exact N2.out.set_other _ _ (by dsimp only; omega)
      · exact N3.out.set_other _ _ (by dsimp only; omega)
      · exact N4.out.set_other _ _ (by dsimp only; omega)
      · exact N5.out.setCell (p := ⟨w.heap.size + 1 + 1 + 1, 0, none⟩) (by dsimp only; omega) _
      · rw [List.length_append, HXK.out]
        simp
        omega
  case done =>
    rintro W ⟨⟨v, b1, b2⟩, b3, b4, b5, b6, b7⟩ hK
    have hWs := (Array.getElem?_eq_some_iff.1 hK).1
    have hc1 := b1.cell 0
    have q2 := b3.cell 0
    have q2f := b3.frozen 0
    have q3 := b4.cell 0
    have q3f := b4.frozen 0
    have HSZ' := HSZ.out
    have B1 := hide b1
    have B2 := hide b3
    have B3 := hide b4
    have B5 := hide b6
    have HF := hide b2
    have HK := hide hK
    have HXL := hide b7
    obtain ⟨A, c, rfl⟩ := b2.form
    clear b1 b2 b3 b4 b5 b6 b7 hK
    obtain ⟨fs, hfs⟩ : ∃ fs, (Go.Proofs.YtegplihhbdmnbaaGreatDoor.hd (splitS m) 0).1 = fs := ⟨_, rfl⟩
    have HFS := hide hfs
    rw [hfs] at HF HXL hc1 B1
    clear hfs
    gi_wp2
    have hK5 : ((W.setCell ⟨w.heap.size + 1, 0, none⟩ (.slice A fs.length c)).setCell ⟨w.heap.size + 1 + 1, 0, none⟩ .nilIface).heap[W0.heap.size]? = some (.deferred (some [])) := (heap_setCell_other (by omega)).trans ((heap_setCell_other (by omega)).trans HK.out)
    have h1' := (B2.out.set 0 (.slice A fs.length c)).set_other ⟨w.heap.size + 1 + 1, 0, none⟩ .nilIface (by simp)
    have h2' := (B3.out.set_other ⟨w.heap.size + 1, 0, none⟩ (.slice A fs.length c) (by simp)).set 0 .nilIface
    have hbF := (B5.out.setCell (p := ⟨w.heap.size + 1, 0, none⟩) (by simp) (.slice A fs.length c)).setCell (p := ⟨w.heap.size + 1 + 1, 0, none⟩) (by simp; omega) .nilIface
    have hsF := HF.out.keep (S := fun k => k < w.heap.size + 4) (((Mvs.refl _ _).setCell ⟨w.heap.size + 1, 0, none⟩ (.slice A fs.length c) (fun _ => by dsimp only; omega)).setCell ⟨w.heap.size + 1 + 1, 0, none⟩ .nilIface (fun _ => by dsimp only; omega)) (fun k hk => by omega)
    refine ⟨by simp, .inl ⟨_, _, rfl, run_takeDeferred hK5, ?_⟩⟩
    refine leaveF (h1'.putObj _ (by omega)) (h2'.putObj _ (by omega)) ⟨hbF.trans (belowK_b (w := w) (Nat.le_refl _) _ _ _ _ (by omega) hK5 rfl rfl), .inr ⟨by rw [HFS.out]; exact HXL.out, _, rfl, ?_⟩⟩
    rw [HFS.out]
    exact (hsF.keep (mvs_putObj (S := fun k => k = W0.heap.size) _ _ _ rfl) (fun k hk => by omega)).mono (by omega)
  case stop =>
    rintro c W ⟨rfl, h1, h2, hbW, ha⟩ hK
    have HD := hide ha
    have := HSZ.out
    gi_wp2
    refine ⟨by simp, .inl ⟨_, _, rfl, run_takeDeferred hK, ?_⟩⟩
    exact leaveF (h1.putObj _ (by omega)) (h2.putObj _ (by omega)) ⟨hbW.trans (belowK_b (w := w) (Nat.le_refl _) W _ _ _ (by omega) hK rfl rfl), .inl ⟨HD.out, rfl⟩⟩
end Go.Proofs.YtegplihhbdmnbaaGreatDoor
