/- Set of package seqs. -/
import Derived.Test.YtbjencibkkhbhaaGreatDoorSp1
import Derived.Test.YtbjencibkkhbhaaGreatDoorBs2
import Derived.Test.YtbjencibkkhbhaaGreatDoorRLI
import Derived.Test.YtbjencibkkhbhaaGreatDoorOwnIn
import Derived.Test.YtbjencibkkhbhaaGreatDoorSp5
set_option linter.unusedVariables false
set_option linter.unusedSimpArgs false
namespace Go.Proofs.YtbjencibkkhbhaaGreatDoor
open Go.RowKit Go.Shelf
attribute [local go_sem] Oper.semAt_some
theorem ra_of_rw {wr : World} {v : Value} {n : Nat} {rs : List (Int × Int)} {G : Option Nat} (hn : n = rs.length) (hr : Rw wr 2 v n (rs.flatMap rgF) G) : RA wr v rs := by
  subst hn
  obtain ⟨A, c, rfl⟩ := hr.form
  refine ⟨A, c, rfl, fun i hi => ?_⟩
  rcases hr.2 with ⟨_, h0, _⟩ | ⟨g, o, cap, _, e, _, _, h3, h4, _⟩
  · omega
  · have f0 := flat_at rgF_len rs i hi 0 (by omega)
    have f1 := flat_at rgF_len rs i hi 1 (by omega)
    refine ⟨g, o, by cases e; rfl, h3, ?_, ?_⟩
    · have := h4 (i * 2 + 0) _ (f0.trans rfl)
      simpa using this
    · have := h4 (i * 2 + 1) _ (f1.trans rfl)
      rw [Nat.add_assoc]
      exact this
theorem src_rgk {w : World} {k : Nat} (hk : w.heap.size = k) (x y : Int) {c : Nat} : Src Tryz.prog 2 23 (.slice (some ⟨k, 0, none⟩) 1 c) 1 (rgF (x, y)) (w.alloc (.cells #[.int .i64 x, .int .i64 y] 53)) := by
  subst hk
  exact src_rg x y
/-- What Set answers. -/
def stA (w' : World) (o : Option (List (Nat × Nat))) (a : Addr) (e : Ending) : Prop := match o with
  | some set => ∃ A c, e = .returned (.tuple #[.slice A set.length c, .nilIface]) ∧ RA w' (.slice A set.length c) (set.map natR)
  | none => e = .returned (.tuple #[.slice none 0 0, .iface 151 (.pointer (some a))])
theorem leaveT {W w : World} {v1 v2 : Value} {tmps : Array Value} {r1 r2 : Nat} {Q : Ending → World → Prop} (h1 : Blk W r1 #[v1] 23) (h2 : Blk W r2 #[v2] 25) (hO : Q (.returned (.tuple #[v1, v2])) W)
    (ht1 : tmps[2]? = some (.pointer (some ⟨r1, 0, none⟩)) := by rfl) (ht2 : tmps[3]? = some (.pointer (some ⟨r2, 0, none⟩)) := by rfl) :
    LeavesInM Fence.wide 5 Tryz.prog Tryz.f10 tmps Q [] .returning W := by
  have c1 := h1.cell
  have c2 := h2.cell
  refine ⟨.tuple #[v1, v2], ?_, hO⟩
  simp [results, Tryz.results10, go_sem, ht1, ht2, c1, c2]
theorem sqS_bad {s x : List UInt8} {pre post : List (List UInt8)} (hp : pre ++ x :: post = spc 44 s) (hx : sqI x = none) : sqS s = none := by
  unfold sqS
  split
  · rw [← hp]
    refine mapM_none _ pre.length (by simp) ?_
    simpa using hx
  · rfl
theorem sqS_full {s x : List UInt8} {pre post : List (List UInt8)} (hp : pre ++ x :: post = spc 44 s) (hl : pre.length = 50) : sqS s = none := by
  unfold sqS
  rw [if_neg]
  rw [← hp]
  simp
  omega
theorem sqS_done {s : List UInt8} {set : List (Nat × Nat)} (h : (spc 44 s).mapM sqI = some set) (hl : set.length ≤ 50) : sqS s = some set := by
  unfold sqS
  rw [if_pos (by rw [← mapM_len _ _ h]; exact hl)]
  exact h
set_option maxRecDepth 20000 in
set_option maxHeartbeats 8000000 in
theorem pset_any (s : List UInt8) (w : World) (a : Addr) (hE : EFq w a) (hS : SyE w) (hs : s.length ≤ 1000000) :
    Calls Tryz.prog 10 #[.string ⟨s.toArray⟩] w fun e w' => stA w' (sqS s) a e ∧ Below w.heap.size w w' := by
  obtain ⟨O, HO⟩ : ∃ O, Hid (O = sqS s) := ⟨_, hide rfl⟩
  rw [← HO.out]
  have HEr := hide hE
  have HSy := hide hS
  obtain ⟨i0, hi, hz0, hz1, hz2⟩ := sp_info rgInfo
  clear hE hS
  refine (callsIn_wide (n := 5)).1 ?_
  refine callsIn_of_wp_marks Tryz.func10 rfl trivial ?_ rfl
  simp only [Tryz.ntmps10, List.size_toArray, List.length_cons, List.length_nil, Nat.reduceAdd, Nat.reduceSub, Array.replicate_succ, Array.replicate_zero, List.push_toArray, List.append_toArray, List.nil_append, List.cons_append]
  gi_wp2_with (first
    | (refine ⟨trivial, ?_⟩; gi_at_call 26; refine (callsIn_wide.2 (splitSeq_anyS 44 s _)).mono ?_; rintro e w' ⟨rfl, rfl⟩))
  obtain ⟨W0, hW0⟩ : ∃ W0, (((((w.alloc (.cells #[.slice none 0 0] 23)).alloc (.cells #[.nilIface] 25)).alloc (.cells #[.slice none 0 0] 23)).alloc (.cells #[.string ⟨s.toArray⟩] 9)).alloc (.cells #[.string ⟨#[44]⟩] 9)).alloc (.cells #[.int .i64 0] 3) = W0 := ⟨_, rfl⟩
  have hsz0 : W0.heap.size = w.heap.size + 6 := by rw [← hW0]; simp
  have hbW : Below w.heap.size w W0 := by rw [← hW0]; exact ((((((Below.refl _ _).alloc (Nat.le_refl _) _).alloc (by simp) _).alloc (by simp; omega) _).alloc (by simp; omega) _).alloc (by simp; omega) _).alloc (by simp; omega) _
  have k1 : Blk W0 w.heap.size #[.slice none 0 0] 23 := by rw [← hW0]; exact (((((Blk.new w _ _).alloc _).alloc _).alloc _).alloc _).alloc _
  have k2 : Blk W0 (w.heap.size + 1) #[.nilIface] 25 := by rw [← hW0]; exact ((((Blk.new1 w _ _ _).alloc _).alloc _).alloc _).alloc _
  have k3 : Blk W0 (w.heap.size + 1 + 1) #[.slice none 0 0] 23 := by rw [← hW0]; exact (((Blk.new_atS (by simp)).alloc _).alloc _).alloc _
  have hBs : Blk W0 (w.heap.size + 1 + 1 + 1) #[.string ⟨s.toArray⟩] 9 := by rw [← hW0]; exact ((Blk.new_atS (by simp)).alloc _).alloc _
  have hBp : Blk W0 (w.heap.size + 1 + 1 + 1 + 1) #[.string ⟨#[44]⟩] 9 := by rw [← hW0]; exact (Blk.new_atS (by simp)).alloc _
  have hBq : Blk W0 (w.heap.size + 1 + 1 + 1 + 2) #[.int .i64 0] 3 := by rw [← hW0]; exact Blk.new_atS (by simp)
  rw [hW0]
  clear hW0
  have hsub : ∀ k, k < w.heap.size + 3 → ¬ Own5S (w.heap.size + 1 + 1 + 1) (w.heap.size + 1 + 1 + 1 + 1) (w.heap.size + 1 + 1 + 1 + 2) W0.heap.size k := by rintro k hk (h | h | h | h | h) <;> omega
  have hsup : ∀ k, Own5S (w.heap.size + 1 + 1 + 1) (w.heap.size + 1 + 1 + 1 + 1) (w.heap.size + 1 + 1 + 1 + 2) W0.heap.size k → w.heap.size + 3 ≤ k ∧ k ≤ W0.heap.size + 1 := by rintro k (h | h | h | h | h) <;> omega
  have HSZ := hide hsz0
  have HSUP := hide hsup
  clear hsz0 hsup
  refine range_splitS (c0 := 44) (by omega) (s := s) (Bs := w.heap.size + 1 + 1 + 1) (Bp := w.heap.size + 1 + 1 + 1 + 1) (Bq := w.heap.size + 1 + 1 + 1 + 2) (by omega) (by omega) (by omega) rfl rfl hBs hBp hBq
    (fun pre W => ∃ set v G, pre.mapM sqI = some set ∧ set.length ≤ 50 ∧ Blk W w.heap.size #[.slice none 0 0] 23 ∧ Blk W (w.heap.size + 1) #[.nilIface] 25 ∧ Blk W (w.heap.size + 1 + 1) #[v] 23 ∧ Rw W 2 v set.length ((set.map natR).flatMap rgF) G ∧ (∀ g, G = some g → W0.heap.size + 2 ≤ g) ∧ Below w.heap.size w W)
    (fun c W => c = .ret ∧ Blk W w.heap.size #[.slice none 0 0] 23 ∧ Blk W (w.heap.size + 1) #[.iface 151 (.pointer (some a))] 25 ∧ Below w.heap.size w W ∧ O = none)
    (fun pre W W' h hm => by
      obtain ⟨set, v, G, e1, e2, h1, h2, h3, h4, h5, h6⟩ := h
      exact ⟨set, v, G, e1, e2, hm.blk h1 (hsub _ (by omega)), hm.blk h2 (hsub _ (by omega)), hm.blk h3 (hsub _ (by omega)), h4.keep hm (fun g hg ho => by have := h5 g hg; have := (HSUP.out g ho).2; omega), h5, below_mvsS h6 hm (fun k hk => hsub k (by omega)) (Nat.le_refl _)⟩)
    (fun c W W' h hm => ⟨h.1, hm.blk h.2.1 (hsub _ (by omega)), hm.blk h.2.2.1 (hsub _ (by omega)), below_mvsS h.2.2.2.1 hm (fun k hk => hsub k (by omega)) (Nat.le_refl _), h.2.2.2.2⟩)
    ⟨[], .slice none 0 0, none, rfl, by simp, k1, k2, k3, Rw.nil _ _, fun g h => (by cases h), hbW⟩
    (fun x => { tmps := #[.string ⟨s.toArray⟩, undef, .pointer (some ⟨w.heap.size, 0, none⟩), .pointer (some ⟨w.heap.size + 1, 0, none⟩), .pointer (some ⟨w.heap.size + 1 + 1, 0, none⟩), .string ⟨x.toArray⟩, undef, undef, .string ⟨s.toArray⟩,
      .func (.func 67) #[] #[.pointer (some ⟨w.heap.size + 1 + 1 + 1 + 1, 0, none⟩), .pointer (some ⟨w.heap.size + 1 + 1 + 1, 0, none⟩), .pointer (some ⟨w.heap.size + 1 + 1 + 1 + 2, 0, none⟩)], .string ⟨x.toArray⟩, undef, undef, undef, undef, undef, undef, undef, undef, undef, undef, undef, undef, undef, undef, undef, undef, undef, undef], defers := [] }) ?assign ?body ?done ?stop
  case assign =>
    intro l x W K hK
    gi_wp2
    exact hK
  case body =>
    rintro lp pre x W ⟨set, v, G, hf, hl50, h1, h2, h3, hr, hg, h4⟩ hpost hlt
    have hxl : x.length ≤ 1000000 := by
      obtain ⟨post, hpp⟩ := hpost
      have := spc_size (c := 44) s x (by rw [← hpp]; simp)
      omega
    have HFg := hide (prange_any x W a (HEr.out.below h4) (HSy.out.below h4) hxl)
    have hkb : w.heap.size + 3 ≤ W.heap.size := by have := HSZ.out; omega
    have hce : Hid (∀ w1, Below w.heap.size w w1 → w1.cell? ⟨0, 0, none⟩ = some (.iface 151 (.pointer (some a)))) := fun w1 hb => (HEr.out.below hb).cell
    have hle : 0 < w.heap.size := HEr.out.low
    have hplen : set.length = pre.length := mapM_len _ _ hf
    obtain ⟨A, c, rfl⟩ := hr.form
    have H1 := hide h1
    have H2 := hide h2
    have H3 := hide h3
    have H4 := hide h4
    have HLT := hide hlt
    have HR := hide hr
    have HGg := hide hg
    have HF := hide hf
    clear h1 h2 h3 h4 hr hg hlt hf hxl
    cases hw : sqI x with
    | none =>
      have HBAD : Hid (O = none) := by
        obtain ⟨post, hpp⟩ := hpost
        show _ = _
        rw [HO.out]
        exact sqS_bad hpp hw
      rw [hw] at HFg
      change Hid (Calls _ _ _ _ fun e w' => e = .returned (.tuple #[.agg #[.int .i64 0, .int .i64 0], .iface 151 (.pointer (some a))]) ∧ _) at HFg
      clear hpost hw HR HGg hplen
      gi_wp2_with (first
        | (refine ⟨trivial, ?_⟩; gi_at_call 27; refine (CallsIn.inRound lp (callsIn_wide.2 HFg.out)).mono ?_; rintro e w5 ⟨rfl, hb5⟩; replace hb5 := hide hb5))
      replace hb5 := hb5.out
      obtain ⟨w6, hw6⟩ : ∃ w6, w5.alloc (.cells #[.int .i64 0, .int .i64 0] 53) = w6 := ⟨_, rfl⟩
      have hb6 : Below W.heap.size W w6 := by rw [← hw6]; exact hb5.alloc hb5.size _
      rw [hw6]
      clear hw6 hb5
      have B2 := hide (H1.out.below hb6 H1.out.lt)
      have B3 := hide (H2.out.below hb6 H2.out.lt)
      have B5 := hide (H4.out.trans (hb6.mono H4.out.size))
      have q2 := B2.out.cell 0
      have q2f := B2.out.frozen 0
      have q3 := B3.out.cell 0
      have q3f := B3.out.frozen 0
      have HB5 := hide hb6
      clear hb6
      refine regionI 2 (fun W => W.cell? ⟨0, 0, none⟩ = some ((.iface 151 (.pointer (some a))))) (by kernel_rfl) (by kernel_rfl) ?_
      have HT0 : w6.drew.cell? ⟨0, 0, none⟩ = some ((.iface 151 (.pointer (some a)))) := hce.out _ B5.out.drew
      refine takeL (i := 0) (v := (.iface 151 (.pointer (some a)))) rfl (by kernel_rfl) (by kernel_rfl) (by kernel_rfl) (by kernel_rfl) (by kernel_rfl) (fun _ _ _ h => absurd h.1 (by simp)) HT0 (Or.inl ⟨by rfl, fun W hW => by go_simp⟩) ?_
      simp only [Act.put, List.getElem_toArray, List.getElem_cons_succ, List.getElem_cons_zero, List.setIfInBounds_toArray, List.set_cons_zero, List.set_cons_succ]
      refine readyL (rs := [1]) (by kernel_rfl) (by simp) ?_
      refine AllL.cons rfl (fun K hK => ?_) AllL.nil
      try simp only [List.getElem_toArray, List.getElem_cons_succ, List.getElem_cons_zero]
      go_simp
      refine hK.out _ _ (fun _ => ?_) (fun HTn => ?_)
      · show (w6.setCell ⟨w.heap.size, 0, none⟩ (.slice none 0 0)).cell? ⟨0, 0, none⟩ = _
        rw [World.cell?_setCell_other]
        · exact HT0
        · intro e
          have := congrArg Addr.block e
          dsimp only at this
          omega
      clear hK K
      refine readyL (rs := [2]) (by kernel_rfl) (by simp) ?_
      refine AllL.cons rfl (fun K hK => ?_) AllL.nil
      have q3' : (w6.setCell ⟨w.heap.size, 0, none⟩ (.slice none 0 0)).drew.cell? ⟨w.heap.size + 1, 0, none⟩ = some .nilIface := (B3.out.set_other ⟨w.heap.size, 0, none⟩ (.slice none 0 0) (by simp)).cell 0
      have q3f' : (w6.setCell ⟨w.heap.size, 0, none⟩ (.slice none 0 0)).drew.frozen? ⟨w.heap.size + 1, 0, none⟩ = false := (B3.out.set_other ⟨w.heap.size, 0, none⟩ (.slice none 0 0) (by simp)).frozen 0
      try simp only [List.getElem_toArray, List.getElem_cons_succ, List.getElem_cons_zero]
      go_simp
      refine hK.out _ _ (vac (by kernel_rfl)) (fun _ => ?_)
      clear hK K HT0
      refine doneL (by kernel_rfl) ⟨rfl, ?_⟩ _
      gi_wp2
      refine ⟨fun k hk => ?_, rfl, ?_, ?_, ?_, HBAD.out⟩
      · obtain ⟨hk1, hk2⟩ := HSUP.out k hk
        have hlt' := HLT.out
        exact (heap_setCell_otherS (by omega)).trans ((heap_setCell_otherS (by omega)).trans (HB5.out.block k (by omega)))
      · exact (B2.out.set 0 _).set_other _ _ (by simp)
      · exact (B3.out.set_other _ _ (by simp)).set 0 _
      · exact ((B5.out.drew).setCell (p := ⟨w.heap.size, 0, none⟩) (by simp) _).setCell (p := ⟨w.heap.size + 1, 0, none⟩) (by simp) _
    | some r =>
      obtain ⟨p, q⟩ := r
      rw [hw] at HFg
      change Hid (Calls _ _ _ _ fun e w' => e = .returned (.tuple #[.agg #[.int .i64 ((p : Nat) : Int), .int .i64 ((q : Nat) : Int)], .nilIface]) ∧ _) at HFg
      by_cases h50 : set.length = 50
      · have HBAD : Hid (O = none) := by
          obtain ⟨post, hpp⟩ := hpost
          show _ = _
          rw [HO.out]
          exact sqS_full hpp (by omega)
        rw [h50] at H3
        clear hpost hw HR HGg hplen HF
        gi_wp2_with (first
          | (refine ⟨trivial, ?_⟩; gi_at_call 27; refine (CallsIn.inRound lp (callsIn_wide.2 HFg.out)).mono ?_; rintro e w5 ⟨rfl, hb5⟩
             have q4 : (w5.alloc (.cells #[.int .i64 ((p : Nat) : Int), .int .i64 ((q : Nat) : Int)] 53)).cell? ⟨w.heap.size + 1 + 1, 0, none⟩ = some (.slice A 50 c) := ((H3.out.below hb5 H3.out.lt).alloc _).cell 0
             replace hb5 := hide hb5))
        replace hb5 := hb5.out
        obtain ⟨w6, hw6⟩ : ∃ w6, w5.alloc (.cells #[.int .i64 ((p : Nat) : Int), .int .i64 ((q : Nat) : Int)] 53) = w6 := ⟨_, rfl⟩
        have hb6 : Below W.heap.size W w6 := by rw [← hw6]; exact hb5.alloc hb5.size _
        rw [hw6]
        clear hw6 hb5
        have B2 := hide (H1.out.below hb6 H1.out.lt)
        have B3 := hide (H2.out.below hb6 H2.out.lt)
        have B5 := hide (H4.out.trans (hb6.mono H4.out.size))
        have q2 := B2.out.cell 0
        have q2f := B2.out.frozen 0
        have q3 := B3.out.cell 0
        have q3f := B3.out.frozen 0
        have HB5 := hide hb6
        clear hb6
        refine regionI 2 (fun W => W.cell? ⟨0, 0, none⟩ = some ((.iface 151 (.pointer (some a))))) (by kernel_rfl) (by kernel_rfl) ?_
        have HT0 : w6.drew.cell? ⟨0, 0, none⟩ = some ((.iface 151 (.pointer (some a)))) := hce.out _ B5.out.drew
        refine takeL (i := 0) (v := (.iface 151 (.pointer (some a)))) rfl (by kernel_rfl) (by kernel_rfl) (by kernel_rfl) (by kernel_rfl) (by kernel_rfl) (fun _ _ _ h => absurd h.1 (by simp)) HT0 (Or.inl ⟨by rfl, fun W hW => by go_simp⟩) ?_
        simp only [Act.put, List.getElem_toArray, List.getElem_cons_succ, List.getElem_cons_zero, List.setIfInBounds_toArray, List.set_cons_zero, List.set_cons_succ]
        refine readyL (rs := [1]) (by kernel_rfl) (by simp) ?_
        refine AllL.cons rfl (fun K hK => ?_) AllL.nil
        try simp only [List.getElem_toArray, List.getElem_cons_succ, List.getElem_cons_zero]
        go_simp
        refine hK.out _ _ (fun _ => ?_) (fun HTn => ?_)
        · show (w6.setCell ⟨w.heap.size, 0, none⟩ (.slice none 0 0)).cell? ⟨0, 0, none⟩ = _
          rw [World.cell?_setCell_other]
          · exact HT0
          · intro e
            have := congrArg Addr.block e
            dsimp only at this
            omega
        clear hK K
        refine readyL (rs := [2]) (by kernel_rfl) (by simp) ?_
        refine AllL.cons rfl (fun K hK => ?_) AllL.nil
        have q3' : (w6.setCell ⟨w.heap.size, 0, none⟩ (.slice none 0 0)).drew.cell? ⟨w.heap.size + 1, 0, none⟩ = some .nilIface := (B3.out.set_other ⟨w.heap.size, 0, none⟩ (.slice none 0 0) (by simp)).cell 0
        have q3f' : (w6.setCell ⟨w.heap.size, 0, none⟩ (.slice none 0 0)).drew.frozen? ⟨w.heap.size + 1, 0, none⟩ = false := (B3.out.set_other ⟨w.heap.size, 0, none⟩ (.slice none 0 0) (by simp)).frozen 0
        try simp only [List.getElem_toArray, List.getElem_cons_succ, List.getElem_cons_zero]
        go_simp
        refine hK.out _ _ (vac (by kernel_rfl)) (fun _ => ?_)
        clear hK K HT0
        refine doneL (by kernel_rfl) ⟨rfl, ?_⟩ _
        gi_wp2
        refine ⟨fun k hk => ?_, rfl, ?_, ?_, ?_, HBAD.out⟩
        · obtain ⟨hk1, hk2⟩ := HSUP.out k hk
          have hlt' := HLT.out
          exact (heap_setCell_otherS (by omega)).trans ((heap_setCell_otherS (by omega)).trans (HB5.out.block k (by omega)))
        · exact (B2.out.set 0 _).set_other _ _ (by simp)
        · exact (B3.out.set_other _ _ (by simp)).set 0 _
        · exact ((B5.out.drew).setCell (p := ⟨w.heap.size, 0, none⟩) (by simp) _).setCell (p := ⟨w.heap.size + 1, 0, none⟩) (by simp) _
      · have hlt50 : set.length < 50 := by omega
        have hne50 : ((set.length : Int) == 50) = false := by rw [beq_eq_false_iff_ne]; omega
        have HGOOD := hide (mapM_snoc pre x set HF.out hw)
        have hcs : ((set ++ [(p, q)]).map natR).flatMap rgF = (set.map natR).flatMap rgF ++ rgF (((p : Nat) : Int), ((q : Nat) : Int)) := by
          rw [List.map_append, List.flatMap_append]
          simp [natR]
        have HCS := hide hcs
        obtain ⟨n, hn⟩ : ∃ n, Hid (set.length = n) := ⟨_, hide rfl⟩
        rw [hn.out] at hne50 HR H3 hlt50
        clear hpost hw hplen HF hcs h50 hl50
        generalize (set.map natR).flatMap rgF = cs at *
        gi_wp2_with (first
          | (refine ⟨trivial, ?_⟩; gi_at_call 27; refine (CallsIn.inRound lp (callsIn_wide.2 HFg.out)).mono ?_; rintro e w5 ⟨rfl, hb5⟩
             have q4 : (w5.alloc (.cells #[.int .i64 ((p : Nat) : Int), .int .i64 ((q : Nat) : Int)] 53)).cell? ⟨w.heap.size + 1 + 1, 0, none⟩ = some (.slice A n c) := ((H3.out.below hb5 H3.out.lt).alloc _).cell 0
             have HRa := hide (HR.out.keep (S := fun _ => False) ((Mvs.of_below hb5).alloc (.cells #[.int .i64 ((p : Nat) : Int), .int .i64 ((q : Nat) : Int)] 53)) (fun _ _ c => c))
             replace hb5 := hide hb5)
          | (gi_at_builtin; refine wpListIn_append_rw rfl _ _ 23 23 rfl 53 i0 (.agg #[.int .i64 0, .int .i64 0]) 2 16 Tryz.underlying23 hi hz0 hz1 hz2 rfl rfl (HRa.out.keep (S := fun _ => False) ((Mvs.refl _ _).alloc _) (fun _ _ c => c)) _ 1 _ rfl (src_rgk (World.size_alloc _ _) _ _) (by simp only [maxLen]; omega) (by omega) ?_))
        intro v7 w7 G7 hr7 hm7 hg7
        obtain ⟨A7, c7, rfl⟩ := hr7.form
        have hmw : Mvs (fun k => some k = G) W w7 := ((((Mvs.of_below (S := fun k => some k = G) hb5.out).alloc _).alloc _).trans hm7)
        have hGn : ∀ k, k ≤ W0.heap.size + 1 → ¬ some k = G := fun k hk e => by have := HGg.out k e.symm; omega
        have hkz := HSZ.out
        have hGg7 : ∀ g, G7 = some g → W0.heap.size + 2 ≤ g := by
          rintro g rfl
          rcases hg7 with h | h
          · exact HGg.out g h.symm
          · cases h
            have := hb5.out.size
            have := HLT.out
            simp
            omega
        have B1 := hide (hmw.blk H1.out (hGn _ (by omega)))
        have B2 := hide (hmw.blk H2.out (hGn _ (by omega)))
        have B3 := hide (hmw.blk H3.out (hGn _ (by omega)))
        have B5 : Hid (Below w.heap.size w w7) := below_mvs H4.out hmw (fun k hk => hGn k (by omega)) (Nat.le_refl _)
        have q3 := B3.out.cell 0
        have q3f := B3.out.frozen 0
        have HMW := hide hmw
        have HR7 := hide hr7
        have HG7 := hide hGg7
        have HGN := hide hGn
        clear hmw hr7 hGg7 hm7 hg7 hGn HR HRa q4
        gi_wp2
        refine ⟨fun k hk => ?_, set ++ [(p, q)], .slice A7 (n + 1) c7, G7, HGOOD.out, ?_, ?_, ?_, ?_, ?_, HG7.out, ?_⟩
        · obtain ⟨hk1, hk2⟩ := HSUP.out k hk
          have hlt' := HLT.out
          exact (heap_setCell_otherS (by omega)).trans (HMW.out.block k (by omega) (HGN.out k hk2))
        · rw [List.length_append, hn.out]; simp; omega
        · exact B1.out.set_other _ _ (by simp; omega)
        · exact B2.out.set_other _ _ (by simp)
        · exact B3.out.set 0 _
        · rw [HCS.out, List.length_append, hn.out]
          exact HR7.out.keep ((Mvs.refl (fun k => k = w.heap.size + 1 + 1) _).setCell _ _ (fun _ => rfl)) (fun g hg e => by have := HG7.out g hg; omega)
        · exact B5.out.setCell (p := ⟨w.heap.size + 1 + 1, 0, none⟩) (by simp; omega) _
  case done =>
    rintro W ⟨set, v, G, hf, hl50, h1, h2, h3, hr, hg, h4⟩ hK
    obtain ⟨A, c, rfl⟩ := hr.form
    have HV : Hid (O = some set) := by show _ = _; rw [HO.out]; exact sqS_done hf hl50
    have q1 := h1.cell 0
    have q1f := h1.frozen 0
    have q2 := (h2.set_other ⟨w.heap.size, 0, none⟩ (.slice A set.length c) (by simp)).cell 0
    have q2f := (h2.set_other ⟨w.heap.size, 0, none⟩ (.slice A set.length c) (by simp)).frozen 0
    have q3 := h3.cell 0
    have H1 := hide h1
    have H2 := hide h2
    have H4 := hide h4
    have HK := hide hK
    have HR := hide hr
    have HGg := hide hg
    clear h1 h2 h3 h4 hK hf hr hg
    gi_wp2
    have hsz0 := HSZ.out
    have hK5 : ((W.setCell ⟨w.heap.size, 0, none⟩ (.slice A set.length c)).setCell ⟨w.heap.size + 1, 0, none⟩ .nilIface).heap[W0.heap.size]? = some (.deferred (some [])) := (heap_setCell_otherS (by omega)).trans ((heap_setCell_otherS (by omega)).trans HK.out)
    have h1' := (H1.out.set 0 (.slice A set.length c)).set_other ⟨w.heap.size + 1, 0, none⟩ .nilIface (by simp)
    have h2' := (H2.out.set_other ⟨w.heap.size, 0, none⟩ (.slice A set.length c) (by simp)).set 0 .nilIface
    have hbF := (H4.out.setCell (p := ⟨w.heap.size, 0, none⟩) (by simp) (.slice A set.length c)).setCell (p := ⟨w.heap.size + 1, 0, none⟩) (by simp) .nilIface
    refine ⟨by simp, .inl ⟨_, _, rfl, run_takeDeferred hK5, ?_⟩⟩
    refine leaveT (w := w) (h1'.putObjS _ (by omega)) (h2'.putObjS _ (by omega)) ⟨?_, hbF.trans (belowK_b (w := w) (Nat.le_refl _) _ _ _ _ (by omega) hK5 rfl rfl)⟩
    rw [HV.out]
    have hm : Mvs (fun k => k ≤ W0.heap.size + 1) W (((W.setCell ⟨w.heap.size, 0, none⟩ (.slice A set.length c)).setCell ⟨w.heap.size + 1, 0, none⟩ .nilIface).putObj W0.heap.size (.deferred none)) := (((Mvs.refl _ _).setCell _ _ (fun _ => by simp; omega)).setCell _ _ (fun _ => by simp; omega)).trans (mvs_putObjS _ _ _ (by omega))
    have hrF := HR.out.keep hm (fun g hg e => by have := HGg.out g hg; omega)
    exact ⟨A, c, rfl, ra_of_rw (by rw [List.length_map]) hrF⟩
  case stop =>
    rintro c W ⟨rfl, h1, h2, hbW, ha⟩ hK
    have HD := hide ha
    gi_wp2
    have hsz0 := HSZ.out
    refine ⟨by simp, .inl ⟨_, _, rfl, run_takeDeferred hK, ?_⟩⟩
    refine leaveT (w := w) (h1.putObjS _ (by omega)) (h2.putObjS _ (by omega)) ⟨?_, hbW.trans (belowK_b (w := w) (Nat.le_refl _) W _ _ _ (by omega) hK rfl rfl)⟩
    rw [HD.out]
    rfl
end Go.Proofs.YtbjencibkkhbhaaGreatDoor
