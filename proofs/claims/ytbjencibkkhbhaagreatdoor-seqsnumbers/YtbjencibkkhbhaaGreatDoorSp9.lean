/- Flags of package seqs. -/
import Derived.Test.YtbjencibkkhbhaaGreatDoorSp8
import Derived.Test.YtbjencibkkhbhaaGreatDoorBs2
import Derived.Test.YtbjencibkkhbhaaGreatDoorRLI
import Derived.Test.YtbjencibkkhbhaaGreatDoorSq5
set_option linter.unusedVariables false
set_option linter.unusedSimpArgs false
namespace Go.Proofs.YtbjencibkkhbhaaGreatDoor
open Go.RowKit Go.Shelf
attribute [local go_sem] Oper.semAt_some
theorem suf41Q (r : List UInt8) : Lib.hasSuffix r [41] = decide (r.getLast? = some 41) ∧ (r.getLast? = some 41 → Lib.trimSuffix r [41] = r.dropLast) := by
  unfold Lib.trimSuffix Lib.hasSuffix
  rcases List.eq_nil_or_concat r with rfl | ⟨q, c, rfl⟩
  · exact ⟨rfl, fun h => by simp at h⟩
  · by_cases hc : c = 41
    · subst hc
      simp [List.isSuffixOf]
    · have hc2 : ¬ (41 : UInt8) = c := fun e => hc e.symm
      simp [List.isSuffixOf, List.isPrefixOf, hc, hc2]
theorem fl_pre {s : List UInt8} (h : Lib.hasPrefix s [40] = false) : flO s = none := by
  unfold flO
  rw [if_pos]
  cases s with
  | nil => exact .inl (by simp)
  | cons c r =>
    refine .inr (.inl fun e => ?_)
    simp only [List.head?_cons, Option.some.injEq] at e
    subst e
    simp [Lib.hasPrefix, List.isPrefixOf] at h
theorem fl_preY {s : List UInt8} (h : Lib.hasPrefix s [40] = true) : ∃ r, s = 40 :: r ∧ Lib.trimPrefix s [40] = r := by
  cases s with
  | nil => simp [Lib.hasPrefix, List.isPrefixOf] at h
  | cons c r =>
    have hc : c = 40 := by
      simp [Lib.hasPrefix, List.isPrefixOf] at h
      exact h.symm
    subst hc
    exact ⟨r, rfl, by unfold Lib.trimPrefix; rw [if_pos h]; rfl⟩
theorem fl_suf {r : List UInt8} (h : Lib.hasSuffix r [41] = false) : flO (40 :: r) = none := by
  rw [(suf41Q r).1] at h
  have h' : r.getLast? ≠ some 41 := by simpa using h
  unfold flO
  rw [if_pos]
  cases r with
  | nil => exact .inl (by simp)
  | cons c t =>
    refine .inr (.inr fun e => h' ?_)
    rw [List.getLast?_cons_cons] at e
    exact e
theorem fl_both {r : List UInt8} (h : Lib.hasSuffix r [41] = true) : flO (40 :: r) = if Lib.trimSuffix r [41] = [] then some 0 else flF 0 (spc 32 (Lib.trimSuffix r [41])) := by
  rw [(suf41Q r).1] at h
  have h' : r.getLast? = some 41 := by simpa using h
  rw [(suf41Q r).2 h']
  cases r with
  | nil => cases h'
  | cons c t =>
    unfold flO
    rw [if_neg (by rw [List.getLast?_cons_cons, h']; simp)]
    have hd : ((40 :: c :: t).drop 1).take ((40 :: c :: t).length - 2) = (c :: t).dropLast := by
      rw [List.dropLast_eq_take]
      simp
    rw [hd]
    by_cases ht : t = []
    · subst ht
      rw [if_pos (by simp), if_pos (by simp)]
    · have h1 : ¬ (40 :: c :: t).length = 2 := by
        have := List.length_pos_iff.2 ht
        simp
        omega
      have h2 : ¬ (c :: t).dropLast = [] := by
        intro e
        have h0 : (c :: t).dropLast.length = 0 := by rw [e]; rfl
        rw [List.length_dropLast, List.length_cons] at h0
        exact ht (List.length_eq_zero_iff.1 (by omega))
      rw [if_neg h1, if_neg h2]
/-- What Flags answers. -/
def flA2 (o : Option Nat) (a : Addr) : Ending := match o with
  | some f => .returned (.tuple #[.int .i64 ((f : Nat) : Int), .nilIface])
  | none => .returned (.tuple #[.int .i64 0, .iface 151 (.pointer (some a))])
theorem leaveQ {W w : World} {v1 v2 : Value} {tmps : Array Value} {r1 r2 : Nat} {Q : Ending → World → Prop} (h1 : Blk W r1 #[v1] 3) (h2 : Blk W r2 #[v2] 25) (hO : Q (.returned (.tuple #[v1, v2])) W)
    (ht1 : tmps[2]? = some (.pointer (some ⟨r1, 0, none⟩)) := by rfl) (ht2 : tmps[3]? = some (.pointer (some ⟨r2, 0, none⟩)) := by rfl) :
    LeavesInM Fence.wide 5 Tryz.prog Tryz.f21 tmps Q [] .returning W := by
  have c1 := h1.cell
  have c2 := h2.cell
  refine ⟨.tuple #[v1, v2], ?_, hO⟩
  simp [results, Tryz.results21, go_sem, ht1, ht2, c1, c2]
theorem flW_lt {x : List UInt8} {b : Nat} (h : flW x = some b) : b < 32 := by
  unfold flW at h
  split at h
  · cases h
    exact flA_lt _ 5 (by omega)
  · cases h
set_option maxRecDepth 20000 in
set_option maxHeartbeats 4000000 in
theorem pflags_err (s b l : List UInt8) (b1 b2 : Bool) (w : World) (a : Addr) (hE : EFq w a) (hbb : b1 = false ∨ (b1 = true ∧ b2 = false))
    (hP : ∀ W, Calls Tryz.prog 40 #[.string ⟨s.toArray⟩, .string ⟨#[40]⟩] W fun e w' => e = .returned (.tuple #[.string ⟨b.toArray⟩, .bool b1]) ∧ w' = W)
    (hS : ∀ W, Calls Tryz.prog 41 #[.string ⟨b.toArray⟩, .string ⟨#[41]⟩] W fun e w' => e = .returned (.tuple #[.string ⟨l.toArray⟩, .bool b2]) ∧ w' = W) :
    Calls Tryz.prog 21 #[.string ⟨s.toArray⟩] w fun e w' => e = .returned (.tuple #[.int .i64 0, .iface 151 (.pointer (some a))]) ∧ Below w.heap.size w w' := by
  have KEY : Hid (∀ w1 : World, Below w.heap.size w w1 → w1.cell? ⟨0, 0, none⟩ = some (.iface 151 (.pointer (some a)))) := fun w1 hb => (hE.below hb).cell
  have hlow := hE.low
  have hne0 : ¬ w.heap.size = 0 := fun e => by omega
  have hne1 : ¬ 0 = w.heap.size := fun e => hne0 e.symm
  have hne2 : ¬ w.heap.size + 1 = 0 := fun e => by omega
  have hne3 : ¬ 0 = w.heap.size + 1 := fun e => hne2 e.symm
  clear hE
  have HP := hide hP
  have HS := hide hS
  clear hP hS
  obtain ⟨W1, HW1⟩ : ∃ W1, Hid ((w.alloc (.cells #[.int .i64 0] 3)).alloc (.cells #[.nilIface] 25) = W1) := ⟨_, hide rfl⟩
  have HB0 : Hid (Below w.heap.size w W1) := by show Below _ _ _; rw [← HW1.out]; exact ((Below.refl w.heap.size w).alloc (Nat.le_refl _) _).alloc (by simp) _
  have HK0 : Hid (Blk W1 w.heap.size #[.int .i64 0] 3) := by show Blk _ _ _ _; rw [← HW1.out]; exact (Blk.new w _ _).alloc _
  have HK1 : Hid (Blk W1 (w.heap.size + 1) #[.nilIface] 25) := by show Blk _ _ _ _; rw [← HW1.out]; exact Blk.new1 w _ _ _
  rcases hbb with rfl | ⟨rfl, rfl⟩
  all_goals
    go_enter Tryz.func21, Tryz.ntmps21
    go_wp2_with (first
      | (go_at_call 40; refine (HP.out _).mono ?_; rintro e w2 ⟨rfl, rfl⟩)
      | (go_at_call 41; refine (HS.out _).mono ?_; rintro e w2 ⟨rfl, rfl⟩))
    rw [HW1.out]
    have hge := KEY.out _ HB0.out
    have hc := HK0.out.cell
    have hf := HK0.out.frozen
    have hc1 := HK1.out.cell
    have hf1 := HK1.out.frozen
    go_region
    all_goals
      go_wp2
      have h4 := ((HK0.out.set 0 (.int .i64 0)).set_other ⟨w.heap.size + 1, 0, none⟩ (.iface 151 (.pointer (some a))) (by simp)).cell
      have h5 := ((HK1.out.set_other ⟨w.heap.size, 0, none⟩ (.int .i64 0) (by simp)).set 0 (.iface 151 (.pointer (some a)))).cell
      exact bodyPost_ret (v := .tuple #[.int .i64 0, .iface 151 (.pointer (some a))]) (by simp [results, Tryz.results21, go_sem, h4, h5]) rfl ⟨rfl, ((HB0.out.setCell (p := ⟨w.heap.size, 0, none⟩) (Nat.le_refl _) _).setCell (p := ⟨w.heap.size + 1, 0, none⟩) (by simp) _).drew⟩
set_option maxRecDepth 20000 in
set_option maxHeartbeats 4000000 in
theorem pflags_nil (s b : List UInt8) (w : World)
    (hP : ∀ W, Calls Tryz.prog 40 #[.string ⟨s.toArray⟩, .string ⟨#[40]⟩] W fun e w' => e = .returned (.tuple #[.string ⟨b.toArray⟩, .bool true]) ∧ w' = W)
    (hS : ∀ W, Calls Tryz.prog 41 #[.string ⟨b.toArray⟩, .string ⟨#[41]⟩] W fun e w' => e = .returned (.tuple #[.string ⟨#[]⟩, .bool true]) ∧ w' = W) :
    Calls Tryz.prog 21 #[.string ⟨s.toArray⟩] w fun e w' => e = .returned (.tuple #[.int .i64 0, .nilIface]) ∧ Below w.heap.size w w' := by
  have HP := hide hP
  have HS := hide hS
  clear hP hS
  have hsub : ∀ (E : World), E = (w.alloc (.cells #[.int .i64 0] 3)).alloc (.cells #[.nilIface] 25) → Blk E w.heap.size #[.int .i64 0] 3 ∧ Blk E (w.heap.size + 1) #[.nilIface] 25 ∧ Below w.heap.size w E := fun E e => by
    subst e
    exact ⟨(Blk.new w _ _).alloc _, Blk.new1 w _ _ _, ((Below.refl w.heap.size w).alloc (Nat.le_refl _) _).alloc (by simp) _⟩
  obtain ⟨k0, k1, kb⟩ := hsub _ rfl
  have q0 := k0.cell 0
  have q0f := k0.frozen 0
  have q1 := (k1.set_other ⟨w.heap.size, 0, none⟩ (.int .i64 0) (by simp)).cell 0
  have q1f := (k1.set_other ⟨w.heap.size, 0, none⟩ (.int .i64 0) (by simp)).frozen 0
  have h4 := hide ((k0.set 0 (.int .i64 0)).set_other ⟨w.heap.size + 1, 0, none⟩ .nilIface (by simp)).cell
  have h5 := hide ((k1.set_other ⟨w.heap.size, 0, none⟩ (.int .i64 0) (by simp)).set 0 .nilIface).cell
  have hB := hide ((kb.setCell (p := ⟨w.heap.size, 0, none⟩) (Nat.le_refl _) (.int .i64 0)).setCell (p := ⟨w.heap.size + 1, 0, none⟩) (by simp) .nilIface)
  clear hsub k0 k1 kb
  go_enter Tryz.func21, Tryz.ntmps21
  go_wp2_with (first
    | (go_at_call 40; refine (HP.out _).mono ?_; rintro e w2 ⟨rfl, rfl⟩)
    | (go_at_call 41; refine (HS.out _).mono ?_; rintro e w2 ⟨rfl, rfl⟩))
  have h4' := h4.out
  have h5' := h5.out
  exact bodyPost_ret (v := .tuple #[.int .i64 0, .nilIface]) (by simp [results, Tryz.results21, go_sem, h4', h5']) rfl ⟨rfl, by first | exact hB.out | exact ((Below.refl w.heap.size w).alloc (Nat.le_refl _) _).alloc (by simp) _⟩
set_option maxRecDepth 20000 in
set_option maxHeartbeats 4000000 in
theorem pflags_main (s b l : List UInt8) (w : World) (a : Addr) (hE : EFq w a) (hN : Nms w) (hs : s.length ≤ 1000000) (hll : l.length ≤ 1000000) (hl0 : l ≠ [])
    (hP : ∀ W, Calls Tryz.prog 40 #[.string ⟨s.toArray⟩, .string ⟨#[40]⟩] W fun e w' => e = .returned (.tuple #[.string ⟨b.toArray⟩, .bool true]) ∧ w' = W)
    (hS : ∀ W, Calls Tryz.prog 41 #[.string ⟨b.toArray⟩, .string ⟨#[41]⟩] W fun e w' => e = .returned (.tuple #[.string ⟨l.toArray⟩, .bool true]) ∧ w' = W) :
    Calls Tryz.prog 21 #[.string ⟨s.toArray⟩] w fun e w' => e = flA2 (flF 0 (spc 32 l)) a ∧ Below w.heap.size w w' := by
  obtain ⟨O, HO⟩ : ∃ O, Hid (O = flF 0 (spc 32 l)) := ⟨_, hide rfl⟩
  rw [← HO.out]
  have hb0 : (l == []) = false := beq_eq_false_iff_ne.2 hl0
  have HP := hide hP
  have HS := hide hS
  have HEr := hide hE
  have HNm := hide hN
  clear hP hS hE hN hl0
  refine (callsIn_wide (n := 5)).1 ?_
  refine callsIn_of_wp_marks Tryz.func21 rfl trivial ?_ rfl
  simp only [Tryz.ntmps21, List.size_toArray, List.length_cons, List.length_nil, Nat.reduceAdd, Nat.reduceSub, Array.replicate_succ, Array.replicate_zero, List.push_toArray, List.append_toArray, List.nil_append, List.cons_append]
  gi_wp2_with (first
    | (refine ⟨trivial, ?_⟩; gi_at_call 40; refine (callsIn_wide.2 (HP.out _)).mono ?_; rintro e w' ⟨rfl, rfl⟩)
    | (refine ⟨trivial, ?_⟩; gi_at_call 41; refine (callsIn_wide.2 (HS.out _)).mono ?_; rintro e w' ⟨rfl, rfl⟩)
    | (refine ⟨trivial, ?_⟩; gi_at_call 26; refine (callsIn_wide.2 (splitSeq_anyS 32 l _)).mono ?_; rintro e w' ⟨rfl, rfl⟩))
  clear HP HS hb0
  obtain ⟨W0, hW0⟩ : ∃ W0, (((((w.alloc (.cells #[.int .i64 0] 3)).alloc (.cells #[.nilIface] 25)).alloc (.cells #[.int .i64 0] 3)).alloc (.cells #[.string ⟨l.toArray⟩] 9)).alloc (.cells #[.string ⟨#[32]⟩] 9)).alloc (.cells #[.int .i64 0] 3) = W0 := ⟨_, rfl⟩
  have hsz0 : W0.heap.size = w.heap.size + 6 := by rw [← hW0]; simp
  have hbW : Below w.heap.size w W0 := by rw [← hW0]; exact ((((((Below.refl _ _).alloc (Nat.le_refl _) _).alloc (by simp) _).alloc (by simp; omega) _).alloc (by simp; omega) _).alloc (by simp; omega) _).alloc (by simp; omega) _
  have k1 : Blk W0 w.heap.size #[.int .i64 0] 3 := by rw [← hW0]; exact (((((Blk.new w _ _).alloc _).alloc _).alloc _).alloc _).alloc _
  have k2 : Blk W0 (w.heap.size + 1) #[.nilIface] 25 := by rw [← hW0]; exact ((((Blk.new1 w _ _ _).alloc _).alloc _).alloc _).alloc _
  have k3 : Blk W0 (w.heap.size + 1 + 1) #[.int .i64 0] 3 := by rw [← hW0]; exact (((Blk.new_atS (by simp)).alloc _).alloc _).alloc _
  have hBs : Blk W0 (w.heap.size + 1 + 1 + 1) #[.string ⟨l.toArray⟩] 9 := by rw [← hW0]; exact ((Blk.new_atS (by simp)).alloc _).alloc _
  have hBp : Blk W0 (w.heap.size + 1 + 1 + 1 + 1) #[.string ⟨#[32]⟩] 9 := by rw [← hW0]; exact (Blk.new_atS (by simp)).alloc _
  have hBq : Blk W0 (w.heap.size + 1 + 1 + 1 + 2) #[.int .i64 0] 3 := by rw [← hW0]; exact Blk.new_atS (by simp)
  rw [hW0]
  clear hW0
  have hsub : ∀ k, k < w.heap.size + 3 → ¬ Own5S (w.heap.size + 1 + 1 + 1) (w.heap.size + 1 + 1 + 1 + 1) (w.heap.size + 1 + 1 + 1 + 2) W0.heap.size k := by rintro k hk (h | h | h | h | h) <;> omega
  have hsup : ∀ k, Own5S (w.heap.size + 1 + 1 + 1) (w.heap.size + 1 + 1 + 1 + 1) (w.heap.size + 1 + 1 + 1 + 2) W0.heap.size k → w.heap.size + 3 ≤ k ∧ k ≤ W0.heap.size + 1 := by rintro k (h | h | h | h | h) <;> omega
  have HSZ := hide hsz0
  have HSUP := hide hsup
  clear hsz0 hsup
  refine range_splitS (c0 := 32) (by omega) (s := l) (Bs := w.heap.size + 1 + 1 + 1) (Bp := w.heap.size + 1 + 1 + 1 + 1) (Bq := w.heap.size + 1 + 1 + 1 + 2) (by omega) (by omega) (by omega) rfl rfl hBs hBp hBq
    (fun pre W => ∃ f, flF 0 pre = some f ∧ f < 32 ∧ Blk W w.heap.size #[.int .i64 0] 3 ∧ Blk W (w.heap.size + 1) #[.nilIface] 25 ∧ Blk W (w.heap.size + 1 + 1) #[.int .i64 ((f : Nat) : Int)] 3 ∧ Below w.heap.size w W)
    (fun c W => c = .ret ∧ Blk W w.heap.size #[.int .i64 0] 3 ∧ Blk W (w.heap.size + 1) #[.iface 151 (.pointer (some a))] 25 ∧ Below w.heap.size w W ∧ O = none)
    (fun pre W W' h hm => by obtain ⟨f, e1, e2, h1, h2, h3, h4⟩ := h; exact ⟨f, e1, e2, hm.blk h1 (hsub _ (by omega)), hm.blk h2 (hsub _ (by omega)), hm.blk h3 (hsub _ (by omega)), below_mvsS h4 hm (fun k hk => hsub k (by omega)) (Nat.le_refl _)⟩)
    (fun c W W' h hm => ⟨h.1, hm.blk h.2.1 (hsub _ (by omega)), hm.blk h.2.2.1 (hsub _ (by omega)), below_mvsS h.2.2.2.1 hm (fun k hk => hsub k (by omega)) (Nat.le_refl _), h.2.2.2.2⟩) ⟨0, rfl, by omega, k1, k2, k3, hbW⟩
    (fun x => { tmps := #[.string ⟨s.toArray⟩, undef, .pointer (some ⟨w.heap.size, 0, none⟩), .pointer (some ⟨w.heap.size + 1, 0, none⟩), .string ⟨b.toArray⟩, .bool true, .string ⟨l.toArray⟩, .bool true, .pointer (some ⟨w.heap.size + 1 + 1, 0, none⟩), .string ⟨x.toArray⟩, undef, undef,
      .tuple #[.string ⟨b.toArray⟩, .bool true], .string ⟨s.toArray⟩, .tuple #[.string ⟨b.toArray⟩, .bool true], .string ⟨b.toArray⟩, .bool true, .tuple #[.string ⟨l.toArray⟩, .bool true], .string ⟨b.toArray⟩, .tuple #[.string ⟨l.toArray⟩, .bool true], .string ⟨l.toArray⟩, .bool true, .bool true, .bool false, .bool false, .bool true, .bool false, .bool false, undef, .string ⟨l.toArray⟩, .bool false, .string ⟨l.toArray⟩,
      .func (.func 67) #[] #[.pointer (some ⟨w.heap.size + 1 + 1 + 1 + 1, 0, none⟩), .pointer (some ⟨w.heap.size + 1 + 1 + 1, 0, none⟩), .pointer (some ⟨w.heap.size + 1 + 1 + 1 + 2, 0, none⟩)], .string ⟨x.toArray⟩, undef, undef, undef, undef, undef, undef, undef, undef, undef, undef, undef, undef], defers := [] }) ?assign ?body ?done ?stop
  case assign =>
    intro l x W K hK
    gi_wp2
    exact hK
  case body =>
    rintro lp pre x W ⟨f, hf, hf32, h1, h2, h3, h4⟩ hpost hlt
    have hxl : x.length ≤ 1000000 := by
      obtain ⟨post, hpp⟩ := hpost
      have := spc_size (c := 32) l x (by rw [← hpp]; simp)
      omega
    have HFg := hide (pflagOf_any x W (HNm.out.below h4) hxl)
    have hkb : w.heap.size + 3 ≤ W.heap.size := by have := HSZ.out; omega
    cases hw : flW x with
    | none =>
      have HBAD : Hid (O = none) := by
        obtain ⟨post, hpp⟩ := hpost
        show _ = _
        rw [HO.out, ← hpp]
        exact flF_bad hw
      rw [hw] at HFg
      change Hid (Calls _ _ _ _ fun e w' => e = .returned (.tuple #[.int .i64 0, .bool false]) ∧ _) at HFg
      have hce : Hid (∀ w1, Below w.heap.size w w1 → w1.cell? ⟨0, 0, none⟩ = some (.iface 151 (.pointer (some a)))) := fun w1 hb => (HEr.out.below hb).cell
      have hle : 0 < w.heap.size := HEr.out.low
      have H1 := hide h1
      have H2 := hide h2
      have H4 := hide h4
      have HLT := hide hlt
      clear h1 h2 h3 h4 hpost hw hf hf32 hxl hlt
      gi_wp2_with (first
        | (refine ⟨trivial, ?_⟩; gi_at_call 42; refine (CallsIn.inRound lp (callsIn_wide.2 HFg.out)).mono ?_; rintro e w5 ⟨rfl, hb5⟩))
      have B2 := hide (H1.out.below hb5 H1.out.lt)
      have B3 := hide (H2.out.below hb5 H2.out.lt)
      have B5 := hide (H4.out.trans (hb5.mono H4.out.size))
      have q2 := B2.out.cell 0
      have q2f := B2.out.frozen 0
      have q3 := B3.out.cell 0
      have q3f := B3.out.frozen 0
      have HB5 := hide hb5
      clear hb5
      refine regionI 2 (fun W => W.cell? ⟨0, 0, none⟩ = some ((.iface 151 (.pointer (some a))))) (by kernel_rfl) (by kernel_rfl) ?_
      have HT0 : w5.drew.cell? ⟨0, 0, none⟩ = some ((.iface 151 (.pointer (some a)))) := hce.out _ B5.out.drew
      refine takeL (i := 0) (v := (.iface 151 (.pointer (some a)))) rfl (by kernel_rfl) (by kernel_rfl) (by kernel_rfl) (by kernel_rfl) (by kernel_rfl) (fun _ _ _ h => absurd h.1 (by simp)) HT0 (Or.inl ⟨by rfl, fun W hW => by go_simp⟩) ?_
      simp only [Act.put, List.getElem_toArray, List.getElem_cons_succ, List.getElem_cons_zero, List.setIfInBounds_toArray, List.set_cons_zero, List.set_cons_succ]
      refine readyL (rs := [1]) (by kernel_rfl) (by simp) ?_
      refine AllL.cons rfl (fun K hK => ?_) AllL.nil
      try simp only [List.getElem_toArray, List.getElem_cons_succ, List.getElem_cons_zero]
      go_simp
      refine hK.out _ _ (fun _ => ?_) (fun HTn => ?_)
      · show (w5.setCell ⟨w.heap.size, 0, none⟩ (.int .i64 0)).cell? ⟨0, 0, none⟩ = _
        rw [World.cell?_setCell_other]
        · exact HT0
        · intro e
          have := congrArg Addr.block e
          dsimp only at this
          omega
      clear hK K
      refine readyL (rs := [2]) (by kernel_rfl) (by simp) ?_
      refine AllL.cons rfl (fun K hK => ?_) AllL.nil
      have q3' : (w5.setCell ⟨w.heap.size, 0, none⟩ (.int .i64 0)).drew.cell? ⟨w.heap.size + 1, 0, none⟩ = some .nilIface := (B3.out.set_other ⟨w.heap.size, 0, none⟩ (.int .i64 0) (by simp)).cell 0
      have q3f' : (w5.setCell ⟨w.heap.size, 0, none⟩ (.int .i64 0)).drew.frozen? ⟨w.heap.size + 1, 0, none⟩ = false := (B3.out.set_other ⟨w.heap.size, 0, none⟩ (.int .i64 0) (by simp)).frozen 0
      try simp only [List.getElem_toArray, List.getElem_cons_succ, List.getElem_cons_zero]
      go_simp
      refine hK.out _ _ (vac (by kernel_rfl)) (fun _ => ?_)
      clear hK K HT0
      refine doneL (by kernel_rfl) ⟨rfl, ?_⟩ _
      gi_wp2
      refine ⟨fun k hk => ?_, rfl, ?_, ?_, ?_, HBAD.out⟩
      · obtain ⟨hk1, hk2⟩ := HSUP.out k hk
        have hlt' := HLT.out
        exact (heap_setCell_otherS (by omega)).trans ((heap_setCell_otherS (by omega)).trans (HB5.out.block k (by omega)))
      · exact (B2.out.set 0 _).set_other _ _ (by simp)
      · exact (B3.out.set_other _ _ (by simp)).set 0 _
      · exact ((B5.out.drew).setCell (p := ⟨w.heap.size, 0, none⟩) (by simp) _).setCell (p := ⟨w.heap.size + 1, 0, none⟩) (by simp) _
    | some x2 =>
      have hx32 := flW_lt hw
      have HGOOD := hide (flF_good hw hf)
      have hor : bits .or .i64 ((f : Nat) : Int) ((x2 : Nat) : Int) = ((f ||| x2 : Nat) : Int) := or_nat f x2 (by omega) (by omega)
      have H32 : Hid (f ||| x2 < 32) := Nat.or_lt_two_pow (n := 5) hf32 hx32
      rw [hw] at HFg
      change Hid (Calls _ _ _ _ fun e w' => e = .returned (.tuple #[.int .i64 ((x2 : Nat) : Int), .bool true]) ∧ _) at HFg
      have H1 := hide h1
      have H2 := hide h2
      have H3 := hide h3
      have H4 := hide h4
      have HLT := hide hlt
      clear h1 h2 h3 h4 hpost hw hf hf32 hx32 hxl hlt
      generalize f ||| x2 = f2 at *
      gi_wp2_with (first
        | (refine ⟨trivial, ?_⟩; gi_at_call 42; refine (CallsIn.inRound lp (callsIn_wide.2 HFg.out)).mono ?_; rintro e w5 ⟨rfl, hb5⟩
           have B1 := hide (H1.out.below hb5 H1.out.lt)
           have B2 := hide (H2.out.below hb5 H2.out.lt)
           have B3 := hide (H3.out.below hb5 H3.out.lt)
           have B5 := hide (H4.out.trans (hb5.mono H4.out.size))
           have q3 := B3.out.cell 0
           have q3f := B3.out.frozen 0
           have HB5 := hide hb5
           clear hb5))
      refine ⟨fun k hk => ?_, f2, HGOOD.out, H32.out, ?_, ?_, ?_, ?_⟩
      · obtain ⟨hk1, hk2⟩ := HSUP.out k hk
        have hlt' := HLT.out
        exact (heap_setCell_otherS (by omega)).trans (HB5.out.block k (by omega))
      · exact B1.out.set_other _ _ (by simp; omega)
      · exact B2.out.set_other _ _ (by simp)
      · exact B3.out.set 0 _
      · exact B5.out.setCell (p := ⟨w.heap.size + 1 + 1, 0, none⟩) (by simp; omega) _
  case done =>
    rintro W ⟨f, hf, hf32, h1, h2, h3, h4⟩ hK
    have HV : Hid (O = some f) := by show _ = _; rw [HO.out]; exact hf
    have q1 := h1.cell 0
    have q1f := h1.frozen 0
    have q2 := (h2.set_other ⟨w.heap.size, 0, none⟩ (.int .i64 ((f : Nat) : Int)) (by simp)).cell 0
    have q2f := (h2.set_other ⟨w.heap.size, 0, none⟩ (.int .i64 ((f : Nat) : Int)) (by simp)).frozen 0
    have q3 := h3.cell 0
    have H1 := hide h1
    have H2 := hide h2
    have H4 := hide h4
    have HK := hide hK
    clear h1 h2 h3 h4 hK hf hf32
    gi_wp2
    have hsz0 := HSZ.out
    have hK5 : ((W.setCell ⟨w.heap.size, 0, none⟩ (.int .i64 ((f : Nat) : Int))).setCell ⟨w.heap.size + 1, 0, none⟩ .nilIface).heap[W0.heap.size]? = some (.deferred (some [])) := (heap_setCell_otherS (by omega)).trans ((heap_setCell_otherS (by omega)).trans HK.out)
    have h1' := (H1.out.set 0 (.int .i64 ((f : Nat) : Int))).set_other ⟨w.heap.size + 1, 0, none⟩ .nilIface (by simp)
    have h2' := (H2.out.set_other ⟨w.heap.size, 0, none⟩ (.int .i64 ((f : Nat) : Int)) (by simp)).set 0 .nilIface
    have hbF := (H4.out.setCell (p := ⟨w.heap.size, 0, none⟩) (by simp) (.int .i64 ((f : Nat) : Int))).setCell (p := ⟨w.heap.size + 1, 0, none⟩) (by simp) .nilIface
    refine ⟨by simp, .inl ⟨_, _, rfl, run_takeDeferred hK5, ?_⟩⟩
    exact leaveQ (w := w) (h1'.putObjS _ (by omega)) (h2'.putObjS _ (by omega)) ⟨by rw [HV.out]; rfl, hbF.trans (belowK_b (w := w) (Nat.le_refl _) _ _ _ _ (by omega) hK5 rfl rfl)⟩
  case stop =>
    rintro c W ⟨rfl, h1, h2, hbW, ha⟩ hK
    have HD := hide ha
    gi_wp2
    have hsz0 := HSZ.out
    refine ⟨by simp, .inl ⟨_, _, rfl, run_takeDeferred hK, ?_⟩⟩
    exact leaveQ (w := w) (h1.putObjS _ (by omega)) (h2.putObjS _ (by omega)) ⟨by rw [HD.out]; rfl, hbW.trans (belowK_b (w := w) (Nat.le_refl _) W _ _ _ (by omega) hK rfl rfl)⟩
theorem pflags_any (s : List UInt8) (w : World) (a : Addr) (hE : EFq w a) (hN : Nms w) (hs : s.length ≤ 1000000) :
    Calls Tryz.prog 21 #[.string ⟨s.toArray⟩] w fun e w' => e = flA2 (flO s) a ∧ Below w.heap.size w w' := by
  have hP : ∀ W, Calls Tryz.prog 40 #[.string ⟨s.toArray⟩, .string ⟨#[40]⟩] W fun e w' => e = .returned (.tuple #[.string ⟨(Lib.trimPrefix s [40]).toArray⟩, .bool (Lib.hasPrefix s [40])]) ∧ w' = W := fun W => Tryz.strings_CutPrefix ⟨s.toArray⟩ ⟨#[40]⟩ W
  have hS : ∀ (r : List UInt8) W, r.length ≤ 1000000 → Calls Tryz.prog 41 #[.string ⟨r.toArray⟩, .string ⟨#[41]⟩] W fun e w' => e = .returned (.tuple #[.string ⟨(Lib.trimSuffix r [41]).toArray⟩, .bool (Lib.hasSuffix r [41])]) ∧ w' = W := fun r W hr => Tryz.strings_CutSuffix ⟨r.toArray⟩ ⟨#[41]⟩ W (by have := size_lit r; omega)
  cases h1 : Lib.hasPrefix s [40] with
  | false =>
    rw [fl_pre h1]
    rw [h1] at hP
    have hpl : (Lib.trimPrefix s [40]).length ≤ 1000000 := by unfold Lib.trimPrefix; rw [h1]; exact hs
    exact pflags_err s _ _ false _ w a hE (.inl rfl) hP (fun W => hS _ W hpl)
  | true =>
    obtain ⟨r, e, hr⟩ := fl_preY h1
    rw [h1, hr] at hP
    have hrl : r.length ≤ 1000000 := by rw [e] at hs; simp at hs; omega
    have hSr := fun W => hS r W hrl
    cases h2 : Lib.hasSuffix r [41] with
    | false =>
      rw [e, fl_suf h2, ← e]
      rw [h2] at hSr
      exact pflags_err s _ _ true false w a hE (.inr ⟨rfl, rfl⟩) hP hSr
    | true =>
      have hv : flO s = if Lib.trimSuffix r [41] = [] then some 0 else flF 0 (spc 32 (Lib.trimSuffix r [41])) := by rw [e]; exact fl_both h2
      rw [hv]
      rw [h2] at hSr
      have hll : (Lib.trimSuffix r [41]).length ≤ 1000000 := by
        have : (Lib.trimSuffix r [41]).length ≤ r.length := by
          unfold Lib.trimSuffix
          split <;> simp
        omega
      generalize Lib.trimSuffix r [41] = l at *
      by_cases hl : l = []
      · rw [if_pos hl]
        subst hl
        exact pflags_nil s r w hP hSr
      · rw [if_neg hl]
        exact pflags_main s r l w a hE hN hs hll hl hP hSr
end Go.Proofs.YtbjencibkkhbhaaGreatDoor
