/- Only of package header. -/
import Derived.Test.YtnokanmcgpjkmaaGreatDoorHg1
import Derived.Test.YtnokanmcgpjkmaaGreatDoorHo1
namespace Go.Proofs.YtnokanmcgpjkmaaGreatDoor
open Go.RowKit Go.Shelf
attribute [local go_sem] Oper.semAt_some
theorem make_map (n : Nat) (W : World) : (Instr.makeMap 104 (some (.int .i64 (n : Nat)))).run Tryz.prog W = .ok (.map (some W.heap.size)) (W.alloc (.map #[] 0)) := by
  simp [Instr.makeMap, go_sem]
/-- A region that draws its order, in a wide fence. -/
theorem regionW {P : Program} {ops : Array Oper} {Q : Exit → Act → World → Prop} (c : Nat) (T : World → Prop) {n id : Nat} {a : Act} {w : World} (hm : P.follows .mixedOrders = true)
    (h : anyL P .any ops (fun e a w => e = .normal ∧ Q .normal a w) c T ops.size (Array.replicate ops.size false) a w.drew) : (Code.region id ops true).wpIn Fence.wide n P Q a w :=
  Go.wpIn_mono (Q := fun e a w => e = .normal ∧ Q .normal a w) (wpIn_wide.2 (regionL c T hm h)) (fun e a w hq => by obtain ⟨rfl, hq⟩ := hq; exact hq)
/-- Is the field kept? -/
def keepP (ys : List (List UInt8)) (nt : Bool) (f : Fd) : Bool := decide (f.name.map lowB ∈ ys) != nt
/-- A field as it stands in its message. -/
def segB (m : List UInt8) (f : Fd) : List UInt8 := (m.drop f.from').take (f.to - f.from')
def onlyL (m : List UInt8) (ys : List (List UInt8)) (nt : Bool) (fs : List Fd) : List UInt8 := (fs.filter (keepP ys nt)).flatMap (segB m)
theorem only_snoc (m : List UInt8) (ys : List (List UInt8)) (nt : Bool) (fs : List Fd) (f : Fd) : onlyL m ys nt (fs ++ [f]) = onlyL m ys nt fs ++ (if keepP ys nt f then segB m f else []) := by
  unfold onlyL
  rw [List.filter_append, List.flatMap_append]
  by_cases h : keepP ys nt f = true
  · simp [h]
  · simp [h]
theorem seg_len (m : List UInt8) (f : Fd) : (segB m f).length ≤ m.length := by
  unfold segB
  rw [List.length_take, List.length_drop]
  omega
theorem only_len (m : List UInt8) (ys : List (List UInt8)) (nt : Bool) : ∀ (fs : List Fd), (onlyL m ys nt fs).length ≤ fs.length * m.length
  | [] => by simp [onlyL]
  | f :: fs => by
    have h1 := only_len m ys nt fs
    have h2 := seg_len m f
    unfold onlyL at *
    rw [List.filter_cons]
    rw [List.length_cons, Nat.succ_mul]
    split
    · rw [List.flatMap_cons, List.length_append]
      omega
    · omega
/-- What Only keeps in memory. -/
structure OS (w : World) (m : List UInt8) (nt : Bool) (ys : List (List UInt8)) (W : World) : Prop where
  low : Below w.heap.size w W
  c0 : Blk W w.heap.size #[.string ⟨m.toArray⟩] 9
  c1 : Blk W (w.heap.size + 1) #[.bool nt] 4
  ms : MS W (w.heap.size + 1 + 1) ys
  c3 : Blk W (w.heap.size + 1 + 1 + 1) #[.map (some (w.heap.size + 1 + 1))] 104
theorem OS.keep {w W W' : World} {m : List UInt8} {nt : Bool} {ys : List (List UInt8)} {S : Nat → Prop} (h : OS w m nt ys W) (hm : Mvs S W W') (h1 : ∀ k, k < w.heap.size + 4 → ¬ S k) : OS w m nt ys W' :=
  ⟨below_mvs h.low hm (fun k hk => h1 k (by omega)) (Nat.le_refl _), hm.blk h.c0 (h1 _ (by omega)), hm.blk h.c1 (h1 _ (by omega)), h.ms.mvs hm (h1 _ (by omega)), hm.blk h.c3 (h1 _ (by omega))⟩
structure OI (w : World) (b : Nat) (m : List UInt8) (nt : Bool) (ys : List (List UInt8)) (bs : List UInt8) (W : World) : Prop extends OS w m nt ys W where
  bu : Lib.IsBuilderF 81 5 b b (Lib.byteCells bs) W
  blt : b < W.heap.size
  lt : w.heap.size + 4 ≤ b
theorem OI.keep {w W W' : World} {b : Nat} {m : List UInt8} {nt : Bool} {ys : List (List UInt8)} {bs : List UInt8} {S : Nat → Prop} (h : OI w b m nt ys bs W) (hm : Mvs S W W') (h1 : ∀ k, k ≤ b → ¬ S k) (h2 : ∀ k, S k → ∀ c fz, W.heap[k]? ≠ some (.cells c 5 fz)) : OI w b m nt ys bs W' :=
  ⟨h.toOS.keep hm (fun k hk => h1 k (by have := h.lt; omega)), isBuilder_mvs h.bu hm (h1 _ (Nat.le_refl _)) h2, Nat.lt_of_lt_of_le h.blt hm.size, h.lt⟩
theorem OI.write {w W W' : World} {b : Nat} {m : List UInt8} {nt : Bool} {ys : List (List UInt8)} {bs s : List UInt8} (h : OI w b m nt ys bs W) (hb : Lib.BuilderAtF 81 5 b b (.pointer (some ⟨b, 0, none⟩)) (Lib.byteCells bs ++ Lib.strCells ⟨s.toArray⟩) W') (hw : Below b W W') : OI w b m nt ys (bs ++ s) W' := by
  have hl := h.lt
  have hM : Mvs (fun k => b ≤ k) W W' := ⟨hw.os, hw.tape, hw.output, hw.size, fun i _ hn => hw.block i (by omega)⟩
  refine ⟨h.toOS.keep hM (fun k hk c => by omega), ?_, Nat.lt_of_lt_of_le h.blt hw.size, h.lt⟩
  rw [← byteCells_app]
  exact .inr hb
set_option linter.unusedSimpArgs false in
set_option linter.unusedVariables false in
set_option maxRecDepth 40000 in
set_option maxHeartbeats 8000000 in
theorem only_any (m : List UInt8) (v : Value) (xs : List (List UInt8)) (nt : Bool) (w : World) (hv : TX w v xs) (hm : m.length ≤ 10000) (hx : xs.length ≤ 50) (hn : ∀ x ∈ xs, x.length ≤ 500) :
    Calls Tryz.prog 44 #[.string ⟨m.toArray⟩, v, .bool nt] w fun e w' => e = .returned (.string ⟨(onlyL m (xs.map (List.map lowB)) nt (hd (splitS m) 0).1 ++ [13, 10]).toArray⟩) ∧ Below w.heap.size w w' := by
  have hsz0 := size_lit m
  obtain ⟨Av, cv, rfl, hr⟩ := hv
  have HR := hide hr
  have HNx := hide hn
  clear hr hn
  refine (callsIn_wide (n := 5)).1 ?_
  refine callsIn_of_wp_marks Tryz.func44 rfl trivial ?_ rfl
  simp only [Tryz.ntmps44, List.size_toArray, List.length_cons, List.length_nil, Nat.reduceAdd, Nat.reduceSub, Array.replicate_succ, Array.replicate_zero, List.push_toArray, List.append_toArray, List.nil_append, List.cons_append]
  have hmm : ∀ W : World, (Instr.makeMap 104 (some (.int .i64 (xs.length : Nat)))).run Tryz.prog W = .ok (.map (some W.heap.size)) (W.alloc (.map #[] 0)) := fun W => make_map _ W
  gi_wp2
  clear hmm
  gi_loopw [20] (fun v20 wr => ∃ k : Nat, k ≤ xs.length ∧ v20 = .int .i64 k ∧ Hid (OS w m nt (((xs.map (List.map lowB)).take k).reverse) wr)) (fun v20 _ => xs.length - (intOf v20).toNat)
  case atStart =>
    refine ⟨0, Nat.zero_le _, rfl, ?_, ?_, ?_, ?_, ?_⟩
    · exact ((((Below.refl _ _).alloc (Nat.le_refl _) _).alloc (by simp) _).alloc (by simp; omega) _).alloc (by simp; omega) _
    · exact (((Blk.new w _ _).alloc _).alloc _).alloc _
    · exact ((Blk.new1 w _ _ _).alloc _).alloc _
    · have := MS.new ((w.alloc (.cells #[.string ⟨m.toArray⟩] 9)).alloc (.cells #[.bool nt] 4))
      simp only [World.size_alloc] at this
      exact this.mvs (S := fun _ => False) ((Mvs.refl _ _).alloc _) (fun c => c)
    · have := Blk.new (((w.alloc (.cells #[.string ⟨m.toArray⟩] 9)).alloc (.cells #[.bool nt] 4)).alloc (.map #[] 0)) #[.map (some (w.heap.size + 1 + 1))] 104
      simp only [World.size_alloc] at this
      exact this
  case round =>
    obtain ⟨k, hk, rfl, HS⟩ := hrel
    have hbs := HS.out.low.size
    by_cases hlt : k < xs.length
    · obtain ⟨g, o, rfl, hgl, q0⟩ := HR.out k hlt
      have hlt' : (k : Int) < xs.length := by omega
      replace q0 := (HS.out.low.cell (p := ⟨g, o + k, none⟩) hgl).trans q0
      have hnl := HNx.out _ (List.getElem_mem hlt)
      have HSt := hide (fun w => smallText_any xs[k] w (by omega))
      have HSN : Hid ((xs[k].map lowB).length ≤ 1000000) := by
        show _ ≤ _
        rw [List.length_map]
        omega
      have HTk : Hid (((xs.map (List.map lowB)).take (k + 1)).reverse = xs[k].map lowB :: ((xs.map (List.map lowB)).take k).reverse) := by
        show _ = _
        rw [List.take_succ_eq_append_getElem (by rw [List.length_map]; exact hlt), List.reverse_append]
        simp
      have HC3 : Hid (∀ W, Mvs (fun _ => False) wr W → W.cell? ⟨w.heap.size + 1 + 1 + 1, 0, none⟩ = some (.map (some (w.heap.size + 1 + 1)))) := fun W hm => (hm.blk HS.out.c3 (fun c => c)).cell 0
      generalize xs[k].map lowB = sn at *
      generalize xs[k] = n at *
      gi_wp2
      refine regionW 4 (fun W => W.cell? ⟨w.heap.size + 1 + 1 + 1, 0, none⟩ = some (.map (some (w.heap.size + 1 + 1)))) (by kernel_rfl) ?_
      have HT0 := HC3.out wr.drew (Mvs.refl _ _).drew
      refine takeL (i := 0) (v := (.map (some (w.heap.size + 1 + 1)))) rfl (by kernel_rfl) (by kernel_rfl) (by kernel_rfl) (by kernel_rfl) (by kernel_rfl) (fun _ _ _ h => absurd h.1 (by simp)) HT0 (Or.inl ⟨by rfl, fun W hW => by obtain t0 := hW; go_simp⟩) ?_
      try simp only [Act.put, List.getElem_toArray, List.getElem_cons_succ, List.getElem_cons_zero, List.setIfInBounds_toArray, List.set_cons_zero, List.set_cons_succ]
      refine takeW (i := 1) (v := (.string ⟨n.toArray⟩)) rfl (by kernel_rfl) (by kernel_rfl) (by kernel_rfl) rfl (fun _ _ _ h => absurd h.1 (by simp)) (fun _ => HT0) (Or.inl ⟨by rfl, fun W _ => by go_simp⟩) ?_
      try simp only [Act.put, List.getElem_toArray, List.getElem_cons_succ, List.getElem_cons_zero, List.setIfInBounds_toArray, List.set_cons_zero, List.set_cons_succ]
      refine takeW (i := 3) (v := (.agg #[])) rfl (by kernel_rfl) (by kernel_rfl) (by kernel_rfl) rfl (fun _ _ _ h => absurd h.1 (by simp)) (fun _ => HT0) (Or.inl ⟨by rfl, fun W _ => by go_simp⟩) ?_
      try simp only [Act.put, List.getElem_toArray, List.getElem_cons_succ, List.getElem_cons_zero, List.setIfInBounds_toArray, List.set_cons_zero, List.set_cons_succ]
      refine readyL (rs := [2]) (by kernel_rfl) (by simp) ?_
      refine AllL.cons rfl (fun K hK => ?_) AllL.nil
      try simp only [List.getElem_toArray, List.getElem_cons_succ, List.getElem_cons_zero]
      go_simp
      refine (HSt.out _).mono ?_
      rintro e w2 ⟨rfl, hb2⟩
      have hm2 : Mvs (fun _ => False) wr w2 := ((Mvs.refl _ _).drew).then hb2
      refine hK.out _ _ (fun _ => HC3.out _ hm2) (fun HTn => ?_)
      clear hK K HT0
      have HT0 := HTn (by kernel_rfl)
      clear HTn hb2
      replace hm2 := hide hm2
      try simp only [Act.put, List.getElem_toArray, List.getElem_cons_succ, List.getElem_cons_zero, List.setIfInBounds_toArray, List.set_cons_zero, List.set_cons_succ]
      obtain ⟨w3, hput, hms3, hmv3⟩ := (HS.out.ms.mvs hm2.out (fun c => c)).put (by rw [List.length_reverse, List.length_take]; omega) sn HSN.out
      have HMV3 := hide ((hm2.out.mono (fun _ _ c => c.elim)).trans hmv3)
      replace hms3 := hide hms3
      clear hmv3
      refine readyL (rs := [4]) (by kernel_rfl) (by simp) ?_
      refine AllL.cons rfl (fun K hK => ?_) AllL.nil
      try simp only [List.getElem_toArray, List.getElem_cons_succ, List.getElem_cons_zero]
      go_simp
      refine hK.out _ _ (vac (by kernel_rfl)) (fun _ => ?_)
      clear hK K HT0 hput
      refine doneL (by kernel_rfl) ⟨rfl, ?_⟩ _
      gi_wp2
      go_roundw
      case rel =>
        refine ⟨k + 1, by omega, by go_num, ?_⟩
        rw [HTk.out]
        exact ⟨below_mvs HS.out.low HMV3.out (fun k hk e => by omega) (Nat.le_refl _), HMV3.out.blk HS.out.c0 (by omega), HMV3.out.blk HS.out.c1 (by omega), hms3.out, HMV3.out.blk HS.out.c3 (by omega)⟩
      case measure => simp [intOf]; omega
    · obtain rfl : k = xs.length := by omega
      have hmem : ∀ t, t ∈ ((xs.map (List.map lowB)).take xs.length).reverse ↔ t ∈ xs.map (List.map lowB) := fun t => by
        rw [List.mem_reverse, List.take_of_length_le (by rw [List.length_map]; exact Nat.le_refl _)]
      have HMem := hide hmem
      generalize hys : ((xs.map (List.map lowB)).take xs.length).reverse = ys at *
      clear hys hmem
      have hc0 := HS.out.c0.cell 0
      have hc0l := HS.out.c0.lt
      gi_wp2_with (first
        | (refine ⟨trivial, ?_⟩; gi_at_call 72; refine (callsIn_wide.2 (places_any m _)).mono ?_; rintro e w' ⟨rfl, rfl⟩))
      obtain ⟨b, hbw⟩ : ∃ b, wr.heap.size = b := ⟨_, rfl⟩
      obtain ⟨W0, hW0⟩ : ∃ W0, (wr.alloc (.cells #[.pointer none, .slice none 0 0] 81)).alloc (.cells #[.string ⟨m.toArray⟩] 9) = W0 := ⟨_, rfl⟩
      have hsz : W0.heap.size = b + 2 := by rw [← hW0, ← hbw]; simp
      have hc3lt := HS.out.c3.lt
      have hBs : Blk W0 (b + 1) #[.string ⟨m.toArray⟩] 9 := by
        rw [← hW0, ← hbw]
        exact Blk.new1 wr _ _ _
      have hI0 : OI w b m nt ys [] W0 := by
        refine ⟨?_, ?_, by omega, by omega⟩
        · rw [← hW0]
          exact HS.out.keep (S := fun _ => False) (((Mvs.refl _ _).alloc _).alloc _) (fun _ _ c => c)
        · rw [← hW0, ← hbw]
          exact (Lib.IsBuilderF.of (Lib.fresh_isBuilder _ _ wr)).alloc _
      rw [hW0]
      simp only [hbw]
      clear hW0 HS hc0 hc0l
      have HSZ := hide hsz
      have hsub : ∀ k, k ≤ b → ¬ Own3 (b + 1) W0.heap.size k := by rintro k hk (h | h | h) <;> omega
      clear hsz
      refine range_places (by omega) (s := m) (Bs := b + 1) (by omega) rfl rfl hBs (fun pre W => OI w b m nt ys (onlyL m ys nt pre) W) (fun _ _ => False)
        (fun pre W W' h hn hm => h.keep hm (fun k hk => hsub k hk) hn) (fun _ _ _ h _ _ => h) hI0
        (fun b' x => { tmps := #[.string ⟨m.toArray⟩, .slice Av xs.length cv, .bool nt, .pointer (some ⟨w.heap.size, 0, none⟩), undef, .pointer (some ⟨w.heap.size + 1, 0, none⟩), .string ⟨#[]⟩, .pointer (some ⟨w.heap.size + 1 + 1 + 1, 0, none⟩), undef, u9, .pointer (some ⟨b, 0, none⟩), .string ⟨x.name.toArray⟩, .pointer (some ⟨b', 0, none⟩), undef, undef,
          .slice Av xs.length cv, .int .i64 (xs.length : Nat), .map (some (w.heap.size + 1 + 1)), .slice Av xs.length cv, .int .i64 (xs.length : Nat), .int .i64 (xs.length : Nat), .bool false, u22, u23, u24, u25, u26, u27, u28, .string ⟨m.toArray⟩, .func (.func 99) #[] #[.pointer (some ⟨b + 1, 0, none⟩)], .string ⟨x.name.toArray⟩, .agg (plc x), undef, undef, undef, undef, undef, undef, undef, undef, undef, undef, undef, undef, undef, undef, undef, undef, undef, undef, undef], defers := [] }) ?assign ?body ?done ?stop
      case assign =>
        intro l x W K hK
        obtain ⟨p, v, f0, f1⟩ := x
        simp only [plc] at hK ⊢
        gi_wp2
        exact hK _ _ ((Below.refl _ _).alloc (Nat.le_refl _) _) (Blk.new _ _ _) (Nat.le_refl _)
      case body =>
        rintro l pre f W b' hI _ hpost hlt2 hbk hr hu hd
        have hmem : f ∈ (Go.Proofs.YtnokanmcgpjkmaaGreatDoor.hd (splitS m) 0).1 := by
          obtain ⟨post, hp⟩ := hpost
          rw [← hp]
          simp
        have hgood := good_hd hmem
        have hpl : pre.length ≤ 10000 := by
          obtain ⟨post, hp⟩ := hpost
          have h3 := congrArg List.length hp
          have h4 := hd_count (splitS m).length (splitS m) 0 (Nat.le_refl _)
          have h5 := splitS_len m
          simp at h3
          omega
        have HX0 := hide (only_snoc m ys nt pre f)
        have HBL : Hid ((onlyL m ys nt pre).length ≤ 100000000) := by
          show _ ≤ _
          refine Nat.le_trans (only_len m ys nt pre) ?_
          exact Nat.mul_le_mul hpl hm
        have hfn : f.name.length ≤ 1000000 := by
          have := hgood.lo
          have := hgood.hi
          omega
        have HSt := hide (fun w => smallText_any f.name w hfn)
        have HLk0 : Hid (∀ W', Mvs (fun _ => False) W W' → W'.cell? ⟨w.heap.size + 1 + 1 + 1, 0, none⟩ = some (.map (some (w.heap.size + 1 + 1))) ∧ (Instr.lookup 104 (.map (some (w.heap.size + 1 + 1))) (.string ⟨(f.name.map lowB).toArray⟩) true).run Tryz.prog W' = .ok (.tuple #[.agg #[], .bool (decide (f.name.map lowB ∈ ys))]) W') := fun W' hm =>
          ⟨(hm.blk hI.c3 (fun c => c)).cell 0, (hI.ms.mvs hm (fun c => c)).look _ (by rw [List.length_map]; exact hfn)⟩
        have HLt : Hid (∀ k, Own3 (b + 1) W0.heap.size k → k < W.heap.size) := by
          obtain ⟨r, hr⟩ := hr
          have h3 := hu.lt
          have h4 := (Array.getElem?_eq_some_iff.1 hr).1
          rintro k (h | h | h) <;> omega
        have HOw := hide (And.intro hu (And.intro hd hr))
        have HI := hide hI
        have HBK := hide hbk
        have e1 := ext_mid m f.from' f.to
        have HSL := hide (seg_len m f)
        have hg1 : f.from' ≤ f.to := by have := hgood.lo; omega
        have hg2 : f.to ≤ m.length := hgood.hi
        clear hI hbk hr hu hd hpost hgood hmem hfn
        obtain ⟨p, V, f0, f1⟩ := f
        dsimp only at *
        have hkp : keepP ys nt ⟨p, V, f0, f1⟩ = (decide (p.map lowB ∈ ys) != nt) := rfl
        rw [hkp] at HX0
        clear hkp
        obtain ⟨S, hS⟩ : ∃ S, segB m ⟨p, V, f0, f1⟩ = S := ⟨_, rfl⟩
        have hS2 : (m.drop f0).take (f1 - f0) = S := hS
        rw [hS] at HX0 HSL
        rw [hS2] at e1
        have g1 : (f0 : Int) ≤ f1 := by omega
        have g2 : (f1 : Int) ≤ m.length := by omega
        clear hS hS2
        generalize hok : decide (p.map lowB ∈ ys) = ok at *
        clear hok
        generalize p.map lowB = sn at *
        cases ok with
        | true =>
          cases nt with
          | true =>
            have HX : Hid (onlyL m ys true (pre ++ [⟨p, V, f0, f1⟩]) = onlyL m ys true pre) := by
              show _ = _
              rw [HX0.out]
              simp
            have HLk := HLk0
            clear HX0 HLk0 HSL
            gi_wp2
            refine regionI 8 (fun W => W.cell? ⟨w.heap.size + 1 + 1 + 1, 0, none⟩ = some (.map (some (w.heap.size + 1 + 1))) ∧ (Instr.lookup 104 (.map (some (w.heap.size + 1 + 1))) (.string ⟨sn.toArray⟩) true).run Tryz.prog W = .ok (.tuple #[.agg #[], .bool true]) W) (by kernel_rfl) (by kernel_rfl) ?_
            have HT0 := HLk.out W.drew (Mvs.refl _ _).drew
            refine takeL (i := 0) (v := (.map (some (w.heap.size + 1 + 1)))) rfl (by kernel_rfl) (by kernel_rfl) (by kernel_rfl) (by kernel_rfl) (by kernel_rfl) (fun _ _ _ h => absurd h.1 (by simp)) HT0 (Or.inl ⟨by rfl, fun W hW => by obtain ⟨t0, t1⟩ := hW; go_simp⟩) ?_
            try simp only [Act.put, List.getElem_toArray, List.getElem_cons_succ, List.getElem_cons_zero, List.setIfInBounds_toArray, List.set_cons_zero, List.set_cons_succ]
            refine takeW (i := 1) (v := (.string ⟨p.toArray⟩)) rfl (by kernel_rfl) (by kernel_rfl) (by kernel_rfl) rfl (fun _ _ _ h => absurd h.1 (by simp)) (fun _ => HT0) (Or.inl ⟨by rfl, fun W _ => by go_simp⟩) ?_
            try simp only [Act.put, List.getElem_toArray, List.getElem_cons_succ, List.getElem_cons_zero, List.setIfInBounds_toArray, List.set_cons_zero, List.set_cons_succ]
            refine readyL (rs := [2, 7]) (by kernel_rfl) (by simp) ?_
            refine AllL.cons rfl (fun K hK => ?_) (AllL.cons rfl (fun K hK => ?_) AllL.nil)
            · skip
              try simp only [List.getElem_toArray, List.getElem_cons_succ, List.getElem_cons_zero]
              go_simp
              refine (HSt.out _).mono ?_
              rintro e w2 ⟨rfl, hb2⟩
              have hm2 : Mvs (fun _ => False) W w2 := ((Mvs.refl _ _).drew).then hb2
              refine hK.out _ _ (fun _ => HLk.out _ hm2) (fun HTn => ?_)
              clear hK K HT0
              have HT0 := HTn (by kernel_rfl)
              clear HTn hb2
              replace hm2 := hide hm2
              try simp only [Act.put, List.getElem_toArray, List.getElem_cons_succ, List.getElem_cons_zero, List.setIfInBounds_toArray, List.set_cons_zero, List.set_cons_succ]
              refine takeL (i := 3) (v := (.tuple #[.agg #[], .bool true])) rfl (by kernel_rfl) (by kernel_rfl) (by kernel_rfl) (by kernel_rfl) (by kernel_rfl) (fun _ _ _ h => absurd h.1 (by simp)) HT0 (Or.inl ⟨by rfl, fun W hW => by obtain ⟨t0, t1⟩ := hW; go_simp⟩) ?_
              try simp only [Act.put, List.getElem_toArray, List.getElem_cons_succ, List.getElem_cons_zero, List.setIfInBounds_toArray, List.set_cons_zero, List.set_cons_succ]
              refine takeW (i := 4) (v := (.tuple #[.agg #[], .bool true])) rfl (by kernel_rfl) (by kernel_rfl) (by kernel_rfl) rfl (fun _ _ _ h => absurd h.1 (by simp)) (fun _ => HT0) (Or.inl ⟨by rfl, fun W _ => by go_simp⟩) ?_
              try simp only [Act.put, List.getElem_toArray, List.getElem_cons_succ, List.getElem_cons_zero, List.setIfInBounds_toArray, List.set_cons_zero, List.set_cons_succ]
              refine takeW (i := 5) (v := (.agg #[])) rfl (by kernel_rfl) (by kernel_rfl) (by kernel_rfl) rfl (fun _ _ _ h => absurd h.1 (by simp)) (fun _ => HT0) (Or.inl ⟨by rfl, fun W _ => by go_simp⟩) ?_
              try simp only [Act.put, List.getElem_toArray, List.getElem_cons_succ, List.getElem_cons_zero, List.setIfInBounds_toArray, List.set_cons_zero, List.set_cons_succ]
              refine takeW (i := 6) (v := (.bool true)) rfl (by kernel_rfl) (by kernel_rfl) (by kernel_rfl) rfl (fun _ _ _ h => absurd h.1 (by simp)) (fun _ => HT0) (Or.inl ⟨by rfl, fun W _ => by go_simp⟩) ?_
              try simp only [Act.put, List.getElem_toArray, List.getElem_cons_succ, List.getElem_cons_zero, List.setIfInBounds_toArray, List.set_cons_zero, List.set_cons_succ]
              refine readyL (rs := [7]) (by kernel_rfl) (by simp) ?_
              refine AllL.cons rfl (fun K hK => ?_) AllL.nil
              try simp only [List.getElem_toArray, List.getElem_cons_succ, List.getElem_cons_zero]
              go_simp
              refine hK.out _ _ (fun _ => HLk.out _ (hm2.out.alloc _)) (fun HTn => ?_)
              clear hK K HT0
              have HT0 := HTn (by kernel_rfl)
              clear HTn
              try simp only [Act.put, List.getElem_toArray, List.getElem_cons_succ, List.getElem_cons_zero, List.setIfInBounds_toArray, List.set_cons_zero, List.set_cons_succ]
              refine readyL (rs := [8]) (by kernel_rfl) (by simp) ?_
              refine AllL.cons rfl (fun K hK => ?_) AllL.nil
              try simp only [List.getElem_toArray, List.getElem_cons_succ, List.getElem_cons_zero]
              go_simp
              refine hK.out _ _ (vac (by kernel_rfl)) (fun _ => ?_)
              clear hK K HT0
              try simp only [Act.put, List.getElem_toArray, List.getElem_cons_succ, List.getElem_cons_zero, List.setIfInBounds_toArray, List.set_cons_zero, List.set_cons_succ]
              refine readyL (rs := [9]) (by kernel_rfl) (by simp) ?_
              refine AllL.cons rfl (fun K hK => ?_) AllL.nil
              try simp only [List.getElem_toArray, List.getElem_cons_succ, List.getElem_cons_zero]
              go_simp
              refine hK.out _ _ (vac (by kernel_rfl)) (fun _ => ?_)
              clear hK K
              try simp only [Act.put, List.getElem_toArray, List.getElem_cons_succ, List.getElem_cons_zero, List.setIfInBounds_toArray, List.set_cons_zero, List.set_cons_succ]
              refine doneL (by kernel_rfl) ⟨rfl, ?_⟩ _
              have HMX := hide (hm2.out.alloc (.cells #[] 105))
              have HI2 := hide (HI.out.keep HMX.out (fun _ _ c => c) (fun _ c => c.elim))
              have HIa := hide (HI.out.keep hm2.out (fun _ _ c => c) (fun _ c => c.elim))
              have z1 := HIa.out.c1.cell 0
              have y1 := HI2.out.c1.cell 0
              gi_wp2
              refine ⟨Kept3.mvs HMX.out (fun k hk => ⟨HLt.out k hk, fun c => c⟩), ?_⟩
              rw [HX.out]
              exact HI2.out
            · skip
              try simp only [List.getElem_toArray, List.getElem_cons_succ, List.getElem_cons_zero]
              go_simp
              refine hK.out _ _ (fun _ => HLk.out _ ((Mvs.refl _ _).drew.alloc _)) (fun HTn => ?_)
              clear hK K HT0
              have HT0 := HTn (by kernel_rfl)
              clear HTn
              try simp only [Act.put, List.getElem_toArray, List.getElem_cons_succ, List.getElem_cons_zero, List.setIfInBounds_toArray, List.set_cons_zero, List.set_cons_succ]
              refine readyL (rs := [2]) (by kernel_rfl) (by simp) ?_
              refine AllL.cons rfl (fun K hK => ?_) AllL.nil
              try simp only [List.getElem_toArray, List.getElem_cons_succ, List.getElem_cons_zero]
              go_simp
              refine (HSt.out _).mono ?_
              rintro e w2 ⟨rfl, hb2⟩
              have hm2 : Mvs (fun _ => False) W w2 := ((Mvs.refl _ _).drew.alloc _).then hb2
              refine hK.out _ _ (fun _ => HLk.out _ hm2) (fun HTn => ?_)
              clear hK K HT0
              have HT0 := HTn (by kernel_rfl)
              clear HTn hb2
              replace hm2 := hide hm2
              try simp only [Act.put, List.getElem_toArray, List.getElem_cons_succ, List.getElem_cons_zero, List.setIfInBounds_toArray, List.set_cons_zero, List.set_cons_succ]
              refine takeL (i := 3) (v := (.tuple #[.agg #[], .bool true])) rfl (by kernel_rfl) (by kernel_rfl) (by kernel_rfl) (by kernel_rfl) (by kernel_rfl) (fun _ _ _ h => absurd h.1 (by simp)) HT0 (Or.inl ⟨by rfl, fun W hW => by obtain ⟨t0, t1⟩ := hW; go_simp⟩) ?_
              try simp only [Act.put, List.getElem_toArray, List.getElem_cons_succ, List.getElem_cons_zero, List.setIfInBounds_toArray, List.set_cons_zero, List.set_cons_succ]
              refine takeW (i := 4) (v := (.tuple #[.agg #[], .bool true])) rfl (by kernel_rfl) (by kernel_rfl) (by kernel_rfl) rfl (fun _ _ _ h => absurd h.1 (by simp)) (fun _ => HT0) (Or.inl ⟨by rfl, fun W _ => by go_simp⟩) ?_
              try simp only [Act.put, List.getElem_toArray, List.getElem_cons_succ, List.getElem_cons_zero, List.setIfInBounds_toArray, List.set_cons_zero, List.set_cons_succ]
              refine takeW (i := 5) (v := (.agg #[])) rfl (by kernel_rfl) (by kernel_rfl) (by kernel_rfl) rfl (fun _ _ _ h => absurd h.1 (by simp)) (fun _ => HT0) (Or.inl ⟨by rfl, fun W _ => by go_simp⟩) ?_
              try simp only [Act.put, List.getElem_toArray, List.getElem_cons_succ, List.getElem_cons_zero, List.setIfInBounds_toArray, List.set_cons_zero, List.set_cons_succ]
              refine takeW (i := 6) (v := (.bool true)) rfl (by kernel_rfl) (by kernel_rfl) (by kernel_rfl) rfl (fun _ _ _ h => absurd h.1 (by simp)) (fun _ => HT0) (Or.inl ⟨by rfl, fun W _ => by go_simp⟩) ?_
              try simp only [Act.put, List.getElem_toArray, List.getElem_cons_succ, List.getElem_cons_zero, List.setIfInBounds_toArray, List.set_cons_zero, List.set_cons_succ]
              refine readyL (rs := [8]) (by kernel_rfl) (by simp) ?_
              refine AllL.cons rfl (fun K hK => ?_) AllL.nil
              try simp only [List.getElem_toArray, List.getElem_cons_succ, List.getElem_cons_zero]
              go_simp
              refine hK.out _ _ (vac (by kernel_rfl)) (fun _ => ?_)
              clear hK K HT0
              try simp only [Act.put, List.getElem_toArray, List.getElem_cons_succ, List.getElem_cons_zero, List.setIfInBounds_toArray, List.set_cons_zero, List.set_cons_succ]
              refine readyL (rs := [9]) (by kernel_rfl) (by simp) ?_
              refine AllL.cons rfl (fun K hK => ?_) AllL.nil
              try simp only [List.getElem_toArray, List.getElem_cons_succ, List.getElem_cons_zero]
              go_simp
              refine hK.out _ _ (vac (by kernel_rfl)) (fun _ => ?_)
              clear hK K
              try simp only [Act.put, List.getElem_toArray, List.getElem_cons_succ, List.getElem_cons_zero, List.setIfInBounds_toArray, List.set_cons_zero, List.set_cons_succ]
              refine doneL (by kernel_rfl) ⟨rfl, ?_⟩ _
              have HMX := hm2
              have HI2 := hide (HI.out.keep HMX.out (fun _ _ c => c) (fun _ c => c.elim))
              have y1 := HI2.out.c1.cell 0
              gi_wp2
              refine ⟨Kept3.mvs HMX.out (fun k hk => ⟨HLt.out k hk, fun c => c⟩), ?_⟩
              rw [HX.out]
              exact HI2.out
          | false =>
            have HX : Hid (onlyL m ys false (pre ++ [⟨p, V, f0, f1⟩]) = onlyL m ys false pre ++ S) := by
              show _ = _
              rw [HX0.out]
              simp
            have HLk := HLk0
            clear HX0 HLk0
            gi_wp2
            refine regionI 8 (fun W => W.cell? ⟨w.heap.size + 1 + 1 + 1, 0, none⟩ = some (.map (some (w.heap.size + 1 + 1))) ∧ (Instr.lookup 104 (.map (some (w.heap.size + 1 + 1))) (.string ⟨sn.toArray⟩) true).run Tryz.prog W = .ok (.tuple #[.agg #[], .bool true]) W) (by kernel_rfl) (by kernel_rfl) ?_
            have HT0 := HLk.out W.drew (Mvs.refl _ _).drew
            refine takeL (i := 0) (v := (.map (some (w.heap.size + 1 + 1)))) rfl (by kernel_rfl) (by kernel_rfl) (by kernel_rfl) (by kernel_rfl) (by kernel_rfl) (fun _ _ _ h => absurd h.1 (by simp)) HT0 (Or.inl ⟨by rfl, fun W hW => by obtain ⟨t0, t1⟩ := hW; go_simp⟩) ?_
            try simp only [Act.put, List.getElem_toArray, List.getElem_cons_succ, List.getElem_cons_zero, List.setIfInBounds_toArray, List.set_cons_zero, List.set_cons_succ]
            refine takeW (i := 1) (v := (.string ⟨p.toArray⟩)) rfl (by kernel_rfl) (by kernel_rfl) (by kernel_rfl) rfl (fun _ _ _ h => absurd h.1 (by simp)) (fun _ => HT0) (Or.inl ⟨by rfl, fun W _ => by go_simp⟩) ?_
            try simp only [Act.put, List.getElem_toArray, List.getElem_cons_succ, List.getElem_cons_zero, List.setIfInBounds_toArray, List.set_cons_zero, List.set_cons_succ]
            refine readyL (rs := [2, 7]) (by kernel_rfl) (by simp) ?_
            refine AllL.cons rfl (fun K hK => ?_) (AllL.cons rfl (fun K hK => ?_) AllL.nil)
            · skip
              try simp only [List.getElem_toArray, List.getElem_cons_succ, List.getElem_cons_zero]
              go_simp
              refine (HSt.out _).mono ?_
              rintro e w2 ⟨rfl, hb2⟩
              have hm2 : Mvs (fun _ => False) W w2 := ((Mvs.refl _ _).drew).then hb2
              refine hK.out _ _ (fun _ => HLk.out _ hm2) (fun HTn => ?_)
              clear hK K HT0
              have HT0 := HTn (by kernel_rfl)
              clear HTn hb2
              replace hm2 := hide hm2
              try simp only [Act.put, List.getElem_toArray, List.getElem_cons_succ, List.getElem_cons_zero, List.setIfInBounds_toArray, List.set_cons_zero, List.set_cons_succ]
              refine takeL (i := 3) (v := (.tuple #[.agg #[], .bool true])) rfl (by kernel_rfl) (by kernel_rfl) (by kernel_rfl) (by kernel_rfl) (by kernel_rfl) (fun _ _ _ h => absurd h.1 (by simp)) HT0 (Or.inl ⟨by rfl, fun W hW => by obtain ⟨t0, t1⟩ := hW; go_simp⟩) ?_
              try simp only [Act.put, List.getElem_toArray, List.getElem_cons_succ, List.getElem_cons_zero, List.setIfInBounds_toArray, List.set_cons_zero, List.set_cons_succ]
              refine takeW (i := 4) (v := (.tuple #[.agg #[], .bool true])) rfl (by kernel_rfl) (by kernel_rfl) (by kernel_rfl) rfl (fun _ _ _ h => absurd h.1 (by simp)) (fun _ => HT0) (Or.inl ⟨by rfl, fun W _ => by go_simp⟩) ?_
              try simp only [Act.put, List.getElem_toArray, List.getElem_cons_succ, List.getElem_cons_zero, List.setIfInBounds_toArray, List.set_cons_zero, List.set_cons_succ]
              refine takeW (i := 5) (v := (.agg #[])) rfl (by kernel_rfl) (by kernel_rfl) (by kernel_rfl) rfl (fun _ _ _ h => absurd h.1 (by simp)) (fun _ => HT0) (Or.inl ⟨by rfl, fun W _ => by go_simp⟩) ?_
              try simp only [Act.put, List.getElem_toArray, List.getElem_cons_succ, List.getElem_cons_zero, List.setIfInBounds_toArray, List.set_cons_zero, List.set_cons_succ]
              refine takeW (i := 6) (v := (.bool true)) rfl (by kernel_rfl) (by kernel_rfl) (by kernel_rfl) rfl (fun _ _ _ h => absurd h.1 (by simp)) (fun _ => HT0) (Or.inl ⟨by rfl, fun W _ => by go_simp⟩) ?_
              try simp only [Act.put, List.getElem_toArray, List.getElem_cons_succ, List.getElem_cons_zero, List.setIfInBounds_toArray, List.set_cons_zero, List.set_cons_succ]
              refine readyL (rs := [7]) (by kernel_rfl) (by simp) ?_
              refine AllL.cons rfl (fun K hK => ?_) AllL.nil
              try simp only [List.getElem_toArray, List.getElem_cons_succ, List.getElem_cons_zero]
              go_simp
              refine hK.out _ _ (fun _ => HLk.out _ (hm2.out.alloc _)) (fun HTn => ?_)
              clear hK K HT0
              have HT0 := HTn (by kernel_rfl)
              clear HTn
              try simp only [Act.put, List.getElem_toArray, List.getElem_cons_succ, List.getElem_cons_zero, List.setIfInBounds_toArray, List.set_cons_zero, List.set_cons_succ]
              refine readyL (rs := [8]) (by kernel_rfl) (by simp) ?_
              refine AllL.cons rfl (fun K hK => ?_) AllL.nil
              try simp only [List.getElem_toArray, List.getElem_cons_succ, List.getElem_cons_zero]
              go_simp
              refine hK.out _ _ (vac (by kernel_rfl)) (fun _ => ?_)
              clear hK K HT0
              try simp only [Act.put, List.getElem_toArray, List.getElem_cons_succ, List.getElem_cons_zero, List.setIfInBounds_toArray, List.set_cons_zero, List.set_cons_succ]
              refine readyL (rs := [9]) (by kernel_rfl) (by simp) ?_
              refine AllL.cons rfl (fun K hK => ?_) AllL.nil
              try simp only [List.getElem_toArray, List.getElem_cons_succ, List.getElem_cons_zero]
              go_simp
              refine hK.out _ _ (vac (by kernel_rfl)) (fun _ => ?_)
              clear hK K
              try simp only [Act.put, List.getElem_toArray, List.getElem_cons_succ, List.getElem_cons_zero, List.setIfInBounds_toArray, List.set_cons_zero, List.set_cons_succ]
              refine doneL (by kernel_rfl) ⟨rfl, ?_⟩ _
              have HMX := hide (hm2.out.alloc (.cells #[] 105))
              have HI2 := hide (HI.out.keep HMX.out (fun _ _ c => c) (fun _ c => c.elim))
              have HIa := hide (HI.out.keep hm2.out (fun _ _ c => c) (fun _ c => c.elim))
              have z1 := HIa.out.c1.cell 0
              have z0 := HIa.out.c0.cell 0
              have z2 : World.cell? _ ⟨b', 0, none⟩ = some (.int .i64 (f0 : Nat)) := (hm2.out.blk HBK.out (fun c => c)).cell 0
              have z3 : World.cell? _ ⟨b', 1, none⟩ = some (.int .i64 (f1 : Nat)) := (hm2.out.blk HBK.out (fun c => c)).cell 1
              have y1 := HI2.out.c1.cell 0
              have y0 := HI2.out.c0.cell 0
              have y2 : World.cell? _ ⟨b', 0, none⟩ = some (.int .i64 (f0 : Nat)) := (HMX.out.blk HBK.out (fun c => c)).cell 0
              have y3 : World.cell? _ ⟨b', 1, none⟩ = some (.int .i64 (f1 : Nat)) := (HMX.out.blk HBK.out (fun c => c)).cell 1
              have HWr := hide (Tryz.Builder_WriteString_k b b _ ⟨S.toArray⟩ _ HI2.out.bu (by rw [Lib.byteCells_length, size_lit]; have := HBL.out; have := HSL.out; omega) (by have := HI2.out.blt; omega))
              obtain ⟨k1, k2, ⟨k3, k4⟩⟩ := HOw.out
              have HKO := hide (And.intro (HMX.out.blk k1 (fun c => c)) (And.intro ((HMX.out.block _ (Array.getElem?_eq_some_iff.1 k2).1 (fun c => c)).trans k2) ((HMX.out.block _ (Array.getElem?_eq_some_iff.1 k4).1 (fun c => c)).trans k4)))
              clear k1 k2 k4
              gi_wp2_with (first
                | (refine ⟨trivial, ?_⟩; gi_at_call 68; refine (CallsIn.inRound l (callsIn_wide.2 HWr.out)).mono ?_; rintro e w5 ⟨rfl, hbl5, hb5, ho5⟩; replace hbl5 := hide hbl5; replace hb5 := hide hb5; replace ho5 := hide ho5))
              gi_wp2
              refine ⟨(Kept3.mvs HMX.out (fun k hk => ⟨HLt.out k hk, fun c => c⟩)).trans (kept3_others ho5.out ⟨_, HKO.out.1⟩ HKO.out.2.1 ⟨_, HKO.out.2.2⟩ (hsub _ (Nat.le_refl _))), ?_⟩
              rw [HX.out]
              exact HI2.out.write hbl5.out hb5.out
            · skip
              try simp only [List.getElem_toArray, List.getElem_cons_succ, List.getElem_cons_zero]
              go_simp
              refine hK.out _ _ (fun _ => HLk.out _ ((Mvs.refl _ _).drew.alloc _)) (fun HTn => ?_)
              clear hK K HT0
              have HT0 := HTn (by kernel_rfl)
              clear HTn
              try simp only [Act.put, List.getElem_toArray, List.getElem_cons_succ, List.getElem_cons_zero, List.setIfInBounds_toArray, List.set_cons_zero, List.set_cons_succ]
              refine readyL (rs := [2]) (by kernel_rfl) (by simp) ?_
              refine AllL.cons rfl (fun K hK => ?_) AllL.nil
              try simp only [List.getElem_toArray, List.getElem_cons_succ, List.getElem_cons_zero]
              go_simp
              refine (HSt.out _).mono ?_
              rintro e w2 ⟨rfl, hb2⟩
              have hm2 : Mvs (fun _ => False) W w2 := ((Mvs.refl _ _).drew.alloc _).then hb2
              refine hK.out _ _ (fun _ => HLk.out _ hm2) (fun HTn => ?_)
              clear hK K HT0
              have HT0 := HTn (by kernel_rfl)
              clear HTn hb2
              replace hm2 := hide hm2
              try simp only [Act.put, List.getElem_toArray, List.getElem_cons_succ, List.getElem_cons_zero, List.setIfInBounds_toArray, List.set_cons_zero, List.set_cons_succ]
              refine takeL (i := 3) (v := (.tuple #[.agg #[], .bool true])) rfl (by kernel_rfl) (by kernel_rfl) (by kernel_rfl) (by kernel_rfl) (by kernel_rfl) (fun _ _ _ h => absurd h.1 (by simp)) HT0 (Or.inl ⟨by rfl, fun W hW => by obtain ⟨t0, t1⟩ := hW; go_simp⟩) ?_
              try simp only [Act.put, List.getElem_toArray, List.getElem_cons_succ, List.getElem_cons_zero, List.setIfInBounds_toArray, List.set_cons_zero, List.set_cons_succ]
              refine takeW (i := 4) (v := (.tuple #[.agg #[], .bool true])) rfl (by kernel_rfl) (by kernel_rfl) (by kernel_rfl) rfl (fun _ _ _ h => absurd h.1 (by simp)) (fun _ => HT0) (Or.inl ⟨by rfl, fun W _ => by go_simp⟩) ?_
              try simp only [Act.put, List.getElem_toArray, List.getElem_cons_succ, List.getElem_cons_zero, List.setIfInBounds_toArray, List.set_cons_zero, List.set_cons_succ]
              refine takeW (i := 5) (v := (.agg #[])) rfl (by kernel_rfl) (by kernel_rfl) (by kernel_rfl) rfl (fun _ _ _ h => absurd h.1 (by simp)) (fun _ => HT0) (Or.inl ⟨by rfl, fun W _ => by go_simp⟩) ?_
              try simp only [Act.put, List.getElem_toArray, List.getElem_cons_succ, List.getElem_cons_zero, List.setIfInBounds_toArray, List.set_cons_zero, List.set_cons_succ]
              refine takeW (i := 6) (v := (.bool true)) rfl (by kernel_rfl) (by kernel_rfl) (by kernel_rfl) rfl (fun _ _ _ h => absurd h.1 (by simp)) (fun _ => HT0) (Or.inl ⟨by rfl, fun W _ => by go_simp⟩) ?_
              try simp only [Act.put, List.getElem_toArray, List.getElem_cons_succ, List.getElem_cons_zero, List.setIfInBounds_toArray, List.set_cons_zero, List.set_cons_succ]
              refine readyL (rs := [8]) (by kernel_rfl) (by simp) ?_
              refine AllL.cons rfl (fun K hK => ?_) AllL.nil
              try simp only [List.getElem_toArray, List.getElem_cons_succ, List.getElem_cons_zero]
              go_simp
              refine hK.out _ _ (vac (by kernel_rfl)) (fun _ => ?_)
              clear hK K HT0
              try simp only [Act.put, List.getElem_toArray, List.getElem_cons_succ, List.getElem_cons_zero, List.setIfInBounds_toArray, List.set_cons_zero, List.set_cons_succ]
              refine readyL (rs := [9]) (by kernel_rfl) (by simp) ?_
              refine AllL.cons rfl (fun K hK => ?_) AllL.nil
              try simp only [List.getElem_toArray, List.getElem_cons_succ, List.getElem_cons_zero]
              go_simp
              refine hK.out _ _ (vac (by kernel_rfl)) (fun _ => ?_)
              clear hK K
              try simp only [Act.put, List.getElem_toArray, List.getElem_cons_succ, List.getElem_cons_zero, List.setIfInBounds_toArray, List.set_cons_zero, List.set_cons_succ]
              refine doneL (by kernel_rfl) ⟨rfl, ?_⟩ _
              have HMX := hm2
              have HI2 := hide (HI.out.keep HMX.out (fun _ _ c => c) (fun _ c => c.elim))
              have y1 := HI2.out.c1.cell 0
              have y0 := HI2.out.c0.cell 0
              have y2 : World.cell? _ ⟨b', 0, none⟩ = some (.int .i64 (f0 : Nat)) := (HMX.out.blk HBK.out (fun c => c)).cell 0
              have y3 : World.cell? _ ⟨b', 1, none⟩ = some (.int .i64 (f1 : Nat)) := (HMX.out.blk HBK.out (fun c => c)).cell 1
              have HWr := hide (Tryz.Builder_WriteString_k b b _ ⟨S.toArray⟩ _ HI2.out.bu (by rw [Lib.byteCells_length, size_lit]; have := HBL.out; have := HSL.out; omega) (by have := HI2.out.blt; omega))
              obtain ⟨k1, k2, ⟨k3, k4⟩⟩ := HOw.out
              have HKO := hide (And.intro (HMX.out.blk k1 (fun c => c)) (And.intro ((HMX.out.block _ (Array.getElem?_eq_some_iff.1 k2).1 (fun c => c)).trans k2) ((HMX.out.block _ (Array.getElem?_eq_some_iff.1 k4).1 (fun c => c)).trans k4)))
              clear k1 k2 k4
              gi_wp2_with (first
                | (refine ⟨trivial, ?_⟩; gi_at_call 68; refine (CallsIn.inRound l (callsIn_wide.2 HWr.out)).mono ?_; rintro e w5 ⟨rfl, hbl5, hb5, ho5⟩; replace hbl5 := hide hbl5; replace hb5 := hide hb5; replace ho5 := hide ho5))
              gi_wp2
              refine ⟨(Kept3.mvs HMX.out (fun k hk => ⟨HLt.out k hk, fun c => c⟩)).trans (kept3_others ho5.out ⟨_, HKO.out.1⟩ HKO.out.2.1 ⟨_, HKO.out.2.2⟩ (hsub _ (Nat.le_refl _))), ?_⟩
              rw [HX.out]
              exact HI2.out.write hbl5.out hb5.out
        | false =>
          cases nt with
          | true =>
            have HX : Hid (onlyL m ys true (pre ++ [⟨p, V, f0, f1⟩]) = onlyL m ys true pre ++ S) := by
              show _ = _
              rw [HX0.out]
              simp
            have HLk := HLk0
            clear HX0 HLk0
            gi_wp2
            refine regionI 8 (fun W => W.cell? ⟨w.heap.size + 1 + 1 + 1, 0, none⟩ = some (.map (some (w.heap.size + 1 + 1))) ∧ (Instr.lookup 104 (.map (some (w.heap.size + 1 + 1))) (.string ⟨sn.toArray⟩) true).run Tryz.prog W = .ok (.tuple #[.agg #[], .bool false]) W) (by kernel_rfl) (by kernel_rfl) ?_
            have HT0 := HLk.out W.drew (Mvs.refl _ _).drew
            refine takeL (i := 0) (v := (.map (some (w.heap.size + 1 + 1)))) rfl (by kernel_rfl) (by kernel_rfl) (by kernel_rfl) (by kernel_rfl) (by kernel_rfl) (fun _ _ _ h => absurd h.1 (by simp)) HT0 (Or.inl ⟨by rfl, fun W hW => by obtain ⟨t0, t1⟩ := hW; go_simp⟩) ?_
            try simp only [Act.put, List.getElem_toArray, List.getElem_cons_succ, List.getElem_cons_zero, List.setIfInBounds_toArray, List.set_cons_zero, List.set_cons_succ]
            refine takeW (i := 1) (v := (.string ⟨p.toArray⟩)) rfl (by kernel_rfl) (by kernel_rfl) (by kernel_rfl) rfl (fun _ _ _ h => absurd h.1 (by simp)) (fun _ => HT0) (Or.inl ⟨by rfl, fun W _ => by go_simp⟩) ?_
            try simp only [Act.put, List.getElem_toArray, List.getElem_cons_succ, List.getElem_cons_zero, List.setIfInBounds_toArray, List.set_cons_zero, List.set_cons_succ]
            refine readyL (rs := [2, 7]) (by kernel_rfl) (by simp) ?_
            refine AllL.cons rfl (fun K hK => ?_) (AllL.cons rfl (fun K hK => ?_) AllL.nil)
            · skip
              try simp only [List.getElem_toArray, List.getElem_cons_succ, List.getElem_cons_zero]
              go_simp
              refine (HSt.out _).mono ?_
              rintro e w2 ⟨rfl, hb2⟩
              have hm2 : Mvs (fun _ => False) W w2 := ((Mvs.refl _ _).drew).then hb2
              refine hK.out _ _ (fun _ => HLk.out _ hm2) (fun HTn => ?_)
              clear hK K HT0
              have HT0 := HTn (by kernel_rfl)
              clear HTn hb2
              replace hm2 := hide hm2
              try simp only [Act.put, List.getElem_toArray, List.getElem_cons_succ, List.getElem_cons_zero, List.setIfInBounds_toArray, List.set_cons_zero, List.set_cons_succ]
              refine takeL (i := 3) (v := (.tuple #[.agg #[], .bool false])) rfl (by kernel_rfl) (by kernel_rfl) (by kernel_rfl) (by kernel_rfl) (by kernel_rfl) (fun _ _ _ h => absurd h.1 (by simp)) HT0 (Or.inl ⟨by rfl, fun W hW => by obtain ⟨t0, t1⟩ := hW; go_simp⟩) ?_
              try simp only [Act.put, List.getElem_toArray, List.getElem_cons_succ, List.getElem_cons_zero, List.setIfInBounds_toArray, List.set_cons_zero, List.set_cons_succ]
              refine takeW (i := 4) (v := (.tuple #[.agg #[], .bool false])) rfl (by kernel_rfl) (by kernel_rfl) (by kernel_rfl) rfl (fun _ _ _ h => absurd h.1 (by simp)) (fun _ => HT0) (Or.inl ⟨by rfl, fun W _ => by go_simp⟩) ?_
              try simp only [Act.put, List.getElem_toArray, List.getElem_cons_succ, List.getElem_cons_zero, List.setIfInBounds_toArray, List.set_cons_zero, List.set_cons_succ]
              refine takeW (i := 5) (v := (.agg #[])) rfl (by kernel_rfl) (by kernel_rfl) (by kernel_rfl) rfl (fun _ _ _ h => absurd h.1 (by simp)) (fun _ => HT0) (Or.inl ⟨by rfl, fun W _ => by go_simp⟩) ?_
              try simp only [Act.put, List.getElem_toArray, List.getElem_cons_succ, List.getElem_cons_zero, List.setIfInBounds_toArray, List.set_cons_zero, List.set_cons_succ]
              refine takeW (i := 6) (v := (.bool false)) rfl (by kernel_rfl) (by kernel_rfl) (by kernel_rfl) rfl (fun _ _ _ h => absurd h.1 (by simp)) (fun _ => HT0) (Or.inl ⟨by rfl, fun W _ => by go_simp⟩) ?_
              try simp only [Act.put, List.getElem_toArray, List.getElem_cons_succ, List.getElem_cons_zero, List.setIfInBounds_toArray, List.set_cons_zero, List.set_cons_succ]
              refine readyL (rs := [7]) (by kernel_rfl) (by simp) ?_
              refine AllL.cons rfl (fun K hK => ?_) AllL.nil
              try simp only [List.getElem_toArray, List.getElem_cons_succ, List.getElem_cons_zero]
              go_simp
              refine hK.out _ _ (fun _ => HLk.out _ (hm2.out.alloc _)) (fun HTn => ?_)
              clear hK K HT0
              have HT0 := HTn (by kernel_rfl)
              clear HTn
              try simp only [Act.put, List.getElem_toArray, List.getElem_cons_succ, List.getElem_cons_zero, List.setIfInBounds_toArray, List.set_cons_zero, List.set_cons_succ]
              refine readyL (rs := [8]) (by kernel_rfl) (by simp) ?_
              refine AllL.cons rfl (fun K hK => ?_) AllL.nil
              try simp only [List.getElem_toArray, List.getElem_cons_succ, List.getElem_cons_zero]
              go_simp
              refine hK.out _ _ (vac (by kernel_rfl)) (fun _ => ?_)
              clear hK K HT0
              try simp only [Act.put, List.getElem_toArray, List.getElem_cons_succ, List.getElem_cons_zero, List.setIfInBounds_toArray, List.set_cons_zero, List.set_cons_succ]
              refine readyL (rs := [9]) (by kernel_rfl) (by simp) ?_
              refine AllL.cons rfl (fun K hK => ?_) AllL.nil
              try simp only [List.getElem_toArray, List.getElem_cons_succ, List.getElem_cons_zero]
              go_simp
              refine hK.out _ _ (vac (by kernel_rfl)) (fun _ => ?_)
              clear hK K
              try simp only [Act.put, List.getElem_toArray, List.getElem_cons_succ, List.getElem_cons_zero, List.setIfInBounds_toArray, List.set_cons_zero, List.set_cons_succ]
              refine doneL (by kernel_rfl) ⟨rfl, ?_⟩ _
              have HMX := hide (hm2.out.alloc (.cells #[] 105))
              have HI2 := hide (HI.out.keep HMX.out (fun _ _ c => c) (fun _ c => c.elim))
              have HIa := hide (HI.out.keep hm2.out (fun _ _ c => c) (fun _ c => c.elim))
              have z1 := HIa.out.c1.cell 0
              have z0 := HIa.out.c0.cell 0
              have z2 : World.cell? _ ⟨b', 0, none⟩ = some (.int .i64 (f0 : Nat)) := (hm2.out.blk HBK.out (fun c => c)).cell 0
              have z3 : World.cell? _ ⟨b', 1, none⟩ = some (.int .i64 (f1 : Nat)) := (hm2.out.blk HBK.out (fun c => c)).cell 1
              have y1 := HI2.out.c1.cell 0
              have y0 := HI2.out.c0.cell 0
              have y2 : World.cell? _ ⟨b', 0, none⟩ = some (.int .i64 (f0 : Nat)) := (HMX.out.blk HBK.out (fun c => c)).cell 0
              have y3 : World.cell? _ ⟨b', 1, none⟩ = some (.int .i64 (f1 : Nat)) := (HMX.out.blk HBK.out (fun c => c)).cell 1
              have HWr := hide (Tryz.Builder_WriteString_k b b _ ⟨S.toArray⟩ _ HI2.out.bu (by rw [Lib.byteCells_length, size_lit]; have := HBL.out; have := HSL.out; omega) (by have := HI2.out.blt; omega))
              obtain ⟨k1, k2, ⟨k3, k4⟩⟩ := HOw.out
              have HKO := hide (And.intro (HMX.out.blk k1 (fun c => c)) (And.intro ((HMX.out.block _ (Array.getElem?_eq_some_iff.1 k2).1 (fun c => c)).trans k2) ((HMX.out.block _ (Array.getElem?_eq_some_iff.1 k4).1 (fun c => c)).trans k4)))
              clear k1 k2 k4
              gi_wp2_with (first
                | (refine ⟨trivial, ?_⟩; gi_at_call 68; refine (CallsIn.inRound l (callsIn_wide.2 HWr.out)).mono ?_; rintro e w5 ⟨rfl, hbl5, hb5, ho5⟩; replace hbl5 := hide hbl5; replace hb5 := hide hb5; replace ho5 := hide ho5))
              gi_wp2
              refine ⟨(Kept3.mvs HMX.out (fun k hk => ⟨HLt.out k hk, fun c => c⟩)).trans (kept3_others ho5.out ⟨_, HKO.out.1⟩ HKO.out.2.1 ⟨_, HKO.out.2.2⟩ (hsub _ (Nat.le_refl _))), ?_⟩
              rw [HX.out]
              exact HI2.out.write hbl5.out hb5.out
            · skip
              try simp only [List.getElem_toArray, List.getElem_cons_succ, List.getElem_cons_zero]
              go_simp
              refine hK.out _ _ (fun _ => HLk.out _ ((Mvs.refl _ _).drew.alloc _)) (fun HTn => ?_)
              clear hK K HT0
              have HT0 := HTn (by kernel_rfl)
              clear HTn
              try simp only [Act.put, List.getElem_toArray, List.getElem_cons_succ, List.getElem_cons_zero, List.setIfInBounds_toArray, List.set_cons_zero, List.set_cons_succ]
              refine readyL (rs := [2]) (by kernel_rfl) (by simp) ?_
              refine AllL.cons rfl (fun K hK => ?_) AllL.nil
              try simp only [List.getElem_toArray, List.getElem_cons_succ, List.getElem_cons_zero]
              go_simp
              refine (HSt.out _).mono ?_
              rintro e w2 ⟨rfl, hb2⟩
              have hm2 : Mvs (fun _ => False) W w2 := ((Mvs.refl _ _).drew.alloc _).then hb2
              refine hK.out _ _ (fun _ => HLk.out _ hm2) (fun HTn => ?_)
              clear hK K HT0
              have HT0 := HTn (by kernel_rfl)
              clear HTn hb2
              replace hm2 := hide hm2
              try simp only [Act.put, List.getElem_toArray, List.getElem_cons_succ, List.getElem_cons_zero, List.setIfInBounds_toArray, List.set_cons_zero, List.set_cons_succ]
              refine takeL (i := 3) (v := (.tuple #[.agg #[], .bool false])) rfl (by kernel_rfl) (by kernel_rfl) (by kernel_rfl) (by kernel_rfl) (by kernel_rfl) (fun _ _ _ h => absurd h.1 (by simp)) HT0 (Or.inl ⟨by rfl, fun W hW => by obtain ⟨t0, t1⟩ := hW; go_simp⟩) ?_
              try simp only [Act.put, List.getElem_toArray, List.getElem_cons_succ, List.getElem_cons_zero, List.setIfInBounds_toArray, List.set_cons_zero, List.set_cons_succ]
              refine takeW (i := 4) (v := (.tuple #[.agg #[], .bool false])) rfl (by kernel_rfl) (by kernel_rfl) (by kernel_rfl) rfl (fun _ _ _ h => absurd h.1 (by simp)) (fun _ => HT0) (Or.inl ⟨by rfl, fun W _ => by go_simp⟩) ?_
              try simp only [Act.put, List.getElem_toArray, List.getElem_cons_succ, List.getElem_cons_zero, List.setIfInBounds_toArray, List.set_cons_zero, List.set_cons_succ]
              refine takeW (i := 5) (v := (.agg #[])) rfl (by kernel_rfl) (by kernel_rfl) (by kernel_rfl) rfl (fun _ _ _ h => absurd h.1 (by simp)) (fun _ => HT0) (Or.inl ⟨by rfl, fun W _ => by go_simp⟩) ?_
              try simp only [Act.put, List.getElem_toArray, List.getElem_cons_succ, List.getElem_cons_zero, List.setIfInBounds_toArray, List.set_cons_zero, List.set_cons_succ]
              refine takeW (i := 6) (v := (.bool false)) rfl (by kernel_rfl) (by kernel_rfl) (by kernel_rfl) rfl (fun _ _ _ h => absurd h.1 (by simp)) (fun _ => HT0) (Or.inl ⟨by rfl, fun W _ => by go_simp⟩) ?_
              try simp only [Act.put, List.getElem_toArray, List.getElem_cons_succ, List.getElem_cons_zero, List.setIfInBounds_toArray, List.set_cons_zero, List.set_cons_succ]
              refine readyL (rs := [8]) (by kernel_rfl) (by simp) ?_
              refine AllL.cons rfl (fun K hK => ?_) AllL.nil
              try simp only [List.getElem_toArray, List.getElem_cons_succ, List.getElem_cons_zero]
              go_simp
              refine hK.out _ _ (vac (by kernel_rfl)) (fun _ => ?_)
              clear hK K HT0
              try simp only [Act.put, List.getElem_toArray, List.getElem_cons_succ, List.getElem_cons_zero, List.setIfInBounds_toArray, List.set_cons_zero, List.set_cons_succ]
              refine readyL (rs := [9]) (by kernel_rfl) (by simp) ?_
              refine AllL.cons rfl (fun K hK => ?_) AllL.nil
              try simp only [List.getElem_toArray, List.getElem_cons_succ, List.getElem_cons_zero]
              go_simp
              refine hK.out _ _ (vac (by kernel_rfl)) (fun _ => ?_)
              clear hK K
              try simp only [Act.put, List.getElem_toArray, List.getElem_cons_succ, List.getElem_cons_zero, List.setIfInBounds_toArray, List.set_cons_zero, List.set_cons_succ]
              refine doneL (by kernel_rfl) ⟨rfl, ?_⟩ _
              have HMX := hm2
              have HI2 := hide (HI.out.keep HMX.out (fun _ _ c => c) (fun _ c => c.elim))
              have y1 := HI2.out.c1.cell 0
              have y0 := HI2.out.c0.cell 0
              have y2 : World.cell? _ ⟨b', 0, none⟩ = some (.int .i64 (f0 : Nat)) := (HMX.out.blk HBK.out (fun c => c)).cell 0
              have y3 : World.cell? _ ⟨b', 1, none⟩ = some (.int .i64 (f1 : Nat)) := (HMX.out.blk HBK.out (fun c => c)).cell 1
              have HWr := hide (Tryz.Builder_WriteString_k b b _ ⟨S.toArray⟩ _ HI2.out.bu (by rw [Lib.byteCells_length, size_lit]; have := HBL.out; have := HSL.out; omega) (by have := HI2.out.blt; omega))
              obtain ⟨k1, k2, ⟨k3, k4⟩⟩ := HOw.out
              have HKO := hide (And.intro (HMX.out.blk k1 (fun c => c)) (And.intro ((HMX.out.block _ (Array.getElem?_eq_some_iff.1 k2).1 (fun c => c)).trans k2) ((HMX.out.block _ (Array.getElem?_eq_some_iff.1 k4).1 (fun c => c)).trans k4)))
              clear k1 k2 k4
              gi_wp2_with (first
                | (refine ⟨trivial, ?_⟩; gi_at_call 68; refine (CallsIn.inRound l (callsIn_wide.2 HWr.out)).mono ?_; rintro e w5 ⟨rfl, hbl5, hb5, ho5⟩; replace hbl5 := hide hbl5; replace hb5 := hide hb5; replace ho5 := hide ho5))
              gi_wp2
              refine ⟨(Kept3.mvs HMX.out (fun k hk => ⟨HLt.out k hk, fun c => c⟩)).trans (kept3_others ho5.out ⟨_, HKO.out.1⟩ HKO.out.2.1 ⟨_, HKO.out.2.2⟩ (hsub _ (Nat.le_refl _))), ?_⟩
              rw [HX.out]
              exact HI2.out.write hbl5.out hb5.out
          | false =>
            have HX : Hid (onlyL m ys false (pre ++ [⟨p, V, f0, f1⟩]) = onlyL m ys false pre) := by
              show _ = _
              rw [HX0.out]
              simp
            have HLk := HLk0
            clear HX0 HLk0 HSL
            gi_wp2
            refine regionI 8 (fun W => W.cell? ⟨w.heap.size + 1 + 1 + 1, 0, none⟩ = some (.map (some (w.heap.size + 1 + 1))) ∧ (Instr.lookup 104 (.map (some (w.heap.size + 1 + 1))) (.string ⟨sn.toArray⟩) true).run Tryz.prog W = .ok (.tuple #[.agg #[], .bool false]) W) (by kernel_rfl) (by kernel_rfl) ?_
            have HT0 := HLk.out W.drew (Mvs.refl _ _).drew
            refine takeL (i := 0) (v := (.map (some (w.heap.size + 1 + 1)))) rfl (by kernel_rfl) (by kernel_rfl) (by kernel_rfl) (by kernel_rfl) (by kernel_rfl) (fun _ _ _ h => absurd h.1 (by simp)) HT0 (Or.inl ⟨by rfl, fun W hW => by obtain ⟨t0, t1⟩ := hW; go_simp⟩) ?_
            try simp only [Act.put, List.getElem_toArray, List.getElem_cons_succ, List.getElem_cons_zero, List.setIfInBounds_toArray, List.set_cons_zero, List.set_cons_succ]
            refine takeW (i := 1) (v := (.string ⟨p.toArray⟩)) rfl (by kernel_rfl) (by kernel_rfl) (by kernel_rfl) rfl (fun _ _ _ h => absurd h.1 (by simp)) (fun _ => HT0) (Or.inl ⟨by rfl, fun W _ => by go_simp⟩) ?_
            try simp only [Act.put, List.getElem_toArray, List.getElem_cons_succ, List.getElem_cons_zero, List.setIfInBounds_toArray, List.set_cons_zero, List.set_cons_succ]
            refine readyL (rs := [2, 7]) (by kernel_rfl) (by simp) ?_
            refine AllL.cons rfl (fun K hK => ?_) (AllL.cons rfl (fun K hK => ?_) AllL.nil)
            · skip
              try simp only [List.getElem_toArray, List.getElem_cons_succ, List.getElem_cons_zero]
              go_simp
              refine (HSt.out _).mono ?_
              rintro e w2 ⟨rfl, hb2⟩
              have hm2 : Mvs (fun _ => False) W w2 := ((Mvs.refl _ _).drew).then hb2
              refine hK.out _ _ (fun _ => HLk.out _ hm2) (fun HTn => ?_)
              clear hK K HT0
              have HT0 := HTn (by kernel_rfl)
              clear HTn hb2
              replace hm2 := hide hm2
              try simp only [Act.put, List.getElem_toArray, List.getElem_cons_succ, List.getElem_cons_zero, List.setIfInBounds_toArray, List.set_cons_zero, List.set_cons_succ]
              refine takeL (i := 3) (v := (.tuple #[.agg #[], .bool false])) rfl (by kernel_rfl) (by kernel_rfl) (by kernel_rfl) (by kernel_rfl) (by kernel_rfl) (fun _ _ _ h => absurd h.1 (by simp)) HT0 (Or.inl ⟨by rfl, fun W hW => by obtain ⟨t0, t1⟩ := hW; go_simp⟩) ?_
              try simp only [Act.put, List.getElem_toArray, List.getElem_cons_succ, List.getElem_cons_zero, List.setIfInBounds_toArray, List.set_cons_zero, List.set_cons_succ]
              refine takeW (i := 4) (v := (.tuple #[.agg #[], .bool false])) rfl (by kernel_rfl) (by kernel_rfl) (by kernel_rfl) rfl (fun _ _ _ h => absurd h.1 (by simp)) (fun _ => HT0) (Or.inl ⟨by rfl, fun W _ => by go_simp⟩) ?_
              try simp only [Act.put, List.getElem_toArray, List.getElem_cons_succ, List.getElem_cons_zero, List.setIfInBounds_toArray, List.set_cons_zero, List.set_cons_succ]
              refine takeW (i := 5) (v := (.agg #[])) rfl (by kernel_rfl) (by kernel_rfl) (by kernel_rfl) rfl (fun _ _ _ h => absurd h.1 (by simp)) (fun _ => HT0) (Or.inl ⟨by rfl, fun W _ => by go_simp⟩) ?_
              try simp only [Act.put, List.getElem_toArray, List.getElem_cons_succ, List.getElem_cons_zero, List.setIfInBounds_toArray, List.set_cons_zero, List.set_cons_succ]
              refine takeW (i := 6) (v := (.bool false)) rfl (by kernel_rfl) (by kernel_rfl) (by kernel_rfl) rfl (fun _ _ _ h => absurd h.1 (by simp)) (fun _ => HT0) (Or.inl ⟨by rfl, fun W _ => by go_simp⟩) ?_
              try simp only [Act.put, List.getElem_toArray, List.getElem_cons_succ, List.getElem_cons_zero, List.setIfInBounds_toArray, List.set_cons_zero, List.set_cons_succ]
              refine readyL (rs := [7]) (by kernel_rfl) (by simp) ?_
              refine AllL.cons rfl (fun K hK => ?_) AllL.nil
              try simp only [List.getElem_toArray, List.getElem_cons_succ, List.getElem_cons_zero]
              go_simp
              refine hK.out _ _ (fun _ => HLk.out _ (hm2.out.alloc _)) (fun HTn => ?_)
              clear hK K HT0
              have HT0 := HTn (by kernel_rfl)
              clear HTn
              try simp only [Act.put, List.getElem_toArray, List.getElem_cons_succ, List.getElem_cons_zero, List.setIfInBounds_toArray, List.set_cons_zero, List.set_cons_succ]
              refine readyL (rs := [8]) (by kernel_rfl) (by simp) ?_
              refine AllL.cons rfl (fun K hK => ?_) AllL.nil
              try simp only [List.getElem_toArray, List.getElem_cons_succ, List.getElem_cons_zero]
              go_simp
              refine hK.out _ _ (vac (by kernel_rfl)) (fun _ => ?_)
              clear hK K HT0
              try simp only [Act.put, List.getElem_toArray, List.getElem_cons_succ, List.getElem_cons_zero, List.setIfInBounds_toArray, List.set_cons_zero, List.set_cons_succ]
              refine readyL (rs := [9]) (by kernel_rfl) (by simp) ?_
              refine AllL.cons rfl (fun K hK => ?_) AllL.nil
              try simp only [List.getElem_toArray, List.getElem_cons_succ, List.getElem_cons_zero]
              go_simp
              refine hK.out _ _ (vac (by kernel_rfl)) (fun _ => ?_)
              clear hK K
              try simp only [Act.put, List.getElem_toArray, List.getElem_cons_succ, List.getElem_cons_zero, List.setIfInBounds_toArray, List.set_cons_zero, List.set_cons_succ]
              refine doneL (by kernel_rfl) ⟨rfl, ?_⟩ _
              have HMX := hide (hm2.out.alloc (.cells #[] 105))
              have HI2 := hide (HI.out.keep HMX.out (fun _ _ c => c) (fun _ c => c.elim))
              have HIa := hide (HI.out.keep hm2.out (fun _ _ c => c) (fun _ c => c.elim))
              have z1 := HIa.out.c1.cell 0
              have y1 := HI2.out.c1.cell 0
              gi_wp2
              refine ⟨Kept3.mvs HMX.out (fun k hk => ⟨HLt.out k hk, fun c => c⟩), ?_⟩
              rw [HX.out]
              exact HI2.out
            · skip
              try simp only [List.getElem_toArray, List.getElem_cons_succ, List.getElem_cons_zero]
              go_simp
              refine hK.out _ _ (fun _ => HLk.out _ ((Mvs.refl _ _).drew.alloc _)) (fun HTn => ?_)
              clear hK K HT0
              have HT0 := HTn (by kernel_rfl)
              clear HTn
              try simp only [Act.put, List.getElem_toArray, List.getElem_cons_succ, List.getElem_cons_zero, List.setIfInBounds_toArray, List.set_cons_zero, List.set_cons_succ]
              refine readyL (rs := [2]) (by kernel_rfl) (by simp) ?_
              refine AllL.cons rfl (fun K hK => ?_) AllL.nil
              try simp only [List.getElem_toArray, List.getElem_cons_succ, List.getElem_cons_zero]
              go_simp
              refine (HSt.out _).mono ?_
              rintro e w2 ⟨rfl, hb2⟩
              have hm2 : Mvs (fun _ => False) W w2 := ((Mvs.refl _ _).drew.alloc _).then hb2
              refine hK.out _ _ (fun _ => HLk.out _ hm2) (fun HTn => ?_)
              clear hK K HT0
              have HT0 := HTn (by kernel_rfl)
              clear HTn hb2
              replace hm2 := hide hm2
              try simp only [Act.put, List.getElem_toArray, List.getElem_cons_succ, List.getElem_cons_zero, List.setIfInBounds_toArray, List.set_cons_zero, List.set_cons_succ]
              refine takeL (i := 3) (v := (.tuple #[.agg #[], .bool false])) rfl (by kernel_rfl) (by kernel_rfl) (by kernel_rfl) (by kernel_rfl) (by kernel_rfl) (fun _ _ _ h => absurd h.1 (by simp)) HT0 (Or.inl ⟨by rfl, fun W hW => by obtain ⟨t0, t1⟩ := hW; go_simp⟩) ?_
              try simp only [Act.put, List.getElem_toArray, List.getElem_cons_succ, List.getElem_cons_zero, List.setIfInBounds_toArray, List.set_cons_zero, List.set_cons_succ]
              refine takeW (i := 4) (v := (.tuple #[.agg #[], .bool false])) rfl (by kernel_rfl) (by kernel_rfl) (by kernel_rfl) rfl (fun _ _ _ h => absurd h.1 (by simp)) (fun _ => HT0) (Or.inl ⟨by rfl, fun W _ => by go_simp⟩) ?_
              try simp only [Act.put, List.getElem_toArray, List.getElem_cons_succ, List.getElem_cons_zero, List.setIfInBounds_toArray, List.set_cons_zero, List.set_cons_succ]
              refine takeW (i := 5) (v := (.agg #[])) rfl (by kernel_rfl) (by kernel_rfl) (by kernel_rfl) rfl (fun _ _ _ h => absurd h.1 (by simp)) (fun _ => HT0) (Or.inl ⟨by rfl, fun W _ => by go_simp⟩) ?_
              try simp only [Act.put, List.getElem_toArray, List.getElem_cons_succ, List.getElem_cons_zero, List.setIfInBounds_toArray, List.set_cons_zero, List.set_cons_succ]
              refine takeW (i := 6) (v := (.bool false)) rfl (by kernel_rfl) (by kernel_rfl) (by kernel_rfl) rfl (fun _ _ _ h => absurd h.1 (by simp)) (fun _ => HT0) (Or.inl ⟨by rfl, fun W _ => by go_simp⟩) ?_
              try simp only [Act.put, List.getElem_toArray, List.getElem_cons_succ, List.getElem_cons_zero, List.setIfInBounds_toArray, List.set_cons_zero, List.set_cons_succ]
              refine readyL (rs := [8]) (by kernel_rfl) (by simp) ?_
              refine AllL.cons rfl (fun K hK => ?_) AllL.nil
              try simp only [List.getElem_toArray, List.getElem_cons_succ, List.getElem_cons_zero]
              go_simp
              refine hK.out _ _ (vac (by kernel_rfl)) (fun _ => ?_)
              clear hK K HT0
              try simp only [Act.put, List.getElem_toArray, List.getElem_cons_succ, List.getElem_cons_zero, List.setIfInBounds_toArray, List.set_cons_zero, List.set_cons_succ]
              refine readyL (rs := [9]) (by kernel_rfl) (by simp) ?_
              refine AllL.cons rfl (fun K hK => ?_) AllL.nil
              try simp only [List.getElem_toArray, List.getElem_cons_succ, List.getElem_cons_zero]
              go_simp
              refine hK.out _ _ (vac (by kernel_rfl)) (fun _ => ?_)
              clear hK K
              try simp only [Act.put, List.getElem_toArray, List.getElem_cons_succ, List.getElem_cons_zero, List.setIfInBounds_toArray, List.set_cons_zero, List.set_cons_succ]
              refine doneL (by kernel_rfl) ⟨rfl, ?_⟩ _
              have HMX := hm2
              have HI2 := hide (HI.out.keep HMX.out (fun _ _ c => c) (fun _ c => c.elim))
              have y1 := HI2.out.c1.cell 0
              gi_wp2
              refine ⟨Kept3.mvs HMX.out (fun k hk => ⟨HLt.out k hk, fun c => c⟩), ?_⟩
              rw [HX.out]
              exact HI2.out
      case done =>
        rintro W hI hK
        have HE : Hid (onlyL m ys nt (Go.Proofs.YtnokanmcgpjkmaaGreatDoor.hd (splitS m) 0).1 = onlyL m (xs.map (List.map lowB)) nt (Go.Proofs.YtnokanmcgpjkmaaGreatDoor.hd (splitS m) 0).1) := by
          show _ = _
          unfold onlyL
          congr 1
          apply List.filter_congr
          intro f _
          unfold keepP
          rw [decide_eq_decide.2 (HMem.out _)]
        have hq : (onlyL m ys nt (Go.Proofs.YtnokanmcgpjkmaaGreatDoor.hd (splitS m) 0).1).length ≤ 100000000 := by
          refine Nat.le_trans (only_len m ys nt _) ?_
          have h4 := hd_count (splitS m).length (splitS m) 0 (Nat.le_refl _)
          have h5 := splitS_len m
          exact Nat.mul_le_mul (by omega : _ ≤ 10000) hm
        rw [HE.out] at hI hq
        have HW := hide (Tryz.Builder_WriteString_k b b _ ⟨#[13, 10]⟩ W hI.bu (by rw [Lib.byteCells_length]; show _ + 2 ≤ _; omega) (by have := hI.blt; omega))
        have HD := hide hK
        have hWs := (Array.getElem?_eq_some_iff.1 hK).1
        have HI := hide hI
        have hlz := hI.lt
        have hbz := hI.blt
        clear hI hK HE
        obtain ⟨bs, hbs⟩ : ∃ bs, onlyL m (xs.map (List.map lowB)) nt (Go.Proofs.YtnokanmcgpjkmaaGreatDoor.hd (splitS m) 0).1 = bs := ⟨_, rfl⟩
        have HBS := hide hbs
        rw [hbs] at HW HI hq
        clear hbs
        gi_wp2_with (first
          | (refine ⟨trivial, ?_⟩; gi_at_call 68; refine (callsIn_wide.2 HW.out).mono ?_; rintro e w3 ⟨rfl, hbl3, hb3, ho3⟩
             have HT := hide (Tryz.Builder_String_any_k b b (bs ++ [13, 10]) w3 (by rw [← byteCells_app]; exact .inr hbl3) (Nat.le_of_lt (Nat.lt_of_lt_of_le hbz hb3.size)))
             replace hbl3 := hide hbl3; replace hb3 := hide hb3; replace ho3 := hide ho3)
          | (refine ⟨trivial, ?_⟩; gi_at_call 49; refine (callsIn_wide.2 HT.out).mono ?_; rintro e w4 ⟨rfl, hbl4, hb4, ho4⟩; replace hb4 := hide hb4; replace ho4 := hide ho4; clear hbl4))
        have hzz := HSZ.out
        have hK4 : w4.heap[W0.heap.size]? = some (.deferred (some [])) := by
          refine ho4.out _ _ (ho3.out _ _ HD.out ?_ ?_) ?_ ?_
          · intro e; have := Option.some.inj e; omega
          · intro c fz e; cases e
          · intro e; have := Option.some.inj e; omega
          · intro c fz e; cases e
        have hbF : Below w.heap.size w w4 := HI.out.low.trans ((hb3.out.trans hb4.out).mono (by omega))
        refine ⟨by simp, .inl ⟨_, _, rfl, run_takeDeferred hK4, ?_⟩⟩
        exact ⟨_, results_tmp rfl _ _ _, by rw [HBS.out]; rfl, hbF.trans (belowK_b (w := w) (Nat.le_refl _) w4 _ _ _ (by omega) hK4 rfl rfl)⟩
      case stop =>
        rintro c W h _
        exact h.elim
end Go.Proofs.YtnokanmcgpjkmaaGreatDoor
