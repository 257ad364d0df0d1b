/- Package post: New. -/
/- Package post: Step, where a box is made or renamed. -/
/- Package post: the chapter's example. -/
import Derived.Test.YtdbmaobjikjifaaGreatDoorRU37
import Derived.Test.YtdbmaobjikjifaaGreatDoorRU36
section
set_option linter.unusedVariables false
set_option linter.unusedSimpArgs false
namespace Go.Proofs.YtdbmaobjikjifaaGreatDoorR
open Go.RowKit Go.Shelf
/-- The boxes that New has made when k users have theirs. -/
def nwB (k : Nat) : List BL := (List.range k).map fun (u : Nat) => ⟨⟨(u : Int), inboxU, (u : Int) + 1, 1, []⟩, .slice none 0 0, none⟩
theorem nwB_next (k : Nat) : (nwB (k + 1)).flatMap blC = (nwB k).flatMap blC ++ blC ⟨⟨(k : Int), inboxU, (k : Int) + 1, 1, []⟩, .slice none 0 0, none⟩ := by
  unfold nwB
  rw [List.range_succ, List.map_append, List.flatMap_append]
  simp
theorem nwB_len (k : Nat) : (nwB k).length = k := by unfold nwB; rw [List.length_map, List.length_range]
theorem nwB_st (k : Nat) : (nwB k).map BL.b = (poNew k).boxes := by
  unfold nwB poNew
  rw [List.map_map]
  rfl
set_option maxRecDepth 20000 in
set_option maxHeartbeats 16000000 in
theorem pnew_yes (n : Nat) (h1 : 1 ≤ n) (h6 : n ≤ 6) (w : World) :
    Calls Tryz.prog 6 #[.int .i64 (n : Int)] w fun e w' => ∃ v, e = .returned (.tuple #[v, .nilIface]) ∧ StR w' v (poNew n) ∧ Below w.heap.size w w' := by
  obtain ⟨i0, hi, hz0, hz1, hz2⟩ := infoP infoBox
  have h1z : ¬ (n : Int) < 1 := by omega
  have h6z : ¬ (6 : Int) < (n : Int) := by omega
  have HB0 : Hid (Below w.heap.size w ((w.alloc (.cells #[.slice none 0 0, .slice none 0 0, .slice none 0 0, .int .i64 0, .int .i64 0] 28)).alloc (.cells #[.slice none 0 0, .slice none 0 0, .slice none 0 0, .int .i64 1, .int .i64 1] 28))) := ((Below.refl w.heap.size w).alloc (Nat.le_refl _) _).alloc (by simp) _
  have HZ0 : Hid (Blk ((w.alloc (.cells #[.slice none 0 0, .slice none 0 0, .slice none 0 0, .int .i64 0, .int .i64 0] 28)).alloc (.cells #[.slice none 0 0, .slice none 0 0, .slice none 0 0, .int .i64 1, .int .i64 1] 28)) w.heap.size #[.slice none 0 0, .slice none 0 0, .slice none 0 0, .int .i64 0, .int .i64 0] 28) := (Blk.new w _ _).alloc _
  have HK0 : Hid (Blk ((w.alloc (.cells #[.slice none 0 0, .slice none 0 0, .slice none 0 0, .int .i64 0, .int .i64 0] 28)).alloc (.cells #[.slice none 0 0, .slice none 0 0, .slice none 0 0, .int .i64 1, .int .i64 1] 28)) (w.heap.size + 1) #[.slice none 0 0, .slice none 0 0, .slice none 0 0, .int .i64 1, .int .i64 1] 28) := Blk.new1 w _ _ _
  go_enter Tryz.func6, Tryz.ntmps6
  go_wp2
  obtain ⟨W0, HW0⟩ : ∃ W0, Hid ((w.alloc (.cells #[.slice none 0 0, .slice none 0 0, .slice none 0 0, .int .i64 0, .int .i64 0] 28)).alloc (.cells #[.slice none 0 0, .slice none 0 0, .slice none 0 0, .int .i64 1, .int .i64 1] 28) = W0) := ⟨_, hide rfl⟩
  rw [HW0.out] at HB0 HZ0 HK0 ⊢
  clear HW0
  go_loopw [5, 16] (fun _ v16 wr => ∃ k : Nat, v16 = .int .i64 k ∧ k ≤ n ∧ Hid (Below w.heap.size w wr) ∧ Hid (Blk wr w.heap.size #[.slice none 0 0, .slice none 0 0, .slice none 0 0, .int .i64 0, .int .i64 0] 28) ∧ ∃ vb G, Hid (Blk wr (w.heap.size + 1) #[vb, .slice none 0 0, .slice none 0 0, .int .i64 ((k : Int) + 1), .int .i64 1] 28) ∧ Hid (Rw wr 5 vb k ((nwB k).flatMap blC) G) ∧ Hid (∀ g, G = some g → w.heap.size + 2 ≤ g)) (fun _ v16 _ => n - (intOf v16).toNat)
  case atStart => exact ⟨0, rfl, Nat.zero_le _, HB0.out, HZ0.out, _, none, HK0.out, Rw.nil _ _, fun g e => by cases e⟩
  case round =>
    obtain ⟨k, rfl, hk, HB, HZ, vb, G, HK, HR, HG⟩ := hrel
    clear HB0 HZ0 HK0
    obtain ⟨A, c, rfl⟩ := HR.out.form
    have c0 := HK.out.cell 0
    have c1 := HK.out.cell 1
    have c2 := HK.out.cell 2
    have c3 := HK.out.cell 3
    have c4 := HK.out.cell 4
    simp only [List.getElem?_toArray, List.getElem?_cons_zero, List.getElem?_cons_succ] at c0 c1 c2 c3 c4
    by_cases hlt : k < n
    · have hltz : (k : Int) < (n : Int) := by omega
      have HKq := hide (HK.out.alloc (.cells #[.int .i64 (k : Int), .string ⟨#[73, 78, 66, 79, 88]⟩, .int .i64 ((k : Int) + 1), .int .i64 1, .slice none 0 0] 45))
      have HZq := hide (HZ.out.alloc (.cells #[.int .i64 (k : Int), .string ⟨#[73, 78, 66, 79, 88]⟩, .int .i64 ((k : Int) + 1), .int .i64 1, .slice none 0 0] 45))
      have HBq := hide (HB.out.alloc HB.out.size (.cells #[.int .i64 (k : Int), .string ⟨#[73, 78, 66, 79, 88]⟩, .int .i64 ((k : Int) + 1), .int .i64 1, .slice none 0 0] 45))
      have HRq := hide (HR.out.keep (S := fun _ => False) ((Mvs.refl (fun _ => False) wr).alloc (.cells #[.int .i64 (k : Int), .string ⟨#[73, 78, 66, 79, 88]⟩, .int .i64 ((k : Int) + 1), .int .i64 1, .slice none 0 0] 45)) (fun _ _ c => c))
      have HSrc : Hid (Src Tryz.prog 5 24 (.slice (some ⟨wr.heap.size, 0, none⟩) 1 1) 1 (blC (⟨⟨(k : Int), inboxU, (k : Int) + 1, 1, []⟩, .slice none 0 0, none⟩ : BL)) (wr.alloc (.cells #[.int .i64 (k : Int), .string ⟨#[73, 78, 66, 79, 88]⟩, .int .i64 ((k : Int) + 1), .int .i64 1, .slice none 0 0] 45))) := by
        have hk := Blk.new wr #[.int .i64 (k : Int), .string ⟨#[73, 78, 66, 79, 88]⟩, .int .i64 ((k : Int) + 1), .int .i64 1, .slice none 0 0] 45
        refine Src.ofSlice _ Tryz.underlying24 ⟨wr.heap.size, 0, none⟩ 1 1 _ rfl (fun j u hu => ?_) (blC_one _ ⟨_, _, _, rfl⟩)
        rw [Go.WideShapes.add_plain, Nat.zero_add]
        exact (hk.cell j).trans (by rw [← hu]; simp [blC, inboxU])
      have hg1 : w.heap.size + 2 ≤ wr.heap.size := HK.out.lt
      go_upto_region 8 with (at_builtin; (refine wpList_append_rw rfl _ _ 24 24 rfl 45 i0 (.agg #[.int .i64 0, .string ⟨#[]⟩, .int .i64 0, .int .i64 0, .slice none 0 0]) 5 64 Tryz.underlying24 hi hz0 hz1 hz2 rfl rfl HRq.out _ 1 _ rfl HSrc.out (by simp only [maxLen]; omega) (by omega) ?_); intro v6 w6 G6 hr6 hm6 hg6; obtain ⟨A6, c6, rfl⟩ := hr6.form; have HK6 := hide (hm6.blk HKq.out (fun e => by have := HG.out _ e.symm; omega)); have HZ6 := hide (hm6.blk HZq.out (fun e => by have := HG.out _ e.symm; omega)); have q0 := HK6.out.cell 0; have y0 := HK6.out.frozen 0; simp only [List.getElem?_toArray, List.getElem?_cons_zero, List.getElem?_cons_succ] at q0)
      have HKs : Hid (Blk (w6.setCell ⟨w.heap.size + 1, 0, none⟩ (.slice A6 (k + 1) c6)) (w.heap.size + 1) #[.slice A6 (k + 1) c6, .slice none 0 0, .slice none 0 0, .int .i64 ((k : Int) + 1), .int .i64 1] 28) := HK6.out.set 0 _
      have hm7 : Mvs (fun j => j = w.heap.size + 1) w6 (w6.setCell ⟨w.heap.size + 1, 0, none⟩ (.slice A6 (k + 1) c6)) := (Mvs.refl _ _).setCell _ _ (fun _ => rfl)
      have HG6 : Hid (∀ g, G6 = some g → w.heap.size + 2 ≤ g) := fun g e => by
        rcases hg6 with h | h
        · exact HG.out g (by rw [← h]; exact e)
        · rw [h] at e
          cases e
          simp
          omega
      have HB6 : Hid (Below w.heap.size w w6) := HBq.out.trans (hm6.below (fun j hj e => by have := HG.out _ e.symm; omega) HBq.out.size)
      have HM7 := hide hm7
      have HR6 := hide hr6
      clear hm6 hg6 hm7 hr6 q0 y0 c0 c1 c2 c3 c4 HKq HZq HBq HRq HSrc HK HZ HR
      obtain ⟨W7, HW7⟩ : ∃ W7, Hid (w6.setCell ⟨w.heap.size + 1, 0, none⟩ (.slice A6 (k + 1) c6) = W7) := ⟨_, hide rfl⟩
      rw [HW7.out] at HKs HM7 ⊢
      clear HW7
      have d3 := HKs.out.cell 3
      have y3 := HKs.out.frozen 3
      simp only [List.getElem?_toArray, List.getElem?_cons_zero, List.getElem?_cons_succ] at d3
      have hw : IntKind.i64.wrap ((k : Int) + 1 + 1) = (k : Int) + 1 + 1 := wrap1 (by omega) (by omega)
      go_wp2
      have HM8 : Hid (Mvs (fun j => j = w.heap.size + 1) w6 (W7.setCell ⟨w.heap.size + 1, 3, none⟩ (.int .i64 ((k : Int) + 1 + 1)))) := HM7.out.setCell _ _ (fun _ => rfl)
      have HK8 : Hid (Blk (W7.setCell ⟨w.heap.size + 1, 3, none⟩ (.int .i64 ((k : Int) + 1 + 1))) (w.heap.size + 1) #[.slice A6 (k + 1) c6, .slice none 0 0, .slice none 0 0, .int .i64 ((k : Int) + 1 + 1), .int .i64 1] 28) := HKs.out.set 3 _
      have HZ8 := hide (HM8.out.blk HZ6.out (by omega))
      have HB8 : Hid (Below w.heap.size w (W7.setCell ⟨w.heap.size + 1, 3, none⟩ (.int .i64 ((k : Int) + 1 + 1)))) := HB6.out.trans (HM8.out.below (fun j hj e => by omega) HB6.out.size)
      have HR8 := hide (HR6.out.keep HM8.out (fun g e => by have := HG6.out g e; omega))
      go_roundw
      case rel => exact ⟨k + 1, by go_num, by omega, HB8.out, HZ8.out, _, G6, HK8.out, by rw [nwB_next]; exact HR8.out, HG6.out⟩
      case measure => simp [intOf]; omega
    · obtain rfl : k = n := by omega
      have hltz : ¬ (k : Int) < (k : Int) := by omega
      go_upto_region 10 with fail
      refine wp_region_lit ?_
      refine wpList_plain rfl fun K hK => ?_
      go_simp
      refine hK _ _ ?_
      clear hK K
      refine wpList_store_row rfl 28 (.tmp 2) (.tmp 33) rfl w.heap.size #[.slice A k c, .slice none 0 0, .slice none 0 0, .int .i64 ((k : Int) + 1), .int .i64 1] (by simp [Act.eval, Act.put]) (by simp [Act.eval, Act.put]) 28 #[.slice none 0 0, .slice none 0 0, .slice none 0 0, .int .i64 0, .int .i64 0] HZ.out (by kernel_rfl) rfl (by simp [Value.oneCell']) ?_
      have hm7 : Mvs (fun j => j = w.heap.size) wr (wr.setRow w.heap.size #[.slice A k c, .slice none 0 0, .slice none 0 0, .int .i64 ((k : Int) + 1), .int .i64 1]) := row_mvs _ _ _
      have HZ7 : Blk (wr.setRow w.heap.size #[.slice A k c, .slice none 0 0, .slice none 0 0, .int .i64 ((k : Int) + 1), .int .i64 1]) w.heap.size #[.slice A k c, .slice none 0 0, .slice none 0 0, .int .i64 ((k : Int) + 1), .int .i64 1] 28 := row_blk HZ.out
      have hB7 : Below w.heap.size w (wr.setRow w.heap.size #[.slice A k c, .slice none 0 0, .slice none 0 0, .int .i64 ((k : Int) + 1), .int .i64 1]) := HB.out.trans (hm7.below (fun j hj e => by omega) HB.out.size)
      have hR7 := HR.out.keep hm7 (fun g e => by have := HG.out g e; omega)
      generalize wr.setRow w.heap.size #[.slice A k c, .slice none 0 0, .slice none 0 0, .int .i64 ((k : Int) + 1), .int .i64 1] = W7 at *
      clear c0 c1 c2 c3 c4 hm7
      refine wpList_plain rfl fun K hK => ?_
      go_simp
      refine hK _ _ ?_
      clear hK K
      refine wpList_nil ?_
      have e0 : W7.cell? ⟨w.heap.size, 0, none⟩ = some (.slice A k c) := HZ7.cell 0
      have e1 : W7.cell? ⟨w.heap.size, 1, none⟩ = some (.slice none 0 0) := HZ7.cell 1
      have e2 : W7.cell? ⟨w.heap.size, 2, none⟩ = some (.slice none 0 0) := HZ7.cell 2
      have e3 : W7.cell? ⟨w.heap.size, 3, none⟩ = some (.int .i64 ((k : Int) + 1)) := HZ7.cell 3
      have e4 : W7.cell? ⟨w.heap.size, 4, none⟩ = some (.int .i64 1) := HZ7.cell 4
      have hS : StR W7 (.agg #[.slice A k c, .slice none 0 0, .slice none 0 0, .int .i64 ((k : Int) + 1), .int .i64 1]) (poNew k) := ⟨_, _, _, rfl, by
        rw [← nwB_st]
        have h := hR7
        rw [← nwB_len k] at h
        refine blC_rd (lb := nwB k) (G := G) (by rw [nwB_len]; exact hR7) (fun x hx => ?_)
        unfold nwB at hx
        obtain ⟨u, _, rfl⟩ := List.mem_map.1 hx
        exact RdE.nil _ _ _, RdE.nil _ _ _, RdE.nil _ _ _⟩
      try simp only [Act.put, List.getElem_toArray, List.getElem_cons_succ, List.getElem_cons_zero, List.setIfInBounds_toArray, List.set_cons_zero, List.set_cons_succ]
      go_wp2
      exact bodyPost_ret (v := .tuple #[.agg #[.slice A k c, .slice none 0 0, .slice none 0 0, .int .i64 ((k : Int) + 1), .int .i64 1], .nilIface]) (by simp [results, Tryz.results6, go_sem, e0, e1, e2, e3, e4]) rfl ⟨_, rfl, hS, hB7⟩
end Go.Proofs.YtdbmaobjikjifaaGreatDoorR

end
section
set_option linter.unusedVariables false
set_option linter.unusedSimpArgs false
namespace Go.Proofs.YtdbmaobjikjifaaGreatDoorR
open Go.RowKit Go.Shelf
/-- A state and an act, as an actor's data. -/
def paOf (s : Stt) (a : Ac) : PA := ⟨s.boxes.map fun b => ⟨b, .slice none 0 0, none⟩, .slice none 0 0, none, s.subs, .slice none 0 0, none, s.queue.map fun q => ⟨q, .slice none 0 0, none⟩, .slice none 0 0, none, s.nextValid, s.nextItem, a, .slice none 0 0, .slice none 0 0, [], .slice none 0 0, none, 0⟩
theorem paOf_st (s : Stt) (a : Ac) : (paOf s a).st = s := by
  unfold paOf PA.st
  simp only [List.map_map]
  have h1 : (BL.b ∘ fun b => (⟨b, .slice none 0 0, none⟩ : BL)) = id := rfl
  have h2 : (QL.q ∘ fun q => (⟨q, .slice none 0 0, none⟩ : QL)) = id := rfl
  rw [h1, h2, List.map_id, List.map_id]
theorem paOf_a (s : Stt) (a : Ac) : (paOf s a).a = a := rfl
/-- An act with the names that its names are. -/
def nmA (a : Ac) : Ac := { a with name := nmP a.name, dst := nmP a.dst }
theorem nmd_st (p : PA) : (nmd p).st = p.st := rfl
theorem nmd_a (p : PA) : (nmd p).a = nmA p.a := rfl
theorem nwO_eq {p q : PA} (h : p.a = q.a) : nwO p = nwO q := by
  funext b
  unfold nwO
  rw [h]
theorem rnB_eq {p q : PA} (h : p.a = q.a) : rnB p = rnB q := by
  funext b
  unfold rnB
  rw [nwO_eq h]
theorem qRen_eq {p q : PA} (hs : p.st = q.st) (h : p.a = q.a) : qRen p = qRen q := by
  have e1 : lngB p = lngB q := by funext b; unfold lngB; rw [nwO_eq h]
  have e2 : lvsB p = lvsB q := by funext b; unfold lvsB; rw [nwO_eq h]
  have e3 : hldB p = hldB q := by funext b; unfold hldB; rw [nwO_eq h, e2, hs, h]
  unfold qRen
  rw [e1, e3, hs, h]
theorem qName_eq {p q : PA} (hs : p.st = q.st) (h : p.a = q.a) : qName p = qName q := by
  unfold qName
  rw [hs, h]
theorem qNames_eq {p q : PA} (hs : p.st = q.st) (h : p.a = q.a) : qNames p = qNames q := by
  unfold qNames
  rw [qName_eq hs h, h]
/-- What stands rises by user and name. -/
def SrtB (bs : List Bx) : Prop := ∀ i j (hi : i < bs.length) (hj : j < bs.length), i < j → bxLt bs[j] bs[i] = false
set_option maxHeartbeats 4000000 in
theorem pstepCreate {w : World} {sv av : Value} {s : Stt} {a : Ac} {ea : Nat → Addr} (hE : Errs w ea) (hS : StR w sv s) (hA : AcR w av a) (hd : BdS s) (hform : poForm s = true) (hk : a.kind = 1) (h2 : a.name.length ≤ 1000000) (h3 : a.dst.length ≤ 1000000) (hq : qName (paOf s (nmA a)) = 0) (hc : qCreate (paOf s (nmA a)) = 0) (hb : s.boxes.length ≤ 24) (hv : 0 ≤ s.nextValid ∧ s.nextValid ≤ 2147483648) :
    Calls Tryz.prog 8 #[sv, av] w fun e w' => ∃ tv uv n t us, e = .returned (.tuple #[tv, .agg #[uv, .int .i64 n], .nilIface]) ∧ Below w.heap.size w w' ∧ (t.subs = s.subs ∧ t.queue = s.queue ∧ t.nextValid = s.nextValid + 1 ∧ t.nextItem = s.nextItem ∧ t.boxes.Perm (s.boxes ++ [⟨a.user, nmP a.name, s.nextValid, 1, []⟩]) ∧ SrtB t.boxes ∧ us = [] ∧ n = 0) ∧ (∀ w2, Mvs (fun k => k < w.heap.size) w' w2 → StR w2 tv t ∧ RdE 1 IntAt w2 uv us) := by
  refine pstep_yes hE hS hA hd hform (fun t us n => t.subs = s.subs ∧ t.queue = s.queue ∧ t.nextValid = s.nextValid + 1 ∧ t.nextItem = s.nextItem ∧ t.boxes.Perm (s.boxes ++ [⟨a.user, nmP a.name, s.nextValid, 1, []⟩]) ∧ SrtB t.boxes ∧ us = [] ∧ n = 0) ?_
  intro w0 W X p hb0 hAS hst hpa hus hn
  have hE0 := hE.below hb0
  have hl : p.lb.length = s.boxes.length := by rw [← hst, boxes_len]
  have hkd : dmL (.pointer (some ⟨X, 0, none⟩)) p.a.kind = .tuple #[.agg #[(.func (.func 47) #[.pointer (some ⟨X, 0, none⟩)] #[]), (.func (.func 48) #[.pointer (some ⟨X, 0, none⟩)] #[])], .bool true] := by
    rw [hpa, hk]
    rfl
  have f1 : p.ls = s.subs := congrArg Stt.subs hst
  have f2 : p.lq.map QL.q = s.queue := congrArg Stt.queue hst
  have f3 : p.nv = s.nextValid := congrArg Stt.nextValid hst
  have f4 : p.ni = s.nextItem := congrArg Stt.nextItem hst
  have e1 : (nmd p).st = (paOf s (nmA a)).st := by rw [nmd_st, paOf_st, hst]
  have e2 : (nmd p).a = (paOf s (nmA a)).a := by rw [nmd_a, paOf_a, hpa]
  have hqn : qName (nmd p) = 0 := by rw [qName_eq e1 e2, hq]
  have hqc : qCreate (nmd p) = 0 := by
    have : qCreate (nmd p) = qCreate (paOf s (nmA a)) := by
      have l1 : (nmd p).lb.length = (paOf s (nmA a)).lb.length := by rw [← boxes_len, ← boxes_len, e1]
      have n1 : (nmd p).nv = (paOf s (nmA a)).nv := congrArg Stt.nextValid e1
      unfold qCreate
      rw [e1, e2, l1, n1]
    rw [this, hc]
  refine (pact_yes hAS hE0 (by rw [hpa]; exact h2) (by rw [hpa]; exact h3) hkd (enters_of Tryz.func47 (by kernel_rfl) rfl) (enters_of Tryz.func48 (by kernel_rfl) rfl) (fun v w' => v = .nilIface ∧ ∃ t us n, FS w0 w' X t us n ∧ (t.subs = s.subs ∧ t.queue = s.queue ∧ t.nextValid = s.nextValid + 1 ∧ t.nextItem = s.nextItem ∧ t.boxes.Perm (s.boxes ++ [⟨a.user, nmP a.name, s.nextValid, 1, []⟩]) ∧ SrtB t.boxes ∧ us = [] ∧ n = 0)) (fun W hW => ?_) (fun W hW => ?_)).mono ?_
  · refine (paskName_any hW hE0 (by show p.lb.length ≤ _; omega)).mono ?_
    rintro e w' ⟨rfl, hb⟩
    rw [hqn]
    exact ⟨rfl, hb⟩
  · refine (pcreate_yes hW (by show p.lb.length ≤ _; omega) (by show 0 ≤ p.nv ∧ p.nv ≤ _; rw [f3]; exact hv) hqc).mono ?_
    rintro e w' ⟨rfl, bs, hf, hp, hs⟩
    refine ⟨_, rfl, rfl, _, _, _, hf, ?_⟩
    have b1 : (nmd p).lb.map BL.b = s.boxes := by
      have := congrArg Stt.boxes hst
      exact this
    refine ⟨f1, f2, ?_, f4, ?_, hs, hus, hn⟩
    · show p.nv + 1 = _
      rw [f3]
    · rw [b1] at hp
      have u1 : (nmd p).a.user = a.user := by show p.a.user = _; rw [hpa]
      have u2 : (nmd p).a.name = nmP a.name := by show nmP p.a.name = _; rw [hpa]
      have u3 : (nmd p).nv = s.nextValid := congrArg Stt.nextValid hst
      rwa [u1, u2, u3] at hp
  · rintro e w' ⟨v, rfl, rfl, t, us, n, hf, hr⟩
    exact ⟨rfl, t, us, n, hf, hr⟩
set_option maxHeartbeats 4000000 in
theorem pstepRename {w : World} {sv av : Value} {s : Stt} {a : Ac} {ea : Nat → Addr} (hE : Errs w ea) (hS : StR w sv s) (hA : AcR w av a) (hd : BdS s) (hform : poForm s = true) (hk : a.kind = 3) (h2 : a.name.length ≤ 1000000) (h3 : a.dst.length ≤ 1000000) (hq : qNames (paOf s (nmA a)) = 0) (hc : qRen (paOf s (nmA a)) = 0) (hb : s.boxes.length ≤ 24) (h2' : (nmP a.name).length ≤ 1000000) (h3' : (nmP a.dst).length ≤ 1000000) :
    Calls Tryz.prog 8 #[sv, av] w fun e w' => ∃ tv uv n t us, e = .returned (.tuple #[tv, .agg #[uv, .int .i64 n], .nilIface]) ∧ Below w.heap.size w w' ∧ (t.subs = s.subs ∧ t.queue = s.queue ∧ t.nextValid = s.nextValid ∧ t.nextItem = s.nextItem ∧ t.boxes.Perm (s.boxes.map (rnB (paOf s (nmA a)))) ∧ SrtB t.boxes ∧ us = [] ∧ n = 0) ∧ (∀ w2, Mvs (fun k => k < w.heap.size) w' w2 → StR w2 tv t ∧ RdE 1 IntAt w2 uv us) := by
  refine pstep_yes hE hS hA hd hform (fun t us n => t.subs = s.subs ∧ t.queue = s.queue ∧ t.nextValid = s.nextValid ∧ t.nextItem = s.nextItem ∧ t.boxes.Perm (s.boxes.map (rnB (paOf s (nmA a)))) ∧ SrtB t.boxes ∧ us = [] ∧ n = 0) ?_
  intro w0 W X p hb0 hAS hst hpa hus hn
  have hE0 := hE.below hb0
  have hl : p.lb.length = s.boxes.length := by rw [← hst, boxes_len]
  have hkd : dmL (.pointer (some ⟨X, 0, none⟩)) p.a.kind = .tuple #[.agg #[(.func (.func 50) #[.pointer (some ⟨X, 0, none⟩)] #[]), (.func (.func 51) #[.pointer (some ⟨X, 0, none⟩)] #[])], .bool true] := by
    rw [hpa, hk]
    rfl
  have f1 : p.ls = s.subs := congrArg Stt.subs hst
  have f2 : p.lq.map QL.q = s.queue := congrArg Stt.queue hst
  have f3 : p.nv = s.nextValid := congrArg Stt.nextValid hst
  have f4 : p.ni = s.nextItem := congrArg Stt.nextItem hst
  have e1 : (nmd p).st = (paOf s (nmA a)).st := by rw [nmd_st, paOf_st, hst]
  have e2 : (nmd p).a = (paOf s (nmA a)).a := by rw [nmd_a, paOf_a, hpa]
  have hqn : qNames (nmd p) = 0 := by rw [qNames_eq e1 e2, hq]
  have hqc : qRen (nmd p) = 0 := by rw [qRen_eq e1 e2, hc]
  refine (pact_yes hAS hE0 (by rw [hpa]; exact h2) (by rw [hpa]; exact h3) hkd (enters_of Tryz.func50 (by kernel_rfl) rfl) (enters_of Tryz.func51 (by kernel_rfl) rfl) (fun v w' => v = .nilIface ∧ ∃ t us n, FS w0 w' X t us n ∧ (t.subs = s.subs ∧ t.queue = s.queue ∧ t.nextValid = s.nextValid ∧ t.nextItem = s.nextItem ∧ t.boxes.Perm (s.boxes.map (rnB (paOf s (nmA a)))) ∧ SrtB t.boxes ∧ us = [] ∧ n = 0)) (fun W hW => ?_) (fun W hW => ?_)).mono ?_
  · refine (paskNames_any hW hE0 (by show p.lb.length ≤ _; omega)).mono ?_
    rintro e w' ⟨rfl, hb⟩
    rw [hqn]
    exact ⟨rfl, hb⟩
  · refine (prename_yes hW (by show p.lb.length ≤ _; omega) (fun x hx => by rw [e1, paOf_st] at hx; exact (hd.bx x hx).name) (by rw [e2, paOf_a]; exact h2') (by rw [e2, paOf_a]; exact h3') hqc).mono ?_
    rintro e w' ⟨rfl, bs, hf, hp, hs⟩
    refine ⟨_, rfl, rfl, _, _, _, hf, ?_⟩
    refine ⟨f1, f2, f3, f4, ?_, hs, hus, hn⟩
    rw [e1, paOf_st, rnB_eq e2] at hp
    exact hp
  · rintro e w' ⟨v, rfl, rfl, t, us, n, hf, hr⟩
    exact ⟨rfl, t, us, n, hf, hr⟩
end Go.Proofs.YtdbmaobjikjifaaGreatDoorR

end
section
set_option linter.unusedVariables false
set_option linter.unusedSimpArgs false
namespace Go.Proofs.YtdbmaobjikjifaaGreatDoorR
open Go.RowKit Go.Shelf
theorem two_sorted {x y : Bx} {bs : List Bx} (hp : bs.Perm [x, y]) (hs : SrtB bs) (hxy : bxLt x y = true) : bs = [x, y] := by
  have hl := hp.length_eq
  match bs, hl with
  | [a, b], _ =>
    have ha : a ∈ [x, y] := hp.mem_iff.1 (by simp)
    simp only [List.mem_cons, List.not_mem_nil, or_false] at ha
    rcases ha with rfl | rfl
    · have := List.perm_singleton.1 ((List.perm_cons a).1 hp)
      rw [this]
    · have := List.perm_singleton.1 ((List.perm_cons a).1 (hp.trans (List.Perm.swap a x [])))
      have e : b = x := by simpa using this
      subst e
      have h := hs 0 1 (by simp) (by simp) (by omega)
      have h' : bxLt b a = false := h
      rw [hxy] at h'
      cases h'
def alS0 : Stt := ⟨[⟨0, inboxU, 1, 1, []⟩], [], [], 2, 1⟩
def alS1 : Stt := ⟨[⟨0, inboxU, 1, 1, []⟩, ⟨0, [97, 47, 98], 2, 1, []⟩], [], [], 3, 1⟩
def alS2 : Stt := ⟨[⟨0, inboxU, 1, 1, []⟩, ⟨0, [99], 2, 1, []⟩], [], [], 3, 1⟩
def alA1 : Ac := ⟨1, 0, 0, 0, 0, 0, [97, 47, 98], [], [], [], [], []⟩
def alA2 : Ac := ⟨3, 0, 0, 0, 0, 0, [97, 47, 98], [99], [], [], [], []⟩
theorem al_new : poNew 1 = alS0 := rfl
set_option maxRecDepth 100000 in
theorem al_form0 : poForm alS0 = true := by kernel_rfl
set_option maxRecDepth 100000 in
theorem al_form1 : poForm alS1 = true := by kernel_rfl
set_option maxRecDepth 100000 in
theorem al_q1 : qName (paOf alS0 (nmA alA1)) = 0 := by kernel_rfl
set_option maxRecDepth 100000 in
theorem al_c1 : qCreate (paOf alS0 (nmA alA1)) = 0 := by kernel_rfl
set_option maxRecDepth 100000 in
theorem al_q2 : qNames (paOf alS1 (nmA alA2)) = 0 := by kernel_rfl
set_option maxRecDepth 100000 in
theorem al_c2 : qRen (paOf alS1 (nmA alA2)) = 0 := by kernel_rfl
set_option maxRecDepth 100000 in
theorem al_n1 : nmP [97, 47, 98] = [97, 47, 98] := by kernel_rfl
set_option maxRecDepth 100000 in
theorem al_n2 : nmP [99] = [99] := by kernel_rfl
set_option maxRecDepth 100000 in
theorem al_map : alS1.boxes.map (rnB (paOf alS1 (nmA alA2))) = alS2.boxes := by kernel_rfl
set_option maxRecDepth 100000 in
theorem al_find : poFind alS2.boxes 0 [99] = some 1 := by kernel_rfl
theorem al_bd0 : BdS alS0 := ⟨by simp [alS0], by simp only [alS0, List.mem_singleton]; rintro b rfl; exact ⟨by simp [inboxU], by simp, by simp⟩, by simp [alS0], by simp [alS0], by simp [alS0], by simp [alS0]⟩
theorem al_bd1 : BdS alS1 := ⟨by simp [alS1], by
  intro b hb
  simp only [alS1, List.mem_cons, List.not_mem_nil, or_false] at hb
  rcases hb with rfl | rfl <;> exact ⟨by simp [inboxU], by simp, by simp⟩, by simp [alS1], by simp [alS1], by simp [alS1], by simp [alS1]⟩
theorem al_step1 {w : World} {sv av : Value} {ea : Nat → Addr} (hE : Errs w ea) (hS : StR w sv alS0) (hA : AcR w av alA1) :
    Calls Tryz.prog 8 #[sv, av] w fun e w' => ∃ A1 c1 A2 c2 A3 c3 A c n, e = .returned (.tuple #[.agg #[.slice A1 2 c1, .slice A2 0 c2, .slice A3 0 c3, .int .i64 3, .int .i64 1], .agg #[.slice A 0 c, .int .i64 n], .nilIface]) ∧ Below w.heap.size w w' ∧ (∀ w2, Mvs (fun k => k < w.heap.size) w' w2 → StR w2 (.agg #[.slice A1 2 c1, .slice A2 0 c2, .slice A3 0 c3, .int .i64 3, .int .i64 1]) alS1) := by
  refine (pstepCreate hE hS hA al_bd0 al_form0 rfl (by simp [alA1]) (by simp [alA1]) al_q1 al_c1 (by simp [alS0]) (by simp [alS0])).mono ?_
  rintro e w' ⟨tv, uv, n, t, us, rfl, hb, ⟨h1, h2, h3, h4, h5, h6, rfl, rfl⟩, hsu⟩
  obtain ⟨tb, ts, tq, tv', ti⟩ := t
  have h7 : (alS0.boxes ++ [⟨alA1.user, nmP alA1.name, alS0.nextValid, 1, []⟩] : List Bx) = [⟨0, inboxU, 1, 1, []⟩, ⟨0, [97, 47, 98], 2, 1, []⟩] := by
    show [_, (⟨0, nmP [97, 47, 98], 2, 1, []⟩ : Bx)] = _
    rw [al_n1]
  rw [h7] at h5
  have h8 := two_sorted h5 h6 (by kernel_rfl)
  dsimp only at h1 h2 h3 h4 h8
  subst h1 h2 h3 h4 h8
  obtain ⟨hs, hu⟩ := hsu w' (Mvs.refl _ _)
  obtain ⟨A, c, rfl⟩ := hu.form
  obtain ⟨bv, sv', qv, rfl, k1, k2, k3⟩ := hs
  obtain ⟨A1, c1, rfl⟩ := k1.form
  obtain ⟨A2, c2, rfl⟩ := k2.form
  obtain ⟨A3, c3, rfl⟩ := k3.form
  exact ⟨A1, c1, A2, c2, A3, c3, A, c, 0, rfl, hb, fun w2 hw2 => (hsu w2 hw2).1⟩
theorem al_step2 {w : World} {sv av : Value} {ea : Nat → Addr} (hE : Errs w ea) (hS : StR w sv alS1) (hA : AcR w av alA2) :
    Calls Tryz.prog 8 #[sv, av] w fun e w' => ∃ A1 c1 A2 c2 A3 c3 A c n, e = .returned (.tuple #[.agg #[.slice A1 2 c1, .slice A2 0 c2, .slice A3 0 c3, .int .i64 3, .int .i64 1], .agg #[.slice A 0 c, .int .i64 n], .nilIface]) ∧ Below w.heap.size w w' ∧ (∀ w2, Mvs (fun k => k < w.heap.size) w' w2 → StR w2 (.agg #[.slice A1 2 c1, .slice A2 0 c2, .slice A3 0 c3, .int .i64 3, .int .i64 1]) alS2) := by
  refine (pstepRename hE hS hA al_bd1 al_form1 rfl (by simp [alA2]) (by simp [alA2]) al_q2 al_c2 (by simp [alS1]) (by show (nmP [97, 47, 98]).length ≤ _; rw [al_n1]; simp) (by show (nmP [99]).length ≤ _; rw [al_n2]; simp)).mono ?_
  rintro e w' ⟨tv, uv, n, t, us, rfl, hb, ⟨h1, h2, h3, h4, h5, h6, rfl, rfl⟩, hsu⟩
  obtain ⟨tb, ts, tq, tv', ti⟩ := t
  rw [al_map] at h5
  have h8 := two_sorted h5 h6 (by kernel_rfl)
  dsimp only at h1 h2 h3 h4 h8
  subst h1 h2 h3 h4 h8
  obtain ⟨hs, hu⟩ := hsu w' (Mvs.refl _ _)
  obtain ⟨A, c, rfl⟩ := hu.form
  obtain ⟨bv, sv', qv, rfl, k1, k2, k3⟩ := hs
  obtain ⟨A1, c1, rfl⟩ := k1.form
  obtain ⟨A2, c2, rfl⟩ := k2.form
  obtain ⟨A3, c3, rfl⟩ := k3.form
  exact ⟨A1, c1, A2, c2, A3, c3, A, c, 0, rfl, hb, fun w2 hw2 => (hsu w2 hw2).1⟩
set_option maxRecDepth 20000 in
set_option maxHeartbeats 8000000 in
theorem alive15_any {w : World} {ea : Nat → Addr} (hE : Errs w ea) : Calls Tryz.prog 5 #[] w fun e w' => e = .returned (.bool true) ∧ Below w.heap.size w w' := by
  have HEr := hide hE
  have HN : Hid (Calls Tryz.prog 6 #[.int .i64 1] w fun e w' => ∃ A1 c1 A2 c2 A3 c3, e = .returned (.tuple #[.agg #[.slice A1 1 c1, .slice A2 0 c2, .slice A3 0 c3, .int .i64 2, .int .i64 1], .nilIface]) ∧ StR w' (.agg #[.slice A1 1 c1, .slice A2 0 c2, .slice A3 0 c3, .int .i64 2, .int .i64 1]) alS0 ∧ Below w.heap.size w w') := by
    have := pnew_yes 1 (by omega) (by omega) w
    rw [al_new] at this
    refine Calls.mono this ?_
    rintro e w' ⟨v, rfl, hs, hb⟩
    have hs' := hs
    obtain ⟨bv, sv, qv, rfl, k1, k2, k3⟩ := hs
    obtain ⟨A1, c1, rfl⟩ := k1.form
    obtain ⟨A2, c2, rfl⟩ := k2.form
    obtain ⟨A3, c3, rfl⟩ := k3.form
    exact ⟨A1, c1, A2, c2, A3, c3, rfl, hs', hb⟩
  clear hE
  go_enter Tryz.func5, Tryz.ntmps5
  go_upto_region 4 with (go_at_call 6; refine HN.out.mono ?_; rintro e w1 ⟨A1, c1, A2, c2, A3, c3, rfl, hs1, hb1⟩; replace hs1 := hide hs1; have HB1 := hide hb1; clear hb1)
  have AL : Below w1.heap.size w1 (w1.alloc (.cells #[.slice A1 1 c1, .slice A2 0 c2, .slice A3 0 c3, .int .i64 2, .int .i64 1] 28)) := (Below.refl _ _).alloc (Nat.le_refl _) _
  have HB2 := hide (HB1.out.trans (AL.mono HB1.out.size))
  have HK := hide (Blk.new w1 #[.slice A1 1 c1, .slice A2 0 c2, .slice A3 0 c3, .int .i64 2, .int .i64 1] 28)
  have HS2 := hide (hs1.out.below AL)
  have HP1 := hide (al_step1 (HEr.out.below HB2.out) HS2.out (show AcR _ (.agg #[.int .i64 1, .int .i64 0, .int .i64 0, .int .i64 0, .int .i64 0, .int .i64 0, .string ⟨#[97, 47, 98]⟩, .string ⟨#[]⟩, .string ⟨#[]⟩, .string ⟨#[]⟩, .slice none 0 0, .slice none 0 0]) alA1 from ⟨_, _, rfl, RdE.nil _ _ _, RdE.nil _ _ _⟩))
  go_upto_region 5 with (first
    | (go_at_call 8; refine HP1.out.mono ?_; rintro e w3 ⟨B13, d13, B23, d23, B33, d33, Au3, cu3, n3, rfl, hb3, hs3⟩; have HB3 := hide (HB2.out.trans (hb3.mono HB2.out.size)); have HK3 := hide (HK.out.below hb3 HK.out.lt); have HT3 := hide hs3; clear hs3 hb3; have AL3 := hide (HK3.out.alloc (.cells #[.slice none 0 0, .int .i64 0] 39)); have AN3 := hide (Blk.new w3 #[.slice none 0 0, .int .i64 0] 39))
    | (refine wpList_store_row rfl 28 (.tmp 1) (.tmp 18) rfl w1.heap.size #[.slice B13 2 d13, .slice B23 0 d23, .slice B33 0 d33, .int .i64 3, .int .i64 1] (by simp [Act.eval, Act.put]) (by simp [Act.eval, Act.put]) 28 #[.slice A1 1 c1, .slice A2 0 c2, .slice A3 0 c3, .int .i64 2, .int .i64 1] AL3.out (by kernel_rfl) rfl (by simp [Value.oneCell']) ?_; have AM3 := hide (row_mvs (w3.alloc (.cells #[.slice none 0 0, .int .i64 0] 39)) w1.heap.size #[.slice B13 2 d13, .slice B23 0 d23, .slice B33 0 d33, .int .i64 3, .int .i64 1]); have AK3 := hide (row_blk (cs := #[.slice B13 2 d13, .slice B23 0 d23, .slice B33 0 d33, .int .i64 3, .int .i64 1]) AL3.out); have AQ3 := hide (AM3.out.blk AN3.out (by have := HK3.out.lt; omega)))
    | (refine wpList_store_row rfl 39 (.tmp 3) (.tmp 19) rfl w3.heap.size #[.slice Au3 0 cu3, .int .i64 n3] (by simp [Act.eval, Act.put]) (by simp [Act.eval, Act.put]) 39 #[.slice none 0 0, .int .i64 0] AQ3.out (by kernel_rfl) rfl (by simp [Value.oneCell']) ?_))
  have HMW4 : Hid (Mvs (fun k => k = w1.heap.size) w3 (((w3.alloc (.cells #[.slice none 0 0, .int .i64 0] 39)).setRow w1.heap.size #[.slice B13 2 d13, .slice B23 0 d23, .slice B33 0 d33, .int .i64 3, .int .i64 1]).setRow w3.heap.size #[.slice Au3 0 cu3, .int .i64 n3])) := (((Mvs.refl (fun k => k = w1.heap.size) w3).alloc _).trans AM3.out).trans' (row_mvs _ _ _) (fun k hk e => by omega)
  have HKW4 : Hid (Blk (((w3.alloc (.cells #[.slice none 0 0, .int .i64 0] 39)).setRow w1.heap.size #[.slice B13 2 d13, .slice B23 0 d23, .slice B33 0 d33, .int .i64 3, .int .i64 1]).setRow w3.heap.size #[.slice Au3 0 cu3, .int .i64 n3]) w1.heap.size #[.slice B13 2 d13, .slice B23 0 d23, .slice B33 0 d33, .int .i64 3, .int .i64 1] 28) := (row_mvs _ _ _).blk AK3.out (by have := HK3.out.lt; omega)
  have HUW4 := hide (HT3.out _ (HMW4.out.mono (fun k _ e => by rw [e]; simp)))
  have HCW4 := hide (HB3.out.trans (HMW4.out.below (B := w.heap.size) (fun k hk e => by have := HB1.out.size; omega) HB3.out.size))
  clear AL3 AM3 AK3 AN3 AQ3 HT3 HMW4
  obtain ⟨W4, hW4⟩ : ∃ W4, Hid (((w3.alloc (.cells #[.slice none 0 0, .int .i64 0] 39)).setRow w1.heap.size #[.slice B13 2 d13, .slice B23 0 d23, .slice B33 0 d33, .int .i64 3, .int .i64 1]).setRow w3.heap.size #[.slice Au3 0 cu3, .int .i64 n3] = W4) := ⟨_, hide rfl⟩
  rw [hW4.out] at HKW4 HUW4 HCW4 ⊢
  clear hW4
  have HP2 := hide (al_step2 (HEr.out.below HCW4.out) HUW4.out (show AcR _ (.agg #[.int .i64 3, .int .i64 0, .int .i64 0, .int .i64 0, .int .i64 0, .int .i64 0, .string ⟨#[97, 47, 98]⟩, .string ⟨#[99]⟩, .string ⟨#[]⟩, .string ⟨#[]⟩, .slice none 0 0, .slice none 0 0]) alA2 from ⟨_, _, rfl, RdE.nil _ _ _, RdE.nil _ _ _⟩))
  have u0 := HKW4.out.cell 0
  have u1 := HKW4.out.cell 1
  have u2 := HKW4.out.cell 2
  have u3 := HKW4.out.cell 3
  have u4 := HKW4.out.cell 4
  simp only [List.getElem?_toArray, List.getElem?_cons_zero, List.getElem?_cons_succ] at u0 u1 u2 u3 u4
  go_upto_region 6 with (first
    | (go_at_call 8; refine HP2.out.mono ?_; rintro e w5 ⟨B15, d15, B25, d25, B35, d35, Au5, cu5, n5, rfl, hb5, hs5⟩; have HB5 := hide (HCW4.out.trans (hb5.mono HCW4.out.size)); have HK5 := hide (HKW4.out.below hb5 HKW4.out.lt); have HT5 := hide hs5; clear hs5 hb5; have AL5 := hide (HK5.out.alloc (.cells #[.slice none 0 0, .int .i64 0] 39)); have AN5 := hide (Blk.new w5 #[.slice none 0 0, .int .i64 0] 39))
    | (refine wpList_store_row rfl 28 (.tmp 1) (.tmp 25) rfl w1.heap.size #[.slice B15 2 d15, .slice B25 0 d25, .slice B35 0 d35, .int .i64 3, .int .i64 1] (by simp [Act.eval, Act.put]) (by simp [Act.eval, Act.put]) 28 #[.slice B13 2 d13, .slice B23 0 d23, .slice B33 0 d33, .int .i64 3, .int .i64 1] AL5.out (by kernel_rfl) rfl (by simp [Value.oneCell']) ?_; have AM5 := hide (row_mvs (w5.alloc (.cells #[.slice none 0 0, .int .i64 0] 39)) w1.heap.size #[.slice B15 2 d15, .slice B25 0 d25, .slice B35 0 d35, .int .i64 3, .int .i64 1]); have AK5 := hide (row_blk (cs := #[.slice B15 2 d15, .slice B25 0 d25, .slice B35 0 d35, .int .i64 3, .int .i64 1]) AL5.out); have AQ5 := hide (AM5.out.blk AN5.out (by have := HK5.out.lt; omega)))
    | (refine wpList_store_row rfl 39 (.tmp 5) (.tmp 26) rfl w5.heap.size #[.slice Au5 0 cu5, .int .i64 n5] (by simp [Act.eval, Act.put]) (by simp [Act.eval, Act.put]) 39 #[.slice none 0 0, .int .i64 0] AQ5.out (by kernel_rfl) rfl (by simp [Value.oneCell']) ?_))
  have HMW6 : Hid (Mvs (fun k => k = w1.heap.size) w5 (((w5.alloc (.cells #[.slice none 0 0, .int .i64 0] 39)).setRow w1.heap.size #[.slice B15 2 d15, .slice B25 0 d25, .slice B35 0 d35, .int .i64 3, .int .i64 1]).setRow w5.heap.size #[.slice Au5 0 cu5, .int .i64 n5])) := (((Mvs.refl (fun k => k = w1.heap.size) w5).alloc _).trans AM5.out).trans' (row_mvs _ _ _) (fun k hk e => by omega)
  have HKW6 : Hid (Blk (((w5.alloc (.cells #[.slice none 0 0, .int .i64 0] 39)).setRow w1.heap.size #[.slice B15 2 d15, .slice B25 0 d25, .slice B35 0 d35, .int .i64 3, .int .i64 1]).setRow w5.heap.size #[.slice Au5 0 cu5, .int .i64 n5]) w1.heap.size #[.slice B15 2 d15, .slice B25 0 d25, .slice B35 0 d35, .int .i64 3, .int .i64 1] 28) := (row_mvs _ _ _).blk AK5.out (by have := HK5.out.lt; omega)
  have HUW6 := hide (HT5.out _ (HMW6.out.mono (fun k _ e => by rw [e]; have := HKW4.out.lt; omega)))
  have HCW6 := hide (HB5.out.trans (HMW6.out.below (B := w.heap.size) (fun k hk e => by have := HB1.out.size; omega) HB5.out.size))
  clear AL5 AM5 AK5 AN5 AQ5 HT5 HMW6
  obtain ⟨W6, hW6⟩ : ∃ W6, Hid (((w5.alloc (.cells #[.slice none 0 0, .int .i64 0] 39)).setRow w1.heap.size #[.slice B15 2 d15, .slice B25 0 d25, .slice B35 0 d35, .int .i64 3, .int .i64 1]).setRow w5.heap.size #[.slice Au5 0 cu5, .int .i64 n5] = W6) := ⟨_, hide rfl⟩
  rw [hW6.out] at HKW6 HUW6 HCW6 ⊢
  clear hW6
  have u0 := HKW6.out.cell 0
  have u1 := HKW6.out.cell 1
  have u2 := HKW6.out.cell 2
  have u3 := HKW6.out.cell 3
  have u4 := HKW6.out.cell 4
  simp only [List.getElem?_toArray, List.getElem?_cons_zero, List.getElem?_cons_succ] at u0 u1 u2 u3 u4
  have HFd : Hid (Calls Tryz.prog 11 #[.agg #[.slice B15 2 d15, .slice B25 0 d25, .slice B35 0 d35, .int .i64 3, .int .i64 1], .int .i64 0, .string ⟨#[99]⟩] W6 fun e w' => e = .returned (.int .i64 1) ∧ Below W6.heap.size W6 w') := by
    have := pfind_any HUW6.out 0 [99] (by simp [alS2])
    rw [al_find] at this
    exact this
  obtain ⟨g, o, eg, hg, _, _, hv, _⟩ := (show RdE 5 BxAt W6 (.slice B15 alS2.boxes.length d15) alS2.boxes from by obtain ⟨_, _, _, e, k, _, _⟩ := HUW6.out; simp only [Value.agg.injEq, Array.mk.injEq, List.cons.injEq, and_true] at e; obtain ⟨rfl, _⟩ := e; exact k).at (i := 1) (by simp [alS2])
  subst eg
  have hv' : W6.cell? ⟨g, o + 1 * 5 + 2, none⟩ = some (.int .i64 2) := hv
  have HV : Hid (∀ W, Below W6.heap.size W6 W → W.cell? ⟨g, o + 1 * 5 + 2, none⟩ = some (.int .i64 2) ∧ W.cell? ⟨g, o + 5 + 2, none⟩ = some (.int .i64 2)) := fun W hW => ⟨(hW.cell (p := ⟨g, o + 1 * 5 + 2, none⟩) hg).trans hv', by have := (hW.cell (p := ⟨g, o + 1 * 5 + 2, none⟩) hg).trans hv'; rwa [Nat.one_mul] at this⟩
  have HK0 : Hid (∀ W, Below W6.heap.size W6 W → W.cell? ⟨w1.heap.size, 0, none⟩ = some (.slice (some ⟨g, o, none⟩) 2 d15)) := fun W hW => (HKW6.out.below hW HKW6.out.lt).cell 0
  clear hv hv'
  go_wp2_with (go_at_call 11; refine HFd.out.mono ?_; rintro e w7 ⟨rfl, hb7⟩; have v0 := HK0.out _ hb7; obtain ⟨v1, v2⟩ := HV.out _ hb7; have HBf := hide (HCW6.out.trans (hb7.mono HCW6.out.size)); clear hb7)
  go_ret
  exact ⟨rfl, HBf.out⟩
end Go.Proofs.YtdbmaobjikjifaaGreatDoorR

end
