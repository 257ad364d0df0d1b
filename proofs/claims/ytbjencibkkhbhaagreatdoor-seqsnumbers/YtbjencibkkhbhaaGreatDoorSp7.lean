/- Text of package seqs. -/
import Derived.Test.YtbjencibkkhbhaaGreatDoorSp5
import Derived.Test.YtbjencibkkhbhaaGreatDoorSp1
import Derived.Test.YtbjencibkkhbhaaGreatDoorHr0
import Derived.Test.YtbjencibkkhbhaaGreatDoorSq3
set_option linter.unusedVariables false
set_option linter.unusedSimpArgs false
namespace Go.Proofs.YtbjencibkkhbhaaGreatDoor
open Go.RowKit Go.Shelf
theorem jn_lenQ (c : UInt8) (K : Nat) : ∀ ts : List (List UInt8), (∀ t ∈ ts, t.length ≤ K) → (jn c ts).length ≤ ts.length * (K + 1)
  | [], _ => by simp [jn]
  | [a], h => by
    have := h a (by simp)
    simp [jn]
    omega
  | a :: b :: ts, h => by
    have h1 := h a (by simp)
    have ih := jn_lenQ c K (b :: ts) (fun t ht => h t (by simp only [List.mem_cons] at ht ⊢; exact .inr ht))
    rw [jn_cons (by simp), List.length_append, List.length_cons, List.length_cons, Nat.add_mul]
    omega
/-- strings.Join on a row of one's own. -/
theorem pjoin_any (c : UInt8) (xs : List (List UInt8)) (v : Value) (G : Option Nat) (w : World) (h : Rw w 1 v xs.length (xs.map sv) G) (hm : xs.length ≤ 20000) (hf : (jn c xs).length ≤ 1000000) :
    Calls Tryz.prog 32 #[v, .string ⟨#[c]⟩] w fun e w' => e = .returned (.string ⟨(jn c xs).toArray⟩) ∧ Below w.heap.size w w' := by
  obtain ⟨A, k, rfl⟩ := h.form
  by_cases h0 : xs = []
  · subst h0
    refine (Tryz.strings_Join_none A k ⟨#[c]⟩ w).mono ?_
    rintro e w' ⟨rfl, rfl⟩
    exact ⟨rfl, Below.refl _ _⟩
  · rcases h.2 with ⟨_, hl, _⟩ | ⟨g, o, cap, rfl, hv, h1, h2, h3, h4, h5⟩
    · exact absurd (List.length_eq_zero_iff.1 hl) h0
    · cases hv
      have e1 : ((xs.map fun x => (⟨x.toArray⟩ : ByteArray)).map (·.data.toList)) = xs := by
        rw [List.map_map]
        conv => rhs; rw [← List.map_id xs]
        apply List.map_congr_left
        intro x _
        simp
      have e2 : (⟨#[c]⟩ : ByteArray).data.toList = [c] := rfl
      have := Tryz.strings_Join g o k (xs.map fun x => ⟨x.toArray⟩) ⟨#[c]⟩ w (fun j x hx => by
        rw [List.getElem?_map] at hx
        obtain ⟨y, hy, rfl⟩ := Option.map_eq_some_iff.1 hx
        obtain ⟨hj, rfl⟩ := List.getElem?_eq_some_iff.1 hy
        exact h4 j _ (by simp [List.getElem?_eq_getElem hj, sv])) h3 (by simp; omega) (by simpa using h1) (by rw [e1, e2, jn_join]; omega)
      rw [e1, e2, jn_join, List.length_map] at this
      exact this
/-- A row of texts of one's own, under way. -/
def Ts (w wr : World) (v : Value) (xs : List (List UInt8)) : Prop := Below w.heap.size w wr ∧ ∃ G, Rw wr 1 v xs.length (xs.map sv) G ∧ ∀ g, G = some g → w.heap.size ≤ g
theorem Ts.grow {w wr w1 : World} {v1 : Value} {xs : List (List UInt8)} {x : List UInt8} {G G1 : Option Nat} {o : Obj} (hb : Below w.heap.size w wr) (hg : ∀ g, G = some g → w.heap.size ≤ g)
    (hr : Rw w1 1 v1 (xs.length + 1) (xs.map sv ++ [sv x]) G1) (hm : Mvs (fun k => some k = G) (wr.alloc o) w1) (hG : G1 = G ∨ G1 = some (wr.alloc o).heap.size) : Ts w w1 v1 (xs ++ [x]) := by
  refine ⟨below_mvs (hb.alloc hb.size _) hm (fun k hk e => by have := hg k e.symm; omega) (Nat.le_refl _), G1, ?_, ?_⟩
  · rw [List.length_append, List.map_append]
    exact hr
  · rintro g rfl
    rcases hG with h | h
    · exact hg g h.symm
    · cases h
      have := hb.size
      simp
      omega
theorem Ts.below {w wr wq : World} {v : Value} {xs : List (List UInt8)} (h : Ts w wr v xs) (hb : Below wr.heap.size wr wq) : Ts w wq v xs := by
  obtain ⟨h1, G, hr, hg⟩ := h
  exact ⟨h1.trans (hb.mono h1.size), G, hr.keep (S := fun _ => False) (Mvs.of_below hb) (fun _ _ c => c), hg⟩
theorem strInfoQ : (Tryz.prog.info? 9).map (fun i => (i.zero, i.size, i.bytes)) = some (some (.string ⟨#[]⟩), 1, 16) := by kernel_rfl
theorem src_strQ {w : World} (x : List UInt8) {c : Nat} : Src Tryz.prog 1 56 (.slice (some ⟨w.heap.size, 0, none⟩) 1 c) 1 [sv x] (w.alloc (.cells #[.string ⟨x.toArray⟩] 9)) :=
  Src.ofSlice _ Tryz.underlying56 ⟨w.heap.size, 0, none⟩ 1 c [sv x] rfl (fun j u hu => by
    rw [Go.WideShapes.add_plain, Nat.zero_add]
    match j, hu with
    | 0, hu => cases hu; exact (Blk.new w #[.string ⟨x.toArray⟩] 9).cell 0) (fun u hu => by
    simp at hu
    subst hu
    rfl)
/-- What Text answers. -/
def txA (o : Option (List UInt8)) (a : Addr) : Ending := match o with
  | some t => .returned (.tuple #[.string ⟨t.toArray⟩, .nilIface])
  | none => .returned (.tuple #[.string ⟨#[]⟩, .iface 151 (.pointer (some a))])
theorem rgOk_of {r : Int × Int} (h : rgOk r = true) : ∃ x y : Nat, x ≤ 2147483648 ∧ y ≤ 2147483648 ∧ r = ((x : Int), (y : Int)) ∧ ratN r = (x, y) := by
  unfold rgOk at h
  simp at h
  obtain ⟨a, b⟩ := r
  dsimp only at h
  exact ⟨a.toNat, b.toNat, by omega, by omega, by rw [Int.toNat_of_nonneg (by omega), Int.toNat_of_nonneg (by omega)], rfl⟩
theorem tx_next {rs : List (Int × Int)} {k : Nat} (h : k < rs.length) : ((rs.take (k + 1)).map ratN).map sqTI = ((rs.take k).map ratN).map sqTI ++ [sqTI (ratN rs[k])] := by
  rw [List.take_succ_eq_append_getElem h, List.map_append, List.map_append]
  rfl
theorem all_nextQ {rs : List (Int × Int)} {k : Nat} (h : k < rs.length) (h1 : (rs.take k).all rgOk = true) (h2 : rgOk rs[k] = true) : (rs.take (k + 1)).all rgOk = true := by
  rw [List.take_succ_eq_append_getElem h, List.all_append, h1]
  simp [h2]
theorem all_badQ {rs : List (Int × Int)} {k : Nat} (h : k < rs.length) (h2 : rgOk rs[k] = false) : txO rs = none := by
  unfold txO
  rw [if_neg]
  rintro ⟨h1, _⟩
  have := List.all_eq_true.1 h1 _ (List.getElem_mem h)
  rw [h2] at this
  cases this
set_option maxRecDepth 20000 in
set_option maxHeartbeats 4000000 in
theorem ptext_any {w : World} {v : Value} {rs : List (Int × Int)} (hv : RA w v rs) (a : Addr) (hE : EFq w a) (ht : TabQ w) (hl : rs.length ≤ 1000000) :
    Calls Tryz.prog 14 #[v] w fun e w' => e = txA (txO rs) a ∧ Below w.heap.size w w' := by
  have KEY : Hid (∀ w1 : World, Below w.heap.size w w1 → w1.cell? ⟨0, 0, none⟩ = some (.iface 151 (.pointer (some a)))) := fun w1 hb => (hE.below hb).cell
  have HX := hide hv
  obtain ⟨A, c, rfl, _⟩ := hv
  by_cases hlen : 1 ≤ rs.length ∧ rs.length ≤ 50
  case neg =>
    have hO : txO rs = none := by unfold txO; rw [if_neg (fun h => hlen h.2)]
    rw [hO]
    show Calls _ _ _ _ fun e w' => e = .returned (.tuple #[.string ⟨#[]⟩, .iface 151 (.pointer (some a))]) ∧ _
    have hge := KEY.out _ (Below.refl _ _)
    by_cases h1 : rs.length < 1
    · have h1' : (rs.length : Int) < 1 := by omega
      go_enter Tryz.func14, Tryz.ntmps14
      go_wp2
      go_region
      all_goals
        go_wp2
        exact bodyPost_ret (v := .tuple #[.string ⟨#[]⟩, .iface 151 (.pointer (some a))]) (by simp [results, Tryz.results14, go_sem]) rfl ⟨rfl, (Below.refl _ _).drew⟩
    · have h1' : ¬ (rs.length : Int) < 1 := by omega
      have h2' : (50 : Int) < rs.length := by omega
      go_enter Tryz.func14, Tryz.ntmps14
      go_wp2
      go_region
      all_goals
        go_wp2
        exact bodyPost_ret (v := .tuple #[.string ⟨#[]⟩, .iface 151 (.pointer (some a))]) (by simp [results, Tryz.results14, go_sem]) rfl ⟨rfl, (Below.refl _ _).drew⟩
  case pos =>
  obtain ⟨hl1, hl2⟩ := hlen
  have h1' : ¬ (rs.length : Int) < 1 := by omega
  have h2' : ¬ (50 : Int) < rs.length := by omega
  obtain ⟨O, HO⟩ : ∃ O, Hid (O = txO rs) := ⟨_, hide rfl⟩
  rw [← HO.out]
  obtain ⟨E, HE⟩ : ∃ E : Int → Bool, Hid (E = fun n => decide (0 ≤ n) && decide (n ≤ 2147483648)) := ⟨_, hide rfl⟩
  have HIs : Hid (∀ n W, Calls Tryz.prog 30 #[.int .i64 n] W fun en w' => en = .returned (.bool (E n)) ∧ w' = W) := fun n W => by
    rw [HE.out]
    exact pisEnd_any n W
  have HOk : Hid (∀ r, rgOk r = (E r.1 && E r.2)) := fun r => by
    rw [HE.out]
    unfold rgOk
    simp only
    cases decide (0 ≤ r.1) <;> cases decide (0 ≤ r.2) <;> cases decide (r.1 ≤ 2147483648) <;> cases decide (r.2 ≤ 2147483648) <;> rfl
  have HI := hide (fun W hW x y hx hy => pitemOf_any x y hx hy W (ht.below (w' := W) hW))
  obtain ⟨i0, hi, hz0, hz1, hz2⟩ := sp_info strInfoQ
  clear hE ht HE
  go_enter Tryz.func14, Tryz.ntmps14
  go_wp2_with (at_make; refine wpList_make_own w rfl _ _ 56 rfl w.heap.size 9 i0 (.string ⟨#[]⟩) 1 Tryz.underlying56 hi hz0 hz1 .i64 .i64 _ rs.length rfl rfl (by omega) (by rw [hz2]; omega) (by simp only [maxLen]; omega) (Nat.le_refl _) ?_)
  intro w1 how1 hgr1
  have HT1 : Hid (Ts w w1 (.slice (some ⟨w.heap.size, 0, none⟩) 0 rs.length) []) := ⟨⟨hgr1.os, hgr1.tape, hgr1.output, hgr1.size, fun k hk => hgr1.block k hk (by simp)⟩, some w.heap.size, Rw.of_owns0 how1, fun g hg => by cases hg; exact Nat.le_refl _⟩
  clear how1 hgr1
  go_wp2
  go_loopw [4, 21] (fun v4 v21 wr => ∃ k : Nat, v21 = .int .i64 k ∧ k ≤ rs.length ∧ Hid ((rs.take k).all rgOk = true) ∧ Hid (Ts w wr v4 (((rs.take k).map ratN).map sqTI))) (fun _ v21 _ => rs.length - (intOf v21).toNat)
  case atStart => exact ⟨0, rfl, Nat.zero_le _, rfl, HT1.out⟩
  case round =>
    obtain ⟨k, rfl, hk, HA, HT⟩ := hrel
    clear HT1
    by_cases hlt : k < rs.length
    · have hlt' : (k : Int) < rs.length := by omega
      have HB := hide HT.out.1
      obtain ⟨A', c', e', hcs⟩ := HX.out.below HB.out
      cases e'
      obtain ⟨ga, oa, rfl, hgl2, q0, q1⟩ := hcs k hlt
      have hok := HOk.out rs[k]
      have HBx := hide (fun h => all_badQ (rs := rs) hlt h)
      have HAx := hide (fun h => all_nextQ hlt HA.out h)
      have HN := hide (tx_next hlt)
      have hge1 : Hid (∀ o : Obj, (wr.alloc o).cell? ⟨0, 0, none⟩ = some (.iface 151 (.pointer (some a)))) := fun o => KEY.out _ (HB.out.alloc HB.out.size _)
      clear hcs HA
      by_cases hr : rgOk rs[k] = true
      · obtain ⟨x, y, hx, hy, er, en⟩ := rgOk_of hr
        have HAn := hide (HAx.out hr)
        rw [hr] at hok
        obtain ⟨ho1, ho2⟩ := Bool.and_eq_true_iff.1 hok.symm
        rw [en] at HN
        rw [er] at q0 q1 ho1 ho2
        dsimp only at q0 q1 ho1 ho2
        have HIt := hide (fun W hW => HI.out W hW x y hx hy)
        clear HBx HAx hr hok er en
        have hTl : (((rs.take k).map ratN).map sqTI).length = k := by rw [List.length_map, List.length_map, List.length_take]; omega
        generalize ((rs.take k).map ratN).map sqTI = ts at *
        generalize sqTI (x, y) = t at *
        obtain ⟨A4, c4, e4⟩ := HT.out.2.choose_spec.1.form
        rw [hTl] at e4
        subst e4
        have hbx := HB.out.alloc HB.out.size (.cells #[.int .i64 ((x : Nat) : Int), .int .i64 ((y : Nat) : Int)] 53)
        replace hbx := hide hbx
        go_wp2_with (first
          | (go_at_call 30; refine (HIs.out _ _).mono ?_; rintro e wq ⟨rfl, rfl⟩)
          | (go_at_call 31; refine (HIt.out _ hbx.out).mono ?_; rintro e wq ⟨rfl, hbq⟩
             obtain ⟨hb, G, hr, hg⟩ := (HT.out.below ((Below.refl wr.heap.size wr).alloc (Nat.le_refl _) (.cells #[.int .i64 ((x : Nat) : Int), .int .i64 ((y : Nat) : Int)] 53))).below hbq
             have HR := hide hr
             rw [hTl] at HR
             have HBw := hide hb
             have HGg := hide hg
             clear hr hb hg hbq HT)
          | (at_builtin; refine wpList_append_rw rfl _ _ 56 56 rfl 9 i0 (.string ⟨#[]⟩) 1 16 Tryz.underlying56 hi hz0 hz1 hz2 rfl rfl (HR.out.keep (S := fun _ => False) ((Mvs.refl _ _).alloc _) (fun _ _ c => c)) _ 1 _ rfl (src_strQ _) (by simp only [maxLen]; omega) (by omega) ?_))
        intro v4 w5 G4 hr4 hm5 hg4
        have T4 := hide (Ts.grow (x := t) HBw.out HGg.out (by rw [hTl]; exact hr4) hm5 (by simpa using hg4))
        clear hr4 hm5 hg4
        go_wp2
        go_roundw
        case rel => exact ⟨k + 1, by go_num, by omega, HAn.out, by rw [HN.out]; exact T4.out⟩
        case measure => simp [intOf] <;> omega
      · have hrf : rgOk rs[k] = false := by simpa using hr
        have HBAD : Hid (O = none) := by show _ = _; rw [HO.out, HBx.out hrf]
        rw [hrf] at hok
        clear HBx HAx hr hrf HN
        generalize rs[k] = r at *
        obtain ⟨x, y⟩ := r
        dsimp only at *
        have hge := hge1.out (.cells #[.int .i64 x, .int .i64 y] 53)
        have hge' : (wr.alloc (.cells #[.int .i64 x, .int .i64 y] 53)).drew.cell? ⟨0, 0, none⟩ = some (.iface 151 (.pointer (some a))) := hge
        cases h1 : E x with
        | false =>
          clear hok
          go_wp2_with (first
            | (go_at_call 30; refine (HIs.out _ _).mono ?_; rintro e wq ⟨rfl, rfl⟩))
          go_region
          all_goals
            go_wp2
            exact bodyPost_ret (v := .tuple #[.string ⟨#[]⟩, .iface 151 (.pointer (some a))]) (by simp [results, Tryz.results14, go_sem]) rfl ⟨by rw [HBAD.out]; rfl, (HB.out.alloc HB.out.size _).drew⟩
        | true =>
          have h2 : E y = false := by rw [h1] at hok; simpa using hok.symm
          clear hok
          go_wp2_with (first
            | (go_at_call 30; refine (HIs.out _ _).mono ?_; rintro e wq ⟨rfl, rfl⟩))
          go_region
          all_goals
            go_wp2
            exact bodyPost_ret (v := .tuple #[.string ⟨#[]⟩, .iface 151 (.pointer (some a))]) (by simp [results, Tryz.results14, go_sem]) rfl ⟨by rw [HBAD.out]; rfl, (HB.out.alloc HB.out.size _).drew⟩
    · obtain rfl : k = rs.length := by omega
      have hA := HA.out
      rw [List.take_length] at hA
      have hT := HT.out
      rw [List.take_length] at hT
      have hO : txO rs = some (sqT (rs.map ratN)) := by unfold txO; rw [if_pos ⟨hA, hl1, hl2⟩]
      have HGO : Hid (O = some (sqT (rs.map ratN))) := by show _ = _; rw [HO.out, hO]
      clear hO
      obtain ⟨hb, G, hr, hg⟩ := hT
      have hTl : ((rs.map ratN).map sqTI).length = rs.length := by rw [List.length_map, List.length_map]
      have hjl : (jn 44 ((rs.map ratN).map sqTI)).length ≤ 1000000 := by
        have := jn_lenQ 44 21 ((rs.map ratN).map sqTI) (fun t ht => by
          obtain ⟨r', hr', rfl⟩ := List.mem_map.1 ht
          obtain ⟨r, hr, rfl⟩ := List.mem_map.1 hr'
          obtain ⟨x, y, hx, hy, _, en⟩ := rgOk_of (List.all_eq_true.1 hA r hr)
          rw [en]
          have h1 := sqT1_len hx
          have h2 := sqT1_len hy
          unfold sqTI
          split
          · dsimp only; omega
          · simp; omega)
        rw [hTl] at this
        omega
      have HJ := hide (pjoin_any 44 _ _ G wr hr (by omega) hjl)
      have HB := hide hb
      change Hid (Calls Tryz.prog _ _ _ fun e w' => e = .returned (.string ⟨(sqT (rs.map ratN)).toArray⟩) ∧ _) at HJ
      obtain ⟨A4, c4, e4⟩ := hr.form
      rw [hTl] at e4
      subst e4
      clear hr hg hb HT hA HA
      generalize sqT (rs.map ratN) = t at *
      go_wp2_with (go_at_call 32; refine HJ.out.mono ?_; rintro e wq ⟨rfl, hbq⟩; replace hbq := hide hbq)
      exact bodyPost_ret (v := .tuple #[.string ⟨t.toArray⟩, .nilIface]) (by simp [results, Tryz.results14, go_sem]) rfl ⟨by rw [HGO.out]; rfl, HB.out.trans (hbq.out.mono HB.out.size)⟩
end Go.Proofs.YtbjencibkkhbhaaGreatDoor
