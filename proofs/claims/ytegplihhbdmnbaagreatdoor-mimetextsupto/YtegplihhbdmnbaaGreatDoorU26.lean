/- quoteOrNil and paramsText of package mime. -/
import Derived.Test.YtegplihhbdmnbaaGreatDoorU16
import Derived.Test.YtegplihhbdmnbaaGreatDoorU25
set_option linter.unusedSimpArgs false
namespace Go.Proofs.YtegplihhbdmnbaaGreatDoor
open Go.RowKit Go.Shelf
theorem eq_nil_lit (l : List UInt8) : ((⟨l.toArray⟩ : ByteArray) = ⟨#[]⟩) ↔ l = [] := by
  constructor
  · intro h
    have := congrArg (fun b : ByteArray => b.data.toList) h
    simpa using this
  · rintro rfl
    rfl
set_option maxHeartbeats 1000000 in
theorem nil_any (l : List UInt8) (w : World) (ht : TabM w) (hl : l.length ≤ 1000000) :
    Calls Tryz.prog 87 #[.string ⟨l.toArray⟩] w fun e w' => e = .returned (.string ⟨(nilI l).toArray⟩) ∧ Below w.heap.size w w' := by
  have HQ := hide (quote_any l w ht hl)
  have HN : Hid (nilI l = if l = [] then tNil else quoI l) := rfl
  generalize nilI l = N at *
  generalize quoI l = q at *
  by_cases h : l = []
  · subst h
    rw [if_pos rfl] at HN
    go_enter Tryz.func87, Tryz.ntmps87
    go_wp2
    go_ret
    exact ⟨by rw [HN.out]; rfl, Below.refl _ _⟩
  · rw [if_neg h] at HN
    have h1 : l.isEmpty = false := by simpa using h
    clear h
    go_enter Tryz.func87, Tryz.ntmps87
    go_wp2_with (first
      | (go_at_call 61; refine HQ.out.mono ?_; rintro e w2 ⟨rfl, hb2⟩))
    go_ret
    exact ⟨by rw [HN.out]; rfl, hb2⟩
def strF (x : List UInt8) : List Value := [.string ⟨x.toArray⟩]
theorem strF_len (x : List UInt8) : (strF x).length = 1 := rfl
theorem flat_str (xs : List (List UInt8)) : xs.flatMap strF = xs.map fun x => .string ⟨x.toArray⟩ := by
  induction xs with
  | nil => rfl
  | cons x r ih => rw [List.flatMap_cons, ih]; rfl
theorem RowOf.grow2 {B N : Nat} {xs : List (List UInt8)} {x y : List UInt8} {w1 : World} {v1 : Value} {G G1 : Option Nat} (hg : ∀ g, G = some g → B ≤ g) (hr : Rw w1 1 v1 (xs.length + 2) (xs.flatMap strF ++ [.string ⟨x.toArray⟩, .string ⟨y.toArray⟩]) G1) (hG : G1 = G ∨ G1 = some N) (hB : B ≤ N) : RowOf strF 1 B w1 v1 (xs ++ [x, y]) := by
  refine ⟨G1, ?_, ?_⟩
  · rw [List.length_append, List.flatMap_append]
    exact hr
  · rintro g rfl
    rcases hG with h | h
    · exact hg g h.symm
    · cases h
      exact hB
theorem join_row {B : Nat} {v : Value} {xs : List (List UInt8)} (w : World) (h : RowOf strF 1 B w v xs) (h0 : xs ≠ []) (hl : xs.length ≤ 100000000) (hj : (Lib.join xs [32]).length ≤ 140737488355328) :
    Calls Tryz.prog 62 #[v, .string ⟨#[32]⟩] w fun e w' => e = .returned (.string ⟨(Lib.join xs [32]).toArray⟩) ∧ Below w.heap.size w w' := by
  obtain ⟨G, hr, hg⟩ := h
  have hm : (xs.map (fun x => (⟨x.toArray⟩ : ByteArray))).map (·.data.toList) = xs := by
    rw [List.map_map]
    exact (List.map_congr_left (fun x _ => by simp)).trans (List.map_id _)
  rcases hr.2 with ⟨_, hn, _⟩ | ⟨g, o, cap, _, rfl, h1, h2, h3, h4, _⟩
  · exact absurd (List.length_eq_zero_iff.1 hn) h0
  · have := Tryz.strings_Join g o cap (xs.map fun x => ⟨x.toArray⟩) ⟨#[32]⟩ w (fun j x hx => by
      refine h4 j _ ?_
      rw [flat_str, List.getElem?_map]
      rw [List.getElem?_map] at hx
      cases hq : xs[j]? with
      | none => rw [hq] at hx; cases hx
      | some q => rw [hq] at hx; cases hx; rfl) h3 (by simpa using (by omega : xs.length ≤ 140737488355328)) (by simpa using h1) (by rw [hm]; exact hj)
    rw [hm, List.length_map] at this
    exact this
theorem Rw.of_makes {w : World} {base : Nat} {e : TypeId} {v : Value} {n : Nat} {xs : List Value} (h : w.ownsRow base e 1 v n xs) : Rw w 1 v n xs v.ownBlock := by
  refine ⟨by rw [h.1], ?_⟩
  rcases h.2 with ⟨rfl, hn⟩ | ⟨g, cap, cur, rfl, _, hg, h1, h2, h3, h4⟩
  · exact .inl ⟨rfl, hn, rfl⟩
  · have hk : Blk w g cur e := hg
    refine .inr ⟨g, 0, cap, rfl, rfl, h1, h2, hk.lt, fun j u hu => ?_, fun j hj => ⟨?_, hk.frozen _⟩⟩
    · have hj := (List.getElem?_eq_some_iff.1 hu).1
      rw [← h4] at hu
      simp only [Nat.mul_one] at hu
      rw [hk.cell, Nat.zero_add]
      have hjn : j < n := by rw [h.1] at hj; omega
      rw [List.getElem?_take_of_lt hjn] at hu
      simpa using hu
    · rw [hk.cell, Nat.zero_add, Array.getElem?_eq_getElem (by omega)]
      rfl
theorem two_len (ps : List Pm) : (ps.flatMap fun p => [quoI p.name, quoI p.value]).length = 2 * ps.length := by
  induction ps with
  | nil => rfl
  | cons p r ih => rw [List.flatMap_cons, List.length_append, ih, List.length_cons]; simp; omega
theorem src_two {w : World} (x y : List UInt8) {c : Nat} : Src Tryz.prog 1 24 (.slice (some ⟨w.heap.size, 0, none⟩) 2 c) 2 [.string ⟨x.toArray⟩, .string ⟨y.toArray⟩] (w.alloc (.cells #[.string ⟨x.toArray⟩, .string ⟨y.toArray⟩] 9)) := by
  refine Src.ofSlice _ Tryz.underlying24 ⟨w.heap.size, 0, none⟩ 2 c _ (by simp) (fun j u hu => ?_) (by simp [Value.oneCell'])
  have hk := Blk.new w #[.string ⟨x.toArray⟩, .string ⟨y.toArray⟩] 9
  have hj := (List.getElem?_eq_some_iff.1 hu).1
  simp only [Addr.add_lit, Nat.zero_add]
  rw [hk.cell]
  simpa using hu
set_option maxRecDepth 20000 in
set_option maxHeartbeats 2000000 in
theorem par_any (ps : List Pm) (v : Value) (w : World) (ht : TabM w) (hr : ReadOf Pm.cs 2 w v ps) (hl : ps.length ≤ 1000000) (hp : ∀ p ∈ ps, p.name.length ≤ 1000000 ∧ p.value.length ≤ 1000000) (hj : (parI ps).length ≤ 100000000000000) :
    Calls Tryz.prog 86 #[v] w fun e w' => e = .returned (.string ⟨(parI ps).toArray⟩) ∧ Below w.heap.size w w' := by
  obtain ⟨A, c, rfl, hc⟩ := hr
  have HC := hide hc
  have HP := hide hp
  have HTab := hide ht
  have HJ := hide hj
  clear hc hp ht hj
  have HN : Hid (parI ps = if ps = [] then tNil else 40 :: (Lib.join (ps.flatMap fun p => [quoI p.name, quoI p.value]) [32] ++ [41])) := rfl
  generalize parI ps = N at *
  by_cases h : ps = []
  · rw [if_pos h] at HN
    have h0 : ps.length = 0 := by rw [h]; rfl
    rw [h0]
    clear HC HP
    go_enter Tryz.func86, Tryz.ntmps86
    go_wp2
    go_ret
    exact ⟨by rw [HN.out]; rfl, Below.refl _ _⟩
  · rw [if_neg h] at HN
    have h0 : 0 < ps.length := List.length_pos_iff.2 h
    have h0' : ¬ ((ps.length : Int) = 0) := by omega
    have HNe := hide h
    obtain ⟨n, hn⟩ : ∃ n, ps.length = n := ⟨_, rfl⟩
    have HLn := hide hn
    rw [hn] at hl h0 h0' ⊢
    clear h hn
    go_enter Tryz.func86, Tryz.ntmps86
    obtain ⟨i0, hi, hz0, hz1, hz2⟩ := info_parts strInfo
    go_wp2_with (at_make; refine wpList_make_own w rfl _ _ 24 rfl w.heap.size 9 i0 (.string ⟨#[]⟩) 1 Tryz.underlying24 hi hz0 hz1 .i64 .i64 _ (2 * n) rfl (by go_num) (by omega) (by rw [hz2]; omega) (by simp only [maxLen]; omega) (Nat.le_refl _) ?_)
    intro w1 how1 hgr1
    have HR1 : Hid (RowOf strF 1 w.heap.size w1 (.slice (some ⟨w.heap.size, 0, none⟩) 0 (2 * n)) []) := ⟨some w.heap.size, Rw.of_makes how1, fun g hg => by cases hg; exact Nat.le_refl _⟩
    have HB1 : Hid (Below w.heap.size w w1) := ⟨hgr1.os, hgr1.tape, hgr1.output, hgr1.size, fun k hk => hgr1.block k hk (by simp)⟩
    clear how1 hgr1
    go_wp2_with fail
    go_loopw [3, 15] (fun v3 v15 wr => ∃ i : Nat, v15 = .int .i64 i ∧ i ≤ n ∧ Hid (RowOf strF 1 w.heap.size wr v3 ((ps.take i).flatMap fun p => [quoI p.name, quoI p.value])) ∧ Hid (Below w.heap.size w wr)) (fun _ v15 _ => n - (intOf v15).toNat)
    case atStart => exact ⟨0, rfl, Nat.zero_le _, HR1, HB1⟩
    case round =>
      obtain ⟨i, rfl, hin, HR, HB⟩ := hrel
      clear HR1 HB1
      have hbs := HB.out.size
      by_cases hlt : i < n
      · have hlt' : (i : Int) < n := by omega
        have hip : i < ps.length := by rw [HLn.out]; exact hlt
        obtain ⟨g, o, rfl, hg, hcs⟩ := HC.out i hip
        have hpb := HP.out _ (List.getElem_mem hip)
        obtain ⟨a, b, hab⟩ : ∃ a b, ps[i] = ⟨a, b⟩ := ⟨_, _, rfl⟩
        rw [hab] at hcs hpb
        have hla : a.length ≤ 1000000 := hpb.1
        have hlb : b.length ≤ 1000000 := hpb.2
        have HX : Hid (((ps.take (i + 1)).flatMap fun p => [quoI p.name, quoI p.value]) = ((ps.take i).flatMap fun p => [quoI p.name, quoI p.value]) ++ [quoI a, quoI b]) := by
          show _ = _
          rw [List.take_succ_eq_append_getElem hip, List.flatMap_append, hab]
          simp
        have k0 : wr.cell? ⟨g, o + i * 2, none⟩ = some (.string ⟨a.toArray⟩) := (HB.out.cell (p := ⟨g, _, none⟩) hg).trans (hcs 0 (by omega))
        have k1 : wr.cell? ⟨g, o + i * 2 + 1, none⟩ = some (.string ⟨b.toArray⟩) := (HB.out.cell (p := ⟨g, _, none⟩) hg).trans (hcs 1 (by omega))
        clear hcs hpb hab HC
        obtain ⟨XS, hXS⟩ : ∃ XS, ((ps.take i).flatMap fun p => [quoI p.name, quoI p.value]) = XS := ⟨_, rfl⟩
        rw [hXS] at HR HX
        obtain ⟨A3, c3, rfl⟩ := HR.out.form
        have hxl : XS.length ≤ 2000000 := by
          rw [← hXS, two_len, List.length_take]
          omega
        clear hXS
        have HQa := hide (fun W (hT : TabM W) => quote_any a W hT hla)
        have HQb := hide (fun W (hT : TabM W) => quote_any b W hT hlb)
        obtain ⟨qa, hqa⟩ : ∃ q, quoI a = q := ⟨_, rfl⟩
        obtain ⟨qb, hqb⟩ : ∃ q, quoI b = q := ⟨_, rfl⟩
        rw [hqa] at HQa HX
        rw [hqb] at HQb HX
        clear hqa hqb
        go_wp2_with fail
        obtain ⟨D, hD⟩ : ∃ D, wr.heap.size = D := ⟨_, rfl⟩
        have HK1 : Hid (Blk (wr.alloc (.cells #[.string ⟨a.toArray⟩, .string ⟨b.toArray⟩] 65)) D #[.string ⟨a.toArray⟩, .string ⟨b.toArray⟩] 65) := hD ▸ Blk.new wr _ _
        have HB1 := hide (HB.out.alloc hbs (.cells #[.string ⟨a.toArray⟩, .string ⟨b.toArray⟩] 65))
        have HM1 := hide ((Mvs.refl (fun _ => False) wr).alloc (.cells #[.string ⟨a.toArray⟩, .string ⟨b.toArray⟩] 65))
        have hs1 : (wr.alloc (.cells #[.string ⟨a.toArray⟩, .string ⟨b.toArray⟩] 65)).heap.size = D + 1 := by rw [World.size_alloc, hD]
        rw [hD] at hbs ⊢
        obtain ⟨W1, hW1⟩ : ∃ W1, wr.alloc (.cells #[.string ⟨a.toArray⟩, .string ⟨b.toArray⟩] 65) = W1 := ⟨_, rfl⟩
        rw [hW1] at HK1 HB1 HM1 hs1 ⊢
        clear hW1 k0 k1 HB
        obtain ⟨G, hRw0, hG⟩ := HR.out
        have HGD : Hid (¬ some D = G) := fun e => by have := hRw0.lt D e.symm; omega
        have hRw := hRw0.keep (S := fun _ => False) HM1.out (fun _ _ c => c)
        have HRw := hide hRw
        have HG := hide hG
        clear hRw hRw0 hG HR HM1 hD
        refine regionL 9 (fun W => W.cell? ⟨D, 0, none⟩ = some (.string ⟨a.toArray⟩) ∧ W.cell? ⟨D, 1, none⟩ = some (.string ⟨b.toArray⟩)) (by kernel_rfl) ?_
        have HT0 : W1.drew.cell? ⟨D, 0, none⟩ = some (.string ⟨a.toArray⟩) ∧ W1.drew.cell? ⟨D, 1, none⟩ = some (.string ⟨b.toArray⟩) := ⟨by rw [show W1.drew.cell? ⟨D, 0, none⟩ = W1.cell? ⟨D, 0, none⟩ from rfl, HK1.out.cell]; rfl, by rw [show W1.drew.cell? ⟨D, 1, none⟩ = W1.cell? ⟨D, 1, none⟩ from rfl, HK1.out.cell]; rfl⟩
        have HTs := hide HT0
        refine takeW (i := 0) (v := (.slice A3 XS.length c3)) rfl (by kernel_rfl) (by kernel_rfl) (by kernel_rfl) rfl (fun _ _ _ h => h) (fun _ => HT0) (Or.inl ⟨by rfl, fun W _ => by go_simp⟩) ?_
        simp only [Act.put, List.getElem_toArray, List.getElem_cons_succ, List.getElem_cons_zero, List.setIfInBounds_toArray, List.set_cons_zero, List.set_cons_succ]
        refine takeW (i := 1) (v := (.pointer (some ⟨D, 0, none⟩))) rfl (by kernel_rfl) (by kernel_rfl) (by kernel_rfl) rfl (fun _ _ _ h => h) (fun _ => HT0) (Or.inl ⟨by rfl, fun W _ => by go_simp⟩) ?_
        simp only [Act.put, List.getElem_toArray, List.getElem_cons_succ, List.getElem_cons_zero, List.setIfInBounds_toArray, List.set_cons_zero, List.set_cons_succ]
        refine takeL (i := 2) (v := (.string ⟨a.toArray⟩)) rfl (by kernel_rfl) (by kernel_rfl) (by kernel_rfl) (by kernel_rfl) (by kernel_rfl) (fun _ _ _ h => h) HT0 (Or.inl ⟨by rfl, fun W hW => by obtain ⟨t0, t1⟩ := hW; go_simp⟩) ?_
        simp only [Act.put, List.getElem_toArray, List.getElem_cons_succ, List.getElem_cons_zero, List.setIfInBounds_toArray, List.set_cons_zero, List.set_cons_succ]
        refine takeW (i := 4) (v := (.pointer (some ⟨D, 1, none⟩))) rfl (by kernel_rfl) (by kernel_rfl) (by kernel_rfl) rfl (fun _ _ _ h => h) (fun _ => HT0) (Or.inl ⟨by rfl, fun W _ => by go_simp⟩) ?_
        simp only [Act.put, List.getElem_toArray, List.getElem_cons_succ, List.getElem_cons_zero, List.setIfInBounds_toArray, List.set_cons_zero, List.set_cons_succ]
        refine takeL (i := 5) (v := (.string ⟨b.toArray⟩)) rfl (by kernel_rfl) (by kernel_rfl) (by kernel_rfl) (by kernel_rfl) (by kernel_rfl) (fun _ _ _ h => h) HT0 (Or.inl ⟨by rfl, fun W hW => by obtain ⟨t0, t1⟩ := hW; go_simp⟩) ?_
        simp only [Act.put, List.getElem_toArray, List.getElem_cons_succ, List.getElem_cons_zero, List.setIfInBounds_toArray, List.set_cons_zero, List.set_cons_succ]
        refine readyL (rs := [3]) (by kernel_rfl) (by simp) ?_
        refine AllL.cons rfl (fun K hK => ?_) AllL.nil
        try simp only [List.getElem_toArray, List.getElem_cons_succ, List.getElem_cons_zero]
        go_simp
        refine (HQa.out W1.drew (HTab.out.below (⟨HB1.out.os, HB1.out.tape, HB1.out.output, HB1.out.size, HB1.out.block⟩ : Below w.heap.size w W1.drew))).mono ?_
        rintro e w4 ⟨rfl, hb4⟩
        have hb4' : Below W1.heap.size W1 w4 := ⟨hb4.os, hb4.tape, hb4.output, hb4.size, hb4.block⟩
        have HM4 := hide (Mvs.of_below (S := fun _ => False) hb4')
        have hs4 := hb4'.size
        have HT4 := hide (And.intro ((hb4'.cell (p := ⟨D, 0, none⟩) (by show D < _; omega)).trans HTs.out.1) ((hb4'.cell (p := ⟨D, 1, none⟩) (by show D < _; omega)).trans HTs.out.2))
        have HB4 := hide (HB1.out.trans (hb4'.mono (by omega)))
        clear hb4 hb4'
        refine hK.out _ _ (fun _ => HT4.out) (fun HTn => ?_)
        clear hK K HT0
        have HT0 := HTn (by kernel_rfl)
        clear HTn
        try simp only [Act.put, List.getElem_toArray, List.getElem_cons_succ, List.getElem_cons_zero, List.setIfInBounds_toArray, List.set_cons_zero, List.set_cons_succ]
        refine readyL (rs := [6]) (by kernel_rfl) (by simp) ?_
        refine AllL.cons rfl (fun K hK => ?_) AllL.nil
        try simp only [List.getElem_toArray, List.getElem_cons_succ, List.getElem_cons_zero]
        go_simp
        refine (HQb.out _ (HTab.out.below HB4.out)).mono ?_
        rintro e w5 ⟨rfl, hb5⟩
        have HM5 := hide (HM4.out.trans (Mvs.of_below hb5))
        have hs5 := hb5.size
        have HT5 := hide (And.intro ((hb5.cell (p := ⟨D, 0, none⟩) (by show D < _; omega)).trans HT4.out.1) ((hb5.cell (p := ⟨D, 1, none⟩) (by show D < _; omega)).trans HT4.out.2))
        have HB5 := hide (HB4.out.trans (hb5.mono (by omega)))
        clear hb5
        refine hK.out _ _ (fun _ => HT5.out) (fun HTn => ?_)
        clear hK K HT0
        have HT0 := HTn (by kernel_rfl)
        clear HTn
        try simp only [Act.put, List.getElem_toArray, List.getElem_cons_succ, List.getElem_cons_zero, List.setIfInBounds_toArray, List.set_cons_zero, List.set_cons_succ]
        refine readyL (rs := [7]) (by kernel_rfl) (by simp) ?_
        refine AllL.cons rfl (fun K hK => ?_) AllL.nil
        try simp only [List.getElem_toArray, List.getElem_cons_succ, List.getElem_cons_zero]
        go_simp
        have HT6 := hide (And.intro ((((Below.refl w5.heap.size w5).alloc (Nat.le_refl _) (.cells #[.string ⟨qa.toArray⟩, .string ⟨qb.toArray⟩] 9)).cell (p := ⟨D, 0, none⟩) (by show D < _; omega)).trans HT5.out.1) ((((Below.refl w5.heap.size w5).alloc (Nat.le_refl _) (.cells #[.string ⟨qa.toArray⟩, .string ⟨qb.toArray⟩] 9)).cell (p := ⟨D, 1, none⟩) (by show D < _; omega)).trans HT5.out.2))
        refine hK.out _ _ (fun _ => HT6.out) (fun HTn => ?_)
        clear hK K HT0
        have HT0 := HTn (by kernel_rfl)
        clear HTn
        try simp only [Act.put, List.getElem_toArray, List.getElem_cons_succ, List.getElem_cons_zero, List.setIfInBounds_toArray, List.set_cons_zero, List.set_cons_succ]
        refine readyL (rs := [8]) (by kernel_rfl) (by simp) ?_
        refine AllL.cons rfl (fun K hK => ?_) AllL.nil
        refine step_append_rw (by rfl) (.tmp 19) (.tmp 26) 24 24 (by rfl) 9 i0 (.string ⟨#[]⟩) 1 16 Tryz.underlying24 hi hz0 hz1 hz2 (by rfl) (by simp [Act.eval, Act.put]) (HRw.out.keep (S := fun _ => False) (HM5.out.alloc _) (fun _ _ c => c)) (.slice (some ⟨w5.heap.size, 0, none⟩) 2 2) 2 [.string ⟨qa.toArray⟩, .string ⟨qb.toArray⟩] (by simp [Act.eval, Act.put]) (src_two qa qb) (by simp only [maxLen]; omega) (by omega) ?_
        intro v8 w8 G8 hr8 hm8 hg8
        obtain ⟨A8, c8, rfl⟩ := hr8.form
        have HRow8 := hide (RowOf.grow2 HG.out hr8 hg8 (by rw [World.size_alloc]; omega))
        have HB8 := hide (below_mvs (HB5.out.alloc (by omega) _) hm8 (fun q hq e => by have := HG.out q e.symm; omega) (Nat.le_refl _))
        have hs6 : D < (w5.alloc (.cells #[.string ⟨qa.toArray⟩, .string ⟨qb.toArray⟩] 9)).heap.size := by rw [World.size_alloc]; omega
        have hDG : ¬ some D = G := HGD.out
        have HT8 := hide (And.intro ((hm8.cell (a := ⟨D, 0, none⟩) hs6 hDG).trans HT6.out.1) ((hm8.cell (a := ⟨D, 1, none⟩) hs6 hDG).trans HT6.out.2))
        rw [← HX.out] at HRow8
        clear hr8 hm8 hg8
        refine hK.out _ _ (fun _ => HT8.out) (fun _ => ?_)
        clear hK K HT0
        try simp only [Act.put, List.getElem_toArray, List.getElem_cons_succ, List.getElem_cons_zero, List.setIfInBounds_toArray, List.set_cons_zero, List.set_cons_succ]
        refine readyL (rs := [9]) (by kernel_rfl) (by simp) ?_
        refine AllL.cons rfl (fun K hK => ?_) AllL.nil
        try simp only [List.getElem_toArray, List.getElem_cons_succ, List.getElem_cons_zero]
        go_simp
        refine hK.out _ _ (vac (by kernel_rfl)) (fun _ => ?_)
        clear hK K
        try simp only [Act.put, List.getElem_toArray, List.getElem_cons_succ, List.getElem_cons_zero, List.setIfInBounds_toArray, List.set_cons_zero, List.set_cons_succ]
        refine doneL (by kernel_rfl) ?_ _
        go_wp2
        go_roundw
        case rel => exact ⟨i + 1, by go_num, by omega, HRow8, HB8⟩
        case measure => simp [intOf]; omega
      · obtain rfl : i = n := by omega
        rw [List.take_of_length_le (by rw [HLn.out]; exact Nat.le_refl _)] at HR
        obtain ⟨XS, hXS⟩ : ∃ XS, (ps.flatMap fun p => [quoI p.name, quoI p.value]) = XS := ⟨_, rfl⟩
        have hxl : XS.length = 2 * i := by rw [← hXS, two_len, HLn.out]
        rw [hXS] at HR HN
        obtain ⟨A3, c3, rfl⟩ := HR.out.form
        obtain ⟨J, hJ⟩ : ∃ J, Lib.join XS [32] = J := ⟨_, rfl⟩
        have HJl : J.length + 2 = N.length := by rw [HN.out, hJ]; simp
        have HJo := hide (join_row wr HR.out (fun e => by rw [e] at hxl; simp at hxl; omega) (by omega) (by rw [hJ]; have := HJ.out; omega))
        rw [hJ] at HJo HN
        have hc1 : (⟨#[40]⟩ : ByteArray) ++ ⟨J.toArray⟩ = ⟨(40 :: J).toArray⟩ := cat_lit [40] J
        have hc2 : (⟨(40 :: J).toArray⟩ : ByteArray) ++ ⟨#[41]⟩ = ⟨N.toArray⟩ := by
          rw [HN.out]
          exact cat_lit (40 :: J) [41]
        have hJb := HJ.out
        obtain ⟨J2, hJ2⟩ : ∃ J2, 40 :: J = J2 := ⟨_, rfl⟩
        have hJ2l : J2.length ≤ 100000000000000 := by have := HJ.out; rw [← hJ2]; simp; omega
        have hJ1l : J.length ≤ 100000000000000 := by have := HJ.out; omega
        rw [hJ2] at hc1 hc2
        have hz1' := size_lit J
        have hz2' := size_lit J2
        clear hJ hJ2 hXS HN HC hxl HJl hJb
        go_wp2_with (first
          | (go_at_call 62; refine HJo.out.mono ?_; rintro e w3 ⟨rfl, hb3⟩; replace hb3 := hide hb3))
        go_ret
        exact ⟨rfl, HB.out.trans (hb3.out.mono hbs)⟩
end Go.Proofs.YtegplihhbdmnbaaGreatDoor
