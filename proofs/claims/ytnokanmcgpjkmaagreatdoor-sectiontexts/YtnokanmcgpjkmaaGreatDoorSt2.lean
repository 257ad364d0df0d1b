/- Text of package section. -/
import Derived.Test.YtnokanmcgpjkmaaGreatDoorSt1
import Derived.Test.YtnokanmcgpjkmaaGreatDoorMi12
import Derived.Test.YtnokanmcgpjkmaaGreatDoorSf4
set_option linter.unusedVariables false
set_option linter.unusedSimpArgs false
namespace Go.Proofs.YtnokanmcgpjkmaaGreatDoor
open Go.RowKit Go.Shelf
theorem secJoin (xs : List (List UInt8)) (v : Value) (b : UInt8) (w : World) (h : ReadOf ssF 1 w v xs) (hc : ∀ A n c, v = .slice A n c → n ≤ c) (hl : xs.length ≤ 1000) (hj : (Lib.join xs [b]).length ≤ 140737488355328) :
    Calls Tryz.prog 38 #[v, .string ⟨#[b]⟩] w fun e w' => e = .returned (.string ⟨(Lib.join xs [b]).toArray⟩) ∧ Below w.heap.size w w' := by
  by_cases h0 : xs = []
  · subst h0
    obtain ⟨A, c, rfl⟩ := h.form
    refine (Tryz.strings_Join_none A c ⟨#[b]⟩ w).mono ?_
    rintro e w' ⟨rfl, rfl⟩
    exact ⟨rfl, Below.refl _ _⟩
  · have hp : 0 < xs.length := List.length_pos_iff.2 h0
    obtain ⟨g, o, c, rfl, hg, _⟩ := h.at1 hp
    have hml : (xs.map fun x => (⟨x.toArray⟩ : ByteArray)).length = xs.length := List.length_map ..
    have hmm : (xs.map fun x => (⟨x.toArray⟩ : ByteArray)).map (·.data.toList) = xs := by
      rw [List.map_map]
      exact List.map_id' xs
    have := Tryz.strings_Join g o c (xs.map fun x => ⟨x.toArray⟩) ⟨#[b]⟩ w (fun j x hx => by
      rw [List.getElem?_map] at hx
      obtain ⟨y, hy, rfl⟩ := Option.map_eq_some_iff.1 hx
      obtain ⟨hj, rfl⟩ := List.getElem?_eq_some_iff.1 hy
      obtain ⟨g', o', c', e, _, q⟩ := h.at1 hj
      cases e
      exact q) hg (by rw [hml]; omega) (by rw [hml]; exact hc _ _ _ rfl) (by rw [hmm]; exact hj)
    rw [hml, hmm] at this
    exact this
theorem RowOf.cap {α : Type} {f : α → List Value} {sz B : Nat} {w : World} {v : Value} {xs : List α} (h : RowOf f sz B w v xs) : ∀ A n c, v = .slice A n c → n ≤ c := by
  rintro A n c rfl
  obtain ⟨G, hr, hg⟩ := h
  rcases hr.2 with ⟨h0, _⟩ | ⟨g, o, cap, e, hv, h1, _⟩
  · cases h0
    exact Nat.le_refl _
  · cases hv
    exact h1
theorem join_app1 (q : List (List UInt8)) (n : List UInt8) : Lib.join (q ++ [n]) [46] = if q = [] then n else Lib.join q [46] ++ 46 :: n := by
  induction q with
  | nil => simp [join_one]
  | cons a r ih =>
    rw [List.cons_append, join_cons2 _ (by simp), ih]
    by_cases h : r = []
    · subst h
      simp [join_one]
    · rw [if_neg h, if_neg (by simp), join_cons2 _ h]
      simp
theorem join_pth : ∀ q : List Int, Lib.join (q.map digI) [46] = pthT q
  | [] => by simp [Lib.join, pthT, List.intercalate]
  | [n] => by simp [join_one, pthT]
  | n :: m :: r => by
    have := join_pth (m :: r)
    rw [List.map_cons, join_cons2 _ (by simp), this, pthT]
    simp
/-- The words of a section's text. -/
def wrdL (path : List Int) (what : List UInt8) : List (List UInt8) := path.map digI ++ (if what = [] then [] else [what])
theorem join_wrd (path : List Int) (what : List UInt8) : Lib.join (wrdL path what) [46] = preT path what ++ what := by
  unfold wrdL preT
  by_cases h : what = []
  · subst h
    simp [join_pth]
  · rw [if_neg h, join_app1, join_pth]
    by_cases hp : path = []
    · subst hp
      simp [pthT]
    · rw [if_neg (by simpa using hp), if_neg (by simp [hp, h])]
      simp
theorem digI_len {x : Int} (h : x ≤ 999) : (digI x).length ≤ 20 := by
  unfold digI
  rw [Lib.decDigits_length]
  exact Lib.nDigits_le20 _ (by omega)
theorem pth_len : ∀ q : List Int, (∀ x ∈ q, x ≤ 999) → (pthT q).length ≤ 21 * q.length
  | [], _ => by simp [pthT]
  | [n], h => by
    have := digI_len (h n (by simp))
    simp [pthT]
    omega
  | n :: m :: r, h => by
    have h1 := digI_len (h n (by simp))
    have h2 := pth_len (m :: r) (fun x hx => h x (List.mem_cons_of_mem _ hx))
    rw [pthT, List.length_append, List.length_cons]
    simp only [List.length_cons] at h2 ⊢
    omega
theorem join_len : ∀ (ns : List (List UInt8)) (B : Nat), (∀ x ∈ ns, x.length ≤ B) → (Lib.join ns [32]).length ≤ ns.length * (B + 1)
  | [], B, _ => by simp [Lib.join, List.intercalate]
  | [a], B, h => by
    have := h a (by simp)
    simp [join_one]
    omega
  | a :: b :: r, B, h => by
    have h1 := h a (by simp)
    have h2 := join_len (b :: r) B (fun x hx => h x (List.mem_cons_of_mem _ hx))
    have h3 : (a :: b :: r).length * (B + 1) = (b :: r).length * (B + 1) + (B + 1) := by rw [List.length_cons (a := a), Nat.add_mul, Nat.one_mul]
    rw [join_cons2 _ (by simp), List.length_append, List.length_append, h3]
    simp only [List.length_cons, List.length_nil] at h2 ⊢
    omega
theorem seStrInfo : (Tryz.prog.info? 9).map (fun i => (i.zero, i.size, i.bytes)) = some (some (.string ⟨#[]⟩), 1, 16) := by kernel_rfl
theorem seSrcStr {w : World} {C : Array Value} (x : List UInt8) {c : Nat} (hC : C = #[.string ⟨x.toArray⟩]) : Src Tryz.prog 1 24 (.slice (some ⟨w.heap.size, 0, none⟩) 1 c) 1 [.string ⟨x.toArray⟩] (w.alloc (.cells C 9)) := by
  subst hC
  refine Src.ofSlice _ Tryz.underlying24 ⟨w.heap.size, 0, none⟩ 1 c [.string ⟨x.toArray⟩] (by simp) (fun j u hu => ?_) (by intro u hu; simp at hu; subst hu; rfl)
  have hj := (List.getElem?_eq_some_iff.1 hu).1
  obtain rfl : j = 0 := by simpa using hj
  rw [Go.WideShapes.add_plain, Nat.zero_add, (Blk.new w _ _).cell]
  simp at hu
  rw [← hu]
  rfl
theorem ssF_len (x : List UInt8) : (ssF x).length = 1 := rfl
set_option maxHeartbeats 2000000 in
theorem secText_no (p : Spc) (pv nv : Value) (w : World) (a : Addr) (hE : EFs w a) (hs : SpA w pv nv p) (hp : p.path.length ≤ 1000000) (hn : p.names.length ≤ 1000000) (hh : hasB p = false) :
    Calls Tryz.prog 13 #[spV pv nv p] w fun e w' => e = .returned (.tuple #[.string ⟨#[]⟩, errS a]) ∧ Below w.heap.size w w' := by
  obtain ⟨path, what, names⟩ := p
  obtain ⟨A, c, rfl⟩ := hs.path.form
  obtain ⟨A2, c2, rfl⟩ := hs.names.form
  have HB0 : Hid (Below w.heap.size w (w.alloc (.cells #[.slice A path.length c, .string ⟨what.toArray⟩, .slice A2 names.length c2] 26))) := (Below.refl _ _).alloc (Nat.le_refl _) _
  have HH := hide (hasText_any ⟨path, what, names⟩ _ _ _ (hs.below HB0.out) hp hn)
  rw [hh] at HH
  unfold spV at HH ⊢
  unfold errS
  simp only at *
  have KEY : Hid (∀ w1 : World, Below w.heap.size w w1 → w1.cell? ⟨0, 0, none⟩ = some (.iface 208 (.pointer (some a)))) := fun w1 hb => (hE.below hb).cell
  clear hs hh hE
  go_enter Tryz.func13, Tryz.ntmps13
  go_wp2_with (first
    | (go_at_call 32; refine HH.out.mono ?_; rintro e w1 ⟨rfl, hb1⟩; have hb1' := hide (HB0.out.trans (hb1.mono HB0.out.size)); have hke := KEY.out _ hb1'.out; clear hb1))
  go_quiet (fail)
  go_wp2
  exact bodyPost_ret (v := .tuple #[.string ⟨#[]⟩, .iface 208 (.pointer (some a))]) (by simp [results, Tryz.results13, go_sem]) rfl ⟨rfl, hb1'.out.trans ((bel_drewN _ _).mono hb1'.out.size)⟩
set_option maxRecDepth 20000 in
set_option maxHeartbeats 8000000 in
theorem secText_yes (p : Spc) (pv nv : Value) (w : World) (hT : TabM w) (hs : SpA w pv nv p) (hcap : ∀ A n c, nv = .slice A n c → n ≤ c) (hh : hasB p = true) (hx : ∀ x ∈ p.names, x.length ≤ 1000000) :
    Calls Tryz.prog 13 #[spV pv nv p] w fun e w' => e = .returned (.tuple #[.string ⟨(secT p).toArray⟩, .nilIface]) ∧ Below w.heap.size w w' := by
  obtain ⟨path, what, names⟩ := p
  have hr : rgtB ⟨path, what, names⟩ = true := by rw [← has_rgt]; exact hh
  obtain ⟨hpl, hnl, hnum, hq4, hq5⟩ := rgt_names hr
  clear hq4 hq5
  have hwl : what.length ≤ 100 := by
    have h := rgt_what hr
    simp only at h
    rcases h with e | e | e | e | e | e <;> rw [e] <;> decide
  simp only at hpl hnl hnum hx
  obtain ⟨A, c, rfl⟩ := hs.path.form
  obtain ⟨A2, c2, rfl⟩ := hs.names.form
  have HB0 : Hid (Below w.heap.size w (w.alloc (.cells #[.slice A path.length c, .string ⟨what.toArray⟩, .slice A2 names.length c2] 26))) := (Below.refl _ _).alloc (Nat.le_refl _) _
  have HK0 := hide (Blk.new w #[.slice A path.length c, .string ⟨what.toArray⟩, .slice A2 names.length c2] 26)
  have HH := hide (hasText_any ⟨path, what, names⟩ _ _ _ (hs.below HB0.out) (by simp only; omega) (by simp only; omega))
  rw [hh] at HH
  have HP := hide (hs.path.below HB0.out)
  have HN := hide (hs.names.below HB0.out)
  have HX := hide hx
  have HNUM := hide hnum
  have HCAP := hide hcap
  have HTAB := hide (hT.below HB0.out)
  have HJ1 : Hid (Lib.join (wrdL path what) [46] = preT path what ++ what) := join_wrd path what
  have hj1l : (preT path what ++ what).length ≤ 1000 := by
    have h1 := pth_len path (fun x hx => (numB_iff.1 (List.all_eq_true.1 hnum x hx)).2)
    unfold preT
    rw [List.length_append]
    split
    · omega
    · rw [List.length_append]
      simp
      omega
  have hj2l : (Lib.join names [32]).length ≤ 100000000 := by
    have h1 := join_len names 1000000 hx
    have h2 : names.length * (1000000 + 1) ≤ 20 * 1000001 := Nat.mul_le_mul hnl (Nat.le_refl _)
    omega
  unfold spV at HH ⊢
  simp only at *
  clear hs hh hr hx hnum hcap hT
  obtain ⟨i0, hi, hz0, hz1, hz2⟩ := seInfo seStrInfo
  go_enter Tryz.func13, Tryz.ntmps13
  go_wp2_with (first
    | (go_at_call 32; refine HH.out.mono ?_; rintro e w1 ⟨rfl, hb1⟩; have hk1 := HK0.out.below hb1 HK0.out.lt; have hck := hk1.cell; have HK1 := hide hk1; have HP1 := hide (HP.out.below hb1); have HN1 := hide (HN.out.below hb1); have HT1 := hide (HTAB.out.below hb1); have hb1' := hide (HB0.out.trans (hb1.mono HB0.out.size)); have hl1 := hk1.lt; clear hk1 hb1))
  clear HK0 HP HN HTAB HH
  go_loopw [4, 15] (fun v4 v15 wr => ∃ i : Nat, i ≤ path.length ∧ v15 = .int .i64 i ∧ Hid (RowOf ssF 1 w1.heap.size wr v4 ((path.take i).map digI)) ∧ Hid (Below w1.heap.size w1 wr)) (fun _ v15 _ => path.length - (intOf v15).toNat)
  case atStart => exact ⟨0, Nat.zero_le _, rfl, RowOf.nil _ _ _ _, Below.refl _ _⟩
  case round =>
    obtain ⟨i, hil, rfl, HR, HB⟩ := hrel
    obtain ⟨Ar, cr, rfl⟩ := HR.out.form
    by_cases hlt : i < path.length
    · have hlt' : (i : Int) < path.length := by omega
      obtain ⟨g, o, cap, he, hg, q0⟩ := (HP1.out.below HB.out).at1 hlt
      obtain ⟨rfl, rfl⟩ : A = some ⟨g, o, none⟩ ∧ c = cap := by injection he with a b c; exact ⟨a, c⟩
      obtain ⟨x, hx⟩ : ∃ x, path[i] = x := ⟨_, rfl⟩
      have q1 : wr.cell? ⟨g, o + i, none⟩ = some (.int .i64 x) := by rw [q0, hx]; rfl
      have hxn := numB_iff.1 (List.all_eq_true.1 HNUM.out path[i] (List.getElem_mem hlt))
      rw [hx] at hxn
      have HI := hide (itoaM x (by omega) (by omega) wr (HT1.out.below HB.out))
      have HNX : Hid ((path.take (i + 1)).map digI = (path.take i).map digI ++ [digI x]) := by
        show _ = _
        rw [List.take_succ_eq_append_getElem hlt, List.map_append, hx]
        rfl
      have hrl : ((path.take i).map digI).length ≤ 20 := by rw [List.length_map, List.length_take]; omega
      obtain ⟨D, hD⟩ : ∃ D, Lib.decDigits x.toNat = D := ⟨_, rfl⟩
      have hdI : digI x = D := hD
      rw [hdI] at HNX
      rw [hD] at HI
      obtain ⟨G, hr, hG⟩ := HR.out
      replace hr := hide hr
      replace hG := hide hG
      generalize (path.take i).map digI = ws at *
      clear hdI hD hx q0 he
      go_wp2_with (first
        | (go_at_call 37; refine HI.out.mono ?_; rintro e w2 ⟨rfl, hb2⟩; have hb2' := hide (HB.out.trans (hb2.mono HB.out.size)); have hbr2 : Hid (Below wr.heap.size wr w2) := hb2; clear hb2)
        | (at_builtin; refine wpList_append_rw rfl _ _ 24 24 rfl 9 i0 (.string ⟨#[]⟩) 1 16 Tryz.underlying24 hi hz0 hz1 hz2 rfl rfl (hr.out.keep (S := fun _ => False) ((Mvs.of_below hbr2.out).alloc _) (fun _ _ c => c)) _ 1 [.string ⟨D.toArray⟩] rfl (seSrcStr D rfl) (by simp only [maxLen]; omega) (by omega) ?_; intro v3 w3 G3 hr3 hm3 hg3))
      have HP3 : Hid (RowOf ssF 1 w1.heap.size w3 v3 (ws ++ [D])) := RowOf.growN hG.out hr3 hg3 (by have := hb2'.out.size; simp; omega)
      have hb3 : Hid (Below w1.heap.size w1 w3) := below_mvs (hb2'.out.alloc hb2'.out.size _) hm3 (fun k hk e => by have := hG.out k e.symm; omega) (Nat.le_refl _)
      clear hr3 hm3 hg3
      go_wp2
      go_roundw
      case rel => exact ⟨i + 1, by omega, by go_num, by rw [HNX.out]; exact HP3, hb3⟩
      case measure => simp [intOf]; omega
    · obtain rfl : i = path.length := by omega
      have hlt' : ¬ (path.length : Int) < path.length := by omega
      obtain ⟨ws, hws⟩ : ∃ ws, (path.take path.length).map digI = ws := ⟨_, rfl⟩
      rw [hws] at HR ⊢
      have HWS : Hid (ws = path.map digI) := by show _ = _; rw [← hws, List.take_length]
      have hwsl : ws.length ≤ 20 := by rw [HWS.out, List.length_map]; omega
      clear hws
      have hk2 := HK1.out.below HB.out HK1.out.lt
      have hck2 := hk2.cell
      have hl2 := hk2.lt
      replace hk2 := hide hk2
      have HN2 := hide (HN1.out.below HB.out)
      have hb2' := hide (hb1'.out.trans (HB.out.mono hb1'.out.size))
      clear hck
      have HJ : Hid (∀ W v, RowOf ssF 1 w1.heap.size W v (wrdL path what) → Calls Tryz.prog 38 #[v, .string ⟨#[46]⟩] W fun e w' => e = .returned (.string ⟨(preT path what ++ what).toArray⟩) ∧ Below W.heap.size W w') := fun W v h => by
        have hl : (wrdL path what).length ≤ 1000 := by
          unfold wrdL
          rw [List.length_append, List.length_map]
          split <;> simp <;> omega
        have := secJoin (wrdL path what) v 46 W (h.reads ssF_len) h.cap hl (by rw [HJ1.out]; omega)
        rwa [HJ1.out] at this
      by_cases hw0 : what = []
      · subst hw0
        have HRW : Hid (RowOf ssF 1 w1.heap.size wr (.slice Ar ws.length cr) (wrdL path [])) := by
          have : wrdL path [] = ws := by rw [HWS.out]; simp [wrdL]
          rw [this]
          exact HR
        obtain ⟨T1, hT1⟩ : ∃ T1, preT path [] ++ [] = T1 := ⟨_, rfl⟩
        have HT1E : Hid (T1 = preT path []) := by show _ = _; rw [← hT1, List.append_nil]
        rw [hT1] at HJ hj1l
        have z0 := size_lit T1
        have hb4' := hb2'
        have hk4 := hk2
        have HN4 := HN2
        clear hT1
        by_cases hn0 : names.length = 0
        · have hne : names = [] := List.length_eq_zero_iff.1 hn0
          have HV : Hid (T1 = secT ⟨path, [], names⟩) := by
            show _ = _
            rw [hne]
            unfold secT secW
            rw [HT1E.out]
            simp [nmsT]
          have hn1 : ¬ ((names.length : Int) > 0) := by omega
          clear hn0 hne
          go_wp2_with fail
          refine (HJ.out _ _ HRW.out).mono ?_
          rintro e w5 ⟨rfl, hb5⟩
          have hb5' := hide (hb4'.out.trans (hb5.mono hb4'.out.size))
          have hck5 := (hk4.out.below hb5 hk4.out.lt).cell
          clear hb5
          go_wp2
          exact bodyPost_ret (v := .tuple #[.string ⟨T1.toArray⟩, .nilIface]) (by simp [results, Tryz.results13, go_sem]) rfl ⟨by rw [← HV.out], hb5'.out⟩
        · have hne : names ≠ [] := fun e => hn0 (by rw [e]; rfl)
          have hn1 : ((names.length : Int) > 0) := by omega
          have hc1 : (⟨#[32, 40]⟩ : ByteArray) ++ ⟨(Lib.join names [32]).toArray⟩ = ⟨(32 :: 40 :: Lib.join names [32]).toArray⟩ := cat_lit [32, 40] _
          have hc2 : (⟨(32 :: 40 :: Lib.join names [32]).toArray⟩ : ByteArray) ++ ⟨#[41]⟩ = ⟨((32 :: 40 :: Lib.join names [32]) ++ [41]).toArray⟩ := cat_lit _ _
          have hc3 : (⟨T1.toArray⟩ : ByteArray) ++ ⟨((32 :: 40 :: Lib.join names [32]) ++ [41]).toArray⟩ = ⟨(T1 ++ ((32 :: 40 :: Lib.join names [32]) ++ [41])).toArray⟩ := cat_lit _ _
          have hV : T1 ++ ((32 :: 40 :: Lib.join names [32]) ++ [41]) = secT ⟨path, [], names⟩ := by
            unfold secT secW
            rw [HT1E.out]
            simp [nmsT, hne]
          have HJ2 := hide (fun W (h : ReadOf ssF 1 W (.slice A2 names.length c2) names) => secJoin names _ 32 W h HCAP.out (by omega) (by omega))
          have z1 := size_lit (Lib.join names [32])
          have z2 := size_lit (32 :: 40 :: Lib.join names [32])
          have z3 := size_lit ((32 :: 40 :: Lib.join names [32]) ++ [41])
          have l2 : (32 :: 40 :: Lib.join names [32]).length = (Lib.join names [32]).length + 2 := rfl
          have l3 : ((32 :: 40 :: Lib.join names [32]) ++ [41]).length = (Lib.join names [32]).length + 3 := by simp
          rw [hV] at hc3
          have HV : Hid (T1 ++ ((32 :: 40 :: Lib.join names [32]) ++ [41]) = secT ⟨path, [], names⟩) := hV
          obtain ⟨ST, hST⟩ : ∃ ST, secT ⟨path, [], names⟩ = ST := ⟨_, rfl⟩
          rw [hST] at hc3
          have HST := hide hST
          clear hST HV
          generalize (32 :: 40 :: Lib.join names [32]) ++ [41] = U3 at *
          generalize 32 :: 40 :: Lib.join names [32] = U2 at *
          generalize Lib.join names [32] = U1 at *
          clear hn0 hne hV
          go_wp2_with fail
          refine (HJ.out _ _ HRW.out).mono ?_
          rintro e w5 ⟨rfl, hb5⟩
          have hb5' := hide (hb4'.out.trans (hb5.mono hb4'.out.size))
          have hck5 := (hk4.out.below hb5 hk4.out.lt).cell
          have HN5 := hide (HN4.out.below hb5)
          clear hb5
          go_wp2_with fail
          refine (HJ2.out _ HN5.out).mono ?_
          rintro e w6 ⟨rfl, hb6⟩
          have hb6' := hide (hb5'.out.trans (hb6.mono hb5'.out.size))
          clear hb6
          go_wp2
          exact bodyPost_ret (v := .tuple #[.string ⟨ST.toArray⟩, .nilIface]) (by simp [results, Tryz.results13, go_sem]) rfl ⟨by rw [HST.out], hb6'.out⟩
      · have hw1 : what.isEmpty = false := by cases what with | nil => exact absurd rfl hw0 | cons _ _ => rfl
        have HWE : Hid (wrdL path what = ws ++ [what]) := by show _ = _; unfold wrdL; rw [if_neg hw0, HWS.out]
        obtain ⟨T1, hT1⟩ : ∃ T1, preT path what ++ what = T1 := ⟨_, rfl⟩
        have HT1E : Hid (T1 = preT path what ++ what) := hT1.symm
        rw [hT1] at HJ hj1l
        have z0 := size_lit T1
        obtain ⟨G, hr, hG⟩ := HR.out
        replace hr := hide hr
        replace hG := hide hG
        have hGx : Hid (∀ g, G = some g → ¬ g < w1.heap.size) := fun g e h => by have := hG.out g e; omega
        clear hT1 hw0
        by_cases hn0 : names.length = 0
        · have hne : names = [] := List.length_eq_zero_iff.1 hn0
          have HV : Hid (T1 = secT ⟨path, what, names⟩) := by
            show _ = _
            rw [hne]
            unfold secT secW
            rw [HT1E.out]
            simp [nmsT]
          have hn1 : ¬ ((names.length : Int) > 0) := by omega
          clear hn0 hne
          go_wp2_with (at_builtin; refine wpList_append_rw rfl _ _ 24 24 rfl 9 i0 (.string ⟨#[]⟩) 1 16 Tryz.underlying24 hi hz0 hz1 hz2 rfl rfl (hr.out.keep (S := fun _ => False) ((Mvs.refl _ _).alloc _) (fun _ _ c => c)) _ 1 [.string ⟨what.toArray⟩] rfl (seSrcStr what rfl) (by simp only [maxLen]; omega) (by omega) ?_)
          intro v3 w3 G3 hr3 hm3 hg3
          have HRW : Hid (RowOf ssF 1 w1.heap.size w3 v3 (wrdL path what)) := by rw [HWE.out]; exact RowOf.growN hG.out hr3 hg3 (by have := HB.out.size; simp; omega)
          have hbm : Hid (Below w1.heap.size w1 w3) := below_mvs (HB.out.alloc HB.out.size _) hm3 (fun k hk e => hGx.out k e.symm hk) (Nat.le_refl _)
          clear hr3 hm3 hg3
          have hb4' := hide (hb1'.out.trans (hbm.out.mono hb1'.out.size))
          have hk4 := hide (HK1.out.below hbm.out HK1.out.lt)
          have hck4 := hk4.out.cell
          have HN4 := hide (HN1.out.below hbm.out)
          go_wp2_with fail
          refine (HJ.out _ _ HRW.out).mono ?_
          rintro e w5 ⟨rfl, hb5⟩
          have hb5' := hide (hb4'.out.trans (hb5.mono hb4'.out.size))
          have hck5 := (hk4.out.below hb5 hk4.out.lt).cell
          clear hb5
          go_wp2
          exact bodyPost_ret (v := .tuple #[.string ⟨T1.toArray⟩, .nilIface]) (by simp [results, Tryz.results13, go_sem]) rfl ⟨by rw [← HV.out], hb5'.out⟩
        · have hne : names ≠ [] := fun e => hn0 (by rw [e]; rfl)
          have hn1 : ((names.length : Int) > 0) := by omega
          have hc1 : (⟨#[32, 40]⟩ : ByteArray) ++ ⟨(Lib.join names [32]).toArray⟩ = ⟨(32 :: 40 :: Lib.join names [32]).toArray⟩ := cat_lit [32, 40] _
          have hc2 : (⟨(32 :: 40 :: Lib.join names [32]).toArray⟩ : ByteArray) ++ ⟨#[41]⟩ = ⟨((32 :: 40 :: Lib.join names [32]) ++ [41]).toArray⟩ := cat_lit _ _
          have hc3 : (⟨T1.toArray⟩ : ByteArray) ++ ⟨((32 :: 40 :: Lib.join names [32]) ++ [41]).toArray⟩ = ⟨(T1 ++ ((32 :: 40 :: Lib.join names [32]) ++ [41])).toArray⟩ := cat_lit _ _
          have hV : T1 ++ ((32 :: 40 :: Lib.join names [32]) ++ [41]) = secT ⟨path, what, names⟩ := by
            unfold secT secW
            rw [HT1E.out]
            simp [nmsT, hne]
          have HJ2 := hide (fun W (h : ReadOf ssF 1 W (.slice A2 names.length c2) names) => secJoin names _ 32 W h HCAP.out (by omega) (by omega))
          have z1 := size_lit (Lib.join names [32])
          have z2 := size_lit (32 :: 40 :: Lib.join names [32])
          have z3 := size_lit ((32 :: 40 :: Lib.join names [32]) ++ [41])
          have l2 : (32 :: 40 :: Lib.join names [32]).length = (Lib.join names [32]).length + 2 := rfl
          have l3 : ((32 :: 40 :: Lib.join names [32]) ++ [41]).length = (Lib.join names [32]).length + 3 := by simp
          rw [hV] at hc3
          have HV : Hid (T1 ++ ((32 :: 40 :: Lib.join names [32]) ++ [41]) = secT ⟨path, what, names⟩) := hV
          obtain ⟨ST, hST⟩ : ∃ ST, secT ⟨path, what, names⟩ = ST := ⟨_, rfl⟩
          rw [hST] at hc3
          have HST := hide hST
          clear hST HV
          generalize (32 :: 40 :: Lib.join names [32]) ++ [41] = U3 at *
          generalize 32 :: 40 :: Lib.join names [32] = U2 at *
          generalize Lib.join names [32] = U1 at *
          clear hn0 hne hV
          go_wp2_with (at_builtin; refine wpList_append_rw rfl _ _ 24 24 rfl 9 i0 (.string ⟨#[]⟩) 1 16 Tryz.underlying24 hi hz0 hz1 hz2 rfl rfl (hr.out.keep (S := fun _ => False) ((Mvs.refl _ _).alloc _) (fun _ _ c => c)) _ 1 [.string ⟨what.toArray⟩] rfl (seSrcStr what rfl) (by simp only [maxLen]; omega) (by omega) ?_)
          intro v3 w3 G3 hr3 hm3 hg3
          have HRW : Hid (RowOf ssF 1 w1.heap.size w3 v3 (wrdL path what)) := by rw [HWE.out]; exact RowOf.growN hG.out hr3 hg3 (by have := HB.out.size; simp; omega)
          have hbm : Hid (Below w1.heap.size w1 w3) := below_mvs (HB.out.alloc HB.out.size _) hm3 (fun k hk e => hGx.out k e.symm hk) (Nat.le_refl _)
          clear hr3 hm3 hg3
          have hb4' := hide (hb1'.out.trans (hbm.out.mono hb1'.out.size))
          have hk4 := hide (HK1.out.below hbm.out HK1.out.lt)
          have hck4 := hk4.out.cell
          have HN4 := hide (HN1.out.below hbm.out)
          go_wp2_with fail
          refine (HJ.out _ _ HRW.out).mono ?_
          rintro e w5 ⟨rfl, hb5⟩
          have hb5' := hide (hb4'.out.trans (hb5.mono hb4'.out.size))
          have hck5 := (hk4.out.below hb5 hk4.out.lt).cell
          have HN5 := hide (HN4.out.below hb5)
          clear hb5
          go_wp2_with fail
          refine (HJ2.out _ HN5.out).mono ?_
          rintro e w6 ⟨rfl, hb6⟩
          have hb6' := hide (hb5'.out.trans (hb6.mono hb5'.out.size))
          clear hb6
          go_wp2
          exact bodyPost_ret (v := .tuple #[.string ⟨ST.toArray⟩, .nilIface]) (by simp [results, Tryz.results13, go_sem]) rfl ⟨by rw [HST.out], hb6'.out⟩
end Go.Proofs.YtnokanmcgpjkmaaGreatDoor
