/- takePath of package section. -/
import Derived.Test.YtegplihhbdmnbaaGreatDoorU38
import Derived.Test.YtegplihhbdmnbaaGreatDoorU13
import Derived.Deep.LoopGhost
set_option linter.unusedVariables false
namespace Go.Proofs.YtegplihhbdmnbaaGreatDoor
open Go.RowKit Go.Shelf
/-- The library's two errors of numbers lie in this world. -/
def SyE (w : World) : Prop := (∃ ev, w.cell? ⟨14, 0, none⟩ = some ev ∧ (ev = .nilIface ∨ ∃ te pe, ev = .iface te pe)) ∧ ∃ ev, w.cell? ⟨15, 0, none⟩ = some ev ∧ (ev = .nilIface ∨ ∃ te pe, ev = .iface te pe)
theorem SyE.below {w w' : World} (h : SyE w) (hb : Below w.heap.size w w') : SyE w' := by
  obtain ⟨⟨e1, h1, k1⟩, e2, h2, k2⟩ := h
  exact ⟨⟨e1, (hb.cell (p := ⟨14, 0, none⟩) (Lib.lt_of_cell h1)).trans h1, k1⟩, e2, (hb.cell (p := ⟨15, 0, none⟩) (Lib.lt_of_cell h2)).trans h2, k2⟩
theorem atoi_yes (d : List UInt8) (v : Int) (h : Lib.atoiAll d = .ok v) (w : World) (hd : d.length ≤ 1000000) :
    Calls Tryz.prog 40 #[.string ⟨d.toArray⟩] w fun e w' => e = .returned (.tuple #[.int .i64 v, .nilIface]) ∧ Below w.heap.size w w' := by
  refine (Tryz.strconv_Atoi_ok ⟨d.toArray⟩ (by have := size_lit d; omega) v h w).mono ?_
  rintro e w' ⟨rfl, hw⟩
  refine ⟨rfl, ?_⟩
  rcases hw with rfl | ⟨t, rfl⟩
  · exact Below.refl _ _
  · exact Lib.bytesWorld_below _ _ _
theorem atoi_no (d : List UInt8) (h : ∀ v, Lib.atoiAll d ≠ .ok v) (w : World) (hd : d.length ≤ 1000000) (hE : SyE w) :
    Calls Tryz.prog 40 #[.string ⟨d.toArray⟩] w fun e w' => ∃ n N, e = .returned (.tuple #[.int .i64 n, .iface 131 (.pointer (some ⟨N, 0, none⟩))]) ∧ Below w.heap.size w w' := by
  have hsz := size_lit d
  obtain ⟨⟨e1, h1, k1⟩, e2, h2, k2⟩ := hE
  cases ha : Lib.atoiAll d with
  | ok v => exact absurd ha (h v)
  | «syntax» =>
    refine (Tryz.strconv_Atoi_syntax ⟨d.toArray⟩ (by omega) ha e1 w h1 k1).mono ?_
    rintro e w' ⟨N, rfl, _, _, hb⟩
    exact ⟨_, N, rfl, hb⟩
  | range =>
    refine (Tryz.strconv_Atoi_range ⟨d.toArray⟩ (by omega) ha e2 w h2 k2).mono ?_
    rintro e w' ⟨N, rfl, _, _, hb⟩
    exact ⟨_, N, rfl, hb⟩
def TkOut (w : World) (r : Option (List Int × List UInt8)) (e : Ending) (w' : World) : Prop := match r with
  | some (q, rest) => ∃ v, e = .returned (.tuple #[v, .string ⟨rest.toArray⟩, .bool true]) ∧ ReadOf siF 1 w' v q ∧ Lo w.heap.size v ∧ Below w.heap.size w w'
  | none => e = .returned (.tuple #[.slice none 0 0, .string ⟨#[]⟩, .bool false]) ∧ Below w.heap.size w w'
theorem siF_len (z : Int) : (siF z).length = 1 := rfl
theorem seIntInfo : (Tryz.prog.info? 3).map (fun i => (i.zero, i.size, i.bytes)) = some (some (.int .i64 0), 1, 8) := by kernel_rfl
theorem seInfo {i : Option TypeInfo} {z : Value} {n m : Nat} (h : i.map (fun i => (i.zero, i.size, i.bytes)) = some (some z, n, m)) : ∃ i0, i = some i0 ∧ i0.zero = some z ∧ i0.size = n ∧ i0.bytes = m := by
  obtain ⟨i0, hi, h⟩ := Option.map_eq_some_iff.1 h
  simp only [Prod.mk.injEq] at h
  exact ⟨i0, hi, h⟩
theorem seSrcInt {w : World} {C : Array Value} (n : Int) {c : Nat} (hC : C = #[.int .i64 n]) : Src Tryz.prog 1 23 (.slice (some ⟨w.heap.size, 0, none⟩) 1 c) 1 [.int .i64 n] (w.alloc (.cells C 3)) := by
  subst hC
  refine Src.ofSlice _ Tryz.underlying23 ⟨w.heap.size, 0, none⟩ 1 c [.int .i64 n] (by simp) (fun j u hu => ?_) (by intro u hu; simp at hu; subst hu; rfl)
  have hj := (List.getElem?_eq_some_iff.1 hu).1
  obtain rfl : j = 0 := by simpa using hj
  rw [Go.WideShapes.add_plain, Nat.zero_add, (Blk.new w _ _).cell]
  simp at hu
  rw [← hu]
  rfl
theorem tk_step {f : Nat} {p : List Int} {c : UInt8} {r : List UInt8} (hc : dgB c = true) : tkP (f + 1) p (c :: r) =
    match Lib.atoiAll (cutV 46 (c :: r)).1 with
    | .ok v => if c = 48 ∨ p.length = 20 ∨ ((cutV 46 (c :: r)).2.2 = true ∧ (cutV 46 (c :: r)).2.1 = []) then none else tkP f (p ++ [v]) (cutV 46 (c :: r)).2.1
    | .«syntax» => none
    | .range => none := by
  rw [tkP, if_neg (by rw [hc]; simp)]
  rfl
theorem se_at (l : List UInt8) (i : Nat) (hi : i < l.length) : ∃ c, l[i] = c ∧ ∀ h : i < (⟨l.toArray⟩ : ByteArray).size, (⟨l.toArray⟩ : ByteArray)[i]'h = c := ⟨_, rfl, fun _ => rfl⟩
theorem cut_lens (b : UInt8) (l : List UInt8) : (cutV b l).1.length ≤ l.length ∧ (l ≠ [] → (cutV b l).2.1.length < l.length) := by
  by_cases hb : b ∈ l
  · obtain ⟨p, q, rfl, hp⟩ := split_at_byte l hb
    rw [cutV_in q hp]
    simp only [List.length_append, List.length_cons]
    exact ⟨by omega, fun _ => by omega⟩
  · rw [cutV_out hb]
    exact ⟨Nat.le_refl _, fun h => List.length_pos_iff.2 h⟩
set_option maxRecDepth 20000 in
set_option maxHeartbeats 4000000 in
theorem takePath_any (t : List UInt8) (w : World) (ht : t.length ≤ 1000000) (hE : tkP (t.length + 1) [] t = none → SyE w) :
    Calls Tryz.prog 19 #[.string ⟨t.toArray⟩] w (TkOut w (tkP (t.length + 1) [] t)) := by
  have HE := hide hE
  clear hE
  obtain ⟨R, hR⟩ : ∃ R, tkP (t.length + 1) [] t = R := ⟨_, rfl⟩
  rw [hR] at HE ⊢
  replace hR := hide hR
  have HR : Hid (t.length < t.length + 1 ∧ tkP (t.length + 1) [] t = R) := ⟨by omega, hR.out⟩
  clear hR
  obtain ⟨i0, hi, hz0, hz1, hz2⟩ := seInfo seIntInfo
  go_enter Tryz.func19, Tryz.ntmps19
  go_wp2
  go_loopg [2, 3] t.length (fun g v2 v3 wr => ∃ (p : List Int) (s : List UInt8) (f : Nat), v3 = .string ⟨s.toArray⟩ ∧ s.length ≤ g ∧ s.length ≤ 1000000 ∧ p.length ≤ 20 ∧ Hid (RowOf siF 1 w.heap.size wr v2 p) ∧ Hid (s.length < f ∧ tkP f p s = R) ∧ Hid (Below w.heap.size w wr))
  case atStart => exact ⟨[], t, _, rfl, Nat.le_refl _, ht, by simp, RowOf.nil _ _ _ _, HR, Below.refl _ _⟩
  case round =>
    obtain ⟨p, s, f, rfl, hg, hs, hp, HP, HT, HB⟩ := hrel
    clear HR
    obtain ⟨A, cp, rfl⟩ := HP.out.form
    have hsz := size_lit s
    cases s with
    | nil =>
      have hv : R = some (p, []) := by
        obtain ⟨h1, h2⟩ := HT.out
        cases f with
        | zero => simp at h1
        | succ f => rw [← h2]; rfl
      subst hv
      go_wp2
      exact bodyPost_ret (v := .tuple #[.slice A p.length cp, .string ⟨#[]⟩, .bool true]) (by simp [results, Tryz.results19, go_sem]) rfl ⟨_, rfl, HP.out.reads siF_len, HP.out.lo, HB.out⟩
    | cons c r =>
      obtain ⟨c', hc', hat⟩ := se_at (c :: r) 0 (by simp)
      obtain rfl : c = c' := hc'
      have hemp : (c :: r).isEmpty = false := rfl
      have hs1 : 1 ≤ (c :: r).length := by simp
      have hlen := cut_lens 46 (c :: r)
      cases hd : dgB c with
      | false =>
        have hv : R = some (p, c :: r) := by
          obtain ⟨h1, h2⟩ := HT.out
          cases f with
          | zero => simp at h1
          | succ f => rw [← h2, tkP, if_pos hd]
        subst hv
        have hdd : c.toNat < 48 ∨ 57 < c.toNat := by
          simp only [dgB] at hd
          simp at hd
          omega
        generalize (c :: r) = s at *
        by_cases hlo : c.toNat < 48
        · have k1 : ¬ (48 : Int) ≤ c.toNat := by omega
          clear hdd
          go_wp2
          exact bodyPost_ret (v := .tuple #[.slice A p.length cp, .string ⟨s.toArray⟩, .bool true]) (by simp [results, Tryz.results19, go_sem]) rfl ⟨_, rfl, HP.out.reads siF_len, HP.out.lo, HB.out⟩
        · have k1 : (48 : Int) ≤ c.toNat := by omega
          have k2 : ¬ (c.toNat : Int) ≤ 57 := by omega
          clear hdd
          go_wp2
          exact bodyPost_ret (v := .tuple #[.slice A p.length cp, .string ⟨s.toArray⟩, .bool true]) (by simp [results, Tryz.results19, go_sem]) rfl ⟨_, rfl, HP.out.reads siF_len, HP.out.lo, HB.out⟩
      | true =>
        have hdd : 48 ≤ c.toNat ∧ c.toNat ≤ 57 := by simpa [dgB] using hd
        have k1 : (48 : Int) ≤ c.toNat := by omega
        have k2 : (c.toNat : Int) ≤ 57 := by omega
        obtain ⟨f', rfl, hf'⟩ : ∃ f', f = f' + 1 ∧ r.length < f' := by
          obtain ⟨h1, _⟩ := HT.out
          cases f with
          | zero => omega
          | succ f => exact ⟨f, rfl, by simp at h1; omega⟩
        have hst := HT.out.2
        rw [tk_step hd] at hst
        obtain ⟨d', hd'⟩ := cut_first (r := r) (dg_46 hd)
        have HC := hide (fun W => cut_any 46 (c :: r) W hs)
        have hl1 := hlen.1
        have hl2 := hlen.2 (by simp)
        have hl3 : (c :: r).length = r.length + 1 := rfl
        rw [hd'] at HC hst hl1
        obtain ⟨c2, hc2, hat2⟩ := se_at (c :: d') 0 (by simp)
        obtain rfl : c = c2 := hc2
        have hdl : 1 ≤ (c :: d').length := by simp
        have hdz := size_lit (c :: d')
        generalize (cutV 46 (c :: r)).2.1 = b at *
        generalize (cutV 46 (c :: r)).2.2 = dot at *
        generalize hS : c :: r = s at *
        generalize hD : c :: d' = d at *
        clear HT hlen hd'
        replace hS := hide hS
        replace hD := hide hD
        by_cases hok : ∃ v, Lib.atoiAll d = .ok v
        · obtain ⟨v, hv⟩ := hok
          have HA := hide (fun W => atoi_yes d v hv W (by omega))
          rw [hv] at hst
          simp only at hst
          replace hst := hide hst
          clear hv
          by_cases h48 : c = 48
          · have hv : R = none := by
              rw [← hst.out, if_pos (.inl h48)]
            subst hv
            subst h48
            clear hst
            go_wp2_with (first
              | (go_at_call 20; refine (HC.out _).mono ?_; rintro e w1 ⟨rfl, hb1⟩; have hb1' : Hid (Below w.heap.size w w1) := HB.out.trans (hb1.mono HB.out.size); have hbr1 : Hid (Below wr.heap.size wr w1) := hb1; clear hb1)
              | (go_at_call 40; refine (HA.out _).mono ?_; rintro e w2 ⟨rfl, hb2⟩; have hb2' : Hid (Below w.heap.size w w2) := hb1'.out.trans (hb2.mono hb1'.out.size); have hbr2 : Hid (Below wr.heap.size wr w2) := hbr1.out.trans (hb2.mono hbr1.out.size); clear hb2))
            exact bodyPost_ret (v := .tuple #[.slice none 0 0, .string ⟨#[]⟩, .bool false]) (by simp [results, Tryz.results19, go_sem]) rfl ⟨rfl, hb2'.out⟩
          · have k48 : ¬ ((c.toNat : Int) = 48) := fun e => h48 (UInt8.toNat_inj.1 (Int.ofNat.inj e))
            by_cases h20 : p.length = 20
            · have hv : R = none := by
                rw [← hst.out, if_pos (.inr (.inl h20))]
              have hp20 : ((p.length : Int) == 20) = true := by rw [beq_iff_eq]; omega
              subst hv
              clear hst h20 h48
              go_wp2_with (first
                | (go_at_call 20; refine (HC.out _).mono ?_; rintro e w1 ⟨rfl, hb1⟩; have hb1' : Hid (Below w.heap.size w w1) := HB.out.trans (hb1.mono HB.out.size); have hbr1 : Hid (Below wr.heap.size wr w1) := hb1; clear hb1)
                | (go_at_call 40; refine (HA.out _).mono ?_; rintro e w2 ⟨rfl, hb2⟩; have hb2' : Hid (Below w.heap.size w w2) := hb1'.out.trans (hb2.mono hb1'.out.size); have hbr2 : Hid (Below wr.heap.size wr w2) := hbr1.out.trans (hb2.mono hbr1.out.size); clear hb2))
              exact bodyPost_ret (v := .tuple #[.slice none 0 0, .string ⟨#[]⟩, .bool false]) (by simp [results, Tryz.results19, go_sem]) rfl ⟨rfl, hb2'.out⟩
            · have hp20 : ((p.length : Int) == 20) = false := by rw [beq_eq_false_iff_ne]; omega
              cases dot with
              | true =>
                by_cases hbe : b = []
                · have hv : R = none := by
                    rw [← hst.out, if_pos (.inr (.inr ⟨rfl, hbe⟩))]
                  subst hv
                  subst hbe
                  clear hst h20 h48
                  go_wp2_with (first
                    | (go_at_call 20; refine (HC.out _).mono ?_; rintro e w1 ⟨rfl, hb1⟩; have hb1' : Hid (Below w.heap.size w w1) := HB.out.trans (hb1.mono HB.out.size); have hbr1 : Hid (Below wr.heap.size wr w1) := hb1; clear hb1)
                    | (go_at_call 40; refine (HA.out _).mono ?_; rintro e w2 ⟨rfl, hb2⟩; have hb2' : Hid (Below w.heap.size w w2) := hb1'.out.trans (hb2.mono hb1'.out.size); have hbr2 : Hid (Below wr.heap.size wr w2) := hbr1.out.trans (hb2.mono hbr1.out.size); clear hb2))
                  exact bodyPost_ret (v := .tuple #[.slice none 0 0, .string ⟨#[]⟩, .bool false]) (by simp [results, Tryz.results19, go_sem]) rfl ⟨rfl, hb2'.out⟩
                · have hbe' : b.isEmpty = false := by cases b with | nil => exact absurd rfl hbe | cons _ _ => rfl
                  have HN : Hid (b.length < f' ∧ tkP f' (p ++ [v]) b = R) := ⟨by omega, by rw [← hst.out, if_neg (by simp [h48, h20, hbe])]⟩
                  have hp19 : p.length ≤ 19 := by omega
                  clear hst h20 h48 hbe
                  obtain ⟨G, hr, hG⟩ := HP.out
                  replace hr := hide hr
                  replace hG := hide hG
                  go_wp2_with (first
                    | (go_at_call 20; refine (HC.out _).mono ?_; rintro e w1 ⟨rfl, hb1⟩; have hb1' : Hid (Below w.heap.size w w1) := HB.out.trans (hb1.mono HB.out.size); have hbr1 : Hid (Below wr.heap.size wr w1) := hb1; clear hb1)
                    | (go_at_call 40; refine (HA.out _).mono ?_; rintro e w2 ⟨rfl, hb2⟩; have hb2' : Hid (Below w.heap.size w w2) := hb1'.out.trans (hb2.mono hb1'.out.size); have hbr2 : Hid (Below wr.heap.size wr w2) := hbr1.out.trans (hb2.mono hbr1.out.size); clear hb2)
                    | (at_builtin; refine wpList_append_rw rfl _ _ 23 23 rfl 3 i0 (.int .i64 0) 1 8 Tryz.underlying23 hi hz0 hz1 hz2 rfl rfl (hr.out.keep (S := fun _ => False) ((Mvs.of_below hbr2.out).alloc _) (fun _ _ c => c)) _ 1 [.int .i64 v] rfl (seSrcInt v rfl) (by simp only [maxLen]; omega) (by omega) ?_; intro v3 w3 G3 hr3 hm3 hg3))
                  have HP3 : Hid (RowOf siF 1 w.heap.size w3 v3 (p ++ [v])) := RowOf.growN hG.out hr3 hg3 (by have := hb2'.out.size; simp; omega)
                  have hb3 : Hid (Below w.heap.size w w3) := below_mvs (hb2'.out.alloc hb2'.out.size _) hm3 (fun k hk e => by have := hG.out k e.symm; omega) (Nat.le_refl _)
                  clear hr3 hm3 hg3
                  go_wp2
                  go_roundg b.length
                  case rel => exact ⟨p ++ [v], b, f', rfl, Nat.le_refl _, by omega, by rw [List.length_append]; simp; omega, HP3, HN, hb3⟩
                  case measure => omega
              | false =>
                have HN : Hid (b.length < f' ∧ tkP f' (p ++ [v]) b = R) := ⟨by omega, by rw [← hst.out, if_neg (by simp [h48, h20])]⟩
                have hp19 : p.length ≤ 19 := by omega
                clear hst h20 h48
                obtain ⟨G, hr, hG⟩ := HP.out
                replace hr := hide hr
                replace hG := hide hG
                go_wp2_with (first
                  | (go_at_call 20; refine (HC.out _).mono ?_; rintro e w1 ⟨rfl, hb1⟩; have hb1' : Hid (Below w.heap.size w w1) := HB.out.trans (hb1.mono HB.out.size); have hbr1 : Hid (Below wr.heap.size wr w1) := hb1; clear hb1)
                  | (go_at_call 40; refine (HA.out _).mono ?_; rintro e w2 ⟨rfl, hb2⟩; have hb2' : Hid (Below w.heap.size w w2) := hb1'.out.trans (hb2.mono hb1'.out.size); have hbr2 : Hid (Below wr.heap.size wr w2) := hbr1.out.trans (hb2.mono hbr1.out.size); clear hb2)
                  | (at_builtin; refine wpList_append_rw rfl _ _ 23 23 rfl 3 i0 (.int .i64 0) 1 8 Tryz.underlying23 hi hz0 hz1 hz2 rfl rfl (hr.out.keep (S := fun _ => False) ((Mvs.of_below hbr2.out).alloc _) (fun _ _ c => c)) _ 1 [.int .i64 v] rfl (seSrcInt v rfl) (by simp only [maxLen]; omega) (by omega) ?_; intro v3 w3 G3 hr3 hm3 hg3))
                have HP3 : Hid (RowOf siF 1 w.heap.size w3 v3 (p ++ [v])) := RowOf.growN hG.out hr3 hg3 (by have := hb2'.out.size; simp; omega)
                have hb3 : Hid (Below w.heap.size w w3) := below_mvs (hb2'.out.alloc hb2'.out.size _) hm3 (fun k hk e => by have := hG.out k e.symm; omega) (Nat.le_refl _)
                clear hr3 hm3 hg3
                go_wp2
                go_roundg b.length
                case rel => exact ⟨p ++ [v], b, f', rfl, Nat.le_refl _, by omega, by rw [List.length_append]; simp; omega, HP3, HN, hb3⟩
                case measure => omega
        · have hnone : R = none := by
            rw [← hst]
            cases ha : Lib.atoiAll d with
            | ok v => exact absurd ⟨v, ha⟩ hok
            | «syntax» => rfl
            | range => rfl
          subst hnone
          have HA : Hid (∀ W, Below w.heap.size w W → _) := fun W hW => atoi_no d (fun v e => hok ⟨v, e⟩) W (by omega) ((HE.out rfl).below hW)
          clear hst hok
          go_wp2_with (first
            | (go_at_call 20; refine (HC.out _).mono ?_; rintro e w1 ⟨rfl, hb1⟩; have hb1' : Hid (Below w.heap.size w w1) := HB.out.trans (hb1.mono HB.out.size); clear hb1)
            | (go_at_call 40; refine (HA.out _ hb1'.out).mono ?_; rintro e w2 ⟨n, N, rfl, hb2⟩; have hb2' : Hid (Below w.heap.size w w2) := hb1'.out.trans (hb2.mono hb1'.out.size); clear hb2))
          exact bodyPost_ret (v := .tuple #[.slice none 0 0, .string ⟨#[]⟩, .bool false]) (by simp [results, Tryz.results19, go_sem]) rfl ⟨rfl, hb2'.out⟩
end Go.Proofs.YtegplihhbdmnbaaGreatDoor
