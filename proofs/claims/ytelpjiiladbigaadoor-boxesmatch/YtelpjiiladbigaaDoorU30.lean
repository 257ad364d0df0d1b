/- The document's Match, of any names. -/
import Derived.Test.YtelpjiiladbigaaDoorU29
import Derived.Sort.Walk0
set_option linter.unusedSimpArgs false
set_option linter.unusedVariables false
namespace Go.Proofs.YtelpjiiladbigaaDoor
open Go.RowKit Go.Shelf Go.Sort
/-- Behind the inner append: the old row stands, the new one can be read. -/
theorem ins_mid {W w8 : World} {g o cap L k : Nat} {out : Nms} {x : List UInt8} {v8 : Value} {G8 : Option Nat} {o1 : Obj} (hr : Rw W 1 (.slice (some ⟨g, o, none⟩) L cap) L (out.map sv) (some g)) (hg : g < W.heap.size)
    (hr8 : Rw w8 1 v8 (1 + (L - k)) ([sv x] ++ (out.drop k).map sv) G8) (hm8 : Mvs (fun j => some j = some W.heap.size) (W.drew.alloc o1) w8) (hg8 : G8 = some W.heap.size ∨ G8 = some (W.drew.alloc o1).heap.size) :
    Rw w8 1 (.slice (some ⟨g, o, none⟩) L cap) L (out.map sv) (some g) ∧ Src Tryd.prog 1 33 v8 (1 + (L - k)) ([sv x] ++ (out.drop k).map sv) w8 ∧ Below W.heap.size W w8 := by
  have hm : Mvs (fun j => j = W.heap.size) W w8 := (((Mvs.refl (fun j => j = W.heap.size) W).drew).alloc _).trans' hm8 (fun j _ e => by injection e)
  refine ⟨hr.keep hm (fun g' e h => by cases e; omega), hr8.src1 (by rcases hg8 with h | h <;> rw [h] <;> simp) (fun u hu => ?_), hm.below (fun k hk e => by omega) (Nat.le_refl _)⟩
  have : u ∈ (x :: out.drop k).map sv := by simpa using hu
  exact sv_oneCell _ u this
theorem ins_end {w W w8 w9 : World} {g k L : Nat} {out : Nms} {x : List UInt8} {v9 : Value} {G9 : Option Nat} (hl : out.length = L) (hb : Below w.heap.size w W) (hg : w.heap.size ≤ g) (hb8 : Below W.heap.size W w8) (hk : k ≤ L)
    (hr9 : Rw w9 1 v9 (k + (1 + (L - k))) ((out.map sv).take k ++ ([sv x] ++ (out.drop k).map sv)) G9) (hm9 : Mvs (fun j => some j = some g) w8 w9) (hg9 : G9 = some g ∨ G9 = some w8.heap.size) : Tn w w9 v9 (out.take k ++ x :: out.drop k) := by
  have hb2 := hb.trans (hb8.mono hb.size)
  refine ⟨below_mvs hb2 hm9 (fun j hj e => by injection e with e; omega) (Nat.le_refl _), ?_⟩
  have hlen : (out.take k ++ x :: out.drop k).length = k + (1 + (L - k)) := by simp; omega
  have hcs : (out.take k ++ x :: out.drop k).map sv = (out.map sv).take k ++ ([sv x] ++ (out.drop k).map sv) := by simp [List.map_take]
  rcases hg9 with h | h
  · exact ⟨g, hg, by rw [hlen, hcs, ← h]; exact hr9⟩
  · exact ⟨w8.heap.size, hb2.size, by rw [hlen, hcs, ← h]; exact hr9⟩
set_option maxRecDepth 20000 in
set_option maxHeartbeats 4000000 in
theorem rmatch_any (P : List UInt8) (hP : P.length ≤ 200) {w : World} {v : Value} {xs : Nms} (hx : TX w v xs) (hl : xs.length ≤ 1000) (hn : ∀ n ∈ xs, n.length ≤ 200) :
    Calls Tryd.prog 23 #[v, .string ⟨P.toArray⟩] w fun e w' => ∃ v', e = .returned v' ∧ Texts w w' v' (matL (fitN P) xs) := by
  obtain ⟨A, c, rfl, hcs⟩ := hx
  have HX : Hid (TX w (.slice A xs.length c) xs) := ⟨A, c, rfl, hcs⟩
  have HNl := hide hn
  clear hcs hn
  obtain ⟨i0, hi, hz0, hz1, hz2⟩ := info_three strInfo
  go_enter Tryd.func23, Tryd.ntmps23
  go_wp2
  go_loopw [5, 12] (fun v5 v12 wr => ∃ i : Nat, v12 = .int .i64 i ∧ i ≤ xs.length ∧ Hid (Tn w wr v5 (matL (fitN P) (xs.take i)))) (fun _ v12 _ => xs.length - (intOf v12).toNat)
  case atStart => exact ⟨0, rfl, Nat.zero_le _, (Below.refl _ _).alloc (Nat.le_refl _) _, w.heap.size, Nat.le_refl _, Rw.new (e := 9) [] [] (Blk.new _ _ _) rfl rfl (Nat.le_refl _) (Nat.zero_le _)⟩
  case round =>
    obtain ⟨i, rfl, hi1, HT⟩ := hrel
    by_cases hlt : i < xs.length
    · have hlt' : (i : Int) < xs.length := by omega
      have HBr := hide HT.out.1
      obtain ⟨A', c', e', hcs⟩ := HX.out.below HBr.out
      cases e'
      obtain ⟨gx, ox, rfl, hgl, hcell⟩ := hcs i hlt
      have hNl : xs[i].length ≤ 200 := HNl.out _ (List.getElem_mem hlt)
      have HNx := hide (matL_next (f := fitN P) hlt)
      have HOr := hide (matL_ord (fitN P) (xs.take i))
      have hol : (matL (fitN P) (xs.take i)).length ≤ 1000 := Nat.le_trans (matL_len _ _) (by rw [List.length_take]; omega)
      have HF := hide (fun W => rfits_any P xs[i] W hP hNl)
      obtain ⟨T, hT⟩ : ∃ T, fitN P xs[i] = T := ⟨_, rfl⟩
      rw [hT] at HNx
      unfold fitN at hT
      rw [hT] at HF
      clear hT hcs hNl
      generalize xs[i] = x at *
      generalize matL (fitN P) (xs.take i) = out at *
      cases T with
      | false =>
        rw [if_neg (by simp)] at HNx
        go_wp2_with (go_at_call 16; refine (HF.out _).mono ?_; rintro e wq ⟨rfl, hbq⟩; replace HT := hide (HT.out.below hbq); clear hbq)
        go_roundw
        case rel => exact ⟨i + 1, by go_num, by omega, by rw [HNx.out]; exact HT.out⟩
        case measure => simp [intOf] <;> omega
      | true =>
        rw [if_pos rfl] at HNx
        obtain ⟨g, o, cap, rfl, hgw2, _, _, _, _⟩ := HT.out.form
        obtain ⟨L, HHl⟩ : ∃ L, Hid (out.length = L) := ⟨_, hide rfl⟩
        rw [HHl.out] at hol
        rw [HHl.out] at HT
        rw [HHl.out]
        go_upto_block 2 with (go_at_call 16; refine (HF.out _).mono ?_; rintro e wq ⟨rfl, hbq⟩; replace HT := hide (HT.out.below hbq); clear hbq)
        have hfm := HT.out.form
        obtain ⟨g', o', cap', e2, _, hgw, hcap, hrw, hcl⟩ := hfm
        rw [HHl.out] at e2
        cases e2
        rw [HHl.out] at hrw hcap
        have HR := hide hrw
        have HCl := hide hcl
        have HBq := hide HT.out.1
        clear hrw hcl
        go_cut [8] from 13 to 56 (fun v8 wx => wq = wx ∧ ∃ k : Nat, v8 = .int .i64 k ∧ k ≤ L ∧ Hid (∀ j (hj : j < out.length), k ≤ j → x < out[j]) ∧ Hid (∀ hk : 0 < k, ∀ hj : k - 1 < out.length, out[k - 1] ≤ x))
        case first =>
          go_wp2
          go_loopw [8] (fun v8 wx => wq = wx ∧ ∃ k : Nat, v8 = .int .i64 k ∧ k ≤ L ∧ Hid (∀ j (hj : j < out.length), k ≤ j → x < out[j])) (fun v8 _ => (intOf v8).toNat)
          case atStart => exact ⟨rfl, L, rfl, Nat.le_refl _, (fun j hj h => by have := HHl.out; omega)⟩
          case round =>
            obtain ⟨rfl, k, rfl, hkL, HG⟩ := hrel
            by_cases hk0 : k = 0
            · subst hk0
              go_wp2
              go_meet
              case rel => exact ⟨rfl, 0, rfl, Nat.zero_le _, HG.out, (fun h => by omega)⟩
            · obtain ⟨m, Hm⟩ : ∃ m, Hid (k = m + 1) := ⟨k - 1, by show _ = _; omega⟩
              have hk1 : (k : Int) - 1 = m := by have := Hm.out; omega
              have hkp : (0 : Int) < k := by omega
              have hmL : (m : Int) < L := by have := Hm.out; omega
              have hml : m < out.length := by have := Hm.out; have := HHl.out; omega
              have hcm := HCl.out m hml
              obtain ⟨p, hp⟩ : ∃ p, out[m] = p := ⟨_, rfl⟩
              rw [hp] at hcm
              by_cases hlp : x < p
              · have hbl : Op.bytesLess p x = false := by rw [bytesLess_eq]; exact decide_eq_false (fun h => List.lt_irrefl _ (List.lt_trans h hlp))
                have hpe : (p == x) = false := beq_eq_false_iff_ne.2 (fun e => by rw [e] at hlp; exact List.lt_irrefl _ hlp)
                have HG2 : Hid (∀ j (hj : j < out.length), m ≤ j → x < out[j]) := fun j hj h => by
                  by_cases hjm : j = m
                  · subst hjm
                    rw [hp]
                    exact hlp
                  · exact HG.out j hj (by have := Hm.out; omega)
                clear hp hlp
                go_wp2
                go_roundw
                case rel => exact ⟨trivial, m, by go_num, by have := Hm.out; omega, HG2.out⟩
                case measure => have := Hm.out; simp [intOf] <;> omega
              · have HG2 : Hid (∀ hk : 0 < k, ∀ hj : k - 1 < out.length, out[k - 1] ≤ x) := fun _ hj => by
                  have e : out[k - 1] = p := by rw [← hp]; congr 1; have := Hm.out; omega
                  rw [e]
                  exact List.not_lt.1 hlp
                clear hp
                by_cases hpx : p = x
                · subst hpx
                  have hbl : Op.bytesLess p p = false := by rw [bytesLess_eq]; exact decide_eq_false (List.lt_irrefl _)
                  clear hlp
                  go_wp2
                  go_meet
                  case rel => exact ⟨rfl, k, rfl, hkL, HG.out, HG2.out⟩
                · have hbl : Op.bytesLess p x = true := by rw [bytesLess_eq]; exact decide_eq_true (lt_of_le_ne (List.not_lt.1 hlp) hpx)
                  clear hlp hpx
                  go_wp2
                  go_meet
                  case rel => exact ⟨rfl, k, rfl, hkL, HG.out, HG2.out⟩
        case rest =>
          obtain ⟨hwq, k, rfl, hkL, HG, HG2⟩ := hcut
          subst hwq
          by_cases hin : 0 < k ∧ ∃ hj : k - 1 < out.length, out[k - 1] = x
          · obtain ⟨hk0, hj, hpx⟩ := hin
            have HI : Hid (insU x out = out) := ins_there HOr.out (by rw [← hpx]; exact List.getElem_mem hj)
            obtain ⟨m, Hm⟩ : ∃ m, Hid (k = m + 1) := ⟨k - 1, by show _ = _; omega⟩
            have hk1 : (k : Int) - 1 = m := by have := Hm.out; omega
            have hkp : (0 : Int) < k := by omega
            have hmL : (m : Int) < L := by have := Hm.out; omega
            have hml : m < out.length := by have := Hm.out; omega
            have hcm := HCl.out m hml
            have hme : out[m] = x := by rw [← hpx]; congr 1; have := Hm.out; omega
            rw [hme] at hcm
            clear hme hpx hj
            go_wp2
            go_roundw
            case rel => exact ⟨i + 1, by go_num, by omega, by rw [HNx.out, HI.out]; exact HT.out⟩
            case measure => simp [intOf] <;> omega
          · have HI : Hid (insU x out = out.take k ++ x :: out.drop k) := by
              refine ins_at HOr.out (by rw [HHl.out]; exact hkL) HG.out (fun hk0 => ?_)
              have hj : k - 1 < out.length := by have := HHl.out; omega
              exact lt_of_le_ne (HG2.out hk0 hj) (fun e => hin ⟨hk0, hj, e⟩)
            rw [HI.out] at HNx
            have s1 := slice_upto g o L cap k (by omega)
            have s2 := slice_frm g o L cap k hkL
            have HN1 : Hid (Rw (wq.drew.alloc (.cells #[.string ⟨x.toArray⟩] 9)) 1 (.slice (some ⟨wq.heap.size, 0, none⟩) 1 1) 1 [sv x] (some wq.heap.size)) := Rw.new (e := 9) [sv x] [] (Blk.new _ _ _) rfl rfl (Nat.le_refl _) (by decide)
            have HS1 : Hid (Src Tryd.prog 1 33 (frmV g o L cap k) (L - k) ((out.drop k).map sv) (wq.drew.alloc (.cells #[.string ⟨x.toArray⟩] 9))) := by
              have h1 := (HR.out.frm hkL).keep (S := fun _ => False) ((Mvs.refl _ wq).drew.alloc (.cells #[.string ⟨x.toArray⟩] 9)) (fun _ _ c => c)
              rw [← List.map_drop] at h1
              exact h1.src1 (by simp) (sv_oneCell _)
            have hcap2 : k ≤ cap := by omega
            go_upto_region 9 with fail
            go_cut [45] from 13 to 56 (fun v45 wx => wq = wx ∧ v45 = .bool false)
            case first =>
              by_cases hk0 : k = 0
              · subst hk0
                go_wp2
                go_meet
                case rel => exact ⟨rfl, rfl⟩
              · obtain ⟨m, Hm⟩ : ∃ m, Hid (k = m + 1) := ⟨k - 1, by show _ = _; omega⟩
                have hk1 : (k : Int) - 1 = m := by have := Hm.out; omega
                have hkp : (0 : Int) < k := by omega
                have hmL : (m : Int) < L := by have := Hm.out; omega
                have hml : m < out.length := by have := Hm.out; have := HHl.out; omega
                have hcm := HCl.out m hml
                obtain ⟨p, hp⟩ : ∃ p, out[m] = p := ⟨_, rfl⟩
                have hpx : p ≠ x := fun e => hin ⟨by omega, by have := Hm.out; omega, by rw [← e, ← hp]; congr 1; have := Hm.out; omega⟩
                rw [hp] at hcm
                have hpb : (p == x) = false := beq_eq_false_iff_ne.2 hpx
                clear hp hpx hin
                go_wp2
                go_meet
                case rel => exact ⟨rfl, rfl⟩
            case rest =>
              obtain ⟨hw9, rfl⟩ := hcut
              subst hw9
              clear hin
              go_upto_region 10 with fail
              refine regionL 9 (fun _ => True) (by kernel_rfl) ?_
              refine takeW (i := 0) (v := (.slice (some ⟨g, o, none⟩) L cap)) rfl (by kernel_rfl) (by kernel_rfl) (by kernel_rfl) rfl (fun _ _ _ h => h) (fun _ => trivial) (Or.inl ⟨by rfl, fun W _ => by go_simp⟩) ?_
              simp only [Act.put, List.getElem_toArray, List.getElem_cons_succ, List.getElem_cons_zero, List.setIfInBounds_toArray, List.set_cons_zero, List.set_cons_succ]
              refine takeW (i := 1) (v := (.int .i64 (k : Nat))) rfl (by kernel_rfl) (by kernel_rfl) (by kernel_rfl) rfl (fun _ _ _ h => h) (fun _ => trivial) (Or.inl ⟨by rfl, fun W _ => by go_simp⟩) ?_
              simp only [Act.put, List.getElem_toArray, List.getElem_cons_succ, List.getElem_cons_zero, List.setIfInBounds_toArray, List.set_cons_zero, List.set_cons_succ]
              refine takeW (i := 2) (v := (.slice (some ⟨g, o, none⟩) k cap)) rfl (by kernel_rfl) (by kernel_rfl) (by kernel_rfl) rfl (fun _ _ _ h => h) (fun _ => trivial) (Or.inl ⟨by rfl, fun W _ => by go_simp⟩) ?_
              simp only [Act.put, List.getElem_toArray, List.getElem_cons_succ, List.getElem_cons_zero, List.setIfInBounds_toArray, List.set_cons_zero, List.set_cons_succ]
              refine takeW (i := 3) (v := (.string ⟨x.toArray⟩)) rfl (by kernel_rfl) (by kernel_rfl) (by kernel_rfl) rfl (fun _ _ _ h => h) (fun _ => trivial) (Or.inl ⟨by rfl, fun W _ => by go_simp⟩) ?_
              simp only [Act.put, List.getElem_toArray, List.getElem_cons_succ, List.getElem_cons_zero, List.setIfInBounds_toArray, List.set_cons_zero, List.set_cons_succ]
              refine takeW (i := 5) (v := (.slice (some ⟨g, o, none⟩) L cap)) rfl (by kernel_rfl) (by kernel_rfl) (by kernel_rfl) rfl (fun _ _ _ h => h) (fun _ => trivial) (Or.inl ⟨by rfl, fun W _ => by go_simp⟩) ?_
              simp only [Act.put, List.getElem_toArray, List.getElem_cons_succ, List.getElem_cons_zero, List.setIfInBounds_toArray, List.set_cons_zero, List.set_cons_succ]
              refine takeW (i := 6) (v := (.int .i64 (k : Nat))) rfl (by kernel_rfl) (by kernel_rfl) (by kernel_rfl) rfl (fun _ _ _ h => h) (fun _ => trivial) (Or.inl ⟨by rfl, fun W _ => by go_simp⟩) ?_
              simp only [Act.put, List.getElem_toArray, List.getElem_cons_succ, List.getElem_cons_zero, List.setIfInBounds_toArray, List.set_cons_zero, List.set_cons_succ]
              refine takeW (i := 7) (v := (frmV g o L cap k)) rfl (by kernel_rfl) (by kernel_rfl) (by kernel_rfl) rfl (fun _ _ _ h => h) (fun _ => trivial) (Or.inl ⟨by rfl, fun W _ => by go_simp⟩) ?_
              simp only [Act.put, List.getElem_toArray, List.getElem_cons_succ, List.getElem_cons_zero, List.setIfInBounds_toArray, List.set_cons_zero, List.set_cons_succ]
              refine readyL (rs := [4]) (by kernel_rfl) (by simp) ?_
              refine AllL.cons rfl (fun K hK => ?_) AllL.nil
              try simp only [List.getElem_toArray, List.getElem_cons_succ, List.getElem_cons_zero]
              go_simp
              refine hK.out _ _ (fun _ => trivial) (fun _ => ?_)
              clear hK K
              try simp only [Act.put, List.getElem_toArray, List.getElem_cons_succ, List.getElem_cons_zero, List.setIfInBounds_toArray, List.set_cons_zero, List.set_cons_succ]
              refine readyL (rs := [8]) (by kernel_rfl) (by simp) ?_
              refine AllL.cons rfl (fun K hK => ?_) AllL.nil
              refine step_append_rw (by rfl) (.tmp 50) (.tmp 53) 33 33 (by rfl) 9 i0 (.string ⟨#[]⟩) 1 16 Tryd.underlying33 hi hz0 hz1 hz2 (by rfl) (by simp [Act.eval, Act.put]) HN1.out (frmV g o L cap k) (L - k) ((out.drop k).map sv) (by simp [Act.eval, Act.put]) HS1.out (by simp only [maxLen]; omega) (by omega) ?_
              intro v8 w8 G8 hr8 hm8 hg8
              have X8 := hide (ins_mid HR.out hgw hr8 hm8 hg8)
              clear hr8 hm8 hg8
              refine hK.out _ _ (fun _ => trivial) (fun _ => ?_)
              clear hK K
              try simp only [Act.put, List.getElem_toArray, List.getElem_cons_succ, List.getElem_cons_zero, List.setIfInBounds_toArray, List.set_cons_zero, List.set_cons_succ]
              refine readyL (rs := [9]) (by kernel_rfl) (by simp) ?_
              refine AllL.cons rfl (fun K hK => ?_) AllL.nil
              refine step_append_rw (by rfl) (.tmp 48) (.tmp 54) 33 33 (by rfl) 9 i0 (.string ⟨#[]⟩) 1 16 Tryd.underlying33 hi hz0 hz1 hz2 (by rfl) (by simp [Act.eval, Act.put]) (X8.out.1.upto hkL) v8 (1 + (L - k)) ([sv x] ++ (out.drop k).map sv) (by simp [Act.eval, Act.put]) X8.out.2.1 (by simp only [maxLen]; omega) (by omega) ?_
              intro v9 w9 G9 hr9 hm9 hg9
              have X9 := hide (ins_end HHl.out HBq.out hgw2 X8.out.2.2 hkL hr9 hm9 hg9)
              clear hr9 hm9 hg9 X8
              refine hK.out _ _ (fun _ => trivial) (fun _ => ?_)
              clear hK K
              try simp only [Act.put, List.getElem_toArray, List.getElem_cons_succ, List.getElem_cons_zero, List.setIfInBounds_toArray, List.set_cons_zero, List.set_cons_succ]
              refine readyL (rs := [10]) (by kernel_rfl) (by simp) ?_
              refine AllL.cons rfl (fun K hK => ?_) AllL.nil
              try simp only [List.getElem_toArray, List.getElem_cons_succ, List.getElem_cons_zero]
              go_simp
              refine hK.out _ _ (fun _ => trivial) (fun _ => ?_)
              clear hK K
              try simp only [Act.put, List.getElem_toArray, List.getElem_cons_succ, List.getElem_cons_zero, List.setIfInBounds_toArray, List.set_cons_zero, List.set_cons_succ]
              refine doneL (by kernel_rfl) ?_ _
              go_wp2
              go_roundw
              case rel => exact ⟨i + 1, by go_num, by omega, by rw [HNx.out]; exact X9.out⟩
              case measure => simp [intOf] <;> omega
    · obtain rfl : i = xs.length := by omega
      have hE := HT.out.texts
      rw [List.take_length] at hE
      have HE := hide hE
      clear hE
      go_wp2
      go_ret
      exact ⟨_, rfl, HE.out⟩
end Go.Proofs.YtelpjiiladbigaaDoor
