/- The document's Do, for any operations: what it puts is what the words ask. -/
import Derived.Test.YthhnlkbjpahjeaaGreatDoorU43
import Derived.Test.YthhnlkbjpahjeaaGreatDoorU44
import Derived.Deep.CutRange
import Derived.Sort.Walk0
namespace Go.Proofs.YthhnlkbjpahjeaaGreatDoor
open Go.RowKit Go.Maps Go.Sort
theorem lastAt_snoc (name : Nm) : ∀ (l : List (Nm × Nm)) (p : Nm × Nm) (was : Nm), lastAt name (l ++ [p]) was = if p.1 == name then p.2 else lastAt name l was
  | [], p, was => rfl
  | q :: l, p, was => by
    show lastAt name (l ++ [p]) _ = _
    rw [lastAt_snoc name l p]
    rfl
theorem lastAt_len (name : Nm) (m : Nat) : ∀ (l : List (Nm × Nm)) (was : Nm), was.length ≤ m → (∀ p ∈ l, p.2.length ≤ m) → (lastAt name l was).length ≤ m
  | [], was, h, _ => h
  | p :: l, was, h, hl => by
    refine lastAt_len name m l _ ?_ (fun q hq => hl q (by simp [hq]))
    split
    · exact hl p (by simp)
    · exact h
theorem headB_len (x : OpA) (was : Nm) : (headB x was).length ≤ was.length + x.bytes.length := by
  unfold headB
  split
  · rw [List.length_append, List.length_take]
    omega
  · omega
theorem ins_sub (name b : Nm) : ∀ (l : List (Nm × Nm)) (put : Bool) (p : Nm × Nm), p ∈ ins name b put l → p ∈ l ∨ p = (name, b)
  | [], put, p, h => by
    unfold ins at h
    split at h
    · cases h
    · exact .inr (List.mem_singleton.1 h)
  | q :: l, put, p, h => by
    unfold ins at h
    rcases List.mem_append.1 h with h | h
    · split at h
      · exact .inr (List.mem_singleton.1 h)
      · cases h
    · rcases List.mem_append.1 h with h | h
      · split at h
        · cases h
        · exact .inl (by rw [List.mem_singleton.1 h]; simp)
      · rcases ins_sub name b l _ p h with h | h
        · exact .inl (by simp [h])
        · exact .inr h
theorem doOne_len2 {x : OpA} {l : List (Nm × Nm)} {m : Nat} (h : ∀ p ∈ l, p.2.length ≤ m) : ∀ p ∈ doOne x l, p.2.length ≤ m + x.bytes.length := by
  intro p hp
  rcases ins_sub _ _ _ _ p hp with h1 | h1
  · have := h p h1
    omega
  · rw [h1]
    have h2 := headB_len x (lastAt x.name l [])
    have h3 := lastAt_len x.name m l [] (by simp) h
    show (headB x (lastAt x.name l [])).length ≤ _
    omega
theorem not_less (a b : Nm) : (!(Op.bytesLess a b)) = decide (b ≤ a) := by
  rw [bytesLess_eq, Bool.eq_iff_iff]
  simp only [Bool.not_eq_true', decide_eq_false_iff_not, decide_eq_true_eq]
  exact List.not_lt
theorem rows_at {W W2 : World} {lk : List (Nm × Nm)} {An Ab : Option Addr} {cn cb n i : Nat} (hM : Mvs (fun _ => False) W W2) (hn : n = lk.length) (h1 : TR W (.slice An n cn) (lk.map (·.1))) (h2 : TR W (.slice Ab n cb) (lk.map (·.2))) (hi : i < n) :
    ∃ g1 o1 g2 o2, An = some ⟨g1, o1, none⟩ ∧ Ab = some ⟨g2, o2, none⟩ ∧ g1 < W.heap.size ∧ g2 < W.heap.size ∧ ∃ p, lk[i]? = some p ∧ W2.cell? ⟨g1, o1 + i, none⟩ = some (.string ⟨p.1.toArray⟩) ∧ W2.cell? ⟨g2, o2 + i, none⟩ = some (.string ⟨p.2.toArray⟩) := by
  subst hn
  have hne : lk ≠ [] := fun e => by rw [e] at hi; simp at hi
  have e1 : lk.length = (lk.map (·.1)).length := by simp
  have e2 : lk.length = (lk.map (·.2)).length := by simp
  rw [e1] at h1
  rw [e2] at h2
  obtain ⟨g1, o1, rfl, k1, r1⟩ := TR.at h1 (by simpa using hne)
  obtain ⟨g2, o2, rfl, k2, r2⟩ := TR.at h2 (by simpa using hne)
  refine ⟨g1, o1, g2, o2, rfl, rfl, k1, k2, lk[i], by simp [hi], ?_, ?_⟩
  · have := r1 i (by simpa using hi)
    rw [List.getElem_map] at this
    exact (hM.cell (a := ⟨g1, o1 + i, none⟩) k1 (fun c => c)).trans this
  · have := r2 i (by simpa using hi)
    rw [List.getElem_map] at this
    exact (hM.cell (a := ⟨g2, o2 + i, none⟩) k2 (fun c => c)).trans this
theorem TR.keep2 {S : Nat → Prop} {w w' : World} {v : Value} {ns : List (List UInt8)} (h : TR w v ns) (hm : Mvs S w w') (hS : ns ≠ [] → ∀ A n c, v = .slice (some A) n c → ¬ S A.block) : TR w' v ns := by
  by_cases h0 : ns = []
  · subst h0
    obtain ⟨A, c, h1, h2, h3, h4, _⟩ := h
    exact ⟨A, c, h1, h2, h3, h4, fun c => absurd rfl c⟩
  · exact AR.keep h hm (hS h0)
theorem TR.lt {w : World} {v : Value} {ns : List (List UInt8)} (h : TR w v ns) (h0 : ns ≠ []) : ∀ A n c, v = .slice (some A) n c → A.block < w.heap.size := by
  rintro A n c rfl
  obtain ⟨A', c', e, h2, h3, h4, h5⟩ := h
  obtain ⟨g, o, rfl, hg, _⟩ := h5 (by simpa using h0)
  cases e
  exact hg
theorem FM.held {w0 w : World} {b : Nat} {vn vb v1 v2 : Value} {N1 N2 : Nat} {ns bs : List (List UInt8)} {G1 G2 : Option Nat} (h : FM w0 w b vn vb v1 v2 N1 N2 ns bs G1 G2) :
    ∀ W, Mvs (fun k => some k = G1 ∨ some k = G2) w W → W.cell? ⟨b, 0, none⟩ = some vn ∧ W.cell? ⟨b, 1, none⟩ = some vb ∧ ∀ a : Addr, a.block < w0.heap.size → W.cell? a = w.cell? a := by
  intro W hm
  have hb : Blk W b #[vn, vb] 37 := hm.blk h.blk (fun e => by
    rcases e with e | e
    · exact (h.g1 b e.symm).2.1 rfl
    · exact (h.g2 b e.symm).2 rfl)
  refine ⟨hb.cell 0, hb.cell 1, fun a ha => hm.cell (Nat.lt_of_lt_of_le ha h.bl.size) (fun e => ?_)⟩
  rcases e with e | e
  · have := (h.g1 _ e.symm).1
    omega
  · have := (h.g2 _ e.symm).1
    omega
theorem ins_step {nm hb : Nm} {put : Bool} {lk dl R : List (Nm × Nm)} {i : Nat} {p : Nm × Nm} (hp : lk[i]? = some p) (h : dl ++ ins nm hb put (lk.drop i) = R) : dl ++ ((if !put && decide (nm ≤ p.1) then [(nm, hb)] else []) ++ ((if p.1 == nm then [] else [p]) ++ ins nm hb (put || decide (nm ≤ p.1)) (lk.drop (i + 1)))) = R := by
  obtain ⟨hi, rfl⟩ := List.getElem?_eq_some_iff.1 hp
  rw [List.drop_eq_getElem_cons hi] at h
  exact h
theorem len_le {dl t R : List (Nm × Nm)} {N m : Nat} (hN : N = (dl.map (·.1)).length) (h : dl ++ t = R) (hR : R.length ≤ m) : N ≤ m := by
  rw [List.length_map] at hN
  rw [← h, List.length_append] at hR
  omega
theorem glue (was bytes : Nm) (m : Nat) : (⟨was.toArray⟩ : ByteArray).extract 0 m ++ ⟨bytes.toArray⟩ = ⟨(was.take m ++ bytes).toArray⟩ := by
  apply ByteArray.ext
  simp [ByteArray.data_extract]
set_option linter.unusedSimpArgs false in
set_option linter.unusedVariables false in
set_option maxRecDepth 40000 in
set_option maxHeartbeats 40000000 in
theorem rdo_any (w : World) (vn vb vo : Value) (l : List (Nm × Nm)) (xs : List OpA) (h1 : TR w vn (l.map (·.1))) (h2 : TR w vb (l.map (·.2))) (ho : OPs w vo xs) (hx : xs.length ≤ 20001) (hl : l.length ≤ 100) (hb : ∀ p ∈ l, p.2.length ≤ 1000000) (hsum : (xs.map (fun x => x.bytes.length)).sum ≤ 1000000) (F : Nat → Prop) (hF : ∀ b, w.heap.size ≤ b → F b) (hFv : l ≠ [] → ∀ (A : Addr) n c, vn = .slice (some A) n c ∨ vb = .slice (some A) n c → F A.block) :
    Calls Tryz.prog 9 #[.agg #[vn, vb], vo] w fun e w' => ∃ un ub, e = .returned (.agg #[un, ub]) ∧ TR w' un ((doAll l xs).map (·.1)) ∧ TR w' ub ((doAll l xs).map (·.2)) ∧ Below w.heap.size w w' ∧ (doAll l xs ≠ [] → ∀ (A : Addr) n c, un = .slice (some A) n c ∨ ub = .slice (some A) n c → F A.block) := by
  obtain ⟨i0, hi, hz0, hz1, hz2⟩ := info_parts strInfo
  obtain ⟨Ao, co, rfl, hc1, hc2⟩ := ho.form
  have HO := hide ho
  have HTT := hide (And.intro h1 h2)
  have HB0 := hide hb
  have HSm := hide hsum
  have HFf := hide hF
  have HFv := hide hFv
  clear ho h1 h2 hb hsum hF hFv
  go_enter Tryz.func9, Tryz.ntmps9
  go_wp2
  go_loopw [18] (fun v18 wr => ∃ (k : Nat) (lk : List (Nm × Nm)) (un ub : Value), v18 = .int .i64 k ∧ k ≤ xs.length ∧ Hid (Blk wr w.heap.size #[un, ub] 37) ∧ Hid (TR wr un (lk.map (·.1)) ∧ TR wr ub (lk.map (·.2))) ∧ Hid (∃ z, Blk wr (w.heap.size + 1) z 37 ∧ z.size = 2) ∧ Hid (Below w.heap.size w wr) ∧ Hid (doAll lk (xs.drop k) = doAll l xs) ∧ lk.length ≤ 100 + k ∧ Hid (lk ≠ [] → ∀ (A : Addr) n c, un = .slice (some A) n c ∨ ub = .slice (some A) n c → ¬ A.block = w.heap.size + 1) ∧ Hid (lk ≠ [] → ∀ (A : Addr) n c, un = .slice (some A) n c ∨ ub = .slice (some A) n c → F A.block) ∧ Hid (∀ p ∈ lk, p.2.length ≤ 1000000 + ((xs.take k).map (fun x => x.bytes.length)).sum)) (fun v18 _ => xs.length - (intOf v18).toNat)
  case atStart =>
    refine ⟨0, l, vn, vb, rfl, Nat.zero_le _, (Blk.new w _ _).alloc _, ?_, ⟨_, Blk.new1 w _ _ _, rfl⟩, ((Below.refl _ _).alloc (Nat.le_refl _) _).alloc (by simp) _, rfl, by omega, ?_, HFv, by simpa [Hid] using HB0.out⟩
    · exact ⟨HTT.out.1.keep (S := fun _ => False) (((Mvs.refl _ _).alloc _).alloc _) (fun _ _ _ _ c => c), HTT.out.2.keep (S := fun _ => False) (((Mvs.refl _ _).alloc _).alloc _) (fun _ _ _ _ c => c)⟩
    · intro h0 A n c e
      rcases e with e | e
      · have := HTT.out.1.lt (by simpa using h0) A n c e
        omega
      · have := HTT.out.2.lt (by simpa using h0) A n c e
        omega
  case round =>
    obtain ⟨k, lk, un, ub, rfl, hk, HF, HT, HRes, HB, HD, hlk, HOf, HFr, HBk⟩ := hrel
    clear HTT HB0 HFv
    have hbs := HB.out.size
    have hbf := HF.out.lt
    have hbr : w.heap.size + 1 < wr.heap.size := by
      obtain ⟨z, hz, _⟩ := HRes.out
      exact hz.lt
    by_cases hlt : k < xs.length
    · have hlt' : (k : Int) < xs.length := by omega
      obtain ⟨go, oo, rfl, hgo, _, hat⟩ := (HO.out.below HB.out).at hlt
      obtain ⟨a0, a1, a2, a3, a4⟩ := hat
      have HDo : Hid (doAll (doOne xs[k] lk) (xs.drop (k + 1)) = doAll l xs) := by
        have := HD.out
        rw [List.drop_eq_getElem_cons hlt] at this
        exact this
      have HBd : Hid (∀ p ∈ doOne xs[k] lk, p.2.length ≤ 1000000 + ((xs.take (k + 1)).map (fun x => x.bytes.length)).sum) := by
        intro p hp
        have := doOne_len2 HBk.out p hp
        rw [List.take_succ_eq_append_getElem hlt, List.map_append, List.sum_append]
        simp only [List.map_cons, List.map_nil, List.sum_cons, List.sum_nil]
        omega
      have hsm : ((xs.take k).map (fun x => x.bytes.length)).sum + xs[k].bytes.length ≤ 1000000 := by
        have h3 := HSm.out
        rw [← List.take_append_drop k xs, List.map_append, List.sum_append, List.drop_eq_getElem_cons hlt, List.map_cons, List.sum_cons] at h3
        omega
      have HLen := hide (fun l' (hl' : ∀ p ∈ l', p ∈ lk) => lastAt_len xs[k].name _ l' [] (by simp) (fun p hp => HBk.out p (hl' p hp)))
      have HRl : Hid ((doOne xs[k] lk).length ≤ lk.length + 1) := ins_len _ _ _ _
      have HHb := hide (headB_len xs[k] (lastAt xs[k].name lk []))
      obtain ⟨S0, hS0⟩ : ∃ S0, ((xs.take k).map (fun x => x.bytes.length)).sum = S0 := ⟨_, rfl⟩
      rw [hS0] at hsm HLen
      clear hS0 HD HBk HOf HFr
      generalize xs[k] = x at *
      obtain ⟨kd, nm, at_, val, bytes⟩ := x
      dsimp only at *
      obtain ⟨Av, nv, cv, rfl⟩ : ∃ A n c, val = .slice A n c := by
        obtain ⟨A, c, e, _⟩ := a4.form
        exact ⟨A, _, c, e⟩
      obtain ⟨R, HR⟩ : ∃ R, Hid (doOne ⟨kd, nm, at_, .slice Av nv cv, bytes⟩ lk = R) := ⟨_, rfl⟩
      rw [HR.out] at HDo HBd HRl
      obtain ⟨n, hn, ⟨An, cn, rfl, hn1, hn2⟩, Ab, cb, rfl, hb1, hb2⟩ : ∃ n, Hid (n = lk.length) ∧ (∃ A c, un = .slice A n c ∧ n ≤ c ∧ c ≤ maxLen) ∧ ∃ A c, ub = .slice A n c ∧ n ≤ c ∧ c ≤ maxLen := by
        refine ⟨_, rfl, ?_, ?_⟩
        · have := HT.out.1.form
          rw [List.length_map] at this
          exact this
        · have := HT.out.2.form
          rw [List.length_map] at this
          exact this
      have hM2 : Mvs (fun _ => False) wr ((wr.alloc (.cells #[.int .i64 kd, .string ⟨nm.toArray⟩, .int .i64 at_, .slice Av nv cv] 48)).alloc (.cells #[.slice none 0 0, .slice none 0 0] 37)) := ((Mvs.refl _ _).alloc _).alloc _
      have hcv : (convert 46 9 (.slice Av nv cv)).run Tryz.prog ((wr.alloc (.cells #[.int .i64 kd, .string ⟨nm.toArray⟩, .int .i64 at_, .slice Av nv cv] 48)).alloc (.cells #[.slice none 0 0, .slice none 0 0] 37)) = .ok (.string ⟨bytes.toArray⟩) ((wr.alloc (.cells #[.int .i64 kd, .string ⟨nm.toArray⟩, .int .i64 at_, .slice Av nv cv] 48)).alloc (.cells #[.slice none 0 0, .slice none 0 0] 37)) := BR.convert (a4.keep hM2 (fun _ _ _ _ c => c))
      have hcF := HF.out.cell
      have hnk : n ≤ 100 + k := by rw [hn.out]; exact hlk
      clear hM2
      go_wp2
      clear a0 a1 a2 a3 hcv hcF
      obtain ⟨W2, hW2⟩ : ∃ W2, Hid ((wr.alloc (.cells #[.int .i64 kd, .string ⟨nm.toArray⟩, .int .i64 at_, .slice Av nv cv] 48)).alloc (.cells #[.slice none 0 0, .slice none 0 0] 37) = W2) := ⟨_, rfl⟩
      rw [hW2.out]
      have hM2 : Mvs (fun _ => False) wr W2 := by rw [← hW2.out]; exact ((Mvs.refl _ _).alloc _).alloc _
      have hsz2 : wr.heap.size + 1 < W2.heap.size := by rw [← hW2.out]; simp
      have HOc : Hid (Blk W2 wr.heap.size #[.int .i64 kd, .string ⟨nm.toArray⟩, .int .i64 at_, .slice Av nv cv] 48) := by
        show Blk _ _ _ _
        rw [← hW2.out]
        exact (Blk.new wr _ _).alloc _
      have HUc : Hid (Blk W2 (wr.heap.size + 1) #[.slice none 0 0, .slice none 0 0] 37) := by
        show Blk _ _ _ _
        rw [← hW2.out]
        exact Blk.new1 wr _ _ _
      have HFc := hide (hM2.blk HF.out (fun c => c))
      have HAt := hide (fun i (hi : i < n) => rows_at hM2 hn.out HT.out.1 HT.out.2 hi)
      have HRes2 : Hid (∃ z, Blk W2 (w.heap.size + 1) z 37 ∧ z.size = 2) := by
        obtain ⟨z, hz, hzs⟩ := HRes.out
        exact ⟨z, hM2.blk hz (fun c => c), hzs⟩
      have HB2 : Hid (Below w.heap.size w W2) := HB.out.trans (hM2.below (fun _ _ c => c) hbs)
      clear hW2 hM2 HF HT HRes HB a4
      generalize hbO : wr.heap.size = bO at *
      clear hbO
      generalize hbU : bO + 1 = bU at *
      have hu1 : bO < bU := by omega
      clear hbU wr
      have hcO := HOc.out.cell
      have hcF := HFc.out.cell
      go_loopw [9, 32] (fun v9 v32 wq => ∃ (i : Nat) (was : Nm), v9 = .string ⟨was.toArray⟩ ∧ v32 = .int .i64 i ∧ i ≤ n ∧ W2 = wq ∧ Hid (was = lastAt nm (lk.take i) [])) (fun _ v32 _ => n - (intOf v32).toNat)
      case atStart => exact ⟨0, [], rfl, rfl, Nat.zero_le _, rfl, rfl⟩
      case round =>
        obtain ⟨i, was, rfl, rfl, hin, hww, HW⟩ := hrel
        subst hww
        by_cases hi1 : i < n
        · have hi2 : (i : Int) < (n : Int) := by omega
          obtain ⟨g1, o1, g2, o2, rfl, rfl, hg1, hg2, p, hp, q1, q2⟩ := HAt.out i hi1
          obtain ⟨pn, pb⟩ := p
          dsimp only at q1 q2
          have HTk : Hid (lk.take (i + 1) = lk.take i ++ [(pn, pb)]) := by show _ = _; rw [List.take_add_one, hp]; rfl
          have HNx : Hid (lastAt nm (lk.take (i + 1)) [] = if pn == nm then pb else was) := by show _ = _; rw [HTk.out, lastAt_snoc, HW.out]
          clear hp HTk HW
          by_cases e1 : nm = pn
          · subst e1
            rw [beq_self_eq_true, if_pos rfl] at HNx
            go_wp2

            go_roundw
            case rel => exact ⟨i + 1, _, rfl, by go_num, by omega, by first | rfl | trivial, HNx.out.symm⟩
            case measure => simp [intOf]; omega
          · have e3 : (pn == nm) = false := by rw [beq_eq_false_iff_ne]; exact fun c => e1 c.symm
            rw [e3, if_neg (by decide)] at HNx
            go_wp2
            go_roundw
            case rel => exact ⟨i + 1, _, rfl, by go_num, by omega, by first | rfl | trivial, HNx.out.symm⟩
            case measure => simp [intOf]; omega
        · have hi2 : ¬ (i : Int) < (n : Int) := by omega
          obtain rfl : n = i := by omega
          obtain ⟨hb, HHB⟩ : ∃ hb, Hid (hb = headB ⟨kd, nm, at_, .slice Av nv cv, bytes⟩ was) := ⟨_, rfl⟩
          obtain ⟨pt, HPT⟩ : ∃ pt, Hid (pt = (kd == 3)) := ⟨_, rfl⟩
          have HI0 : Hid ([] ++ ins nm hb pt (lk.drop 0) = R) := by
            show _ = _
            rw [← HR.out, HHB.out, HW.out, List.take_of_length_le (by rw [hn.out]; exact Nat.le_refl _), HPT.out]
            rfl
          have hwl : was.length ≤ 2000000 := by
            have h3 := HLen.out (lk.take n) (fun p hp => List.mem_of_mem_take hp)
            rw [← HW.out] at h3
            omega
          clear HW HR HHb HLen
          go_upto_if 49 with fail
          go_cut [8, 10] from 19 to 127 (fun v8 v10 wq => v8 = .string ⟨hb.toArray⟩ ∧ v10 = .bool pt ∧ W2 = wq)
          case first =>
            by_cases hk1 : kd = 1
            · have hk2 : (kd == 1) = true := by rw [hk1]; rfl
              have HHC : Hid (hb = was.take (max 0 (min at_ was.length)).toNat ++ bytes) := by
                show _ = _
                rw [HHB.out]
                unfold headB
                rw [if_pos hk1]
              have hby : bytes.length ≤ 1000000 := by omega
              have hm1 : max 0 (min at_ (was.length : Int)) ≤ (was.length : Int) := by omega
              have hm2 : 0 ≤ max 0 (min at_ (was.length : Int)) := by omega
              go_wp2
              go_meet
              case rel => exact ⟨by rw [HHC.out, ← glue], by rw [HPT.out, hk1]; rfl, by first | rfl | trivial⟩
            · have hk2 : (kd == 1) = false := by simpa using hk1
              have HHC : Hid (hb = bytes) := by
                show _ = _
                rw [HHB.out]
                unfold headB
                rw [if_neg hk1]
              go_wp2
              go_meet
              case rel => exact ⟨by rw [HHC.out], by rw [HPT.out], by first | rfl | trivial⟩
          case rest =>
            obtain ⟨rfl, rfl, hww⟩ := hcut
            subst hww
            clear HHB HPT hwl
            go_wp2
            have HM0 : Hid (FM W2 W2 bU (.slice none 0 0) (.slice none 0 0) (.slice none 0 0) (.slice none 0 0) 0 0 [] [] none none) := FM.new (Mvs.refl _ _) HUc.out
            clear HUc hcO hcF
            go_loopw [10, 64] (fun v10 v64 wq => ∃ (i : Nat) (put : Bool) (dl : List (Nm × Nm)) (N : Nat) (un ub : Value) (G1 G2 : Option Nat), v10 = .bool put ∧ v64 = .int .i64 i ∧ i ≤ n ∧ Hid (FM W2 wq bU un ub un ub N N (dl.map (·.1)) (dl.map (·.2)) G1 G2) ∧ Hid (dl ++ ins nm hb put (lk.drop i) = R)) (fun _ v64 _ => n - (intOf v64).toNat)
            case atStart => exact ⟨0, pt, [], 0, _, _, none, none, rfl, rfl, Nat.zero_le _, HM0, HI0⟩
            case round =>
              obtain ⟨w2, hw2⟩ : ∃ w2, w2 = wr := ⟨_, rfl⟩
              subst hw2
              obtain ⟨i, put, dl, N, un, ub, G1, G2, rfl, rfl, hin, HM, HI⟩ := hrel
              clear HM0 HI0
              obtain ⟨A1, c1, rfl⟩ := HM.out.rn.form
              obtain ⟨A2, c2, rfl⟩ := HM.out.rb.form
              have hN : N ≤ 30000 := by
                have h3 := len_le HM.out.len.1 HI.out HRl.out
                have h4 := hn.out
                omega
              have hcu := HM.out.blk.cell
              have hco := (HM.out.bl.blk HOc.out (by omega)).cell
              have hcf := (HM.out.bl.blk HFc.out (by omega)).cell
              by_cases hi1 : i < n
              · have hi2 : (i : Int) < (n : Int) := by omega
                obtain ⟨g1, o1, g2, o2, rfl, rfl, hg1, hg2, p, hp, q1', q2'⟩ := HAt.out i hi1
                have HIs := hide (ins_step hp HI.out)
                obtain ⟨pn, pb⟩ := p
                dsimp only at q1' q2' HIs
                have q1 := (HM.out.bl.cell (a := ⟨g1, o1 + i, none⟩) (by show g1 < _; omega) (by show ¬ g1 = _; omega)).trans q1'
                have q2 := (HM.out.bl.cell (a := ⟨g2, o2 + i, none⟩) (by show g2 < _; omega) (by show ¬ g2 = _; omega)).trans q2'
                have Q2 := hide q2'
                clear hp q1' q2' HI
                obtain ⟨tb, HTB⟩ : ∃ tb, Hid (tb = (!put && decide (nm ≤ pn))) := ⟨_, rfl⟩
                go_upto_region 19 with fail
                go_cut [76] from 65 to 110 (fun v76 wq => v76 = .bool tb ∧ w2 = wq)
                case first =>
                  cases put with
                  | true =>
                    go_wp2
                    go_meet
                    case rel => exact ⟨by rw [HTB.out]; rfl, by first | rfl | trivial⟩
                  | false =>
                    go_wp2
                    go_meet
                    case rel => exact ⟨by rw [HTB.out, ← not_less]; rfl, by first | rfl | trivial⟩
                case rest =>
                  obtain ⟨rfl, hww⟩ := hcut
                  subst hww
                  go_upto_if 76 with fail
                  go_cut [10] from 65 to 110 (fun v10 wq => ∃ (put : Bool) (dl : List (Nm × Nm)) (N : Nat) (un ub : Value) (G1 G2 : Option Nat), v10 = .bool put ∧ Hid (FM W2 wq bU un ub un ub N N (dl.map (·.1)) (dl.map (·.2)) G1 G2) ∧ Hid (dl ++ ((if pn == nm then [] else [(pn, pb)]) ++ ins nm hb put (lk.drop (i + 1))) = R))
                  case first =>
                    cases tb with
                    | true =>
                      have HInsT : Hid ((dl ++ [(nm, hb)]) ++ ((if pn == nm then [] else [(pn, pb)]) ++ ins nm hb true (lk.drop (i + 1))) = R) := by
                        show _ = _
                        have h3 := HIs.out
                        have h4 := HTB.out.symm
                        rw [if_pos h4] at h3
                        rw [Bool.and_eq_true] at h4
                        rw [h4.2, Bool.or_true] at h3
                        rw [List.append_assoc]
                        exact h3
                      have HM2 := HM
                      have HLT := hide HM2.out.lts
                      have HH := hide (fun W (hm : Mvs (fun k => some k = G1 ∨ some k = G2) w2 W) => (⟨(HM.out.held W hm).1, (HM.out.held W hm).2.1, ((HM.out.held W hm).2.2 ⟨bO, 1, none⟩ (by show bO < _; omega)).trans (hco 1)⟩ : W.cell? ⟨bU, 0, none⟩ = some (.slice A1 N c1) ∧ W.cell? ⟨bU, 1, none⟩ = some (.slice A2 N c2) ∧ W.cell? ⟨bO, 1, none⟩ = some (.string ⟨nm.toArray⟩)))
                      clear HM HIs HTB q1 q2 hcu hco hcf
                      go_upto_region 20 with fail
                      refine regionL 12 (fun W => W.cell? ⟨bU, 0, none⟩ = some (.slice A1 N c1) ∧ W.cell? ⟨bU, 1, none⟩ = some (.slice A2 N c2) ∧ W.cell? ⟨bO, 1, none⟩ = some (.string ⟨nm.toArray⟩)) (by kernel_rfl) ?_
                      have HT0 := HH.out w2.drew (Mvs.refl _ _).drew
                      refine takeW (i := 0) (v := (.pointer (some ⟨bU, 0, none⟩))) rfl (by kernel_rfl) (by kernel_rfl) (by kernel_rfl) rfl (fun _ _ _ h => h) (fun _ => HT0) (Or.inl ⟨by rfl, fun W _ => by go_simp⟩) ?_
                      simp only [Act.put, List.getElem_toArray, List.getElem_cons_succ, List.getElem_cons_zero, List.setIfInBounds_toArray, List.set_cons_zero, List.set_cons_succ]
                      refine takeL (i := 1) (v := (.slice A1 N c1)) rfl (by kernel_rfl) (by kernel_rfl) (by kernel_rfl) (by kernel_rfl) (by kernel_rfl) (fun _ _ _ h => h) HT0 (Or.inl ⟨by rfl, fun W hW => by obtain ⟨t0, t1, t2⟩ := hW; go_simp⟩) ?_
                      simp only [Act.put, List.getElem_toArray, List.getElem_cons_succ, List.getElem_cons_zero, List.setIfInBounds_toArray, List.set_cons_zero, List.set_cons_succ]
                      refine takeW (i := 2) (v := (.pointer (some ⟨bO, 1, none⟩))) rfl (by kernel_rfl) (by kernel_rfl) (by kernel_rfl) rfl (fun _ _ _ h => h) (fun _ => HT0) (Or.inl ⟨by rfl, fun W _ => by go_simp⟩) ?_
                      simp only [Act.put, List.getElem_toArray, List.getElem_cons_succ, List.getElem_cons_zero, List.setIfInBounds_toArray, List.set_cons_zero, List.set_cons_succ]
                      refine takeL (i := 3) (v := (.string ⟨nm.toArray⟩)) rfl (by kernel_rfl) (by kernel_rfl) (by kernel_rfl) (by kernel_rfl) (by kernel_rfl) (fun _ _ _ h => h) HT0 (Or.inl ⟨by rfl, fun W hW => by obtain ⟨t0, t1, t2⟩ := hW; go_simp⟩) ?_
                      simp only [Act.put, List.getElem_toArray, List.getElem_cons_succ, List.getElem_cons_zero, List.setIfInBounds_toArray, List.set_cons_zero, List.set_cons_succ]
                      refine takeW (i := 6) (v := (.pointer (some ⟨bU, 1, none⟩))) rfl (by kernel_rfl) (by kernel_rfl) (by kernel_rfl) rfl (fun _ _ _ h => h) (fun _ => HT0) (Or.inl ⟨by rfl, fun W _ => by go_simp⟩) ?_
                      simp only [Act.put, List.getElem_toArray, List.getElem_cons_succ, List.getElem_cons_zero, List.setIfInBounds_toArray, List.set_cons_zero, List.set_cons_succ]
                      refine takeL (i := 7) (v := (.slice A2 N c2)) rfl (by kernel_rfl) (by kernel_rfl) (by kernel_rfl) (by kernel_rfl) (by kernel_rfl) (fun _ _ _ h => h) HT0 (Or.inl ⟨by rfl, fun W hW => by obtain ⟨t0, t1, t2⟩ := hW; go_simp⟩) ?_
                      simp only [Act.put, List.getElem_toArray, List.getElem_cons_succ, List.getElem_cons_zero, List.setIfInBounds_toArray, List.set_cons_zero, List.set_cons_succ]
                      refine takeW (i := 8) (v := (.string ⟨hb.toArray⟩)) rfl (by kernel_rfl) (by kernel_rfl) (by kernel_rfl) rfl (fun _ _ _ h => h) (fun _ => HT0) (Or.inl ⟨by rfl, fun W _ => by go_simp⟩) ?_
                      simp only [Act.put, List.getElem_toArray, List.getElem_cons_succ, List.getElem_cons_zero, List.setIfInBounds_toArray, List.set_cons_zero, List.set_cons_succ]
                      refine readyL (rs := [4, 9]) (by kernel_rfl) (by simp) ?_
                      refine AllL.cons rfl (fun K hK => ?_) (AllL.cons rfl (fun K hK => ?_) AllL.nil)
                      · skip
                        try simp only [List.getElem_toArray, List.getElem_cons_succ, List.getElem_cons_zero]
                        go_simp
                        refine hK.out _ _ (fun _ => HH.out _ (by ((repeat (first | exact Mvs.refl _ _ | assumption | (refine Mvs.alloc ?_ _) | (refine Mvs.drew ?_) | (refine Mvs.drewN ?_ _))); done))) (fun HTn => ?_)
                        clear HT0
                        have HT0 := HTn (by kernel_rfl)
                        clear HTn
                        clear hK K
                        refine readyL (rs := [5, 9]) (by kernel_rfl) (by simp) ?_
                        refine AllL.cons rfl (fun K hK => ?_) (AllL.cons rfl (fun K hK => ?_) AllL.nil)
                        · skip
                          refine step_append_rw (by rfl) (.tmp 78) (.tmp 81) 35 35 (by rfl) 9 i0 (.string ByteArray.empty) 1 16 Tryz.underlying35 hi hz0 hz1 hz2 (by rfl) (by simp [Act.eval, Act.put]) (HM2.out.then (by (repeat (first | exact Below.refl _ _ | exact below_drewN _ _ | (refine Below.alloc ?_ (by simp) _) | (refine Below.drew ?_))))).rn (.slice (some ⟨w2.heap.size, 0, none⟩) 1 1) 1 [encStr nm] (by simp [Act.eval, Act.put]) (src_txt (by (first | (simp; done) | (exact ((Blk.new w2 _ _).alloc _).drw.cell 0) | (exact (Blk.new1 w2 _ _ _).drw.cell 0) | (exact ((Blk.new w2 _ _).alloc _).cell 0) | (exact (Blk.new1 w2 _ _ _).cell 0))) (by (first | (simp; done) | (simp; omega) | (simp at hs4 ⊢; omega)))) (by simp only [maxLen]; omega) (by omega) ?_
                          intro v4 w4 G4 hr4 hm4 hg4
                          obtain ⟨A4, c4, rfl⟩ := hr4.form
                          have HM4 := hide ((HM2.out.then (by (repeat (first | exact Below.refl _ _ | exact below_drewN _ _ | (refine Below.alloc ?_ (by simp) _) | (refine Below.drew ?_))))).names hr4 hm4 hg4)
                          have HV4 := hide hm4
                          have hv4 : Mvs (fun k => some k = G1 ∨ some k = G2) w2 w4 := Mvs.trans (by ((repeat (first | exact Mvs.refl _ _ | assumption | (refine Mvs.alloc ?_ _) | (refine Mvs.drew ?_) | (refine Mvs.drewN ?_ _))); done)) (hm4.mono (fun _ _ e => Or.inl e))
                          have hs4 := hm4.size
                          clear hr4 hm4 hg4
                          refine hK.out _ _ (fun _ => HH.out _ (by ((repeat (first | exact Mvs.refl _ _ | assumption | (refine Mvs.alloc ?_ _) | (refine Mvs.drew ?_) | (refine Mvs.drewN ?_ _))); done))) (fun HTn => ?_)
                          clear hK K HT0
                          have HT0 := HTn (by kernel_rfl)
                          clear HTn
                          simp only [Act.put, List.getElem_toArray, List.getElem_cons_succ, List.getElem_cons_zero, List.setIfInBounds_toArray, List.set_cons_zero, List.set_cons_succ]
                          refine takeW (i := 11) (v := (.pointer (some ⟨bU, 0, none⟩))) rfl (by kernel_rfl) (by kernel_rfl) (by kernel_rfl) rfl (fun _ _ _ h => h) (fun _ => HT0) (Or.inl ⟨by rfl, fun W _ => by go_simp⟩) ?_
                          simp only [Act.put, List.getElem_toArray, List.getElem_cons_succ, List.getElem_cons_zero, List.setIfInBounds_toArray, List.set_cons_zero, List.set_cons_succ]
                          refine readyL (rs := [9]) (by kernel_rfl) (by simp) ?_
                          refine AllL.cons rfl (fun K hK => ?_) AllL.nil
                          try simp only [List.getElem_toArray, List.getElem_cons_succ, List.getElem_cons_zero]
                          go_simp
                          refine hK.out _ _ (fun _ => HH.out _ (by ((repeat (first | exact Mvs.refl _ _ | assumption | (refine Mvs.alloc ?_ _) | (refine Mvs.drew ?_) | (refine Mvs.drewN ?_ _))); done))) (fun HTn => ?_)
                          clear HT0
                          have HT0 := HTn (by kernel_rfl)
                          clear HTn
                          clear hK K
                          refine readyL (rs := [10]) (by kernel_rfl) (by simp) ?_
                          refine AllL.cons rfl (fun K hK => ?_) AllL.nil
                          refine step_append_rw (by rfl) (.tmp 84) (.tmp 86) 35 35 (by rfl) 9 i0 (.string ByteArray.empty) 1 16 Tryz.underlying35 hi hz0 hz1 hz2 (by rfl) (by simp [Act.eval, Act.put]) (HM4.out.then (by (repeat (first | exact Below.refl _ _ | exact below_drewN _ _ | (refine Below.alloc ?_ (by simp) _) | (refine Below.drew ?_))))).rb (.slice (some ⟨w4.heap.size, 0, none⟩) 1 1) 1 [encStr hb] (by simp [Act.eval, Act.put]) (src_txt (by (first | (simp; done) | (exact (Blk.new w4 _ _).drw.cell 0) | (exact (Blk.new w4 _ _).cell 0))) (by (first | (simp; done) | (simp; omega) | (simp at hs4 ⊢; omega)))) (by simp only [maxLen]; omega) (by omega) ?_
                          intro v5 w5 G5 hr5 hm5 hg5
                          obtain ⟨A5, c5, rfl⟩ := hr5.form
                          have HM5 := hide ((HM4.out.then (by (repeat (first | exact Below.refl _ _ | exact below_drewN _ _ | (refine Below.alloc ?_ (by simp) _) | (refine Below.drew ?_))))).texts hr5 hm5 hg5)
                          have hcb := HM5.out.blk.cell
                          have hfb := HM5.out.blk.frozen
                          have hv5 : Mvs (fun k => some k = G1 ∨ some k = G2) w2 w5 := hv4.trans (Mvs.trans (by ((repeat (first | exact Mvs.refl _ _ | assumption | (refine Mvs.alloc ?_ _) | (refine Mvs.drew ?_) | (refine Mvs.drewN ?_ _))); done)) (hm5.mono (fun _ _ e => Or.inr e)))
                          clear hr5 hm5 hg5
                          refine hK.out _ _ (fun _ => HH.out _ (by ((repeat (first | exact Mvs.refl _ _ | assumption | (refine Mvs.alloc ?_ _) | (refine Mvs.drew ?_) | (refine Mvs.drewN ?_ _))); done))) (fun HTn => ?_)
                          clear hK K HT0
                          have HT0 := HTn (by kernel_rfl)
                          clear HTn
                          simp only [Act.put, List.getElem_toArray, List.getElem_cons_succ, List.getElem_cons_zero, List.setIfInBounds_toArray, List.set_cons_zero, List.set_cons_succ]
                          refine readyL (rs := [12]) (by kernel_rfl) (by simp) ?_
                          refine AllL.cons rfl (fun K hK => ?_) AllL.nil
                          try simp only [List.getElem_toArray, List.getElem_cons_succ, List.getElem_cons_zero]
                          go_simp
                          refine hK.out _ _ (vac (by kernel_rfl)) (fun _ => ?_)
                          clear hK K
                          refine readyL (rs := [13]) (by kernel_rfl) (by simp) ?_
                          refine AllL.cons rfl (fun K hK => ?_) AllL.nil
                          try simp only [List.getElem_toArray, List.getElem_cons_succ, List.getElem_cons_zero]
                          go_simp
                          refine hK.out _ _ (vac (by kernel_rfl)) (fun _ => ?_)
                          clear hK K
                          refine readyL (rs := [14]) (by kernel_rfl) (by simp) ?_
                          refine AllL.cons rfl (fun K hK => ?_) AllL.nil
                          try simp only [List.getElem_toArray, List.getElem_cons_succ, List.getElem_cons_zero]
                          go_simp
                          refine hK.out _ _ (vac (by kernel_rfl)) (fun _ => ?_)
                          clear hK K
                          refine doneL (by kernel_rfl) ?_ _
                          have HE := hide HM5.out.stored
                          clear HM4 HM5 HM2 HH hcb hfb hv4 hv5 HV4 hs4 HT0
                          go_wp2
                          go_meet
                          case rel => exact ⟨true, dl ++ [(nm, hb)], N + 1, _, _, G4, G5, rfl, by rw [List.map_append, List.map_append]; exact HE, HInsT⟩
                        · skip
                          try simp only [List.getElem_toArray, List.getElem_cons_succ, List.getElem_cons_zero]
                          go_simp
                          refine hK.out _ _ (fun _ => HH.out _ (by ((repeat (first | exact Mvs.refl _ _ | assumption | (refine Mvs.alloc ?_ _) | (refine Mvs.drew ?_) | (refine Mvs.drewN ?_ _))); done))) (fun HTn => ?_)
                          clear HT0
                          have HT0 := HTn (by kernel_rfl)
                          clear HTn
                          clear hK K
                          refine readyL (rs := [5]) (by kernel_rfl) (by simp) ?_
                          refine AllL.cons rfl (fun K hK => ?_) AllL.nil
                          refine step_append_rw (by rfl) (.tmp 78) (.tmp 81) 35 35 (by rfl) 9 i0 (.string ByteArray.empty) 1 16 Tryz.underlying35 hi hz0 hz1 hz2 (by rfl) (by simp [Act.eval, Act.put]) (HM2.out.then (by (repeat (first | exact Below.refl _ _ | exact below_drewN _ _ | (refine Below.alloc ?_ (by simp) _) | (refine Below.drew ?_))))).rn (.slice (some ⟨w2.heap.size, 0, none⟩) 1 1) 1 [encStr nm] (by simp [Act.eval, Act.put]) (src_txt (by (first | (simp; done) | (exact ((Blk.new w2 _ _).alloc _).drw.cell 0) | (exact (Blk.new1 w2 _ _ _).drw.cell 0) | (exact ((Blk.new w2 _ _).alloc _).cell 0) | (exact (Blk.new1 w2 _ _ _).cell 0))) (by (first | (simp; done) | (simp; omega) | (simp at hs4 ⊢; omega)))) (by simp only [maxLen]; omega) (by omega) ?_
                          intro v4 w4 G4 hr4 hm4 hg4
                          obtain ⟨A4, c4, rfl⟩ := hr4.form
                          have HM4 := hide ((HM2.out.then (by (repeat (first | exact Below.refl _ _ | exact below_drewN _ _ | (refine Below.alloc ?_ (by simp) _) | (refine Below.drew ?_))))).names hr4 hm4 hg4)
                          have HV4 := hide hm4
                          have hv4 : Mvs (fun k => some k = G1 ∨ some k = G2) w2 w4 := Mvs.trans (by ((repeat (first | exact Mvs.refl _ _ | assumption | (refine Mvs.alloc ?_ _) | (refine Mvs.drew ?_) | (refine Mvs.drewN ?_ _))); done)) (hm4.mono (fun _ _ e => Or.inl e))
                          have hs4 := hm4.size
                          clear hr4 hm4 hg4
                          refine hK.out _ _ (fun _ => HH.out _ (by ((repeat (first | exact Mvs.refl _ _ | assumption | (refine Mvs.alloc ?_ _) | (refine Mvs.drew ?_) | (refine Mvs.drewN ?_ _))); done))) (fun HTn => ?_)
                          clear hK K HT0
                          have HT0 := HTn (by kernel_rfl)
                          clear HTn
                          simp only [Act.put, List.getElem_toArray, List.getElem_cons_succ, List.getElem_cons_zero, List.setIfInBounds_toArray, List.set_cons_zero, List.set_cons_succ]
                          refine takeW (i := 11) (v := (.pointer (some ⟨bU, 0, none⟩))) rfl (by kernel_rfl) (by kernel_rfl) (by kernel_rfl) rfl (fun _ _ _ h => h) (fun _ => HT0) (Or.inl ⟨by rfl, fun W _ => by go_simp⟩) ?_
                          simp only [Act.put, List.getElem_toArray, List.getElem_cons_succ, List.getElem_cons_zero, List.setIfInBounds_toArray, List.set_cons_zero, List.set_cons_succ]
                          refine readyL (rs := [10]) (by kernel_rfl) (by simp) ?_
                          refine AllL.cons rfl (fun K hK => ?_) AllL.nil
                          refine step_append_rw (by rfl) (.tmp 84) (.tmp 86) 35 35 (by rfl) 9 i0 (.string ByteArray.empty) 1 16 Tryz.underlying35 hi hz0 hz1 hz2 (by rfl) (by simp [Act.eval, Act.put]) (HM4.out.then (by (repeat (first | exact Below.refl _ _ | exact below_drewN _ _ | (refine Below.alloc ?_ (by simp) _) | (refine Below.drew ?_))))).rb (.slice (some ⟨(w2.heap.size + 1), 0, none⟩) 1 1) 1 [encStr hb] (by simp [Act.eval, Act.put]) (src_txt (by (exact (HV4.out.cell (a := ⟨(w2.heap.size + 1), 0, none⟩) (by first | (simp; done) | (simp; omega)) (by intro e; have h2 : (w2.heap.size + 1) < w2.heap.size := HLT.out _ (Or.inl e.symm); omega)).trans (by (first | (simp; done) | (exact ((Blk.new w2 _ _).alloc _).drw.cell 0) | (exact (Blk.new1 w2 _ _ _).drw.cell 0) | (exact ((Blk.new w2 _ _).alloc _).cell 0) | (exact (Blk.new1 w2 _ _ _).cell 0))))) (by (first | (simp; done) | (simp; omega) | (simp at hs4 ⊢; omega)))) (by simp only [maxLen]; omega) (by omega) ?_
                          intro v5 w5 G5 hr5 hm5 hg5
                          obtain ⟨A5, c5, rfl⟩ := hr5.form
                          have HM5 := hide ((HM4.out.then (by (repeat (first | exact Below.refl _ _ | exact below_drewN _ _ | (refine Below.alloc ?_ (by simp) _) | (refine Below.drew ?_))))).texts hr5 hm5 hg5)
                          have hcb := HM5.out.blk.cell
                          have hfb := HM5.out.blk.frozen
                          have hv5 : Mvs (fun k => some k = G1 ∨ some k = G2) w2 w5 := hv4.trans (Mvs.trans (by ((repeat (first | exact Mvs.refl _ _ | assumption | (refine Mvs.alloc ?_ _) | (refine Mvs.drew ?_) | (refine Mvs.drewN ?_ _))); done)) (hm5.mono (fun _ _ e => Or.inr e)))
                          clear hr5 hm5 hg5
                          refine hK.out _ _ (fun _ => HH.out _ (by ((repeat (first | exact Mvs.refl _ _ | assumption | (refine Mvs.alloc ?_ _) | (refine Mvs.drew ?_) | (refine Mvs.drewN ?_ _))); done))) (fun HTn => ?_)
                          clear hK K HT0
                          have HT0 := HTn (by kernel_rfl)
                          clear HTn
                          simp only [Act.put, List.getElem_toArray, List.getElem_cons_succ, List.getElem_cons_zero, List.setIfInBounds_toArray, List.set_cons_zero, List.set_cons_succ]
                          refine readyL (rs := [12]) (by kernel_rfl) (by simp) ?_
                          refine AllL.cons rfl (fun K hK => ?_) AllL.nil
                          try simp only [List.getElem_toArray, List.getElem_cons_succ, List.getElem_cons_zero]
                          go_simp
                          refine hK.out _ _ (vac (by kernel_rfl)) (fun _ => ?_)
                          clear hK K
                          refine readyL (rs := [13]) (by kernel_rfl) (by simp) ?_
                          refine AllL.cons rfl (fun K hK => ?_) AllL.nil
                          try simp only [List.getElem_toArray, List.getElem_cons_succ, List.getElem_cons_zero]
                          go_simp
                          refine hK.out _ _ (vac (by kernel_rfl)) (fun _ => ?_)
                          clear hK K
                          refine readyL (rs := [14]) (by kernel_rfl) (by simp) ?_
                          refine AllL.cons rfl (fun K hK => ?_) AllL.nil
                          try simp only [List.getElem_toArray, List.getElem_cons_succ, List.getElem_cons_zero]
                          go_simp
                          refine hK.out _ _ (vac (by kernel_rfl)) (fun _ => ?_)
                          clear hK K
                          refine doneL (by kernel_rfl) ?_ _
                          have HE := hide HM5.out.stored
                          clear HM4 HM5 HM2 HH hcb hfb hv4 hv5 HV4 hs4 HT0
                          go_wp2
                          go_meet
                          case rel => exact ⟨true, dl ++ [(nm, hb)], N + 1, _, _, G4, G5, rfl, by rw [List.map_append, List.map_append]; exact HE, HInsT⟩
                      · skip
                        try simp only [List.getElem_toArray, List.getElem_cons_succ, List.getElem_cons_zero]
                        go_simp
                        refine hK.out _ _ (fun _ => HH.out _ (by ((repeat (first | exact Mvs.refl _ _ | assumption | (refine Mvs.alloc ?_ _) | (refine Mvs.drew ?_) | (refine Mvs.drewN ?_ _))); done))) (fun HTn => ?_)
                        clear HT0
                        have HT0 := HTn (by kernel_rfl)
                        clear HTn
                        clear hK K
                        refine readyL (rs := [4]) (by kernel_rfl) (by simp) ?_
                        refine AllL.cons rfl (fun K hK => ?_) AllL.nil
                        try simp only [List.getElem_toArray, List.getElem_cons_succ, List.getElem_cons_zero]
                        go_simp
                        refine hK.out _ _ (fun _ => HH.out _ (by ((repeat (first | exact Mvs.refl _ _ | assumption | (refine Mvs.alloc ?_ _) | (refine Mvs.drew ?_) | (refine Mvs.drewN ?_ _))); done))) (fun HTn => ?_)
                        clear HT0
                        have HT0 := HTn (by kernel_rfl)
                        clear HTn
                        clear hK K
                        refine readyL (rs := [5]) (by kernel_rfl) (by simp) ?_
                        refine AllL.cons rfl (fun K hK => ?_) AllL.nil
                        refine step_append_rw (by rfl) (.tmp 78) (.tmp 81) 35 35 (by rfl) 9 i0 (.string ByteArray.empty) 1 16 Tryz.underlying35 hi hz0 hz1 hz2 (by rfl) (by simp [Act.eval, Act.put]) (HM2.out.then (by (repeat (first | exact Below.refl _ _ | exact below_drewN _ _ | (refine Below.alloc ?_ (by simp) _) | (refine Below.drew ?_))))).rn (.slice (some ⟨(w2.heap.size + 1), 0, none⟩) 1 1) 1 [encStr nm] (by simp [Act.eval, Act.put]) (src_txt (by (first | (simp; done) | (exact ((Blk.new w2 _ _).alloc _).drw.cell 0) | (exact (Blk.new1 w2 _ _ _).drw.cell 0) | (exact ((Blk.new w2 _ _).alloc _).cell 0) | (exact (Blk.new1 w2 _ _ _).cell 0))) (by (first | (simp; done) | (simp; omega) | (simp at hs4 ⊢; omega)))) (by simp only [maxLen]; omega) (by omega) ?_
                        intro v4 w4 G4 hr4 hm4 hg4
                        obtain ⟨A4, c4, rfl⟩ := hr4.form
                        have HM4 := hide ((HM2.out.then (by (repeat (first | exact Below.refl _ _ | exact below_drewN _ _ | (refine Below.alloc ?_ (by simp) _) | (refine Below.drew ?_))))).names hr4 hm4 hg4)
                        have HV4 := hide hm4
                        have hv4 : Mvs (fun k => some k = G1 ∨ some k = G2) w2 w4 := Mvs.trans (by ((repeat (first | exact Mvs.refl _ _ | assumption | (refine Mvs.alloc ?_ _) | (refine Mvs.drew ?_) | (refine Mvs.drewN ?_ _))); done)) (hm4.mono (fun _ _ e => Or.inl e))
                        have hs4 := hm4.size
                        clear hr4 hm4 hg4
                        refine hK.out _ _ (fun _ => HH.out _ (by ((repeat (first | exact Mvs.refl _ _ | assumption | (refine Mvs.alloc ?_ _) | (refine Mvs.drew ?_) | (refine Mvs.drewN ?_ _))); done))) (fun HTn => ?_)
                        clear hK K HT0
                        have HT0 := HTn (by kernel_rfl)
                        clear HTn
                        simp only [Act.put, List.getElem_toArray, List.getElem_cons_succ, List.getElem_cons_zero, List.setIfInBounds_toArray, List.set_cons_zero, List.set_cons_succ]
                        refine takeW (i := 11) (v := (.pointer (some ⟨bU, 0, none⟩))) rfl (by kernel_rfl) (by kernel_rfl) (by kernel_rfl) rfl (fun _ _ _ h => h) (fun _ => HT0) (Or.inl ⟨by rfl, fun W _ => by go_simp⟩) ?_
                        simp only [Act.put, List.getElem_toArray, List.getElem_cons_succ, List.getElem_cons_zero, List.setIfInBounds_toArray, List.set_cons_zero, List.set_cons_succ]
                        refine readyL (rs := [10]) (by kernel_rfl) (by simp) ?_
                        refine AllL.cons rfl (fun K hK => ?_) AllL.nil
                        refine step_append_rw (by rfl) (.tmp 84) (.tmp 86) 35 35 (by rfl) 9 i0 (.string ByteArray.empty) 1 16 Tryz.underlying35 hi hz0 hz1 hz2 (by rfl) (by simp [Act.eval, Act.put]) (HM4.out.then (by (repeat (first | exact Below.refl _ _ | exact below_drewN _ _ | (refine Below.alloc ?_ (by simp) _) | (refine Below.drew ?_))))).rb (.slice (some ⟨w2.heap.size, 0, none⟩) 1 1) 1 [encStr hb] (by simp [Act.eval, Act.put]) (src_txt (by (exact (HV4.out.cell (a := ⟨w2.heap.size, 0, none⟩) (by first | (simp; done) | (simp; omega)) (by intro e; have h2 : w2.heap.size < w2.heap.size := HLT.out _ (Or.inl e.symm); omega)).trans (by (first | (simp; done) | (exact ((Blk.new w2 _ _).alloc _).drw.cell 0) | (exact (Blk.new1 w2 _ _ _).drw.cell 0) | (exact ((Blk.new w2 _ _).alloc _).cell 0) | (exact (Blk.new1 w2 _ _ _).cell 0))))) (by (first | (simp; done) | (simp; omega) | (simp at hs4 ⊢; omega)))) (by simp only [maxLen]; omega) (by omega) ?_
                        intro v5 w5 G5 hr5 hm5 hg5
                        obtain ⟨A5, c5, rfl⟩ := hr5.form
                        have HM5 := hide ((HM4.out.then (by (repeat (first | exact Below.refl _ _ | exact below_drewN _ _ | (refine Below.alloc ?_ (by simp) _) | (refine Below.drew ?_))))).texts hr5 hm5 hg5)
                        have hcb := HM5.out.blk.cell
                        have hfb := HM5.out.blk.frozen
                        have hv5 : Mvs (fun k => some k = G1 ∨ some k = G2) w2 w5 := hv4.trans (Mvs.trans (by ((repeat (first | exact Mvs.refl _ _ | assumption | (refine Mvs.alloc ?_ _) | (refine Mvs.drew ?_) | (refine Mvs.drewN ?_ _))); done)) (hm5.mono (fun _ _ e => Or.inr e)))
                        clear hr5 hm5 hg5
                        refine hK.out _ _ (fun _ => HH.out _ (by ((repeat (first | exact Mvs.refl _ _ | assumption | (refine Mvs.alloc ?_ _) | (refine Mvs.drew ?_) | (refine Mvs.drewN ?_ _))); done))) (fun HTn => ?_)
                        clear hK K HT0
                        have HT0 := HTn (by kernel_rfl)
                        clear HTn
                        simp only [Act.put, List.getElem_toArray, List.getElem_cons_succ, List.getElem_cons_zero, List.setIfInBounds_toArray, List.set_cons_zero, List.set_cons_succ]
                        refine readyL (rs := [12]) (by kernel_rfl) (by simp) ?_
                        refine AllL.cons rfl (fun K hK => ?_) AllL.nil
                        try simp only [List.getElem_toArray, List.getElem_cons_succ, List.getElem_cons_zero]
                        go_simp
                        refine hK.out _ _ (vac (by kernel_rfl)) (fun _ => ?_)
                        clear hK K
                        refine readyL (rs := [13]) (by kernel_rfl) (by simp) ?_
                        refine AllL.cons rfl (fun K hK => ?_) AllL.nil
                        try simp only [List.getElem_toArray, List.getElem_cons_succ, List.getElem_cons_zero]
                        go_simp
                        refine hK.out _ _ (vac (by kernel_rfl)) (fun _ => ?_)
                        clear hK K
                        refine readyL (rs := [14]) (by kernel_rfl) (by simp) ?_
                        refine AllL.cons rfl (fun K hK => ?_) AllL.nil
                        try simp only [List.getElem_toArray, List.getElem_cons_succ, List.getElem_cons_zero]
                        go_simp
                        refine hK.out _ _ (vac (by kernel_rfl)) (fun _ => ?_)
                        clear hK K
                        refine doneL (by kernel_rfl) ?_ _
                        have HE := hide HM5.out.stored
                        clear HM4 HM5 HM2 HH hcb hfb hv4 hv5 HV4 hs4 HT0
                        go_wp2
                        go_meet
                        case rel => exact ⟨true, dl ++ [(nm, hb)], N + 1, _, _, G4, G5, rfl, by rw [List.map_append, List.map_append]; exact HE, HInsT⟩
                    | false =>
                      have HInsF : Hid (dl ++ ((if pn == nm then [] else [(pn, pb)]) ++ ins nm hb put (lk.drop (i + 1))) = R) := by
                        show _ = _
                        have h3 := HIs.out
                        have h4 := HTB.out.symm
                        rw [if_neg (by rw [h4]; decide), List.nil_append] at h3
                        have h5 : (put || decide (nm ≤ pn)) = put := by
                          cases put
                          · simpa using h4
                          · rfl
                        rw [h5] at h3
                        exact h3
                      go_wp2
                      go_meet
                      case rel => exact ⟨put, dl, N, _, _, G1, G2, rfl, HM, HInsF⟩
                  case rest =>
                    clear HM HIs HTB q1 q2 hcu hco hcf hN
                    obtain ⟨w2, hw2⟩ : ∃ w2, w2 = wc := ⟨_, rfl⟩
                    subst hw2
                    obtain ⟨put, dl, N, un, ub, G1, G2, rfl, HM, HI⟩ := hcut
                    obtain ⟨A1, c1, rfl⟩ := HM.out.rn.form
                    obtain ⟨A2, c2, rfl⟩ := HM.out.rb.form
                    have hN : N ≤ 30000 := by
                      have h3 := len_le HM.out.len.1 HI.out HRl.out
                      have h4 := hn.out
                      omega
                    have hcu := HM.out.blk.cell
                    have hco := (HM.out.bl.blk HOc.out (by omega)).cell
                    have hcf := (HM.out.bl.blk HFc.out (by omega)).cell
                    have q2 := (HM.out.bl.cell (a := ⟨g2, o2 + i, none⟩) (by show g2 < _; omega) (by show ¬ g2 = _; omega)).trans Q2.out
                    by_cases e1 : nm = pn
                    · subst e1
                      have HInsE : Hid (dl ++ ins nm hb put (lk.drop (i + 1)) = R) := by
                        show _ = _
                        have h3 := HI.out
                        rw [beq_self_eq_true, if_pos rfl, List.nil_append] at h3
                        exact h3
                      clear HI
                      go_wp2
                      go_roundw
                      case rel => exact ⟨i + 1, put, dl, N, _, _, G1, G2, rfl, by go_num, by omega, HM, HInsE⟩
                      case measure => simp [intOf]; omega
                    · have e4 : ¬ pn = nm := fun c => e1 c.symm
                      have e3 : (pn == nm) = false := by rw [beq_eq_false_iff_ne]; exact e4
                      have HInsN : Hid ((dl ++ [(pn, pb)]) ++ ins nm hb put (lk.drop (i + 1)) = R) := by
                        show _ = _
                        have h3 := HI.out
                        rw [e3, if_neg (by decide)] at h3
                        rw [List.append_assoc]
                        exact h3
                      clear HI
                      have HM2 := HM
                      have HLT := hide HM2.out.lts
                      have HH := hide (fun W (hm : Mvs (fun k => some k = G1 ∨ some k = G2) w2 W) => (⟨(HM.out.held W hm).1, (HM.out.held W hm).2.1, ((HM.out.held W hm).2.2 ⟨w.heap.size, 1, none⟩ (by show w.heap.size < _; omega)).trans (hcf 1), ((HM.out.held W hm).2.2 ⟨g2, o2 + i, none⟩ (by show g2 < _; omega)).trans q2⟩ : W.cell? ⟨bU, 0, none⟩ = some (.slice A1 N c1) ∧ W.cell? ⟨bU, 1, none⟩ = some (.slice A2 N c2) ∧ W.cell? ⟨w.heap.size, 1, none⟩ = some (.slice (some ⟨g2, o2, none⟩) n cb) ∧ W.cell? ⟨g2, o2 + i, none⟩ = some (.string ⟨pb.toArray⟩)))
                      go_upto_region 23 with fail
                      clear HM q2 hcu hco hcf
                      refine regionL 15 (fun W => W.cell? ⟨bU, 0, none⟩ = some (.slice A1 N c1) ∧ W.cell? ⟨bU, 1, none⟩ = some (.slice A2 N c2) ∧ W.cell? ⟨w.heap.size, 1, none⟩ = some (.slice (some ⟨g2, o2, none⟩) n cb) ∧ W.cell? ⟨g2, o2 + i, none⟩ = some (.string ⟨pb.toArray⟩)) (by kernel_rfl) ?_
                      have HT0 := HH.out w2.drew (Mvs.refl _ _).drew
                      refine takeW (i := 0) (v := (.pointer (some ⟨bU, 0, none⟩))) rfl (by kernel_rfl) (by kernel_rfl) (by kernel_rfl) rfl (fun _ _ _ h => h) (fun _ => HT0) (Or.inl ⟨by rfl, fun W _ => by go_simp⟩) ?_
                      simp only [Act.put, List.getElem_toArray, List.getElem_cons_succ, List.getElem_cons_zero, List.setIfInBounds_toArray, List.set_cons_zero, List.set_cons_succ]
                      refine takeL (i := 1) (v := (.slice A1 N c1)) rfl (by kernel_rfl) (by kernel_rfl) (by kernel_rfl) (by kernel_rfl) (by kernel_rfl) (fun _ _ _ h => h) HT0 (Or.inl ⟨by rfl, fun W hW => by obtain ⟨t0, t1, t2, t3⟩ := hW; go_simp⟩) ?_
                      simp only [Act.put, List.getElem_toArray, List.getElem_cons_succ, List.getElem_cons_zero, List.setIfInBounds_toArray, List.set_cons_zero, List.set_cons_succ]
                      refine takeW (i := 2) (v := (.string ⟨pn.toArray⟩)) rfl (by kernel_rfl) (by kernel_rfl) (by kernel_rfl) rfl (fun _ _ _ h => h) (fun _ => HT0) (Or.inl ⟨by rfl, fun W _ => by go_simp⟩) ?_
                      simp only [Act.put, List.getElem_toArray, List.getElem_cons_succ, List.getElem_cons_zero, List.setIfInBounds_toArray, List.set_cons_zero, List.set_cons_succ]
                      refine takeW (i := 5) (v := (.pointer (some ⟨bU, 1, none⟩))) rfl (by kernel_rfl) (by kernel_rfl) (by kernel_rfl) rfl (fun _ _ _ h => h) (fun _ => HT0) (Or.inl ⟨by rfl, fun W _ => by go_simp⟩) ?_
                      simp only [Act.put, List.getElem_toArray, List.getElem_cons_succ, List.getElem_cons_zero, List.setIfInBounds_toArray, List.set_cons_zero, List.set_cons_succ]
                      refine takeL (i := 6) (v := (.slice A2 N c2)) rfl (by kernel_rfl) (by kernel_rfl) (by kernel_rfl) (by kernel_rfl) (by kernel_rfl) (fun _ _ _ h => h) HT0 (Or.inl ⟨by rfl, fun W hW => by obtain ⟨t0, t1, t2, t3⟩ := hW; go_simp⟩) ?_
                      simp only [Act.put, List.getElem_toArray, List.getElem_cons_succ, List.getElem_cons_zero, List.setIfInBounds_toArray, List.set_cons_zero, List.set_cons_succ]
                      refine takeW (i := 7) (v := (.pointer (some ⟨w.heap.size, 1, none⟩))) rfl (by kernel_rfl) (by kernel_rfl) (by kernel_rfl) rfl (fun _ _ _ h => h) (fun _ => HT0) (Or.inl ⟨by rfl, fun W _ => by go_simp⟩) ?_
                      simp only [Act.put, List.getElem_toArray, List.getElem_cons_succ, List.getElem_cons_zero, List.setIfInBounds_toArray, List.set_cons_zero, List.set_cons_succ]
                      refine takeM [15, 13, 12, 11, 10] (i := 8) (v := (.slice (some ⟨g2, o2, none⟩) n cb)) rfl (by kernel_rfl) (by kernel_rfl) (by kernel_rfl) (by kernel_rfl) (by kernel_rfl) (by kernel_rfl) (fun _ _ _ h => h) HT0 (Or.inl ⟨by rfl, fun W hW => by obtain ⟨t0, t1, t2, t3⟩ := hW; go_simp⟩) ?_
                      simp only [Act.put, List.getElem_toArray, List.getElem_cons_succ, List.getElem_cons_zero, List.setIfInBounds_toArray, List.set_cons_zero, List.set_cons_succ]
                      refine takeW (i := 9) (v := (.int .i64 (i : Nat))) rfl (by kernel_rfl) (by kernel_rfl) (by kernel_rfl) rfl (fun _ _ _ h => h) (fun _ => HT0) (Or.inl ⟨by rfl, fun W _ => by go_simp⟩) ?_
                      simp only [Act.put, List.getElem_toArray, List.getElem_cons_succ, List.getElem_cons_zero, List.setIfInBounds_toArray, List.set_cons_zero, List.set_cons_succ]
                      refine takeW (i := 10) (v := (.pointer (some ⟨g2, o2 + i, none⟩))) rfl (by kernel_rfl) (by kernel_rfl) (by kernel_rfl) rfl (fun _ _ _ h => h) (fun _ => HT0) (Or.inl ⟨by rfl, fun W _ => by go_simp⟩) ?_
                      simp only [Act.put, List.getElem_toArray, List.getElem_cons_succ, List.getElem_cons_zero, List.setIfInBounds_toArray, List.set_cons_zero, List.set_cons_succ]
                      refine takeM [15, 13, 12] (i := 11) (v := (.string ⟨pb.toArray⟩)) rfl (by kernel_rfl) (by kernel_rfl) (by kernel_rfl) (by kernel_rfl) (by kernel_rfl) (by kernel_rfl) (fun _ _ _ h => h) HT0 (Or.inl ⟨by rfl, fun W hW => by obtain ⟨t0, t1, t2, t3⟩ := hW; go_simp⟩) ?_
                      simp only [Act.put, List.getElem_toArray, List.getElem_cons_succ, List.getElem_cons_zero, List.setIfInBounds_toArray, List.set_cons_zero, List.set_cons_succ]
                      refine readyL (rs := [3, 12]) (by kernel_rfl) (by simp) ?_
                      refine AllL.cons rfl (fun K hK => ?_) (AllL.cons rfl (fun K hK => ?_) AllL.nil)
                      · skip
                        try simp only [List.getElem_toArray, List.getElem_cons_succ, List.getElem_cons_zero]
                        go_simp
                        refine hK.out _ _ (fun _ => HH.out _ (by ((repeat (first | exact Mvs.refl _ _ | assumption | (refine Mvs.alloc ?_ _) | (refine Mvs.drew ?_) | (refine Mvs.drewN ?_ _))); done))) (fun HTn => ?_)
                        clear HT0
                        have HT0 := HTn (by kernel_rfl)
                        clear HTn
                        clear hK K
                        refine readyL (rs := [4, 12]) (by kernel_rfl) (by simp) ?_
                        refine AllL.cons rfl (fun K hK => ?_) (AllL.cons rfl (fun K hK => ?_) AllL.nil)
                        · skip
                          refine step_append_rw (by rfl) (.tmp 95) (.tmp 97) 35 35 (by rfl) 9 i0 (.string ByteArray.empty) 1 16 Tryz.underlying35 hi hz0 hz1 hz2 (by rfl) (by simp [Act.eval, Act.put]) (HM2.out.then (by (repeat (first | exact Below.refl _ _ | exact below_drewN _ _ | (refine Below.alloc ?_ (by simp) _) | (refine Below.drew ?_))))).rn (.slice (some ⟨w2.heap.size, 0, none⟩) 1 1) 1 [encStr pn] (by simp [Act.eval, Act.put]) (src_txt (by (first | (simp; done) | (exact ((Blk.new w2 _ _).alloc _).drw.cell 0) | (exact (Blk.new1 w2 _ _ _).drw.cell 0) | (exact ((Blk.new w2 _ _).alloc _).cell 0) | (exact (Blk.new1 w2 _ _ _).cell 0))) (by (first | (simp; done) | (simp; omega) | (simp at hs4 ⊢; omega)))) (by simp only [maxLen]; omega) (by omega) ?_
                          intro v4 w4 G4 hr4 hm4 hg4
                          obtain ⟨A4, c4, rfl⟩ := hr4.form
                          have HM4 := hide ((HM2.out.then (by (repeat (first | exact Below.refl _ _ | exact below_drewN _ _ | (refine Below.alloc ?_ (by simp) _) | (refine Below.drew ?_))))).names hr4 hm4 hg4)
                          have HV4 := hide hm4
                          have hv4 : Mvs (fun k => some k = G1 ∨ some k = G2) w2 w4 := Mvs.trans (by ((repeat (first | exact Mvs.refl _ _ | assumption | (refine Mvs.alloc ?_ _) | (refine Mvs.drew ?_) | (refine Mvs.drewN ?_ _))); done)) (hm4.mono (fun _ _ e => Or.inl e))
                          have hs4 := hm4.size
                          clear hr4 hm4 hg4
                          refine hK.out _ _ (fun _ => HH.out _ (by ((repeat (first | exact Mvs.refl _ _ | assumption | (refine Mvs.alloc ?_ _) | (refine Mvs.drew ?_) | (refine Mvs.drewN ?_ _))); done))) (fun HTn => ?_)
                          clear hK K HT0
                          have HT0 := HTn (by kernel_rfl)
                          clear HTn
                          simp only [Act.put, List.getElem_toArray, List.getElem_cons_succ, List.getElem_cons_zero, List.setIfInBounds_toArray, List.set_cons_zero, List.set_cons_succ]
                          refine takeW (i := 14) (v := (.pointer (some ⟨bU, 0, none⟩))) rfl (by kernel_rfl) (by kernel_rfl) (by kernel_rfl) rfl (fun _ _ _ h => h) (fun _ => HT0) (Or.inl ⟨by rfl, fun W _ => by go_simp⟩) ?_
                          simp only [Act.put, List.getElem_toArray, List.getElem_cons_succ, List.getElem_cons_zero, List.setIfInBounds_toArray, List.set_cons_zero, List.set_cons_succ]
                          refine readyL (rs := [12]) (by kernel_rfl) (by simp) ?_
                          refine AllL.cons rfl (fun K hK => ?_) AllL.nil
                          try simp only [List.getElem_toArray, List.getElem_cons_succ, List.getElem_cons_zero]
                          go_simp
                          refine hK.out _ _ (fun _ => HH.out _ (by ((repeat (first | exact Mvs.refl _ _ | assumption | (refine Mvs.alloc ?_ _) | (refine Mvs.drew ?_) | (refine Mvs.drewN ?_ _))); done))) (fun HTn => ?_)
                          clear HT0
                          have HT0 := HTn (by kernel_rfl)
                          clear HTn
                          clear hK K
                          refine readyL (rs := [13]) (by kernel_rfl) (by simp) ?_
                          refine AllL.cons rfl (fun K hK => ?_) AllL.nil
                          refine step_append_rw (by rfl) (.tmp 100) (.tmp 106) 35 35 (by rfl) 9 i0 (.string ByteArray.empty) 1 16 Tryz.underlying35 hi hz0 hz1 hz2 (by rfl) (by simp [Act.eval, Act.put]) (HM4.out.then (by (repeat (first | exact Below.refl _ _ | exact below_drewN _ _ | (refine Below.alloc ?_ (by simp) _) | (refine Below.drew ?_))))).rb (.slice (some ⟨w4.heap.size, 0, none⟩) 1 1) 1 [encStr pb] (by simp [Act.eval, Act.put]) (src_txt (by (first | (simp; done) | (exact (Blk.new w4 _ _).drw.cell 0) | (exact (Blk.new w4 _ _).cell 0))) (by (first | (simp; done) | (simp; omega) | (simp at hs4 ⊢; omega)))) (by simp only [maxLen]; omega) (by omega) ?_
                          intro v5 w5 G5 hr5 hm5 hg5
                          obtain ⟨A5, c5, rfl⟩ := hr5.form
                          have HM5 := hide ((HM4.out.then (by (repeat (first | exact Below.refl _ _ | exact below_drewN _ _ | (refine Below.alloc ?_ (by simp) _) | (refine Below.drew ?_))))).texts hr5 hm5 hg5)
                          have hcb := HM5.out.blk.cell
                          have hfb := HM5.out.blk.frozen
                          have hv5 : Mvs (fun k => some k = G1 ∨ some k = G2) w2 w5 := hv4.trans (Mvs.trans (by ((repeat (first | exact Mvs.refl _ _ | assumption | (refine Mvs.alloc ?_ _) | (refine Mvs.drew ?_) | (refine Mvs.drewN ?_ _))); done)) (hm5.mono (fun _ _ e => Or.inr e)))
                          clear hr5 hm5 hg5
                          refine hK.out _ _ (fun _ => HH.out _ (by ((repeat (first | exact Mvs.refl _ _ | assumption | (refine Mvs.alloc ?_ _) | (refine Mvs.drew ?_) | (refine Mvs.drewN ?_ _))); done))) (fun HTn => ?_)
                          clear hK K HT0
                          have HT0 := HTn (by kernel_rfl)
                          clear HTn
                          simp only [Act.put, List.getElem_toArray, List.getElem_cons_succ, List.getElem_cons_zero, List.setIfInBounds_toArray, List.set_cons_zero, List.set_cons_succ]
                          refine readyL (rs := [15]) (by kernel_rfl) (by simp) ?_
                          refine AllL.cons rfl (fun K hK => ?_) AllL.nil
                          try simp only [List.getElem_toArray, List.getElem_cons_succ, List.getElem_cons_zero]
                          go_simp
                          refine hK.out _ _ (vac (by kernel_rfl)) (fun _ => ?_)
                          clear hK K
                          refine readyL (rs := [16]) (by kernel_rfl) (by simp) ?_
                          refine AllL.cons rfl (fun K hK => ?_) AllL.nil
                          try simp only [List.getElem_toArray, List.getElem_cons_succ, List.getElem_cons_zero]
                          go_simp
                          refine hK.out _ _ (vac (by kernel_rfl)) (fun _ => ?_)
                          clear hK K
                          refine readyL (rs := [17]) (by kernel_rfl) (by simp) ?_
                          refine AllL.cons rfl (fun K hK => ?_) AllL.nil
                          try simp only [List.getElem_toArray, List.getElem_cons_succ, List.getElem_cons_zero]
                          go_simp
                          refine hK.out _ _ (vac (by kernel_rfl)) (fun _ => ?_)
                          clear hK K
                          refine doneL (by kernel_rfl) ?_ _
                          have HE := hide HM5.out.stored
                          clear HM4 HM5 HM2 HH hcb hfb hv4 hv5 HV4 hs4 HT0
                          go_wp2
                          go_roundw
                          case rel => exact ⟨i + 1, put, dl ++ [(pn, pb)], N + 1, _, _, G4, G5, rfl, by go_num, by omega, by rw [List.map_append, List.map_append]; exact HE, HInsN⟩
                          case measure => simp [intOf]; omega
                        · skip
                          try simp only [List.getElem_toArray, List.getElem_cons_succ, List.getElem_cons_zero]
                          go_simp
                          refine hK.out _ _ (fun _ => HH.out _ (by ((repeat (first | exact Mvs.refl _ _ | assumption | (refine Mvs.alloc ?_ _) | (refine Mvs.drew ?_) | (refine Mvs.drewN ?_ _))); done))) (fun HTn => ?_)
                          clear HT0
                          have HT0 := HTn (by kernel_rfl)
                          clear HTn
                          clear hK K
                          refine readyL (rs := [4]) (by kernel_rfl) (by simp) ?_
                          refine AllL.cons rfl (fun K hK => ?_) AllL.nil
                          refine step_append_rw (by rfl) (.tmp 95) (.tmp 97) 35 35 (by rfl) 9 i0 (.string ByteArray.empty) 1 16 Tryz.underlying35 hi hz0 hz1 hz2 (by rfl) (by simp [Act.eval, Act.put]) (HM2.out.then (by (repeat (first | exact Below.refl _ _ | exact below_drewN _ _ | (refine Below.alloc ?_ (by simp) _) | (refine Below.drew ?_))))).rn (.slice (some ⟨w2.heap.size, 0, none⟩) 1 1) 1 [encStr pn] (by simp [Act.eval, Act.put]) (src_txt (by (first | (simp; done) | (exact ((Blk.new w2 _ _).alloc _).drw.cell 0) | (exact (Blk.new1 w2 _ _ _).drw.cell 0) | (exact ((Blk.new w2 _ _).alloc _).cell 0) | (exact (Blk.new1 w2 _ _ _).cell 0))) (by (first | (simp; done) | (simp; omega) | (simp at hs4 ⊢; omega)))) (by simp only [maxLen]; omega) (by omega) ?_
                          intro v4 w4 G4 hr4 hm4 hg4
                          obtain ⟨A4, c4, rfl⟩ := hr4.form
                          have HM4 := hide ((HM2.out.then (by (repeat (first | exact Below.refl _ _ | exact below_drewN _ _ | (refine Below.alloc ?_ (by simp) _) | (refine Below.drew ?_))))).names hr4 hm4 hg4)
                          have HV4 := hide hm4
                          have hv4 : Mvs (fun k => some k = G1 ∨ some k = G2) w2 w4 := Mvs.trans (by ((repeat (first | exact Mvs.refl _ _ | assumption | (refine Mvs.alloc ?_ _) | (refine Mvs.drew ?_) | (refine Mvs.drewN ?_ _))); done)) (hm4.mono (fun _ _ e => Or.inl e))
                          have hs4 := hm4.size
                          clear hr4 hm4 hg4
                          refine hK.out _ _ (fun _ => HH.out _ (by ((repeat (first | exact Mvs.refl _ _ | assumption | (refine Mvs.alloc ?_ _) | (refine Mvs.drew ?_) | (refine Mvs.drewN ?_ _))); done))) (fun HTn => ?_)
                          clear hK K HT0
                          have HT0 := HTn (by kernel_rfl)
                          clear HTn
                          simp only [Act.put, List.getElem_toArray, List.getElem_cons_succ, List.getElem_cons_zero, List.setIfInBounds_toArray, List.set_cons_zero, List.set_cons_succ]
                          refine takeW (i := 14) (v := (.pointer (some ⟨bU, 0, none⟩))) rfl (by kernel_rfl) (by kernel_rfl) (by kernel_rfl) rfl (fun _ _ _ h => h) (fun _ => HT0) (Or.inl ⟨by rfl, fun W _ => by go_simp⟩) ?_
                          simp only [Act.put, List.getElem_toArray, List.getElem_cons_succ, List.getElem_cons_zero, List.setIfInBounds_toArray, List.set_cons_zero, List.set_cons_succ]
                          refine readyL (rs := [13]) (by kernel_rfl) (by simp) ?_
                          refine AllL.cons rfl (fun K hK => ?_) AllL.nil
                          refine step_append_rw (by rfl) (.tmp 100) (.tmp 106) 35 35 (by rfl) 9 i0 (.string ByteArray.empty) 1 16 Tryz.underlying35 hi hz0 hz1 hz2 (by rfl) (by simp [Act.eval, Act.put]) (HM4.out.then (by (repeat (first | exact Below.refl _ _ | exact below_drewN _ _ | (refine Below.alloc ?_ (by simp) _) | (refine Below.drew ?_))))).rb (.slice (some ⟨(w2.heap.size + 1), 0, none⟩) 1 1) 1 [encStr pb] (by simp [Act.eval, Act.put]) (src_txt (by (exact (HV4.out.cell (a := ⟨(w2.heap.size + 1), 0, none⟩) (by first | (simp; done) | (simp; omega)) (by intro e; have h2 : (w2.heap.size + 1) < w2.heap.size := HLT.out _ (Or.inl e.symm); omega)).trans (by (first | (simp; done) | (exact ((Blk.new w2 _ _).alloc _).drw.cell 0) | (exact (Blk.new1 w2 _ _ _).drw.cell 0) | (exact ((Blk.new w2 _ _).alloc _).cell 0) | (exact (Blk.new1 w2 _ _ _).cell 0))))) (by (first | (simp; done) | (simp; omega) | (simp at hs4 ⊢; omega)))) (by simp only [maxLen]; omega) (by omega) ?_
                          intro v5 w5 G5 hr5 hm5 hg5
                          obtain ⟨A5, c5, rfl⟩ := hr5.form
                          have HM5 := hide ((HM4.out.then (by (repeat (first | exact Below.refl _ _ | exact below_drewN _ _ | (refine Below.alloc ?_ (by simp) _) | (refine Below.drew ?_))))).texts hr5 hm5 hg5)
                          have hcb := HM5.out.blk.cell
                          have hfb := HM5.out.blk.frozen
                          have hv5 : Mvs (fun k => some k = G1 ∨ some k = G2) w2 w5 := hv4.trans (Mvs.trans (by ((repeat (first | exact Mvs.refl _ _ | assumption | (refine Mvs.alloc ?_ _) | (refine Mvs.drew ?_) | (refine Mvs.drewN ?_ _))); done)) (hm5.mono (fun _ _ e => Or.inr e)))
                          clear hr5 hm5 hg5
                          refine hK.out _ _ (fun _ => HH.out _ (by ((repeat (first | exact Mvs.refl _ _ | assumption | (refine Mvs.alloc ?_ _) | (refine Mvs.drew ?_) | (refine Mvs.drewN ?_ _))); done))) (fun HTn => ?_)
                          clear hK K HT0
                          have HT0 := HTn (by kernel_rfl)
                          clear HTn
                          simp only [Act.put, List.getElem_toArray, List.getElem_cons_succ, List.getElem_cons_zero, List.setIfInBounds_toArray, List.set_cons_zero, List.set_cons_succ]
                          refine readyL (rs := [15]) (by kernel_rfl) (by simp) ?_
                          refine AllL.cons rfl (fun K hK => ?_) AllL.nil
                          try simp only [List.getElem_toArray, List.getElem_cons_succ, List.getElem_cons_zero]
                          go_simp
                          refine hK.out _ _ (vac (by kernel_rfl)) (fun _ => ?_)
                          clear hK K
                          refine readyL (rs := [16]) (by kernel_rfl) (by simp) ?_
                          refine AllL.cons rfl (fun K hK => ?_) AllL.nil
                          try simp only [List.getElem_toArray, List.getElem_cons_succ, List.getElem_cons_zero]
                          go_simp
                          refine hK.out _ _ (vac (by kernel_rfl)) (fun _ => ?_)
                          clear hK K
                          refine readyL (rs := [17]) (by kernel_rfl) (by simp) ?_
                          refine AllL.cons rfl (fun K hK => ?_) AllL.nil
                          try simp only [List.getElem_toArray, List.getElem_cons_succ, List.getElem_cons_zero]
                          go_simp
                          refine hK.out _ _ (vac (by kernel_rfl)) (fun _ => ?_)
                          clear hK K
                          refine doneL (by kernel_rfl) ?_ _
                          have HE := hide HM5.out.stored
                          clear HM4 HM5 HM2 HH hcb hfb hv4 hv5 HV4 hs4 HT0
                          go_wp2
                          go_roundw
                          case rel => exact ⟨i + 1, put, dl ++ [(pn, pb)], N + 1, _, _, G4, G5, rfl, by go_num, by omega, by rw [List.map_append, List.map_append]; exact HE, HInsN⟩
                          case measure => simp [intOf]; omega
                      · skip
                        try simp only [List.getElem_toArray, List.getElem_cons_succ, List.getElem_cons_zero]
                        go_simp
                        refine hK.out _ _ (fun _ => HH.out _ (by ((repeat (first | exact Mvs.refl _ _ | assumption | (refine Mvs.alloc ?_ _) | (refine Mvs.drew ?_) | (refine Mvs.drewN ?_ _))); done))) (fun HTn => ?_)
                        clear HT0
                        have HT0 := HTn (by kernel_rfl)
                        clear HTn
                        clear hK K
                        refine readyL (rs := [3]) (by kernel_rfl) (by simp) ?_
                        refine AllL.cons rfl (fun K hK => ?_) AllL.nil
                        try simp only [List.getElem_toArray, List.getElem_cons_succ, List.getElem_cons_zero]
                        go_simp
                        refine hK.out _ _ (fun _ => HH.out _ (by ((repeat (first | exact Mvs.refl _ _ | assumption | (refine Mvs.alloc ?_ _) | (refine Mvs.drew ?_) | (refine Mvs.drewN ?_ _))); done))) (fun HTn => ?_)
                        clear HT0
                        have HT0 := HTn (by kernel_rfl)
                        clear HTn
                        clear hK K
                        refine readyL (rs := [4]) (by kernel_rfl) (by simp) ?_
                        refine AllL.cons rfl (fun K hK => ?_) AllL.nil
                        refine step_append_rw (by rfl) (.tmp 95) (.tmp 97) 35 35 (by rfl) 9 i0 (.string ByteArray.empty) 1 16 Tryz.underlying35 hi hz0 hz1 hz2 (by rfl) (by simp [Act.eval, Act.put]) (HM2.out.then (by (repeat (first | exact Below.refl _ _ | exact below_drewN _ _ | (refine Below.alloc ?_ (by simp) _) | (refine Below.drew ?_))))).rn (.slice (some ⟨(w2.heap.size + 1), 0, none⟩) 1 1) 1 [encStr pn] (by simp [Act.eval, Act.put]) (src_txt (by (first | (simp; done) | (exact ((Blk.new w2 _ _).alloc _).drw.cell 0) | (exact (Blk.new1 w2 _ _ _).drw.cell 0) | (exact ((Blk.new w2 _ _).alloc _).cell 0) | (exact (Blk.new1 w2 _ _ _).cell 0))) (by (first | (simp; done) | (simp; omega) | (simp at hs4 ⊢; omega)))) (by simp only [maxLen]; omega) (by omega) ?_
                        intro v4 w4 G4 hr4 hm4 hg4
                        obtain ⟨A4, c4, rfl⟩ := hr4.form
                        have HM4 := hide ((HM2.out.then (by (repeat (first | exact Below.refl _ _ | exact below_drewN _ _ | (refine Below.alloc ?_ (by simp) _) | (refine Below.drew ?_))))).names hr4 hm4 hg4)
                        have HV4 := hide hm4
                        have hv4 : Mvs (fun k => some k = G1 ∨ some k = G2) w2 w4 := Mvs.trans (by ((repeat (first | exact Mvs.refl _ _ | assumption | (refine Mvs.alloc ?_ _) | (refine Mvs.drew ?_) | (refine Mvs.drewN ?_ _))); done)) (hm4.mono (fun _ _ e => Or.inl e))
                        have hs4 := hm4.size
                        clear hr4 hm4 hg4
                        refine hK.out _ _ (fun _ => HH.out _ (by ((repeat (first | exact Mvs.refl _ _ | assumption | (refine Mvs.alloc ?_ _) | (refine Mvs.drew ?_) | (refine Mvs.drewN ?_ _))); done))) (fun HTn => ?_)
                        clear hK K HT0
                        have HT0 := HTn (by kernel_rfl)
                        clear HTn
                        simp only [Act.put, List.getElem_toArray, List.getElem_cons_succ, List.getElem_cons_zero, List.setIfInBounds_toArray, List.set_cons_zero, List.set_cons_succ]
                        refine takeW (i := 14) (v := (.pointer (some ⟨bU, 0, none⟩))) rfl (by kernel_rfl) (by kernel_rfl) (by kernel_rfl) rfl (fun _ _ _ h => h) (fun _ => HT0) (Or.inl ⟨by rfl, fun W _ => by go_simp⟩) ?_
                        simp only [Act.put, List.getElem_toArray, List.getElem_cons_succ, List.getElem_cons_zero, List.setIfInBounds_toArray, List.set_cons_zero, List.set_cons_succ]
                        refine readyL (rs := [13]) (by kernel_rfl) (by simp) ?_
                        refine AllL.cons rfl (fun K hK => ?_) AllL.nil
                        refine step_append_rw (by rfl) (.tmp 100) (.tmp 106) 35 35 (by rfl) 9 i0 (.string ByteArray.empty) 1 16 Tryz.underlying35 hi hz0 hz1 hz2 (by rfl) (by simp [Act.eval, Act.put]) (HM4.out.then (by (repeat (first | exact Below.refl _ _ | exact below_drewN _ _ | (refine Below.alloc ?_ (by simp) _) | (refine Below.drew ?_))))).rb (.slice (some ⟨w2.heap.size, 0, none⟩) 1 1) 1 [encStr pb] (by simp [Act.eval, Act.put]) (src_txt (by (exact (HV4.out.cell (a := ⟨w2.heap.size, 0, none⟩) (by first | (simp; done) | (simp; omega)) (by intro e; have h2 : w2.heap.size < w2.heap.size := HLT.out _ (Or.inl e.symm); omega)).trans (by (first | (simp; done) | (exact ((Blk.new w2 _ _).alloc _).drw.cell 0) | (exact (Blk.new1 w2 _ _ _).drw.cell 0) | (exact ((Blk.new w2 _ _).alloc _).cell 0) | (exact (Blk.new1 w2 _ _ _).cell 0))))) (by (first | (simp; done) | (simp; omega) | (simp at hs4 ⊢; omega)))) (by simp only [maxLen]; omega) (by omega) ?_
                        intro v5 w5 G5 hr5 hm5 hg5
                        obtain ⟨A5, c5, rfl⟩ := hr5.form
                        have HM5 := hide ((HM4.out.then (by (repeat (first | exact Below.refl _ _ | exact below_drewN _ _ | (refine Below.alloc ?_ (by simp) _) | (refine Below.drew ?_))))).texts hr5 hm5 hg5)
                        have hcb := HM5.out.blk.cell
                        have hfb := HM5.out.blk.frozen
                        have hv5 : Mvs (fun k => some k = G1 ∨ some k = G2) w2 w5 := hv4.trans (Mvs.trans (by ((repeat (first | exact Mvs.refl _ _ | assumption | (refine Mvs.alloc ?_ _) | (refine Mvs.drew ?_) | (refine Mvs.drewN ?_ _))); done)) (hm5.mono (fun _ _ e => Or.inr e)))
                        clear hr5 hm5 hg5
                        refine hK.out _ _ (fun _ => HH.out _ (by ((repeat (first | exact Mvs.refl _ _ | assumption | (refine Mvs.alloc ?_ _) | (refine Mvs.drew ?_) | (refine Mvs.drewN ?_ _))); done))) (fun HTn => ?_)
                        clear hK K HT0
                        have HT0 := HTn (by kernel_rfl)
                        clear HTn
                        simp only [Act.put, List.getElem_toArray, List.getElem_cons_succ, List.getElem_cons_zero, List.setIfInBounds_toArray, List.set_cons_zero, List.set_cons_succ]
                        refine readyL (rs := [15]) (by kernel_rfl) (by simp) ?_
                        refine AllL.cons rfl (fun K hK => ?_) AllL.nil
                        try simp only [List.getElem_toArray, List.getElem_cons_succ, List.getElem_cons_zero]
                        go_simp
                        refine hK.out _ _ (vac (by kernel_rfl)) (fun _ => ?_)
                        clear hK K
                        refine readyL (rs := [16]) (by kernel_rfl) (by simp) ?_
                        refine AllL.cons rfl (fun K hK => ?_) AllL.nil
                        try simp only [List.getElem_toArray, List.getElem_cons_succ, List.getElem_cons_zero]
                        go_simp
                        refine hK.out _ _ (vac (by kernel_rfl)) (fun _ => ?_)
                        clear hK K
                        refine readyL (rs := [17]) (by kernel_rfl) (by simp) ?_
                        refine AllL.cons rfl (fun K hK => ?_) AllL.nil
                        try simp only [List.getElem_toArray, List.getElem_cons_succ, List.getElem_cons_zero]
                        go_simp
                        refine hK.out _ _ (vac (by kernel_rfl)) (fun _ => ?_)
                        clear hK K
                        refine doneL (by kernel_rfl) ?_ _
                        have HE := hide HM5.out.stored
                        clear HM4 HM5 HM2 HH hcb hfb hv4 hv5 HV4 hs4 HT0
                        go_wp2
                        go_roundw
                        case rel => exact ⟨i + 1, put, dl ++ [(pn, pb)], N + 1, _, _, G4, G5, rfl, by go_num, by omega, by rw [List.map_append, List.map_append]; exact HE, HInsN⟩
                        case measure => simp [intOf]; omega
              · have hi2 : ¬ (i : Int) < (n : Int) := by omega
                obtain rfl : n = i := by omega
                cases put with
                | true =>
                  have HR1 : Hid (dl = R) := by
                    show _ = _
                    have h3 := HI.out
                    rw [List.drop_of_length_le (by rw [hn.out]; exact Nat.le_refl _)] at h3
                    unfold ins at h3
                    rw [if_pos rfl, List.append_nil] at h3
                    exact h3
                  have HFM := HM
                  rw [HR1.out] at HFM
                  clear HM HI hcu hco hcf
                  have hcu0 := HFM.out.blk.cell
                  have HFF := hide (HFM.out.bl.blk HFc.out (by omega))
                  have hcf := HFF.out.cell
                  have hff := HFF.out.frozen
                  have hlf := HFF.out.lt
                  go_wp2
                  go_roundw
                  case measure => simp [intOf]; omega
                  case rel =>
                    have hf1 := HFM.out.off.1
                    have hf2 := HFM.out.off.2
                    refine ⟨k + 1, R, _, _, by go_num, by omega, (HFF.out.set 0 _).set 1 _, ?_, ?_, ?_, HDo.out, ?_, ?_, ?_, HBd⟩
                    · obtain ⟨ht1, ht2⟩ := HFM.out.tr
                      exact ⟨ht1.keep (S := fun k => k = w.heap.size) (((Mvs.refl (fun k => k = w.heap.size) _).setCell ⟨w.heap.size, 0, none⟩ _ (fun _ => rfl)).setCell ⟨w.heap.size, 1, none⟩ _ (fun _ => rfl)) (fun A n c e h => by have := hf1 A n c e; omega), ht2.keep (S := fun k => k = w.heap.size) (((Mvs.refl (fun k => k = w.heap.size) _).setCell ⟨w.heap.size, 0, none⟩ _ (fun _ => rfl)).setCell ⟨w.heap.size, 1, none⟩ _ (fun _ => rfl)) (fun A n c e h => by have := hf2 A n c e; omega)⟩
                    · obtain ⟨z, hz, hzs⟩ := HRes2.out
                      exact ⟨z, (((HFM.out.bl.blk hz (by omega)).set_other _ _ (by simp)).set_other _ _ (by simp)), hzs⟩
                    · exact ((HB2.out.trans (HFM.out.bl.below (fun k hk e => by omega) (by have := HB2.out.size; omega))).setCell (p := ⟨w.heap.size, 0, none⟩) (Nat.le_refl _) _).setCell (p := ⟨w.heap.size, 1, none⟩) (Nat.le_refl _) _
                    · have := HRl.out
                      omega
                    · intro _ A n c e h
                      rcases e with e | e
                      · have := hf1 A n c e
                        omega
                      · have := hf2 A n c e
                        omega
                    · intro _ A n c e
                      have hs2 := HB2.out.size
                      rcases e with e | e
                      · exact HFf.out _ (Nat.le_trans hs2 (hf1 A n c e))
                      · exact HFf.out _ (Nat.le_trans hs2 (hf2 A n c e))
                | false =>
                  have HR1 : Hid (dl ++ [(nm, hb)] = R) := by
                    show _ = _
                    have h3 := HI.out
                    rw [List.drop_of_length_le (by rw [hn.out]; exact Nat.le_refl _)] at h3
                    unfold ins at h3
                    rw [if_neg (by decide)] at h3
                    exact h3
                  have HM2 := HM
                  have HLT := hide HM2.out.lts
                  have HH := hide (fun W (hm : Mvs (fun k => some k = G1 ∨ some k = G2) w2 W) => (⟨(HM.out.held W hm).1, (HM.out.held W hm).2.1, ((HM.out.held W hm).2.2 ⟨bO, 1, none⟩ (by show bO < _; omega)).trans (hco 1)⟩ : W.cell? ⟨bU, 0, none⟩ = some (.slice A1 N c1) ∧ W.cell? ⟨bU, 1, none⟩ = some (.slice A2 N c2) ∧ W.cell? ⟨bO, 1, none⟩ = some (.string ⟨nm.toArray⟩)))
                  clear HM HI hcu hco hcf
                  go_upto_region 26 with fail
                  refine regionL 12 (fun W => W.cell? ⟨bU, 0, none⟩ = some (.slice A1 N c1) ∧ W.cell? ⟨bU, 1, none⟩ = some (.slice A2 N c2) ∧ W.cell? ⟨bO, 1, none⟩ = some (.string ⟨nm.toArray⟩)) (by kernel_rfl) ?_
                  have HT0 := HH.out w2.drew (Mvs.refl _ _).drew
                  refine takeW (i := 0) (v := (.pointer (some ⟨bU, 0, none⟩))) rfl (by kernel_rfl) (by kernel_rfl) (by kernel_rfl) rfl (fun _ _ _ h => h) (fun _ => HT0) (Or.inl ⟨by rfl, fun W _ => by go_simp⟩) ?_
                  simp only [Act.put, List.getElem_toArray, List.getElem_cons_succ, List.getElem_cons_zero, List.setIfInBounds_toArray, List.set_cons_zero, List.set_cons_succ]
                  refine takeL (i := 1) (v := (.slice A1 N c1)) rfl (by kernel_rfl) (by kernel_rfl) (by kernel_rfl) (by kernel_rfl) (by kernel_rfl) (fun _ _ _ h => h) HT0 (Or.inl ⟨by rfl, fun W hW => by obtain ⟨t0, t1, t2⟩ := hW; go_simp⟩) ?_
                  simp only [Act.put, List.getElem_toArray, List.getElem_cons_succ, List.getElem_cons_zero, List.setIfInBounds_toArray, List.set_cons_zero, List.set_cons_succ]
                  refine takeW (i := 2) (v := (.pointer (some ⟨bO, 1, none⟩))) rfl (by kernel_rfl) (by kernel_rfl) (by kernel_rfl) rfl (fun _ _ _ h => h) (fun _ => HT0) (Or.inl ⟨by rfl, fun W _ => by go_simp⟩) ?_
                  simp only [Act.put, List.getElem_toArray, List.getElem_cons_succ, List.getElem_cons_zero, List.setIfInBounds_toArray, List.set_cons_zero, List.set_cons_succ]
                  refine takeL (i := 3) (v := (.string ⟨nm.toArray⟩)) rfl (by kernel_rfl) (by kernel_rfl) (by kernel_rfl) (by kernel_rfl) (by kernel_rfl) (fun _ _ _ h => h) HT0 (Or.inl ⟨by rfl, fun W hW => by obtain ⟨t0, t1, t2⟩ := hW; go_simp⟩) ?_
                  simp only [Act.put, List.getElem_toArray, List.getElem_cons_succ, List.getElem_cons_zero, List.setIfInBounds_toArray, List.set_cons_zero, List.set_cons_succ]
                  refine takeW (i := 6) (v := (.pointer (some ⟨bU, 1, none⟩))) rfl (by kernel_rfl) (by kernel_rfl) (by kernel_rfl) rfl (fun _ _ _ h => h) (fun _ => HT0) (Or.inl ⟨by rfl, fun W _ => by go_simp⟩) ?_
                  simp only [Act.put, List.getElem_toArray, List.getElem_cons_succ, List.getElem_cons_zero, List.setIfInBounds_toArray, List.set_cons_zero, List.set_cons_succ]
                  refine takeL (i := 7) (v := (.slice A2 N c2)) rfl (by kernel_rfl) (by kernel_rfl) (by kernel_rfl) (by kernel_rfl) (by kernel_rfl) (fun _ _ _ h => h) HT0 (Or.inl ⟨by rfl, fun W hW => by obtain ⟨t0, t1, t2⟩ := hW; go_simp⟩) ?_
                  simp only [Act.put, List.getElem_toArray, List.getElem_cons_succ, List.getElem_cons_zero, List.setIfInBounds_toArray, List.set_cons_zero, List.set_cons_succ]
                  refine takeW (i := 8) (v := (.string ⟨hb.toArray⟩)) rfl (by kernel_rfl) (by kernel_rfl) (by kernel_rfl) rfl (fun _ _ _ h => h) (fun _ => HT0) (Or.inl ⟨by rfl, fun W _ => by go_simp⟩) ?_
                  simp only [Act.put, List.getElem_toArray, List.getElem_cons_succ, List.getElem_cons_zero, List.setIfInBounds_toArray, List.set_cons_zero, List.set_cons_succ]
                  refine readyL (rs := [4, 9]) (by kernel_rfl) (by simp) ?_
                  refine AllL.cons rfl (fun K hK => ?_) (AllL.cons rfl (fun K hK => ?_) AllL.nil)
                  · skip
                    try simp only [List.getElem_toArray, List.getElem_cons_succ, List.getElem_cons_zero]
                    go_simp
                    refine hK.out _ _ (fun _ => HH.out _ (by ((repeat (first | exact Mvs.refl _ _ | assumption | (refine Mvs.alloc ?_ _) | (refine Mvs.drew ?_) | (refine Mvs.drewN ?_ _))); done))) (fun HTn => ?_)
                    clear HT0
                    have HT0 := HTn (by kernel_rfl)
                    clear HTn
                    clear hK K
                    refine readyL (rs := [5, 9]) (by kernel_rfl) (by simp) ?_
                    refine AllL.cons rfl (fun K hK => ?_) (AllL.cons rfl (fun K hK => ?_) AllL.nil)
                    · skip
                      refine step_append_rw (by rfl) (.tmp 114) (.tmp 117) 35 35 (by rfl) 9 i0 (.string ByteArray.empty) 1 16 Tryz.underlying35 hi hz0 hz1 hz2 (by rfl) (by simp [Act.eval, Act.put]) (HM2.out.then (by (repeat (first | exact Below.refl _ _ | exact below_drewN _ _ | (refine Below.alloc ?_ (by simp) _) | (refine Below.drew ?_))))).rn (.slice (some ⟨w2.heap.size, 0, none⟩) 1 1) 1 [encStr nm] (by simp [Act.eval, Act.put]) (src_txt (by (first | (simp; done) | (exact ((Blk.new w2 _ _).alloc _).drw.cell 0) | (exact (Blk.new1 w2 _ _ _).drw.cell 0) | (exact ((Blk.new w2 _ _).alloc _).cell 0) | (exact (Blk.new1 w2 _ _ _).cell 0))) (by (first | (simp; done) | (simp; omega) | (simp at hs4 ⊢; omega)))) (by simp only [maxLen]; omega) (by omega) ?_
                      intro v4 w4 G4 hr4 hm4 hg4
                      obtain ⟨A4, c4, rfl⟩ := hr4.form
                      have HM4 := hide ((HM2.out.then (by (repeat (first | exact Below.refl _ _ | exact below_drewN _ _ | (refine Below.alloc ?_ (by simp) _) | (refine Below.drew ?_))))).names hr4 hm4 hg4)
                      have HV4 := hide hm4
                      have hv4 : Mvs (fun k => some k = G1 ∨ some k = G2) w2 w4 := Mvs.trans (by ((repeat (first | exact Mvs.refl _ _ | assumption | (refine Mvs.alloc ?_ _) | (refine Mvs.drew ?_) | (refine Mvs.drewN ?_ _))); done)) (hm4.mono (fun _ _ e => Or.inl e))
                      have hs4 := hm4.size
                      clear hr4 hm4 hg4
                      refine hK.out _ _ (fun _ => HH.out _ (by ((repeat (first | exact Mvs.refl _ _ | assumption | (refine Mvs.alloc ?_ _) | (refine Mvs.drew ?_) | (refine Mvs.drewN ?_ _))); done))) (fun HTn => ?_)
                      clear hK K HT0
                      have HT0 := HTn (by kernel_rfl)
                      clear HTn
                      simp only [Act.put, List.getElem_toArray, List.getElem_cons_succ, List.getElem_cons_zero, List.setIfInBounds_toArray, List.set_cons_zero, List.set_cons_succ]
                      refine takeW (i := 11) (v := (.pointer (some ⟨bU, 0, none⟩))) rfl (by kernel_rfl) (by kernel_rfl) (by kernel_rfl) rfl (fun _ _ _ h => h) (fun _ => HT0) (Or.inl ⟨by rfl, fun W _ => by go_simp⟩) ?_
                      simp only [Act.put, List.getElem_toArray, List.getElem_cons_succ, List.getElem_cons_zero, List.setIfInBounds_toArray, List.set_cons_zero, List.set_cons_succ]
                      refine readyL (rs := [9]) (by kernel_rfl) (by simp) ?_
                      refine AllL.cons rfl (fun K hK => ?_) AllL.nil
                      try simp only [List.getElem_toArray, List.getElem_cons_succ, List.getElem_cons_zero]
                      go_simp
                      refine hK.out _ _ (fun _ => HH.out _ (by ((repeat (first | exact Mvs.refl _ _ | assumption | (refine Mvs.alloc ?_ _) | (refine Mvs.drew ?_) | (refine Mvs.drewN ?_ _))); done))) (fun HTn => ?_)
                      clear HT0
                      have HT0 := HTn (by kernel_rfl)
                      clear HTn
                      clear hK K
                      refine readyL (rs := [10]) (by kernel_rfl) (by simp) ?_
                      refine AllL.cons rfl (fun K hK => ?_) AllL.nil
                      refine step_append_rw (by rfl) (.tmp 120) (.tmp 122) 35 35 (by rfl) 9 i0 (.string ByteArray.empty) 1 16 Tryz.underlying35 hi hz0 hz1 hz2 (by rfl) (by simp [Act.eval, Act.put]) (HM4.out.then (by (repeat (first | exact Below.refl _ _ | exact below_drewN _ _ | (refine Below.alloc ?_ (by simp) _) | (refine Below.drew ?_))))).rb (.slice (some ⟨w4.heap.size, 0, none⟩) 1 1) 1 [encStr hb] (by simp [Act.eval, Act.put]) (src_txt (by (first | (simp; done) | (exact (Blk.new w4 _ _).drw.cell 0) | (exact (Blk.new w4 _ _).cell 0))) (by (first | (simp; done) | (simp; omega) | (simp at hs4 ⊢; omega)))) (by simp only [maxLen]; omega) (by omega) ?_
                      intro v5 w5 G5 hr5 hm5 hg5
                      obtain ⟨A5, c5, rfl⟩ := hr5.form
                      have HM5 := hide ((HM4.out.then (by (repeat (first | exact Below.refl _ _ | exact below_drewN _ _ | (refine Below.alloc ?_ (by simp) _) | (refine Below.drew ?_))))).texts hr5 hm5 hg5)
                      have hcb := HM5.out.blk.cell
                      have hfb := HM5.out.blk.frozen
                      have hv5 : Mvs (fun k => some k = G1 ∨ some k = G2) w2 w5 := hv4.trans (Mvs.trans (by ((repeat (first | exact Mvs.refl _ _ | assumption | (refine Mvs.alloc ?_ _) | (refine Mvs.drew ?_) | (refine Mvs.drewN ?_ _))); done)) (hm5.mono (fun _ _ e => Or.inr e)))
                      clear hr5 hm5 hg5
                      refine hK.out _ _ (fun _ => HH.out _ (by ((repeat (first | exact Mvs.refl _ _ | assumption | (refine Mvs.alloc ?_ _) | (refine Mvs.drew ?_) | (refine Mvs.drewN ?_ _))); done))) (fun HTn => ?_)
                      clear hK K HT0
                      have HT0 := HTn (by kernel_rfl)
                      clear HTn
                      simp only [Act.put, List.getElem_toArray, List.getElem_cons_succ, List.getElem_cons_zero, List.setIfInBounds_toArray, List.set_cons_zero, List.set_cons_succ]
                      refine readyL (rs := [12]) (by kernel_rfl) (by simp) ?_
                      refine AllL.cons rfl (fun K hK => ?_) AllL.nil
                      try simp only [List.getElem_toArray, List.getElem_cons_succ, List.getElem_cons_zero]
                      go_simp
                      refine hK.out _ _ (vac (by kernel_rfl)) (fun _ => ?_)
                      clear hK K
                      refine readyL (rs := [13]) (by kernel_rfl) (by simp) ?_
                      refine AllL.cons rfl (fun K hK => ?_) AllL.nil
                      try simp only [List.getElem_toArray, List.getElem_cons_succ, List.getElem_cons_zero]
                      go_simp
                      refine hK.out _ _ (vac (by kernel_rfl)) (fun _ => ?_)
                      clear hK K
                      refine readyL (rs := [14]) (by kernel_rfl) (by simp) ?_
                      refine AllL.cons rfl (fun K hK => ?_) AllL.nil
                      try simp only [List.getElem_toArray, List.getElem_cons_succ, List.getElem_cons_zero]
                      go_simp
                      refine hK.out _ _ (vac (by kernel_rfl)) (fun _ => ?_)
                      clear hK K
                      refine doneL (by kernel_rfl) ?_ _
                      have HE := hide HM5.out.stored
                      clear HM4 HM5 HM2 HH hcb hfb hv4 hv5 HV4 hs4 HT0
                      have HFM := HE
                      rw [show dl.map (·.1) ++ [nm] = R.map (·.1) from by rw [← HR1.out, List.map_append]; rfl, show dl.map (·.2) ++ [hb] = R.map (·.2) from by rw [← HR1.out, List.map_append]; rfl] at HFM
                      clear HE
                      have hcu0 := HFM.out.blk.cell
                      have HFF := hide (HFM.out.bl.blk HFc.out (by omega))
                      have hcf := HFF.out.cell
                      have hff := HFF.out.frozen
                      have hlf := HFF.out.lt
                      go_wp2
                      go_roundw
                      case measure => simp [intOf]; omega
                      case rel =>
                        have hf1 := HFM.out.off.1
                        have hf2 := HFM.out.off.2
                        refine ⟨k + 1, R, _, _, by go_num, by omega, (HFF.out.set 0 _).set 1 _, ?_, ?_, ?_, HDo.out, ?_, ?_, ?_, HBd⟩
                        · obtain ⟨ht1, ht2⟩ := HFM.out.tr
                          exact ⟨ht1.keep (S := fun k => k = w.heap.size) (((Mvs.refl (fun k => k = w.heap.size) _).setCell ⟨w.heap.size, 0, none⟩ _ (fun _ => rfl)).setCell ⟨w.heap.size, 1, none⟩ _ (fun _ => rfl)) (fun A n c e h => by have := hf1 A n c e; omega), ht2.keep (S := fun k => k = w.heap.size) (((Mvs.refl (fun k => k = w.heap.size) _).setCell ⟨w.heap.size, 0, none⟩ _ (fun _ => rfl)).setCell ⟨w.heap.size, 1, none⟩ _ (fun _ => rfl)) (fun A n c e h => by have := hf2 A n c e; omega)⟩
                        · obtain ⟨z, hz, hzs⟩ := HRes2.out
                          exact ⟨z, (((HFM.out.bl.blk hz (by omega)).set_other _ _ (by simp)).set_other _ _ (by simp)), hzs⟩
                        · exact ((HB2.out.trans (HFM.out.bl.below (fun k hk e => by omega) (by have := HB2.out.size; omega))).setCell (p := ⟨w.heap.size, 0, none⟩) (Nat.le_refl _) _).setCell (p := ⟨w.heap.size, 1, none⟩) (Nat.le_refl _) _
                        · have := HRl.out
                          omega
                        · intro _ A n c e h
                          rcases e with e | e
                          · have := hf1 A n c e
                            omega
                          · have := hf2 A n c e
                            omega
                        · intro _ A n c e
                          have hs2 := HB2.out.size
                          rcases e with e | e
                          · exact HFf.out _ (Nat.le_trans hs2 (hf1 A n c e))
                          · exact HFf.out _ (Nat.le_trans hs2 (hf2 A n c e))
                    · skip
                      try simp only [List.getElem_toArray, List.getElem_cons_succ, List.getElem_cons_zero]
                      go_simp
                      refine hK.out _ _ (fun _ => HH.out _ (by ((repeat (first | exact Mvs.refl _ _ | assumption | (refine Mvs.alloc ?_ _) | (refine Mvs.drew ?_) | (refine Mvs.drewN ?_ _))); done))) (fun HTn => ?_)
                      clear HT0
                      have HT0 := HTn (by kernel_rfl)
                      clear HTn
                      clear hK K
                      refine readyL (rs := [5]) (by kernel_rfl) (by simp) ?_
                      refine AllL.cons rfl (fun K hK => ?_) AllL.nil
                      refine step_append_rw (by rfl) (.tmp 114) (.tmp 117) 35 35 (by rfl) 9 i0 (.string ByteArray.empty) 1 16 Tryz.underlying35 hi hz0 hz1 hz2 (by rfl) (by simp [Act.eval, Act.put]) (HM2.out.then (by (repeat (first | exact Below.refl _ _ | exact below_drewN _ _ | (refine Below.alloc ?_ (by simp) _) | (refine Below.drew ?_))))).rn (.slice (some ⟨w2.heap.size, 0, none⟩) 1 1) 1 [encStr nm] (by simp [Act.eval, Act.put]) (src_txt (by (first | (simp; done) | (exact ((Blk.new w2 _ _).alloc _).drw.cell 0) | (exact (Blk.new1 w2 _ _ _).drw.cell 0) | (exact ((Blk.new w2 _ _).alloc _).cell 0) | (exact (Blk.new1 w2 _ _ _).cell 0))) (by (first | (simp; done) | (simp; omega) | (simp at hs4 ⊢; omega)))) (by simp only [maxLen]; omega) (by omega) ?_
                      intro v4 w4 G4 hr4 hm4 hg4
                      obtain ⟨A4, c4, rfl⟩ := hr4.form
                      have HM4 := hide ((HM2.out.then (by (repeat (first | exact Below.refl _ _ | exact below_drewN _ _ | (refine Below.alloc ?_ (by simp) _) | (refine Below.drew ?_))))).names hr4 hm4 hg4)
                      have HV4 := hide hm4
                      have hv4 : Mvs (fun k => some k = G1 ∨ some k = G2) w2 w4 := Mvs.trans (by ((repeat (first | exact Mvs.refl _ _ | assumption | (refine Mvs.alloc ?_ _) | (refine Mvs.drew ?_) | (refine Mvs.drewN ?_ _))); done)) (hm4.mono (fun _ _ e => Or.inl e))
                      have hs4 := hm4.size
                      clear hr4 hm4 hg4
                      refine hK.out _ _ (fun _ => HH.out _ (by ((repeat (first | exact Mvs.refl _ _ | assumption | (refine Mvs.alloc ?_ _) | (refine Mvs.drew ?_) | (refine Mvs.drewN ?_ _))); done))) (fun HTn => ?_)
                      clear hK K HT0
                      have HT0 := HTn (by kernel_rfl)
                      clear HTn
                      simp only [Act.put, List.getElem_toArray, List.getElem_cons_succ, List.getElem_cons_zero, List.setIfInBounds_toArray, List.set_cons_zero, List.set_cons_succ]
                      refine takeW (i := 11) (v := (.pointer (some ⟨bU, 0, none⟩))) rfl (by kernel_rfl) (by kernel_rfl) (by kernel_rfl) rfl (fun _ _ _ h => h) (fun _ => HT0) (Or.inl ⟨by rfl, fun W _ => by go_simp⟩) ?_
                      simp only [Act.put, List.getElem_toArray, List.getElem_cons_succ, List.getElem_cons_zero, List.setIfInBounds_toArray, List.set_cons_zero, List.set_cons_succ]
                      refine readyL (rs := [10]) (by kernel_rfl) (by simp) ?_
                      refine AllL.cons rfl (fun K hK => ?_) AllL.nil
                      refine step_append_rw (by rfl) (.tmp 120) (.tmp 122) 35 35 (by rfl) 9 i0 (.string ByteArray.empty) 1 16 Tryz.underlying35 hi hz0 hz1 hz2 (by rfl) (by simp [Act.eval, Act.put]) (HM4.out.then (by (repeat (first | exact Below.refl _ _ | exact below_drewN _ _ | (refine Below.alloc ?_ (by simp) _) | (refine Below.drew ?_))))).rb (.slice (some ⟨(w2.heap.size + 1), 0, none⟩) 1 1) 1 [encStr hb] (by simp [Act.eval, Act.put]) (src_txt (by (exact (HV4.out.cell (a := ⟨(w2.heap.size + 1), 0, none⟩) (by first | (simp; done) | (simp; omega)) (by intro e; have h2 : (w2.heap.size + 1) < w2.heap.size := HLT.out _ (Or.inl e.symm); omega)).trans (by (first | (simp; done) | (exact ((Blk.new w2 _ _).alloc _).drw.cell 0) | (exact (Blk.new1 w2 _ _ _).drw.cell 0) | (exact ((Blk.new w2 _ _).alloc _).cell 0) | (exact (Blk.new1 w2 _ _ _).cell 0))))) (by (first | (simp; done) | (simp; omega) | (simp at hs4 ⊢; omega)))) (by simp only [maxLen]; omega) (by omega) ?_
                      intro v5 w5 G5 hr5 hm5 hg5
                      obtain ⟨A5, c5, rfl⟩ := hr5.form
                      have HM5 := hide ((HM4.out.then (by (repeat (first | exact Below.refl _ _ | exact below_drewN _ _ | (refine Below.alloc ?_ (by simp) _) | (refine Below.drew ?_))))).texts hr5 hm5 hg5)
                      have hcb := HM5.out.blk.cell
                      have hfb := HM5.out.blk.frozen
                      have hv5 : Mvs (fun k => some k = G1 ∨ some k = G2) w2 w5 := hv4.trans (Mvs.trans (by ((repeat (first | exact Mvs.refl _ _ | assumption | (refine Mvs.alloc ?_ _) | (refine Mvs.drew ?_) | (refine Mvs.drewN ?_ _))); done)) (hm5.mono (fun _ _ e => Or.inr e)))
                      clear hr5 hm5 hg5
                      refine hK.out _ _ (fun _ => HH.out _ (by ((repeat (first | exact Mvs.refl _ _ | assumption | (refine Mvs.alloc ?_ _) | (refine Mvs.drew ?_) | (refine Mvs.drewN ?_ _))); done))) (fun HTn => ?_)
                      clear hK K HT0
                      have HT0 := HTn (by kernel_rfl)
                      clear HTn
                      simp only [Act.put, List.getElem_toArray, List.getElem_cons_succ, List.getElem_cons_zero, List.setIfInBounds_toArray, List.set_cons_zero, List.set_cons_succ]
                      refine readyL (rs := [12]) (by kernel_rfl) (by simp) ?_
                      refine AllL.cons rfl (fun K hK => ?_) AllL.nil
                      try simp only [List.getElem_toArray, List.getElem_cons_succ, List.getElem_cons_zero]
                      go_simp
                      refine hK.out _ _ (vac (by kernel_rfl)) (fun _ => ?_)
                      clear hK K
                      refine readyL (rs := [13]) (by kernel_rfl) (by simp) ?_
                      refine AllL.cons rfl (fun K hK => ?_) AllL.nil
                      try simp only [List.getElem_toArray, List.getElem_cons_succ, List.getElem_cons_zero]
                      go_simp
                      refine hK.out _ _ (vac (by kernel_rfl)) (fun _ => ?_)
                      clear hK K
                      refine readyL (rs := [14]) (by kernel_rfl) (by simp) ?_
                      refine AllL.cons rfl (fun K hK => ?_) AllL.nil
                      try simp only [List.getElem_toArray, List.getElem_cons_succ, List.getElem_cons_zero]
                      go_simp
                      refine hK.out _ _ (vac (by kernel_rfl)) (fun _ => ?_)
                      clear hK K
                      refine doneL (by kernel_rfl) ?_ _
                      have HE := hide HM5.out.stored
                      clear HM4 HM5 HM2 HH hcb hfb hv4 hv5 HV4 hs4 HT0
                      have HFM := HE
                      rw [show dl.map (·.1) ++ [nm] = R.map (·.1) from by rw [← HR1.out, List.map_append]; rfl, show dl.map (·.2) ++ [hb] = R.map (·.2) from by rw [← HR1.out, List.map_append]; rfl] at HFM
                      clear HE
                      have hcu0 := HFM.out.blk.cell
                      have HFF := hide (HFM.out.bl.blk HFc.out (by omega))
                      have hcf := HFF.out.cell
                      have hff := HFF.out.frozen
                      have hlf := HFF.out.lt
                      go_wp2
                      go_roundw
                      case measure => simp [intOf]; omega
                      case rel =>
                        have hf1 := HFM.out.off.1
                        have hf2 := HFM.out.off.2
                        refine ⟨k + 1, R, _, _, by go_num, by omega, (HFF.out.set 0 _).set 1 _, ?_, ?_, ?_, HDo.out, ?_, ?_, ?_, HBd⟩
                        · obtain ⟨ht1, ht2⟩ := HFM.out.tr
                          exact ⟨ht1.keep (S := fun k => k = w.heap.size) (((Mvs.refl (fun k => k = w.heap.size) _).setCell ⟨w.heap.size, 0, none⟩ _ (fun _ => rfl)).setCell ⟨w.heap.size, 1, none⟩ _ (fun _ => rfl)) (fun A n c e h => by have := hf1 A n c e; omega), ht2.keep (S := fun k => k = w.heap.size) (((Mvs.refl (fun k => k = w.heap.size) _).setCell ⟨w.heap.size, 0, none⟩ _ (fun _ => rfl)).setCell ⟨w.heap.size, 1, none⟩ _ (fun _ => rfl)) (fun A n c e h => by have := hf2 A n c e; omega)⟩
                        · obtain ⟨z, hz, hzs⟩ := HRes2.out
                          exact ⟨z, (((HFM.out.bl.blk hz (by omega)).set_other _ _ (by simp)).set_other _ _ (by simp)), hzs⟩
                        · exact ((HB2.out.trans (HFM.out.bl.below (fun k hk e => by omega) (by have := HB2.out.size; omega))).setCell (p := ⟨w.heap.size, 0, none⟩) (Nat.le_refl _) _).setCell (p := ⟨w.heap.size, 1, none⟩) (Nat.le_refl _) _
                        · have := HRl.out
                          omega
                        · intro _ A n c e h
                          rcases e with e | e
                          · have := hf1 A n c e
                            omega
                          · have := hf2 A n c e
                            omega
                        · intro _ A n c e
                          have hs2 := HB2.out.size
                          rcases e with e | e
                          · exact HFf.out _ (Nat.le_trans hs2 (hf1 A n c e))
                          · exact HFf.out _ (Nat.le_trans hs2 (hf2 A n c e))
                  · skip
                    try simp only [List.getElem_toArray, List.getElem_cons_succ, List.getElem_cons_zero]
                    go_simp
                    refine hK.out _ _ (fun _ => HH.out _ (by ((repeat (first | exact Mvs.refl _ _ | assumption | (refine Mvs.alloc ?_ _) | (refine Mvs.drew ?_) | (refine Mvs.drewN ?_ _))); done))) (fun HTn => ?_)
                    clear HT0
                    have HT0 := HTn (by kernel_rfl)
                    clear HTn
                    clear hK K
                    refine readyL (rs := [4]) (by kernel_rfl) (by simp) ?_
                    refine AllL.cons rfl (fun K hK => ?_) AllL.nil
                    try simp only [List.getElem_toArray, List.getElem_cons_succ, List.getElem_cons_zero]
                    go_simp
                    refine hK.out _ _ (fun _ => HH.out _ (by ((repeat (first | exact Mvs.refl _ _ | assumption | (refine Mvs.alloc ?_ _) | (refine Mvs.drew ?_) | (refine Mvs.drewN ?_ _))); done))) (fun HTn => ?_)
                    clear HT0
                    have HT0 := HTn (by kernel_rfl)
                    clear HTn
                    clear hK K
                    refine readyL (rs := [5]) (by kernel_rfl) (by simp) ?_
                    refine AllL.cons rfl (fun K hK => ?_) AllL.nil
                    refine step_append_rw (by rfl) (.tmp 114) (.tmp 117) 35 35 (by rfl) 9 i0 (.string ByteArray.empty) 1 16 Tryz.underlying35 hi hz0 hz1 hz2 (by rfl) (by simp [Act.eval, Act.put]) (HM2.out.then (by (repeat (first | exact Below.refl _ _ | exact below_drewN _ _ | (refine Below.alloc ?_ (by simp) _) | (refine Below.drew ?_))))).rn (.slice (some ⟨(w2.heap.size + 1), 0, none⟩) 1 1) 1 [encStr nm] (by simp [Act.eval, Act.put]) (src_txt (by (first | (simp; done) | (exact ((Blk.new w2 _ _).alloc _).drw.cell 0) | (exact (Blk.new1 w2 _ _ _).drw.cell 0) | (exact ((Blk.new w2 _ _).alloc _).cell 0) | (exact (Blk.new1 w2 _ _ _).cell 0))) (by (first | (simp; done) | (simp; omega) | (simp at hs4 ⊢; omega)))) (by simp only [maxLen]; omega) (by omega) ?_
                    intro v4 w4 G4 hr4 hm4 hg4
                    obtain ⟨A4, c4, rfl⟩ := hr4.form
                    have HM4 := hide ((HM2.out.then (by (repeat (first | exact Below.refl _ _ | exact below_drewN _ _ | (refine Below.alloc ?_ (by simp) _) | (refine Below.drew ?_))))).names hr4 hm4 hg4)
                    have HV4 := hide hm4
                    have hv4 : Mvs (fun k => some k = G1 ∨ some k = G2) w2 w4 := Mvs.trans (by ((repeat (first | exact Mvs.refl _ _ | assumption | (refine Mvs.alloc ?_ _) | (refine Mvs.drew ?_) | (refine Mvs.drewN ?_ _))); done)) (hm4.mono (fun _ _ e => Or.inl e))
                    have hs4 := hm4.size
                    clear hr4 hm4 hg4
                    refine hK.out _ _ (fun _ => HH.out _ (by ((repeat (first | exact Mvs.refl _ _ | assumption | (refine Mvs.alloc ?_ _) | (refine Mvs.drew ?_) | (refine Mvs.drewN ?_ _))); done))) (fun HTn => ?_)
                    clear hK K HT0
                    have HT0 := HTn (by kernel_rfl)
                    clear HTn
                    simp only [Act.put, List.getElem_toArray, List.getElem_cons_succ, List.getElem_cons_zero, List.setIfInBounds_toArray, List.set_cons_zero, List.set_cons_succ]
                    refine takeW (i := 11) (v := (.pointer (some ⟨bU, 0, none⟩))) rfl (by kernel_rfl) (by kernel_rfl) (by kernel_rfl) rfl (fun _ _ _ h => h) (fun _ => HT0) (Or.inl ⟨by rfl, fun W _ => by go_simp⟩) ?_
                    simp only [Act.put, List.getElem_toArray, List.getElem_cons_succ, List.getElem_cons_zero, List.setIfInBounds_toArray, List.set_cons_zero, List.set_cons_succ]
                    refine readyL (rs := [10]) (by kernel_rfl) (by simp) ?_
                    refine AllL.cons rfl (fun K hK => ?_) AllL.nil
                    refine step_append_rw (by rfl) (.tmp 120) (.tmp 122) 35 35 (by rfl) 9 i0 (.string ByteArray.empty) 1 16 Tryz.underlying35 hi hz0 hz1 hz2 (by rfl) (by simp [Act.eval, Act.put]) (HM4.out.then (by (repeat (first | exact Below.refl _ _ | exact below_drewN _ _ | (refine Below.alloc ?_ (by simp) _) | (refine Below.drew ?_))))).rb (.slice (some ⟨w2.heap.size, 0, none⟩) 1 1) 1 [encStr hb] (by simp [Act.eval, Act.put]) (src_txt (by (exact (HV4.out.cell (a := ⟨w2.heap.size, 0, none⟩) (by first | (simp; done) | (simp; omega)) (by intro e; have h2 : w2.heap.size < w2.heap.size := HLT.out _ (Or.inl e.symm); omega)).trans (by (first | (simp; done) | (exact ((Blk.new w2 _ _).alloc _).drw.cell 0) | (exact (Blk.new1 w2 _ _ _).drw.cell 0) | (exact ((Blk.new w2 _ _).alloc _).cell 0) | (exact (Blk.new1 w2 _ _ _).cell 0))))) (by (first | (simp; done) | (simp; omega) | (simp at hs4 ⊢; omega)))) (by simp only [maxLen]; omega) (by omega) ?_
                    intro v5 w5 G5 hr5 hm5 hg5
                    obtain ⟨A5, c5, rfl⟩ := hr5.form
                    have HM5 := hide ((HM4.out.then (by (repeat (first | exact Below.refl _ _ | exact below_drewN _ _ | (refine Below.alloc ?_ (by simp) _) | (refine Below.drew ?_))))).texts hr5 hm5 hg5)
                    have hcb := HM5.out.blk.cell
                    have hfb := HM5.out.blk.frozen
                    have hv5 : Mvs (fun k => some k = G1 ∨ some k = G2) w2 w5 := hv4.trans (Mvs.trans (by ((repeat (first | exact Mvs.refl _ _ | assumption | (refine Mvs.alloc ?_ _) | (refine Mvs.drew ?_) | (refine Mvs.drewN ?_ _))); done)) (hm5.mono (fun _ _ e => Or.inr e)))
                    clear hr5 hm5 hg5
                    refine hK.out _ _ (fun _ => HH.out _ (by ((repeat (first | exact Mvs.refl _ _ | assumption | (refine Mvs.alloc ?_ _) | (refine Mvs.drew ?_) | (refine Mvs.drewN ?_ _))); done))) (fun HTn => ?_)
                    clear hK K HT0
                    have HT0 := HTn (by kernel_rfl)
                    clear HTn
                    simp only [Act.put, List.getElem_toArray, List.getElem_cons_succ, List.getElem_cons_zero, List.setIfInBounds_toArray, List.set_cons_zero, List.set_cons_succ]
                    refine readyL (rs := [12]) (by kernel_rfl) (by simp) ?_
                    refine AllL.cons rfl (fun K hK => ?_) AllL.nil
                    try simp only [List.getElem_toArray, List.getElem_cons_succ, List.getElem_cons_zero]
                    go_simp
                    refine hK.out _ _ (vac (by kernel_rfl)) (fun _ => ?_)
                    clear hK K
                    refine readyL (rs := [13]) (by kernel_rfl) (by simp) ?_
                    refine AllL.cons rfl (fun K hK => ?_) AllL.nil
                    try simp only [List.getElem_toArray, List.getElem_cons_succ, List.getElem_cons_zero]
                    go_simp
                    refine hK.out _ _ (vac (by kernel_rfl)) (fun _ => ?_)
                    clear hK K
                    refine readyL (rs := [14]) (by kernel_rfl) (by simp) ?_
                    refine AllL.cons rfl (fun K hK => ?_) AllL.nil
                    try simp only [List.getElem_toArray, List.getElem_cons_succ, List.getElem_cons_zero]
                    go_simp
                    refine hK.out _ _ (vac (by kernel_rfl)) (fun _ => ?_)
                    clear hK K
                    refine doneL (by kernel_rfl) ?_ _
                    have HE := hide HM5.out.stored
                    clear HM4 HM5 HM2 HH hcb hfb hv4 hv5 HV4 hs4 HT0
                    have HFM := HE
                    rw [show dl.map (·.1) ++ [nm] = R.map (·.1) from by rw [← HR1.out, List.map_append]; rfl, show dl.map (·.2) ++ [hb] = R.map (·.2) from by rw [← HR1.out, List.map_append]; rfl] at HFM
                    clear HE
                    have hcu0 := HFM.out.blk.cell
                    have HFF := hide (HFM.out.bl.blk HFc.out (by omega))
                    have hcf := HFF.out.cell
                    have hff := HFF.out.frozen
                    have hlf := HFF.out.lt
                    go_wp2
                    go_roundw
                    case measure => simp [intOf]; omega
                    case rel =>
                      have hf1 := HFM.out.off.1
                      have hf2 := HFM.out.off.2
                      refine ⟨k + 1, R, _, _, by go_num, by omega, (HFF.out.set 0 _).set 1 _, ?_, ?_, ?_, HDo.out, ?_, ?_, ?_, HBd⟩
                      · obtain ⟨ht1, ht2⟩ := HFM.out.tr
                        exact ⟨ht1.keep (S := fun k => k = w.heap.size) (((Mvs.refl (fun k => k = w.heap.size) _).setCell ⟨w.heap.size, 0, none⟩ _ (fun _ => rfl)).setCell ⟨w.heap.size, 1, none⟩ _ (fun _ => rfl)) (fun A n c e h => by have := hf1 A n c e; omega), ht2.keep (S := fun k => k = w.heap.size) (((Mvs.refl (fun k => k = w.heap.size) _).setCell ⟨w.heap.size, 0, none⟩ _ (fun _ => rfl)).setCell ⟨w.heap.size, 1, none⟩ _ (fun _ => rfl)) (fun A n c e h => by have := hf2 A n c e; omega)⟩
                      · obtain ⟨z, hz, hzs⟩ := HRes2.out
                        exact ⟨z, (((HFM.out.bl.blk hz (by omega)).set_other _ _ (by simp)).set_other _ _ (by simp)), hzs⟩
                      · exact ((HB2.out.trans (HFM.out.bl.below (fun k hk e => by omega) (by have := HB2.out.size; omega))).setCell (p := ⟨w.heap.size, 0, none⟩) (Nat.le_refl _) _).setCell (p := ⟨w.heap.size, 1, none⟩) (Nat.le_refl _) _
                      · have := HRl.out
                        omega
                      · intro _ A n c e h
                        rcases e with e | e
                        · have := hf1 A n c e
                          omega
                        · have := hf2 A n c e
                          omega
                      · intro _ A n c e
                        have hs2 := HB2.out.size
                        rcases e with e | e
                        · exact HFf.out _ (Nat.le_trans hs2 (hf1 A n c e))
                        · exact HFf.out _ (Nat.le_trans hs2 (hf2 A n c e))
    · have hlt' : ¬ (k : Int) < xs.length := by omega
      have HDl : Hid (lk = doAll l xs) := by
        have := HD.out
        rw [List.drop_of_length_le (by omega)] at this
        exact this
      obtain ⟨A1, c1, rfl, _, _⟩ := HT.out.1.form
      obtain ⟨A2, c2, rfl, _, _⟩ := HT.out.2.form
      obtain ⟨n1, hn1⟩ : ∃ n1, (lk.map (·.1)).length = n1 := ⟨_, rfl⟩
      obtain ⟨n2, hn2⟩ : ∃ n2, (lk.map (·.2)).length = n2 := ⟨_, rfl⟩
      rw [hn1, hn2] at HF
      rw [hn1, hn2] at HT
      rw [hn1, hn2] at HOf
      rw [hn1, hn2] at HFr
      obtain ⟨z, hz, hzs⟩ := HRes.out
      obtain ⟨z0, z1, rfl⟩ : ∃ z0 z1, z = #[z0, z1] := by
        rcases z with ⟨zl⟩
        match zl, hzs with
        | [a, b], _ => exact ⟨a, b, rfl⟩
      have hcr := hz.cell
      have hfr := hz.frozen
      have hcF := HF.out.cell
      have H3 := hide hz
      clear hz hn1 hn2 HD HBk HRes hzs
      go_wp2
      have hR := ((H3.out.set 0 (.slice A1 n1 c1)).set 1 (.slice A2 n2 c2)).cell
      have hm : Mvs (fun k => k = w.heap.size + 1) wr ((wr.setCell ⟨w.heap.size + 1, 0, none⟩ (.slice A1 n1 c1)).setCell ⟨w.heap.size + 1, 1, none⟩ (.slice A2 n2 c2)) := ((Mvs.refl (fun k => k = w.heap.size + 1) wr).setCell ⟨w.heap.size + 1, 0, none⟩ _ (fun _ => rfl)).setCell ⟨w.heap.size + 1, 1, none⟩ _ (fun _ => rfl)
      refine bodyPost_ret (v := .agg #[.slice A1 n1 c1, .slice A2 n2 c2]) (by simp [results, Tryz.results9, go_sem, hR]) rfl ?_
      rw [← HDl.out]
      exact ⟨_, _, rfl, HT.out.1.keep2 hm (fun h0 A n c e => HOf.out (by simpa using h0) A n c (Or.inl e)), HT.out.2.keep2 hm (fun h0 A n c e => HOf.out (by simpa using h0) A n c (Or.inr e)), HB.out.trans (hm.below (fun k hk e => by omega) (by omega)), HFr.out⟩
end Go.Proofs.YthhnlkbjpahjeaaGreatDoor
