/- A region that draws its order, whose first operations read old memory or make new one, and whose number c waits for all of them: one walk of the first ones, in whatever world that keeps the old blocks; then all orders of the rest. -/
/- brackets, nameText, List of package envelope. -/
import Derived.Test.YtkppeejbmalefaaGreatDoorU08
import Derived.Test.YtkppeejbmalefaaGreatDoorU09
import Derived.Test.YtkppeejbmalefaaGreatDoorU17
import Derived.Test.YtkppeejbmalefaaGreatDoorU11
section
namespace Go.Proofs.YtkppeejbmalefaaGreatDoor
open Go.RowKit
section
variable {P : Program} {md : Region.Mode} {ops : Array Oper} {c : Nat} {C : World → Prop} {R : Nat → Array Bool → Act → Prop}
/-- All orders until c comes up: then nothing else may. -/
def anyE (P : Program) (md : Region.Mode) (ops : Array Oper) (C : World → Prop) (c : Nat) (R : Nat → Array Bool → Act → Prop) : Nat → Array Bool → Act → Prop
  | 0, _, _ => False
  | f + 1, L, a => (c ∈ Region.ready md ops L → Region.ready md ops L = [c] ∧ R f L a) ∧
    (c ∉ Region.ready md ops L → Region.ready md ops L ≠ [] ∧ ∀ i ∈ Region.ready md ops L, qOp P ops C i (anyE P md ops C c R f (L.setIfInBounds i true)) a)
/-- c waits for i, through operations that have not come up. -/
inductive Chn (md : Region.Mode) (ops : Array Oper) (c : Nat) (L : Array Bool) : Nat → Prop
  | dir {i : Nat} : waits md ops c i = true → Chn md ops c L i
  | step {i k : Nat} : waits md ops k i = true → L.getD k true = false → Chn md ops c L k → Chn md ops c L i
theorem not_ready {L : Array Bool} {j i : Nat} (hw : waits md ops j i = true) (hi : L.getD i true = false) : j ∉ Region.ready md ops L := fun hj => by
  obtain ⟨_, oj, hoj, hall⟩ := mem_ready.1 hj
  unfold waits at hw
  rw [hoj] at hw
  obtain ⟨e, he, h2⟩ := Array.any_eq_true'.1 hw
  simp only [Bool.and_eq_true, beq_iff_eq] at h2
  have h1 := hall e he h2.1
  rw [h2.2] at h1
  rcases Nat.lt_or_ge i L.size with h' | h'
  · simp [h'] at hi h1
    rw [hi] at h1
    cases h1
  · simp [Array.getElem?_eq_none h'] at h1
theorem Chn.no {L : Array Bool} {i : Nat} (h : Chn md ops c L i) : L.getD i true = false → c ∉ Region.ready md ops L := by
  induction h with
  | dir hw => exact fun hi => not_ready hw hi
  | step _ hk _ ih => exact fun _ => ih hk
theorem Chn.next {L : Array Bool} {i j : Nat} (h : Chn md ops c L i) (hj : j ∈ Region.ready md ops L) : L.getD i true = false → Chn md ops c (L.setIfInBounds j true) i := by
  induction h with
  | dir hw => exact fun _ => .dir hw
  | step hw hk _ ih =>
    intro hi
    refine .step hw ?_ (ih hk)
    rw [getD_set_ne true]
    · exact hk
    · rintro rfl
      exact not_ready hw hi hj
theorem anyE_first {i : Nat} {oi : Oper} {v : Value} (hi : ops[i]? = some oi) (hsel : ∀ (j : Nat) (o : Oper) cs b, ops[j]? = some o → o.op ≠ .select cs b) :
    ∀ (f : Nat) (L : Array Bool) (a : Act),
      (∀ j oj, ops[j]? = some oj → j ≠ i → L.getD j true = false → (∀ e ∈ oj.after, Region.binds md e = true → e.on ≠ i) → oi.apart ops oj = true) →
      i ∈ Region.ready md ops L → Chn md ops c L i → YieldsIn P ops C oi v a →
      anyE P md ops C c R f (L.setIfInBounds i true) (a.put oi.dst v) → anyE P md ops C c R (f + 1) L a := by
  intro f
  induction f with
  | zero => intro L a _ _ _ _ H; exact H.elim
  | succ f ih =>
    intro L a hfree hr hch hy H
    have hun := (mem_ready.1 hr).1
    have hnc := hch.no hun
    refine ⟨fun h => absurd h hnc, fun _ => ⟨(fun h => by rw [h] at hr; cases hr), fun j hj => ?_⟩⟩
    by_cases hji : j = i
    · subst hji
      exact hy.qOp hi H
    · have hj1 := ready_mono hj hji
      have hcn : c ∉ Region.ready md ops (L.setIfInBounds i true) := fun hc => by
        have := (H.1 hc).1
        rw [this] at hj1
        have := List.mem_singleton.1 hj1
        subst this
        exact hnc hj
      have h1 := (H.2 hcn).2 j hj1
      obtain ⟨hjun, oj, hoj, hall⟩ := mem_ready.1 hj
      have hnot : ∀ e ∈ oj.after, Region.binds md e = true → e.on ≠ i := fun e he hb heq => by
        have h1 := hall e he hb
        rw [heq] at h1
        rcases Nat.lt_or_ge i L.size with h' | h'
        · simp [h'] at hun h1
          rw [hun] at h1
          cases h1
        · simp [Array.getElem?_eq_none h'] at h1
      have h2 := qOp_put hoj (hfree j oj hoj hji hjun hnot) (fun cs b => hsel i oi cs b hi) (fun cs b => hsel j oj cs b hoj) hy h1
      have hfree' : ∀ k ok, ops[k]? = some ok → k ≠ i → (L.setIfInBounds j true).getD k true = false →
          (∀ e ∈ ok.after, Region.binds md e = true → e.on ≠ i) → oi.apart ops ok = true := fun k ok hk hki hun hno => by
        refine hfree k ok hk hki ?_ hno
        by_cases hjk : j = k
        · subst hjk
          exact hjun
        · rw [getD_set_ne true hjk] at hun
          exact hun
      refine qOp_mono (fun a' h3 => ih (L.setIfInBounds j true) a' hfree' (ready_mono hr (Ne.symm hji)) (hch.next hj hun) h3.1 ?_) h2
      rw [Array.setIfInBounds_comm _ _ hji]
      exact h3.2
/-- The chain, by looking. -/
def chnB (md : Region.Mode) (ops : Array Oper) (c : Nat) (L : Array Bool) : Nat → Nat → Bool
  | 0, i => waits md ops c i
  | n + 1, i => waits md ops c i || (List.range ops.size).any fun k => waits md ops k i && !L.getD k true && chnB md ops c L n k
theorem chnB_spec {L : Array Bool} : ∀ (n i : Nat), chnB md ops c L n i = true → Chn md ops c L i
  | 0, _, h => .dir h
  | n + 1, i, h => by
    unfold chnB at h
    rw [Bool.or_eq_true] at h
    rcases h with h | h
    · exact .dir h
    · obtain ⟨k, _, hk⟩ := List.any_eq_true.1 h
      simp only [Bool.and_eq_true, Bool.not_eq_true'] at hk
      exact .step hk.1.1 hk.1.2 (chnB_spec n k hk.2)
def lexE (md : Region.Mode) (ops : Array Oper) (c n : Nat) : Nat → Nat → Array Bool → Bool
  | 0, _, L => Region.ready md ops L == [c]
  | f + 1, k, L => (Region.ready md ops L).contains k && Region.free md ops L k && chnB md ops c L n k && lexE md ops c n f (k + 1) (L.setIfInBounds k true)
/-- What has come up behind the first ones. -/
def fstL : Nat → Nat → Array Bool → Array Bool
  | 0, _, L => L
  | f + 1, k, L => fstL f (k + 1) (L.setIfInBounds k true)
theorem anyE_lex {n : Nat} (hs : Region.noSelect ops = true) : ∀ (l : List Oper) (k f : Nat) (L : Array Bool) (a : Act), (∀ j o, l[j]? = some o → ops[k + j]? = some o) →
    lexE md ops c n l.length k L = true → wpQuiet P ops C (fun a' => R f (fstL l.length k L) a') l a → anyE P md ops C c R (l.length + (f + 1)) L a
  | [], k, f, L, a, _, hB, h => by
    have hB' : Region.ready md ops L = [c] := by simpa [lexE] using hB
    show anyE P md ops C c R (0 + (f + 1)) L a
    rw [Nat.zero_add]
    exact ⟨fun _ => ⟨hB', h⟩, fun hn => absurd (by rw [hB']; simp) hn⟩
  | o :: l, k, f, L, a, hl, hB, h => by
    have h0 : ops[k]? = some o := by simpa using hl 0 o rfl
    simp only [List.length_cons, lexE, Bool.and_eq_true] at hB
    obtain ⟨⟨⟨hr, hf⟩, hch⟩, hB'⟩ := hB
    have hst : qOp P ops C k (wpQuiet P ops C (fun a' => R f (fstL (l.length + 1) k L) a') l) a := by unfold qOp; simp only [h0]; exact h
    obtain ⟨v, hy, hK⟩ := yieldsIn_of_qOp h0 hst
    have := anyE_first h0 (Region.noSelect_spec hs) (l.length + (f + 1)) L a (Region.free_spec h0 hf) (by simpa using hr) (chnB_spec n k hch) hy
      (anyE_lex (n := n) hs l (k + 1) f _ _ (fun j o hj => by have := hl (j + 1) o hj; rwa [show k + 1 + j = k + (j + 1) by omega]) hB' hK)
    rw [List.length_cons, show l.length + 1 + (f + 1) = l.length + (f + 1) + 1 by omega]
    exact this
theorem any_of_E {Q : Exit → Act → World → Prop} (hR : ∀ f L a w, C w → R f L a → wpAny P md ops Q (f + 1) L a w) : ∀ (f : Nat) (L : Array Bool) (a : Act) (w : World), C w → anyE P md ops C c R f L a → wpAny P md ops Q f L a w
  | 0, _, _, _, _, h => h.elim
  | f + 1, L, a, w, hw, h => by
    by_cases hc : c ∈ Region.ready md ops L
    · exact hR f L a w hw (h.1 hc).2
    · obtain ⟨h1, h2⟩ := h.2 hc
      exact ⟨fun h0 => absurd h0 h1, fun i hi => wpOp_of_qOp hw (fun a' w' hw' => any_of_E hR f _ a' w' hw') (h2 i hi)⟩
/-- The first c operations by one walk; the others, from number c on, in all orders. -/
theorem wp_region_then {W : World} {id : Nat} {Q : Exit → Act → World → Prop} {a : Act} {l : List Oper} (c n f : Nat) (hm : P.follows .mixedOrders = true) (hs : Region.noSelect l.toArray = true) (hf : l.length = c + (f + 1))
    (hB : lexE .any l.toArray c n c 0 (Array.replicate l.length false) = true)
    (h : wpQuiet P l.toArray (fun w' => ∃ u : Ext W, w' = u.w) (fun a' => ∀ w', (∃ u : Ext W, w' = u.w) → anyL P .any l.toArray Q l.length (fun _ => True) (f + 1) (fstL c 0 (Array.replicate l.length false)) a' w') (l.take c) a) : (Code.region id l.toArray true).wp P Q a W := by
  have hlc : (l.take c).length = c := by rw [List.length_take]; omega
  refine wp_region_any hm (any_of_E (C := fun w' => ∃ u : Ext W, w' = u.w) (c := c) (R := fun f L a => ∀ w', (∃ u : Ext W, w' = u.w) → anyL P .any l.toArray Q l.length (fun _ => True) (f + 1) L a w') (fun f L a w hw hR => any_of_L _ _ _ _ (hR w hw)) _ _ _ _ ⟨⟨W.drew, (Below.refl _ _).drew⟩, rfl⟩ ?_)
  have := anyE_lex (P := P) (md := .any) (ops := l.toArray) (C := fun w' => ∃ u : Ext W, w' = u.w) (c := c) (n := n) (R := fun f L a => ∀ w', (∃ u : Ext W, w' = u.w) → anyL P .any l.toArray Q l.length (fun _ => True) (f + 1) L a w') hs (l.take c) 0 f (Array.replicate l.length false) a
    (fun j o hj => by
      rw [Nat.zero_add, List.getElem?_toArray]
      rw [List.getElem?_take] at hj
      split at hj
      · exact hj
      · cases hj) (by rw [hlc]; exact hB) (by rw [hlc]; exact h)
  rw [hlc] at this
  rw [List.size_toArray, hf]
  rw [hf] at this
  exact this
end
end Go.Proofs.YtkppeejbmalefaaGreatDoor

end
section
set_option linter.unusedSimpArgs false
namespace Go.Proofs.YtkppeejbmalefaaGreatDoor
open Go.RowKit Go.Shelf
theorem jn_row {v : Value} {xs : List (List UInt8)} (w : World) (h : TX w v xs) (h0 : xs ≠ []) (hl : xs.length ≤ 100000000) (hc : ∀ A n c, v = .slice A n c → n ≤ c) (hj : (Lib.join xs [32]).length ≤ 140737488355328) :
    Calls Tryz.prog 34 #[v, .string ⟨#[32]⟩] w fun e w' => e = .returned (.string ⟨(Lib.join xs [32]).toArray⟩) ∧ Below w.heap.size w w' := by
  obtain ⟨A, c, rfl, hr⟩ := h
  have hm : (xs.map (fun x => (⟨x.toArray⟩ : ByteArray))).map (·.data.toList) = xs := by
    rw [List.map_map]
    exact (List.map_congr_left (fun x _ => by simp)).trans (List.map_id _)
  obtain ⟨g, o, rfl, hg, _⟩ := hr 0 (List.length_pos_iff.2 h0)
  have := Tryz.strings_Join g o c (xs.map fun x => ⟨x.toArray⟩) ⟨#[32]⟩ w (fun j x hx => by
    rw [List.getElem?_map] at hx
    cases hq : xs[j]? with
    | none => rw [hq] at hx; cases hx
    | some q =>
      rw [hq] at hx
      cases hx
      obtain ⟨hj, e⟩ := List.getElem?_eq_some_iff.1 hq
      obtain ⟨g2, o2, e2, _, h2⟩ := hr j hj
      cases e2
      rw [h2, e]) hg (by simpa using (by omega : xs.length ≤ 140737488355328)) (by simpa using hc _ _ _ rfl) (by rw [hm]; exact hj)
  rw [hm, List.length_map] at this
  exact this
theorem brk_any {v : Value} {xs : List (List UInt8)} (w : World) (h : TX w v xs) (h0 : xs ≠ []) (hl : xs.length ≤ 100000000) (hc : ∀ A n c, v = .slice A n c → n ≤ c) (hj : (brk xs).length ≤ 1000000000) :
    Calls Tryz.prog 15 #[v] w fun e w' => e = .returned (.string ⟨(brk xs).toArray⟩) ∧ Below w.heap.size w w' := by
  have hb : (brk xs).length = (Lib.join xs [32]).length + 2 := by unfold brk; simp
  have HJ := hide (jn_row w h h0 hl hc (by omega))
  obtain ⟨A, c, rfl, _⟩ := h
  have hc1 : (⟨#[40]⟩ : ByteArray) ++ ⟨(Lib.join xs [32]).toArray⟩ = ⟨(40 :: Lib.join xs [32]).toArray⟩ := cat_lit [40] _
  have hc2 : (⟨(40 :: Lib.join xs [32]).toArray⟩ : ByteArray) ++ ⟨#[41]⟩ = ⟨(brk xs).toArray⟩ := cat_lit (40 :: Lib.join xs [32]) [41]
  have hz1 := size_lit (Lib.join xs [32])
  have hz2 := size_lit (40 :: Lib.join xs [32])
  have hl2 : (40 :: Lib.join xs [32]).length ≤ 1000000000 := by rw [List.length_cons]; omega
  generalize brk xs = B at *
  generalize 40 :: Lib.join xs [32] = J2 at *
  generalize Lib.join xs [32] = J at *
  clear hc h0
  go_enter Tryz.func15, Tryz.ntmps15
  go_wp2_with (first
    | (go_at_call 34; refine HJ.out.mono ?_; rintro e w3 ⟨rfl, hb3⟩; replace hb3 := hide hb3))
  go_ret
  exact ⟨rfl, hb3.out⟩
theorem ntx_any (l : List UInt8) (w : World) (ht : TabM w) (hl : l.length ≤ 1000000) :
    Calls Tryz.prog 80 #[.string ⟨l.toArray⟩] w fun e w' => e = .returned (.string ⟨(nilI l).toArray⟩) ∧ Below w.heap.size w w' := by
  have HQ := hide (quote_any l w ht hl)
  have HN : Hid (nilI l = if l = [] then tNil else quoI l) := rfl
  generalize nilI l = N at *
  generalize quoI l = q at *
  by_cases h : l = []
  · subst h
    rw [if_pos rfl] at HN
    go_enter Tryz.func80, Tryz.ntmps80
    go_wp2
    go_ret
    exact ⟨by rw [HN.out]; rfl, Below.refl _ _⟩
  · rw [if_neg h] at HN
    have h1 : l.isEmpty = false := by simpa using h
    clear h
    go_enter Tryz.func80, Tryz.ntmps80
    go_wp2_with (first
      | (go_at_call 36; refine HQ.out.mono ?_; rintro e w2 ⟨rfl, hb2⟩))
    go_ret
    exact ⟨by rw [HN.out]; rfl, hb2⟩
theorem tx_lit4 (w : World) (a b c d : List UInt8) : TX (w.alloc (.cells #[.string ⟨a.toArray⟩, .string ⟨b.toArray⟩, .string ⟨c.toArray⟩, .string ⟨d.toArray⟩] 9)) (.slice (some ⟨w.heap.size, 0, none⟩) 4 4) [a, b, c, d] := by
  refine ⟨_, 4, rfl, fun i hi => ⟨w.heap.size, 0, rfl, by rw [World.size_alloc]; omega, ?_⟩⟩
  rw [(Blk.new w _ _).cell, Nat.zero_add]
  simp only [List.length_cons, List.length_nil] at hi
  match i, hi with
  | 0, _ => rfl
  | 1, _ => rfl
  | 2, _ => rfl
  | 3, _ => rfl
set_option maxRecDepth 20000 in
set_option maxHeartbeats 2000000 in
theorem lst_any (xs : List Ad) (v : Value) (w : World) (ht : TabM w) (hr : ReadOf Ad.cs 3 w v xs) (hl : xs.length ≤ 10000) {M : Nat} (hM : M ≤ 10000) (hx : ∀ x ∈ xs, adLe M x) :
    Calls Tryz.prog 37 #[v] w fun e w' => e = .returned (.string ⟨(lstT xs).toArray⟩) ∧ Below w.heap.size w w' := by
  obtain ⟨A, c, rfl, hc⟩ := hr
  have HC := hide hc
  have HX := hide hx
  have HTab := hide ht
  clear hc hx ht
  have HN : Hid (lstT xs = if xs = [] then tNil else 40 :: (xs.flatMap adT ++ [41])) := rfl
  generalize lstT xs = N at *
  by_cases h : xs = []
  · rw [if_pos h] at HN
    have h0 : xs.length = 0 := by rw [h]; rfl
    rw [h0]
    clear HC HX
    go_enter Tryz.func37, Tryz.ntmps37
    go_wp2
    go_ret
    exact ⟨by rw [HN.out]; rfl, Below.refl _ _⟩
  · rw [if_neg h] at HN
    have h0 : 0 < xs.length := List.length_pos_iff.2 h
    have h0' : ¬ ((xs.length : Int) = 0) := by omega
    obtain ⟨n, hn⟩ : ∃ n, xs.length = n := ⟨_, rfl⟩
    have HLn := hide hn
    rw [hn] at hl h0 h0' ⊢
    clear h hn
    have HB0 := hide (BB.new w)
    have HW0 := hide (HB0.out.byte 40 (by simp) (k := 40) rfl)
    go_enter Tryz.func37, Tryz.ntmps37
    go_wp2_with (first
      | (go_at_call 79; refine HW0.out.mono ?_; rintro e w1 ⟨rfl, hb1⟩; replace hb1 := hide hb1))
    have HS : Hid (([] : List UInt8) ++ [40] = 40 :: (xs.take 0).flatMap adT) := rfl
    clear HW0 HB0
    go_loopw [12] (fun v12 wr => ∃ (i : Nat) (ys : List UInt8), v12 = .int .i64 i ∧ i ≤ n ∧ Hid (BB w w.heap.size ys wr) ∧ Hid (ys = 40 :: (xs.take i).flatMap adT)) (fun v12 _ => n - (intOf v12).toNat)
    case atStart => exact ⟨0, [] ++ [40], rfl, Nat.zero_le _, hb1, HS⟩
    case round =>
      obtain ⟨i, ys, rfl, hin, HB, HY⟩ := hrel
      clear hb1 HS
      have hyl : ys.length ≤ 10000 * (8 * 10000 + 446) + 1 := by
        rw [HY.out, List.length_cons]
        have h1 := flat_adT_len (M := M) (by omega) (xs := xs.take i) (fun x hx => HX.out x (List.mem_of_mem_take hx))
        have h2 : (xs.take i).length ≤ 10000 := by rw [List.length_take]; omega
        have h3 : (xs.take i).length * (8 * M + 446) ≤ 10000 * (8 * 10000 + 446) := Nat.mul_le_mul h2 (by omega)
        omega
      by_cases hlt : i < n
      · have hlt' : (i : Int) < n := by omega
        have hip : i < xs.length := by rw [HLn.out]; exact hlt
        obtain ⟨g, o, rfl, hg, hcs⟩ := HC.out i hip
        have hxi := HX.out _ (List.getElem_mem hip)
        have HYn := hide (flat_adT hip)
        have hal := adT_len (by omega) hxi
        obtain ⟨q, hq⟩ : ∃ q, xs[i] = q := ⟨_, rfl⟩
        rw [hq] at hcs hxi HYn hal
        have hbs := HB.out.siz
        have k0 : wr.cell? ⟨g, o + i * 3, none⟩ = some (.string ⟨q.name.toArray⟩) := (HB.out.bel.cell (p := ⟨g, _, none⟩) hg).trans (hcs 0 (by omega))
        have k1 : wr.cell? ⟨g, o + i * 3 + 1, none⟩ = some (.string ⟨q.loc.toArray⟩) := (HB.out.bel.cell (p := ⟨g, _, none⟩) hg).trans (hcs 1 (by omega))
        have k2 : wr.cell? ⟨g, o + i * 3 + 2, none⟩ = some (.string ⟨q.dom.toArray⟩) := (HB.out.bel.cell (p := ⟨g, _, none⟩) hg).trans (hcs 2 (by omega))
        obtain ⟨nm, lo, dm⟩ := q
        obtain ⟨x1, x2, x3⟩ := hxi
        dsimp only at k0 k1 k2 x1 x2 x3
        have HT0 : Hid (TabM wr) := HTab.out.below HB.out.bel
        clear hcs HC hq
        go_wp2_with fail
        have HK1 := hide (Blk.new wr #[.string ⟨nm.toArray⟩, .string ⟨lo.toArray⟩, .string ⟨dm.toArray⟩] 39)
        have HB1 := hide (HB.out.then ((Below.refl wr.heap.size wr).alloc (Nat.le_refl _) (.cells #[.string ⟨nm.toArray⟩, .string ⟨lo.toArray⟩, .string ⟨dm.toArray⟩] 39)))
        have HT1 := hide (HT0.out.below ((Below.refl wr.heap.size wr).alloc (Nat.le_refl _) (.cells #[.string ⟨nm.toArray⟩, .string ⟨lo.toArray⟩, .string ⟨dm.toArray⟩] 39)))
        obtain ⟨D, hD⟩ : ∃ D, wr.heap.size = D := ⟨_, rfl⟩
        obtain ⟨W1, hW1⟩ : ∃ W1, wr.alloc (.cells #[.string ⟨nm.toArray⟩, .string ⟨lo.toArray⟩, .string ⟨dm.toArray⟩] 39) = W1 := ⟨_, rfl⟩
        rw [hD, hW1] at HK1
        rw [hW1] at HB1 HT1
        rw [hD, hW1]
        clear hW1 hD HB HT0 k0 k1 k2
        have hn0 := ext_some W1
        have t0 : ∀ u : Ext W1, u.w.cell? ⟨D, 0, none⟩ = some (.string ⟨nm.toArray⟩) := fun u => ((ext_cell W1 u _ _ HK1.out.lt).trans (HK1.out.cell 0))
        have t1 : ∀ u : Ext W1, u.w.cell? ⟨D, 1, none⟩ = some (.string ⟨lo.toArray⟩) := fun u => ((ext_cell W1 u _ _ HK1.out.lt).trans (HK1.out.cell 1))
        have t2 : ∀ u : Ext W1, u.w.cell? ⟨D, 2, none⟩ = some (.string ⟨dm.toArray⟩) := fun u => ((ext_cell W1 u _ _ HK1.out.lt).trans (HK1.out.cell 2))
        have HC0 : Hid (∀ u : Ext W1, Calls Tryz.prog 80 #[.string ⟨nm.toArray⟩] u.w fun e w' => e = .returned (.string ⟨(nilI nm).toArray⟩) ∧ Below u.w.heap.size u.w w') := fun u => ntx_any nm u.w (HT1.out.below u.ok) (by omega)
        have HC1 : Hid (∀ (u : Ext W1) (x : List UInt8), x.length ≤ 20000 → Calls Tryz.prog 36 #[.string ⟨x.toArray⟩] u.w fun e w' => e = .returned (.string ⟨(quoI x).toArray⟩) ∧ Below u.w.heap.size u.w w') := fun u x hx => quote_any x u.w (HT1.out.below u.ok) (by omega)
        have HBk : Hid (∀ u : Ext W1, Calls Tryz.prog 15 #[.slice (some ⟨u.w.heap.size, 0, none⟩) 4 4] (u.w.alloc (.cells #[.string ⟨(nilI nm).toArray⟩, .string ⟨#[78, 73, 76]⟩, .string ⟨(quoI lo).toArray⟩, .string ⟨(quoI dm).toArray⟩] 9)) fun e w' => e = .returned (.string ⟨(adT ⟨nm, lo, dm⟩).toArray⟩) ∧ Below (u.w.heap.size + 1) (u.w.alloc (.cells #[.string ⟨(nilI nm).toArray⟩, .string ⟨#[78, 73, 76]⟩, .string ⟨(quoI lo).toArray⟩, .string ⟨(quoI dm).toArray⟩] 9)) w') := fun u => by
          have := brk_any _ (tx_lit4 u.w (nilI nm) tNil (quoI lo) (quoI dm)) (by simp) (by simp) (fun A n c e => by cases e; omega) (Nat.le_trans hal (by omega))
          rw [World.size_alloc] at this
          exact this
        generalize adT ⟨nm, lo, dm⟩ = TX at *
        generalize nilI nm = a0 at *
        refine wp_region_then 9 6 2 (by kernel_rfl) (by kernel_rfl) rfl (by kernel_rfl) ?_
        simp only [List.take_succ_cons, List.take_zero]
        repeat (go_big_quiet_step ((first | (go_at_call 80; exact ext_call (HC0.out _)) | (go_at_call 36; exact ext_call (HC1.out _ _ (by omega))))))
        refine wpQuiet_nil ?_
        rintro w6 ⟨u6, rfl⟩
        have HBu := hide (HB1.out.then u6.ok)
        have HBr := hide (HBk.out u6)
        have hsu := HBu.out.siz
        generalize u6.w = w6 at *
        clear HC0 HC1 HBk t0 t1 t2 hn0
        refine readyL (rs := [9]) (by kernel_rfl) (by simp) ?_
        refine AllL.cons rfl (fun K hK => ?_) AllL.nil
        try simp only [List.getElem_toArray, List.getElem_cons_succ, List.getElem_cons_zero]
        go_simp
        refine hK.out _ _ (fun _ => trivial) (fun _ => ?_)
        clear hK K
        try simp only [Act.put, List.getElem_toArray, List.getElem_cons_succ, List.getElem_cons_zero, List.setIfInBounds_toArray, List.set_cons_zero, List.set_cons_succ]
        refine readyL (rs := [10]) (by kernel_rfl) (by simp) ?_
        refine AllL.cons rfl (fun K hK => ?_) AllL.nil
        try simp only [List.getElem_toArray, List.getElem_cons_succ, List.getElem_cons_zero]
        go_simp
        refine HBr.out.mono ?_
        rintro e w7 ⟨rfl, hb7⟩
        have HB7 := hide (HBu.out.then ((((Below.refl w6.heap.size w6).alloc (Nat.le_refl _) _)).trans (hb7.mono (by omega))))
        clear hb7
        refine hK.out _ _ (fun _ => trivial) (fun _ => ?_)
        clear hK K
        try simp only [Act.put, List.getElem_toArray, List.getElem_cons_succ, List.getElem_cons_zero, List.setIfInBounds_toArray, List.set_cons_zero, List.set_cons_succ]
        refine readyL (rs := [11]) (by kernel_rfl) (by simp) ?_
        refine AllL.cons rfl (fun K hK => ?_) AllL.nil
        try simp only [List.getElem_toArray, List.getElem_cons_succ, List.getElem_cons_zero]
        go_simp
        refine (HB7.out.text TX (by omega)).mono ?_
        rintro e w8 ⟨rfl, hb8⟩
        have HB8 := hide hb8
        have HY8 : Hid (ys ++ TX = 40 :: (xs.take (i + 1)).flatMap adT) := by
          show _ = _
          rw [HYn.out, HY.out]
          rfl
        clear hb8
        refine hK.out _ _ (fun _ => trivial) (fun _ => ?_)
        clear hK K
        try simp only [Act.put, List.getElem_toArray, List.getElem_cons_succ, List.getElem_cons_zero, List.setIfInBounds_toArray, List.set_cons_zero, List.set_cons_succ]
        refine doneL (by kernel_rfl) ?_ _
        go_wp2
        go_roundw
        case rel => exact ⟨i + 1, ys ++ TX, by go_num, by omega, HB8, HY8⟩
        case measure => simp [intOf]; omega
      · obtain rfl : i = n := by omega
        rw [List.take_of_length_le (by rw [HLn.out]; exact Nat.le_refl _)] at HY
        have HE : Hid (ys ++ [41] = N) := by
          show _ = _
          rw [HN.out, HY.out]
          rfl
        have HW1 := hide (HB.out.byte 41 (by omega) (k := 41) rfl)
        rw [HE.out] at HW1
        clear HC HY
        go_wp2_with (first
          | (go_at_call 79; refine HW1.out.mono ?_; rintro e w1 ⟨rfl, hb1⟩; replace hb1 := hide hb1.str)
          | (go_at_call 55; refine hb1.out.mono ?_; rintro e w2 ⟨rfl, hb2⟩; replace hb2 := hide hb2))
        go_ret
        exact ⟨rfl, hb2.out⟩
end Go.Proofs.YtkppeejbmalefaaGreatDoor

end
