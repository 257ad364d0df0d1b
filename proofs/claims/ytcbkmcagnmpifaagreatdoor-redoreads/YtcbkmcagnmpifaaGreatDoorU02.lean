/- Maps whose elements are pointers: what they read as, and sums over what they point to. -/
/- A slice that came in, of cells of one kind: what is read of it. -/
import Derived.Test.YtcbkmcagnmpifaaGreatDoorU01
import Derived.Test.YtcbkmcagnmpifaaGreatDoorProg
import Derived.Maps.OwnSet
import Derived.Maps.RangeWalk
import Derived.OpenShut
import Derived.Carry
import Derived.WideShapes
section
namespace Go.Proofs.YtcbkmcagnmpifaaGreatDoor
open Go.RowKit Go.Maps

/-- A pointer to the whole of block b, as a datum. -/
def pd (b : Nat) : DataW Unit := .lit (.int .i64 b)
def pv (b : Nat) : Value := .pointer (some ⟨b, 0, none⟩)
/-- How an element that is a pointer reads: through no place. -/
def ptrElem : Value → Option (DataW Unit × List MemPlace)
  | .pointer none => some (.nil, [])
  | .pointer (some ⟨b, 0, none⟩) => some (pd b, [])
  | _ => none
theorem pd_inj {a b : Nat} (h : pd a = pd b) : a = b := by
  unfold pd at h
  simp only [DataW.lit.injEq, Lit.int.injEq, true_and] at h
  omega
theorem ptrElem_inv {v : Value} {y : DataW Unit × List MemPlace} (h : ptrElem v = some y) : (v = .pointer none ∧ y = (.nil, [])) ∨ ∃ b, v = pv b ∧ y = (pd b, []) := by
  unfold ptrElem at h
  split at h
  · cases h
    exact .inl ⟨rfl, rfl⟩
  · cases h
    exact .inr ⟨_, rfl, rfl⟩
  · cases h
section
variable {P : Program} {k t e : TypeId} {w w' : World} {b n : Nat} {D : DataW Unit} {S : Nat → Prop}
theorem _root_.Go.World.ownsMap.mvs {R : Value → Option (DataW Unit × List MemPlace)} (h : w.ownsMap P k R b n D) (hm : Mvs S w w') (hb : ¬ S b) : w'.ownsMap P k R b n D := by
  have hlt := h.lt
  obtain ⟨es, clock, hk, F, hs, hD⟩ := h
  exact ⟨es, clock, (hm.block b hlt hb).trans hk, F, hs, hD⟩
theorem Mvs.of_grown {row : Option Nat} (h : w.grownBy w' row) : Mvs (fun j => some j = row) w w' := ⟨h.os, h.tape, h.output, h.size, h.block⟩
theorem Mvs.of_turned (h : w.mapTurned w' b) : Mvs (fun j => j = b) w w' := (Mvs.of_grown h.grown).mono fun _ _ e => Option.some.inj e
/-- m[k], where the key is there. -/
theorem look_there (h : w.ownsMap P k ptrElem b n D) (K : Keyed P k) (ht : P.underlying t = some (.map k e)) (hz : (zeroValue e).run P w = .ok (.pointer none) w) {key : Value} {kl : Lit} (hkey : keyOf P k key = some kl) {f : Nat} (hat : D.atKey kl .nil = pd f) :
    (Instr.lookup t (.map (some b)) key false).run P w = .ok (pv f) w := by
  obtain ⟨v, ps, hrun, hv⟩ := h.lookup K ht hz (zd := .nil) (zp := []) rfl hkey
  rw [hat] at hv
  rcases ptrElem_inv hv with ⟨_, h2⟩ | ⟨b', rfl, h2⟩
  · simp [pd] at h2
  · simp only [Prod.mk.injEq] at h2
    rw [pd_inj h2.1]
    exact hrun
/-- m[k], where it is not. -/
theorem look_none (h : w.ownsMap P k ptrElem b n D) (K : Keyed P k) (ht : P.underlying t = some (.map k e)) (hz : (zeroValue e).run P w = .ok (.pointer none) w) {key : Value} {kl : Lit} (hkey : keyOf P k key = some kl) (hat : D.atKey kl .nil = .nil) :
    (Instr.lookup t (.map (some b)) key false).run P w = .ok (.pointer none) w := by
  obtain ⟨v, ps, hrun, hv⟩ := h.lookup K ht hz (zd := .nil) (zp := []) rfl hkey
  rw [hat] at hv
  rcases ptrElem_inv hv with ⟨rfl, _⟩ | ⟨b', rfl, h2⟩
  · exact hrun
  · simp [pd] at h2
end
/-- The entries of a datum. -/
def entriesOf : DataW Unit → List (Lit × DataW Unit)
  | .map es => es
  | _ => []
/-- A sum over the entries whose keys are left. -/
def sumL (len : DataW Unit → Nat) (left : Lit → Bool) : List (Lit × DataW Unit) → Nat
  | [] => 0
  | p :: r => (if left p.1 then len p.2 else 0) + sumL len left r
def sumD (len : DataW Unit → Nat) (D : DataW Unit) : Nat := sumL len (fun _ => true) (entriesOf D)
theorem sumL_congr {len : DataW Unit → Nat} {l1 l2 : Lit → Bool} : ∀ {es : List (Lit × DataW Unit)}, (∀ p ∈ es, l1 p.1 = l2 p.1) → sumL len l1 es = sumL len l2 es
  | [], _ => rfl
  | p :: r, h => by
    unfold sumL
    rw [h p (by simp), sumL_congr (fun q hq => h q (by simp [hq]))]
theorem sumL_none {len : DataW Unit → Nat} {left : Lit → Bool} (h : ∀ k, left k = false) : ∀ es : List (Lit × DataW Unit), sumL len left es = 0
  | [] => rfl
  | p :: r => by
    unfold sumL
    rw [h, sumL_none h r]
    rfl
theorem sumL_strike {len : DataW Unit → Nat} {left : Lit → Bool} {kl : Lit} {y : DataW Unit} (hl : left kl = true) : ∀ {es : List (Lit × DataW Unit)}, es.Pairwise (fun p q => p.1 ≠ q.1) → WideAt.IsKeyLit kl → (kl, y) ∈ es →
    sumL len left es = len y + sumL len (fun z => left z && !z.sameKey kl) es
  | [], _, _, h => by cases h
  | p :: r, hp, hk, h => by
    obtain ⟨h1, h2⟩ := List.pairwise_cons.1 hp
    unfold sumL
    rcases List.mem_cons.1 h with rfl | h
    · rw [sumL_congr (es := r) (l1 := left) (l2 := fun z => left z && !z.sameKey kl) (fun q hq => by
        have : q.1.sameKey kl = false := Maps.sameKey_ne (h1 q hq).symm
        simp [this])]
      simp [hl, WideAt.sameKey_self hk]
    · rw [sumL_strike hl h2 hk h]
      have : p.1.sameKey kl = false := Maps.sameKey_ne (h1 _ h)
      simp [this]
      omega
theorem mem_of_atKey {es : List (Lit × DataW Unit)} {kl : Lit} {y : DataW Unit} (h : ∀ zd, (DataW.map es).atKey kl zd = y) : (kl, y) ∈ es := by
  have h1 := h .nil
  have h2 := h (pd 0)
  unfold DataW.atKey at h1 h2
  cases hf : es.find? (fun p => p.1.sameKey kl) with
  | none =>
    simp [hf] at h1 h2
    rw [← h1] at h2
    cases h2
  | some p =>
    simp [hf] at h1
    have hm := List.mem_of_find?_eq_some hf
    have hs : p.1.sameKey kl = true := by simpa using List.find?_some hf
    rw [← h1, ← WideAt.sameKey_eq hs]
    exact hm
theorem has_of_mem {es : List (Lit × DataW Unit)} {p : Lit × DataW Unit} (h : p ∈ es) (hk : WideAt.IsKeyLit p.1) : Maps.has (DataW.map es) p.1 = true := by
  rw [Maps.has_eq]
  exact List.any_eq_true.2 ⟨p, h, WideAt.sameKey_self hk⟩
end Go.Proofs.YtcbkmcagnmpifaaGreatDoor

end
section
namespace Go.Proofs.YtcbkmcagnmpifaaGreatDoor
open Go.RowKit

/-- The slice v reads as cs. -/
def AR (w : World) (v : Value) (cs : List Value) : Prop := ∃ A cap, v = .slice A cs.length cap ∧ cs.length ≤ cap ∧ cap ≤ maxLen ∧ (A = none → cap = 0) ∧
  (cs ≠ [] → ∃ g o, A = some ⟨g, o, none⟩ ∧ g < w.heap.size ∧ ∀ j u, cs[j]? = some u → w.cell? ⟨g, o + j, none⟩ = some u)
section
variable {w w' : World} {v : Value} {cs : List Value}
theorem AR.keep {S : Nat → Prop} (h : AR w v cs) (hm : Mvs S w w') (hS : ∀ A n c, v = .slice (some A) n c → ¬ S A.block) : AR w' v cs := by
  obtain ⟨A, cap, rfl, h1, h2, h3, h4⟩ := h
  refine ⟨A, cap, rfl, h1, h2, h3, fun hc => ?_⟩
  obtain ⟨g, o, rfl, hg, h5⟩ := h4 hc
  refine ⟨g, o, rfl, Nat.lt_of_lt_of_le hg hm.size, fun j u hu => ?_⟩
  rw [hm.cell (a := ⟨g, o + j, none⟩) hg (hS ⟨g, o, none⟩ _ _ rfl)]
  exact h5 j u hu
theorem AR.below (h : AR w v cs) (hb : Below w.heap.size w w') : AR w' v cs := h.keep (S := fun _ => False) (Mvs.of_below hb) (fun _ _ _ _ c => c)
theorem AR.src {P : Program} {t e : TypeId} (ht : P.underlying t = some (.slice e)) (h : AR w v cs) (h1 : ∀ u ∈ cs, u.oneCell' = true) : Src P 1 t v cs.length cs w := by
  obtain ⟨A, cap, rfl, hl, hm, hn, h4⟩ := h
  by_cases hc : cs = []
  · subst hc
    cases A with
    | none => exact Src.ofNil w ht cap
    | some a => exact Src.ofSlice w ht a 0 cap [] rfl (fun j u hu => by cases hu) h1
  · obtain ⟨g, o, rfl, hg, h5⟩ := h4 hc
    exact Src.ofSlice w ht ⟨g, o, none⟩ cs.length cap cs (by simp) (fun j u hu => by rw [Go.WideShapes.add_plain]; exact h5 j u hu) h1
/-- A stretch of it. -/
theorem AR.mid {P : Program} {t e : TypeId} (ht : P.underlying t = some (.slice e)) {a : Addr} {n cap i k : Nat} (h : AR w (.slice (some a) n cap) cs) (h1 : ∀ u ∈ cs, u.oneCell' = true) (hik : i ≤ k) (hk : k ≤ cs.length) (d : Addr) (hd : i < cap → d = a.add i) :
    Src P 1 t (.slice (some d) (k - i) (cap - i)) (k - i) ((cs.drop i).take (k - i)) w := by
  obtain ⟨A, cap', hv, hl, hm, hn, h4⟩ := h
  simp only [Value.slice.injEq] at hv
  obtain ⟨rfl, rfl, rfl⟩ := hv
  refine Src.ofSlice w ht d (k - i) (cap - i) _ (by simp; omega) (fun j u hu => ?_) (fun u hu => h1 u (List.mem_of_mem_drop (List.mem_of_mem_take hu)))
  have hj := (List.getElem?_eq_some_iff.1 hu).1
  simp only [List.length_take, List.length_drop] at hj
  rw [List.getElem?_take_of_lt (by omega), List.getElem?_drop] at hu
  have hc : cs ≠ [] := fun e => by rw [e] at hk; simp at hk; omega
  obtain ⟨g, o, hA, hg, h5⟩ := h4 hc
  cases hA
  rw [hd (by omega), Go.WideShapes.add_plain, Go.WideShapes.add_plain, Nat.add_assoc]
  exact h5 _ u hu
end
section
variable {H : Type} {enc : TypeId × Value → H}
/-- A slice of numbers, opened. -/
theorem open_row_ints {P : Program} {t e : TypeId} {k : IntKind} (ht : P.underlying t = some (.slice e)) (he : P.underlying e = some (.int k)) (hc : P.cellsOf e = 1) {W : World} {base : Nat} {v : Value} {d : DataW H} {p : List MemPlace}
    (hval : Value.okWide P W .any base t v) (h : DataW.Trod enc P W 0 (fun _ => true) true t v d p) (hlt : ∀ x ∈ p, x.block < W.heap.size) : ∃ zs : List Int, AR W v (zs.map (Value.int k)) ∧ ∀ z ∈ zs, (Lit.int k z).wf = true := by
  obtain ⟨a1, len, cap, rfl⟩ := Go.WideShapes.okWide_slice ht hval
  obtain ⟨fuel, hf⟩ := h
  rcases Go.ChangeShapes.open_ints ht he hc hf with ⟨hcs, hx⟩ | ⟨a, len', cap', zs, hcs, _, hl, hm, hz, hx, hcell, hwz⟩
  · simp [Value.cells] at hcs
    obtain ⟨rfl, rfl, rfl⟩ := hcs
    exact ⟨[], ⟨none, 0, rfl, Nat.le_refl _, Nat.zero_le _, fun _ => rfl, fun h => absurd rfl h⟩, fun _ h => by cases h⟩
  · simp [Value.cells] at hcs
    obtain ⟨rfl, rfl, rfl⟩ := hcs
    simp only [Prod.mk.injEq] at hx
    obtain ⟨rfl, rfl⟩ := hx
    simp only [if_true] at hz
    have hlen : ((zs.take len).map (Value.int k)).length = len := by simp; omega
    refine ⟨zs.take len, ⟨some a, cap, by rw [hlen], by omega, hm, (fun h => by simp at h), fun hne => ?_⟩, fun z hz' => hwz z (List.mem_of_mem_take hz')⟩
    have hpos : 0 < len := by
      rcases Nat.eq_zero_or_pos len with h0 | h0
      · subst h0; simp at hne
      · exact h0
    obtain ⟨ab, ao, spot⟩ := a
    have hspot : spot = none := by simpa [Addr.add] using World.cell?_spot (hcell 0 (by omega))
    subst hspot
    refine ⟨ab, ao, rfl, hlt (.cell ab ao) (MemPlace.mem_row.2 ⟨0, by omega, by simp⟩), fun j u hu => ?_⟩
    have hj := (List.getElem?_eq_some_iff.1 hu).1
    rw [hlen] at hj
    have := hcell j (by omega)
    rw [Go.WideShapes.add_plain] at this
    rw [this, ← hu]
    simp [List.getElem?_take_of_lt hj, List.getD_eq_getElem?_getD, List.getElem?_eq_getElem (show j < zs.length by omega)]
end
end Go.Proofs.YtcbkmcagnmpifaaGreatDoor

end
