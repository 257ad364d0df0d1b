/- Maps whose elements are pointers: what they read as, and sums over what they point to. -/
import Derived.Test.YtpghfaplgkjdkaaDoorOwn
import Derived.Test.YtpghfaplgkjdkaaDoorProg
import Derived.Maps.OwnSet
import Derived.Maps.RangeWalk
namespace Go.Proofs.YtpghfaplgkjdkaaDoor
open Go.RowKit Go.Maps

/-- A pointer to the whole of block b, as a datum. -/
def pd (b : Nat) : DataW Unit := .lit (.int .i64 b)
def pv (b : Nat) : Value := .pointer (some ⟨b, 0, none⟩)
/-- How an element that is a pointer reads: through no place. -/
def ptrElem : Value → Option (DataW Unit × List MemPlace)
  | .pointer none => some (.nil, [])
  | .pointer (some ⟨b, 0, none⟩) => some (pd b, [])
  | _ => none
theorem pd_inj {a b : Nat} (h : pd a = pd b) : a = b := by
  unfold pd at h
  simp only [DataW.lit.injEq, Lit.int.injEq, true_and] at h
  omega
theorem ptrElem_inv {v : Value} {y : DataW Unit × List MemPlace} (h : ptrElem v = some y) : (v = .pointer none ∧ y = (.nil, [])) ∨ ∃ b, v = pv b ∧ y = (pd b, []) := by
  unfold ptrElem at h
  split at h
  · cases h
    exact .inl ⟨rfl, rfl⟩
  · cases h
    exact .inr ⟨_, rfl, rfl⟩
  · cases h
section
variable {P : Program} {k t e : TypeId} {w w' : World} {b n : Nat} {D : DataW Unit} {S : Nat → Prop}
theorem _root_.Go.World.ownsMap.mvs {R : Value → Option (DataW Unit × List MemPlace)} (h : w.ownsMap P k R b n D) (hm : Mvs S w w') (hb : ¬ S b) : w'.ownsMap P k R b n D := by
  have hlt := h.lt
  obtain ⟨es, clock, hk, F, hs, hD⟩ := h
  exact ⟨es, clock, (hm.block b hlt hb).trans hk, F, hs, hD⟩
theorem Mvs.of_grown {row : Option Nat} (h : w.grownBy w' row) : Mvs (fun j => some j = row) w w' := ⟨h.os, h.tape, h.output, h.size, h.block⟩
theorem Mvs.of_turned (h : w.mapTurned w' b) : Mvs (fun j => j = b) w w' := (Mvs.of_grown h.grown).mono fun _ _ e => Option.some.inj e
/-- m[k], where the key is there. -/
theorem look_there (h : w.ownsMap P k ptrElem b n D) (K : Keyed P k) (ht : P.underlying t = some (.map k e)) (hz : (zeroValue e).run P w = .ok (.pointer none) w) {key : Value} {kl : Lit} (hkey : keyOf P k key = some kl) {f : Nat} (hat : D.atKey kl .nil = pd f) :
    (Instr.lookup t (.map (some b)) key false).run P w = .ok (pv f) w := by
  obtain ⟨v, ps, hrun, hv⟩ := h.lookup K ht hz (zd := .nil) (zp := []) rfl hkey
  rw [hat] at hv
  rcases ptrElem_inv hv with ⟨_, h2⟩ | ⟨b', rfl, h2⟩
  · simp [pd] at h2
  · simp only [Prod.mk.injEq] at h2
    rw [pd_inj h2.1]
    exact hrun
/-- m[k], where it is not. -/
theorem look_none (h : w.ownsMap P k ptrElem b n D) (K : Keyed P k) (ht : P.underlying t = some (.map k e)) (hz : (zeroValue e).run P w = .ok (.pointer none) w) {key : Value} {kl : Lit} (hkey : keyOf P k key = some kl) (hat : D.atKey kl .nil = .nil) :
    (Instr.lookup t (.map (some b)) key false).run P w = .ok (.pointer none) w := by
  obtain ⟨v, ps, hrun, hv⟩ := h.lookup K ht hz (zd := .nil) (zp := []) rfl hkey
  rw [hat] at hv
  rcases ptrElem_inv hv with ⟨rfl, _⟩ | ⟨b', rfl, h2⟩
  · exact hrun
  · simp [pd] at h2
end
/-- The entries of a datum. -/
def entriesOf : DataW Unit → List (Lit × DataW Unit)
  | .map es => es
  | _ => []
/-- A sum over the entries whose keys are left. -/
def sumL (len : DataW Unit → Nat) (left : Lit → Bool) : List (Lit × DataW Unit) → Nat
  | [] => 0
  | p :: r => (if left p.1 then len p.2 else 0) + sumL len left r
def sumD (len : DataW Unit → Nat) (D : DataW Unit) : Nat := sumL len (fun _ => true) (entriesOf D)
theorem sumL_congr {len : DataW Unit → Nat} {l1 l2 : Lit → Bool} : ∀ {es : List (Lit × DataW Unit)}, (∀ p ∈ es, l1 p.1 = l2 p.1) → sumL len l1 es = sumL len l2 es
  | [], _ => rfl
  | p :: r, h => by
    unfold sumL
    rw [h p (by simp), sumL_congr (fun q hq => h q (by simp [hq]))]
theorem sumL_none {len : DataW Unit → Nat} {left : Lit → Bool} (h : ∀ k, left k = false) : ∀ es : List (Lit × DataW Unit), sumL len left es = 0
  | [] => rfl
  | p :: r => by
    unfold sumL
    rw [h, sumL_none h r]
    rfl
theorem sumL_strike {len : DataW Unit → Nat} {left : Lit → Bool} {kl : Lit} {y : DataW Unit} (hl : left kl = true) : ∀ {es : List (Lit × DataW Unit)}, es.Pairwise (fun p q => p.1 ≠ q.1) → WideAt.IsKeyLit kl → (kl, y) ∈ es →
    sumL len left es = len y + sumL len (fun z => left z && !z.sameKey kl) es
  | [], _, _, h => by cases h
  | p :: r, hp, hk, h => by
    obtain ⟨h1, h2⟩ := List.pairwise_cons.1 hp
    unfold sumL
    rcases List.mem_cons.1 h with rfl | h
    · rw [sumL_congr (es := r) (l1 := left) (l2 := fun z => left z && !z.sameKey kl) (fun q hq => by
        have : q.1.sameKey kl = false := Maps.sameKey_ne (h1 q hq).symm
        simp [this])]
      simp [hl, WideAt.sameKey_self hk]
    · rw [sumL_strike hl h2 hk h]
      have : p.1.sameKey kl = false := Maps.sameKey_ne (h1 _ h)
      simp [this]
      omega
theorem mem_of_atKey {es : List (Lit × DataW Unit)} {kl : Lit} {y : DataW Unit} (h : ∀ zd, (DataW.map es).atKey kl zd = y) : (kl, y) ∈ es := by
  have h1 := h .nil
  have h2 := h (pd 0)
  unfold DataW.atKey at h1 h2
  cases hf : es.find? (fun p => p.1.sameKey kl) with
  | none =>
    simp [hf] at h1 h2
    rw [← h1] at h2
    cases h2
  | some p =>
    simp [hf] at h1
    have hm := List.mem_of_find?_eq_some hf
    have hs : p.1.sameKey kl = true := by simpa using List.find?_some hf
    rw [← h1, ← WideAt.sameKey_eq hs]
    exact hm
theorem has_of_mem {es : List (Lit × DataW Unit)} {p : Lit × DataW Unit} (h : p ∈ es) (hk : WideAt.IsKeyLit p.1) : Maps.has (DataW.map es) p.1 = true := by
  rw [Maps.has_eq]
  exact List.any_eq_true.2 ⟨p, h, WideAt.sameKey_self hk⟩
end Go.Proofs.YtpghfaplgkjdkaaDoor
