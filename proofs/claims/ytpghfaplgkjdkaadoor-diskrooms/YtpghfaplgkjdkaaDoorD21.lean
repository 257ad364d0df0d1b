/- Two files of a disk, "a" and "b": how much each has, and how that turns. -/
import Derived.Test.YtpghfaplgkjdkaaDoorD20
import Derived.OwnWalk
namespace Go.Proofs.YtpghfaplgkjdkaaDoor
open Go.RowKit Go.Maps
theorem u64_nonneg (t : Int) : 0 ≤ IntKind.u64.wrap t := by
  simp only [IntKind.wrap]
  exact Int.emod_nonneg _ (by decide)
theorem rem_small (t : Int) (k : Nat) (hk : 0 < k) (hk2 : k ≤ 3000) : ∃ n : Nat, n < k ∧ wrap64 ((IntKind.u64.wrap t).tmod k) = (n : Int) := by
  have h0 := u64_nonneg t
  generalize IntKind.u64.wrap t = z at h0
  rw [Int.tmod_eq_emod_of_nonneg h0]
  have h1 := Int.emod_nonneg z (show (k : Int) ≠ 0 by omega)
  have h2 := Int.emod_lt_of_pos z (show (0 : Int) < k by omega)
  generalize z % (k : Int) = y at h1 h2
  refine ⟨y.toNat, by omega, ?_⟩
  unfold wrap64
  omega
theorem made_zero (n : Nat) : (madeCells #[.int .u8 0] (n * 1)).toList = (List.replicate n (0 : UInt8)).map bv := by
  rw [Nat.mul_one]
  apply List.ext_getElem
  · simp [madeCells]
  · intro j h1 h2
    simp [madeCells, bv]
    rw [Nat.mod_one]
    rfl
def twoD (f0 f1 : Nat) : DataW Unit := .map [(.string [97], pd f0), (.string [98], pd f1)]
/-- The two files, so many bytes each, behind so many further steps. -/
structure RS (w0 w : World) (d : Nat) (ρ : Nat → Option Role) (s : St) (q f0 f1 : Nat) (A B : FA) (u0 u1 c : Nat) : Prop where
  dk : DK w0 w d ρ s
  D : s.D = twoD f0 f1
  ne : f0 ≠ f1
  fA : s.φ f0 = some A
  fB : s.φ f1 = some B
  lA : A.bytes.length = u0
  lB : B.bytes.length = u1
  sum : u0 + u1 ≤ q
  nA : 0 ≤ A.num ∧ A.num ≤ 10
  nB : 0 ≤ B.num ∧ B.num ≤ 10
  oA : A.opn.length ≤ c
  oB : B.opn.length ≤ c
  st : 0 ≤ s.steps ∧ s.steps ≤ 2 + c
  op : 0 ≤ s.opened ∧ s.opened ≤ 2 + c
  n : s.N ≤ 2 + c
  armed : s.armed = -1
  off : s.off = false
  quota : s.quota = q
section
variable {w0 w w' : World} {d : Nat} {ρ ρ' : Nat → Option Role} {s : St} {q f0 f1 : Nat} {A B : FA} {u0 u1 c : Nat}
theorem RS.used (h : RS w0 w d ρ s q f0 f1 A B u0 u1 c) : usedOf s = u0 + u1 := by
  unfold usedOf
  rw [h.D]
  show lenD s.φ (pd f0) + (lenD s.φ (pd f1) + 0) = _
  rw [lenD_pd h.fA, lenD_pd h.fB, h.lA, h.lB, Nat.add_zero]
theorem RS.small (h : RS w0 w d ρ s q f0 f1 A B u0 u1 c) (hq : q ≤ 3000) (hc : c ≤ 200) : s.Small := by
  have h1 := h.st
  have h2 := h.op
  have h3 := h.n
  have h4 := h.sum
  exact ⟨by rw [h.armed]; decide, h1.1, by omega, h2.1, by omega, by omega, h.off, by rw [h.quota]; omega, by rw [h.quota]; omega, by rw [h.used]; omega⟩
theorem RS.at0 (h : RS w0 w d ρ s q f0 f1 A B u0 u1 c) : s.D.atKey (.string [97]) .nil = pd f0 := by rw [h.D]; rfl
theorem RS.at1 (h : RS w0 w d ρ s q f0 f1 A B u0 u1 c) : s.D.atKey (.string [98]) .nil = pd f1 := by rw [h.D]; rfl
theorem RS.then (h : RS w0 w d ρ s q f0 f1 A B u0 u1 c) (hb : Below w.heap.size w w') : RS w0 w' d ρ s q f0 f1 A B u0 u1 c := { h with dk := h.dk.then hb }
theorem RS.mono (h : RS w0 w d ρ s q f0 f1 A B u0 u1 c) {c' : Nat} (hc : c ≤ c') : RS w0 w d ρ s q f0 f1 A B u0 u1 c' :=
  { h with oA := Nat.le_trans h.oA hc, oB := Nat.le_trans h.oB hc, st := ⟨h.st.1, by have := h.st.2; omega⟩, op := ⟨h.op.1, by have := h.op.2; omega⟩, n := by have := h.n; omega }
theorem RS.put0 (h : RS w0 w d ρ s q f0 f1 A B u0 u1 c) (news : List UInt8) (hd : DK w0 w' d ρ' (s.put f0 A news)) (hs : u0 + news.length + u1 ≤ q) : RS w0 w' d ρ' (s.put f0 A news) q f0 f1 ⟨A.num, A.bytes ++ news, A.opn ++ [.put A.bytes.length news.length]⟩ B (u0 + news.length) u1 (c + 1) where
  dk := hd
  D := h.D
  ne := h.ne
  fA := if_pos rfl
  fB := (if_neg (Ne.symm h.ne)).trans h.fB
  lA := by show (A.bytes ++ news).length = _; rw [List.length_append, h.lA]
  lB := h.lB
  sum := hs
  nA := h.nA
  nB := h.nB
  oA := by
    show (A.opn ++ _).length ≤ _
    rw [List.length_append]
    have := h.oA
    simp
    omega
  oB := by have := h.oB; omega
  st := by
    have := h.st
    show 0 ≤ s.steps + 1 ∧ s.steps + 1 ≤ 2 + ((c + 1 : Nat) : Int)
    omega
  op := by
    have := h.op
    show 0 ≤ s.opened + 1 ∧ s.opened + 1 ≤ 2 + ((c + 1 : Nat) : Int)
    omega
  n := by
    have := h.n
    show s.N + 1 ≤ _
    omega
  armed := h.armed
  off := h.off
  quota := h.quota
theorem RS.cut0 (h : RS w0 w d ρ s q f0 f1 A B u0 u1 c) (hd : DK w0 w' d ρ' (s.cut f0 A)) : RS w0 w' d ρ' (s.cut f0 A) q f0 f1 ⟨A.num, [], A.opn ++ [.other]⟩ B 0 u1 (c + 1) where
  dk := hd
  D := h.D
  ne := h.ne
  fA := if_pos rfl
  fB := (if_neg (Ne.symm h.ne)).trans h.fB
  lA := rfl
  lB := h.lB
  sum := by have := h.sum; omega
  nA := h.nA
  nB := h.nB
  oA := by
    show (A.opn ++ _).length ≤ _
    rw [List.length_append]
    have := h.oA
    simp
    omega
  oB := by have := h.oB; omega
  st := by
    have := h.st
    show 0 ≤ s.steps + 1 ∧ s.steps + 1 ≤ 2 + ((c + 1 : Nat) : Int)
    omega
  op := by
    have := h.op
    show 0 ≤ s.opened + 1 ∧ s.opened + 1 ≤ 2 + ((c + 1 : Nat) : Int)
    omega
  n := by
    have := h.n
    show s.N + 1 ≤ _
    omega
  armed := h.armed
  off := h.off
  quota := h.quota
theorem RS.put1 (h : RS w0 w d ρ s q f0 f1 A B u0 u1 c) (news : List UInt8) (hd : DK w0 w' d ρ' (s.put f1 B news)) (hs : u0 + (u1 + news.length) ≤ q) : RS w0 w' d ρ' (s.put f1 B news) q f0 f1 A ⟨B.num, B.bytes ++ news, B.opn ++ [.put B.bytes.length news.length]⟩ u0 (u1 + news.length) (c + 1) where
  dk := hd
  D := h.D
  ne := h.ne
  fB := if_pos rfl
  fA := (if_neg h.ne).trans h.fA
  lB := by show (B.bytes ++ news).length = _; rw [List.length_append, h.lB]
  lA := h.lA
  sum := hs
  nA := h.nA
  nB := h.nB
  oB := by
    show (B.opn ++ _).length ≤ _
    rw [List.length_append]
    have := h.oB
    simp
    omega
  oA := by have := h.oA; omega
  st := by
    have := h.st
    show 0 ≤ s.steps + 1 ∧ s.steps + 1 ≤ 2 + ((c + 1 : Nat) : Int)
    omega
  op := by
    have := h.op
    show 0 ≤ s.opened + 1 ∧ s.opened + 1 ≤ 2 + ((c + 1 : Nat) : Int)
    omega
  n := by
    have := h.n
    show s.N + 1 ≤ _
    omega
  armed := h.armed
  off := h.off
  quota := h.quota
theorem RS.cut1 (h : RS w0 w d ρ s q f0 f1 A B u0 u1 c) (hd : DK w0 w' d ρ' (s.cut f1 B)) : RS w0 w' d ρ' (s.cut f1 B) q f0 f1 A ⟨B.num, [], B.opn ++ [.other]⟩ u0 0 (c + 1) where
  dk := hd
  D := h.D
  ne := h.ne
  fB := if_pos rfl
  fA := (if_neg h.ne).trans h.fA
  lB := rfl
  lA := h.lA
  sum := by have := h.sum; omega
  nA := h.nA
  nB := h.nB
  oB := by
    show (B.opn ++ _).length ≤ _
    rw [List.length_append]
    have := h.oB
    simp
    omega
  oA := by have := h.oA; omega
  st := by
    have := h.st
    show 0 ≤ s.steps + 1 ∧ s.steps + 1 ≤ 2 + ((c + 1 : Nat) : Int)
    omega
  op := by
    have := h.op
    show 0 ≤ s.opened + 1 ∧ s.opened + 1 ≤ 2 + ((c + 1 : Nat) : Int)
    omega
  n := by
    have := h.n
    show s.N + 1 ≤ _
    omega
  armed := h.armed
  off := h.off
  quota := h.quota
end
theorem RS.start {w0 w : World} {d : Nat} {ρ : Nat → Option Role} {q f0 f1 : Nat} (hd : DK w0 w d ρ (((emptySt q).made [97] f0).made [98] f1)) (hne : f0 ≠ f1) : RS w0 w d ρ (((emptySt q).made [97] f0).made [98] f1) q f0 f1 ⟨0, [], []⟩ ⟨1, [], []⟩ 0 0 0 where
  dk := hd
  D := rfl
  ne := hne
  fA := (if_neg hne).trans (if_pos rfl)
  fB := if_pos rfl
  lA := rfl
  lB := rfl
  sum := Nat.zero_le _
  nA := by decide
  nB := by decide
  oA := Nat.zero_le _
  oB := Nat.zero_le _
  st := by show (0 : Int) ≤ 2 ∧ (2 : Int) ≤ 2 + ((0 : Nat) : Int); decide
  op := by show (0 : Int) ≤ 2 ∧ (2 : Int) ≤ 2 + ((0 : Nat) : Int); decide
  n := by show 2 ≤ 2; decide
  armed := rfl
  off := rfl
  quota := rfl
end Go.Proofs.YtpghfaplgkjdkaaDoor
