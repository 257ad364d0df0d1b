/- The headers that HeaderBodies puts together. -/
import Derived.Test.YtgmdpjncgdojbaaDoorHMath2
namespace Go.Proofs.YtgmdpjncgdojbaaDoor
open Go.RowKit
/-- The three values. -/
def valR : Nat → List UInt8
  | 0 => [120]
  | 1 => [121, 32, 122]
  | _ => []
def lnB (i : Nat) (n : List UInt8) : List UInt8 := n ++ [58, 32] ++ valR (i % 3) ++ [13, 10]
def linesFrom : Nat → List (List UInt8) → List (List UInt8)
  | _, [] => []
  | i, n :: ns => lnB i n :: linesFrom (i + 1) ns
theorem linesFrom_snoc : ∀ (j : Nat) (ns : List (List UInt8)) (n : List UInt8), linesFrom j (ns ++ [n]) = linesFrom j ns ++ [lnB (j + ns.length) n]
  | j, [], n => rfl
  | j, x :: ns, n => by
    rw [List.cons_append, linesFrom, linesFrom_snoc (j + 1) ns n, linesFrom, List.cons_append, List.length_cons, show j + 1 + ns.length = j + (ns.length + 1) from by omega]
/-- A name of HeaderBodies: not empty, its bytes such as a name may have. -/
def okN (n : List UInt8) : Prop := n ≠ [] ∧ n.all (fun c => nbB c && c != 58) = true ∧ n.length ≤ 200
theorem okN_58 {n : List UInt8} (h : okN n) : (58 : UInt8) ∉ n := fun hm => by
  have := List.all_eq_true.1 h.2.1 58 hm
  simp at this
theorem okN_nb {n : List UInt8} (h : okN n) : n.all nbB = true := by
  rw [List.all_eq_true]
  intro x hx
  have := List.all_eq_true.1 h.2.1 x hx
  simp only [Bool.and_eq_true] at this
  exact this.1
theorem okN_10 {n : List UInt8} (h : okN n) : (10 : UInt8) ∉ n := fun hm => by
  have := List.all_eq_true.1 h.2.1 10 hm
  simp [nbB] at this
theorem valR_10 (i : Nat) : (10 : UInt8) ∉ valR i := by
  match i with
  | 0 => decide
  | 1 => decide
  | _ + 2 => simp [valR]
theorem valR_len (i : Nat) : (valR i).length ≤ 3 := by
  match i with
  | 0 => decide
  | 1 => decide
  | _ + 2 => simp [valR]
theorem valR_trim (i : Nat) : Lib.trimS (32 :: valR i) [32, 9] = valR i := by
  match i with
  | 0 => decide
  | 1 => decide
  | _ + 2 => rfl
theorem lnB_eq (i : Nat) (n : List UInt8) : lnB i n = (n ++ 58 :: 32 :: valR (i % 3) ++ [13]) ++ [10] := by simp [lnB]
theorem cr_13 (q : List UInt8) : cr (q ++ [13]) = q := by
  unfold cr
  simp
theorem lnB_txt (i : Nat) (n : List UInt8) : txt (lnB i n) = n ++ 58 :: (32 :: valR (i % 3)) := by
  rw [lnB_eq, txt_term, cr_13]
theorem lnB_ok (i : Nat) {n : List UInt8} (h : okN n) : Term (lnB i n) ∧ txt (lnB i n) ≠ [] ∧ blB (lnB i n) = false := by
  refine ⟨⟨n ++ 58 :: 32 :: valR (i % 3) ++ [13], lnB_eq i n, ?_⟩, ?_, ?_⟩
  · have h1 := okN_10 h
    have h2 := valR_10 (i % 3)
    simp
    exact ⟨h1, h2⟩
  · rw [lnB_txt]
    simp
  · cases n with
    | nil => exact (h.1 rfl).elim
    | cons c n =>
      have := List.all_eq_true.1 (okN_nb h) c (by simp)
      have h2 : 33 ≤ c.toNat ∧ c.toNat ≤ 126 := by simpa [nbB] using this
      show (c == 32 || c == 9) = false
      rw [Bool.eq_false_iff]
      intro h
      simp at h
      rcases h with rfl | rfl <;> simp at h2
theorem lnB_fd (i : Nat) {n : List UInt8} (h : okN n) (at' : Nat) : fdOf (lnB i n) [] at' = some ⟨n, valR (i % 3), at', at' + (lnB i n).length⟩ := by
  unfold fdOf
  rw [lnB_txt, nameO_of (okN_58 h) h.1 (okN_nb h)]
  have e : (n ++ 58 :: (32 :: valR (i % 3))).drop (n.length + 1) = 32 :: valR (i % 3) := by
    rw [List.drop_append, List.drop_of_length_le (by omega), show n.length + 1 - n.length = 1 from by omega]
    rfl
  simp only [Option.map_some, e, List.map_nil, List.flatten_nil, List.append_nil, valR_trim, List.length_nil, Nat.add_zero]
theorem lnB_len (i : Nat) {n : List UInt8} (h : okN n) : (lnB i n).length ≤ 207 := by
  have h1 := valR_len (i % 3)
  have h2 := h.2.2
  simp [lnB]
  omega
theorem lines_ok : ∀ (j : Nat) (ns : List (List UInt8)), (∀ n ∈ ns, okN n) → ∀ x ∈ linesFrom j ns, Term x ∧ txt x ≠ [] ∧ blB x = false
  | _, [], _, x, hx => by cases hx
  | j, n :: ns, h, x, hx => by
    rw [linesFrom] at hx
    rcases List.mem_cons.1 hx with rfl | hx
    · exact lnB_ok j (h n (by simp))
    · exact lines_ok (j + 1) ns (fun y hy => h y (by simp [hy])) x hx
theorem lines_len : ∀ (j : Nat) (ns : List (List UInt8)), (∀ n ∈ ns, okN n) → (linesFrom j ns).flatten.length ≤ 207 * ns.length
  | _, [], _ => Nat.le_refl _
  | j, n :: ns, h => by
    have h1 := lines_len (j + 1) ns (fun y hy => h y (by simp [hy]))
    have h2 := lnB_len j (h n (by simp))
    rw [linesFrom, List.flatten_cons, List.length_append, List.length_cons]
    omega
/-- The fields of these lines. -/
theorem flds_at : ∀ (j : Nat) (ns : List (List UInt8)) (at' : Nat), (∀ n ∈ ns, okN n) → (flds (linesFrom j ns) at').length = ns.length ∧ ∀ i (hi : i < ns.length), ∃ f, (flds (linesFrom j ns) at')[i]? = some f ∧ f.name = ns[i] ∧ f.value = valR ((j + i) % 3)
  | _, [], _, _ => ⟨rfl, fun i hi => by simp at hi⟩
  | j, n :: ns, at', h => by
    obtain ⟨h1, h2⟩ := flds_at (j + 1) ns (at' + (lnB j n).length) (fun y hy => h y (by simp [hy]))
    have e : flds (linesFrom j (n :: ns)) at' = ⟨n, valR (j % 3), at', at' + (lnB j n).length⟩ :: flds (linesFrom (j + 1) ns) (at' + (lnB j n).length) := by
      rw [linesFrom, flds, lnB_fd j (h n (by simp))]
      rfl
    rw [e]
    refine ⟨by rw [List.length_cons, h1, List.length_cons], fun i hi => ?_⟩
    cases i with
    | zero => exact ⟨_, rfl, rfl, rfl⟩
    | succ i =>
      obtain ⟨f, g1, g2, g3⟩ := h2 i (by simpa using hi)
      exact ⟨f, by simpa using g1, by simpa using g2, by rw [g3, show j + 1 + i = j + (i + 1) from by omega]⟩
theorem bodies_hd (ns : List (List UInt8)) (s : List UInt8) (h : ∀ n ∈ ns, okN n) : hd (splitS ((linesFrom 0 ns).flatten ++ (crL ++ s))) 0 = (flds (linesFrom 0 ns) 0, (linesFrom 0 ns).flatten.length + 2) :=
  hd_put (linesFrom 0 ns) crL s (lines_ok 0 ns h) cr_term (by decide)
end Go.Proofs.YtgmdpjncgdojbaaDoor
