/- An envelope's text: plain mathematics. -/
import Derived.Test.YtkppeejbmalefaaDoorMi12
import Derived.Test.YtkppeejbmalefaaDoorEnMath2
import Derived.Lib.Join
namespace Go.Proofs.YtkppeejbmalefaaDoor
/-- An address's text, a list's. -/
def adT (a : Ad) : List UInt8 := 40 :: (Lib.join [nilI a.name, tNil, quoI a.loc, quoI a.dom] [32] ++ [41])
def lstT (xs : List Ad) : List UInt8 := if xs = [] then tNil else 40 :: (xs.flatMap adT ++ [41])
/-- The first value of a name. -/
def fstE (n : List UInt8) (fs : List FI) : List UInt8 := (valsOf n fs).head?.getD []
def valE (n : List UInt8) (fs : List FI) : List UInt8 := if (valsOf n fs).isEmpty then tNil else quoI (fstE n fs)
/-- The addresses of the first of these names that has any. -/
def adrN : List (List UInt8) → List FI → List UInt8
  | [], _ => tNil
  | n :: r, fs => if adsV (fstE n fs) = [] then adrN r fs else lstT (adsV (fstE n fs))
def nDate : List UInt8 := [68, 97, 116, 101]
def nSubj : List UInt8 := [83, 117, 98, 106, 101, 99, 116]
def nFrom : List UInt8 := [70, 114, 111, 109]
def nSend : List UInt8 := [83, 101, 110, 100, 101, 114]
def nRepl : List UInt8 := [82, 101, 112, 108, 121, 45, 84, 111]
def nTo : List UInt8 := [84, 111]
def nCc : List UInt8 := [67, 99]
def nBcc : List UInt8 := [66, 99, 99]
def nIn : List UInt8 := [73, 110, 45, 82, 101, 112, 108, 121, 45, 84, 111]
def nMid : List UInt8 := [77, 101, 115, 115, 97, 103, 101, 45, 73, 68]
def envW (fs : List FI) : List (List UInt8) := [valE nDate fs, valE nSubj fs, adrN [nFrom] fs, adrN [nSend, nFrom] fs, adrN [nRepl, nFrom] fs, adrN [nTo] fs, adrN [nCc] fs, adrN [nBcc] fs, valE nIn fs, valE nMid fs]
/-- The words of a text in brackets. -/
def brk (ws : List (List UInt8)) : List UInt8 := 40 :: (Lib.join ws [32] ++ [41])
def envT (m : List UInt8) : List UInt8 := brk (envW ((fdsOf m).map Fd.fi))
theorem adsV_nil : adsV [] = [] := by unfold adsV; rw [adsL_nil]; rfl
theorem lstT_nil : lstT [] = tNil := rfl
theorem quoE_len (s : List UInt8) (h : s.length ≤ 1000000) : (quoI s).length ≤ 2 * s.length + 110 := by
  unfold quoI
  have h1 := esc_len s
  have h2 := dec_len s.length h
  split
  · simp only [List.length_cons, List.length_append, List.length_nil]
    omega
  · simp only [List.length_cons, List.length_append]
    omega
theorem nilE_len (s : List UInt8) (h : s.length ≤ 1000000) : (nilI s).length ≤ 2 * s.length + 110 := by
  unfold nilI
  split
  · simp [tNil]
  · exact quoE_len s h
theorem tailE_len (r : List (List UInt8)) (K : Nat) (h : ∀ x ∈ r, x.length ≤ K) : (Lib.joinTail [32] r).length ≤ r.length * (K + 1) := by
  induction r with
  | nil => simp [Lib.joinTail]
  | cons x r ih =>
    have h1 := h x (by simp)
    have h2 := ih (fun y hy => h y (by simp [hy]))
    unfold Lib.joinTail at *
    rw [List.map_cons, List.flatten_cons, List.length_append, List.length_cons, Nat.succ_mul]
    simp only [List.length_append, List.length_cons, List.length_nil]
    omega
theorem joi_len (r : List (List UInt8)) (K : Nat) (h : ∀ x ∈ r, x.length ≤ K) : (Lib.join r [32]).length ≤ r.length * (K + 1) := by
  cases r with
  | nil => simp [Lib.join_nil]
  | cons x r =>
    have h1 := h x (by simp)
    have h2 := tailE_len r K (fun y hy => h y (by simp [hy]))
    rw [Lib.join_cons, List.length_append, List.length_cons, Nat.succ_mul]
    omega
theorem brk_len (r : List (List UInt8)) (K : Nat) (h : ∀ x ∈ r, x.length ≤ K) : (brk r).length ≤ r.length * (K + 1) + 2 := by
  have := joi_len r K h
  unfold brk
  simp only [List.length_cons, List.length_append, List.length_nil]
  omega
/-- An address's texts are no longer than this. -/
def adLe (M : Nat) (a : Ad) : Prop := a.name.length ≤ M ∧ a.loc.length ≤ M ∧ a.dom.length ≤ M
theorem adT_brk (a : Ad) : adT a = brk [nilI a.name, tNil, quoI a.loc, quoI a.dom] := rfl
theorem adT_len {M : Nat} (hM : M ≤ 1000000) {a : Ad} (h : adLe M a) : (adT a).length ≤ 8 * M + 446 := by
  obtain ⟨h1, h2, h3⟩ := h
  have k1 := nilE_len a.name (by omega)
  have k2 := quoE_len a.loc (by omega)
  have k3 := quoE_len a.dom (by omega)
  have := brk_len [nilI a.name, tNil, quoI a.loc, quoI a.dom] (2 * M + 110) (by
    intro x hx
    simp only [List.mem_cons, List.not_mem_nil, or_false] at hx
    rcases hx with rfl | rfl | rfl | rfl
    · omega
    · simp [tNil]
    · omega
    · omega)
  rw [adT_brk]
  simp only [List.length_cons, List.length_nil] at this
  omega
theorem flat_adT_len {M : Nat} (hM : M ≤ 1000000) : ∀ {xs : List Ad}, (∀ x ∈ xs, adLe M x) → (xs.flatMap adT).length ≤ xs.length * (8 * M + 446)
  | [], _ => by simp
  | a :: r, h => by
    have h1 := adT_len hM (h a (by simp))
    have h2 := flat_adT_len hM (xs := r) (fun x hx => h x (by simp [hx]))
    rw [List.flatMap_cons, List.length_append, List.length_cons, Nat.succ_mul]
    omega
theorem lstT_len {M : Nat} (hM : M ≤ 1000000) {xs : List Ad} (h : ∀ x ∈ xs, adLe M x) : (lstT xs).length ≤ xs.length * (8 * M + 446) + 3 := by
  have := flat_adT_len hM h
  unfold lstT
  split
  · simp [tNil]
  · simp only [List.length_cons, List.length_append, List.length_nil]
    omega
theorem flat_adT {xs : List Ad} {k : Nat} (hk : k < xs.length) : (xs.take (k + 1)).flatMap adT = (xs.take k).flatMap adT ++ adT xs[k] := by
  rw [List.take_succ_eq_append_getElem hk, List.flatMap_append]
  simp
theorem adT_ge (a : Ad) : 2 ≤ (adT a).length := by simp [adT]
theorem adsV_le {v : List UInt8} {M : Nat} (hv : v.length ≤ M) : ∀ x ∈ adsV v, adLe M x := fun x hx => by
  have := adsV_len hx
  exact ⟨by omega, by omega, by omega⟩
theorem adsV_50 (v : List UInt8) : (adsV v).length ≤ 50 := by
  unfold adsV
  rw [List.length_take]
  omega
theorem ads_lst_len {v : List UInt8} {M : Nat} (hM : M ≤ 1000000) (hv : v.length ≤ M) : (lstT (adsV v)).length ≤ 400 * M + 22303 := by
  have h1 := lstT_len hM (adsV_le hv)
  have h2 := adsV_50 v
  have h3 : (adsV v).length * (8 * M + 446) ≤ 50 * (8 * M + 446) := Nat.mul_le_mul_right _ h2
  omega
theorem valE_len {n : List UInt8} {fs : List FI} {M : Nat} (hM : M ≤ 1000000) (h : (fstE n fs).length ≤ M) : (valE n fs).length ≤ 2 * M + 110 := by
  unfold valE
  split
  · simp [tNil]
  · have := quoE_len (fstE n fs) (by omega)
    omega
theorem adrN_len {fs : List FI} {M : Nat} (hM : M ≤ 1000000) (h : ∀ n, (fstE n fs).length ≤ M) : ∀ ns, (adrN ns fs).length ≤ 400 * M + 22303
  | [] => by simp [adrN, tNil]
  | n :: r => by
    unfold adrN
    split
    · exact adrN_len hM h r
    · exact ads_lst_len hM (h n)
theorem envW_len {fs : List FI} {M : Nat} (hM : M ≤ 1000000) (h : ∀ n, (fstE n fs).length ≤ M) : ∀ x ∈ envW fs, x.length ≤ 400 * M + 22303 := by
  intro x hx
  unfold envW at hx
  simp only [List.mem_cons, List.not_mem_nil, or_false] at hx
  rcases hx with rfl | rfl | rfl | rfl | rfl | rfl | rfl | rfl | rfl | rfl
  · have := valE_len hM (h nDate); omega
  · have := valE_len hM (h nSubj); omega
  · exact adrN_len hM h _
  · exact adrN_len hM h _
  · exact adrN_len hM h _
  · exact adrN_len hM h _
  · exact adrN_len hM h _
  · exact adrN_len hM h _
  · have := valE_len hM (h nIn); omega
  · have := valE_len hM (h nMid); omega
theorem fst_len {n : List UInt8} {fs : List FI} {M : Nat} (h : ∀ x ∈ fs, x.value.length ≤ M) : (fstE n fs).length ≤ M := by
  unfold fstE
  cases hv : valsOf n fs with
  | nil => simp
  | cons v r =>
    have : v ∈ valsOf n fs := by rw [hv]; simp
    unfold valsOf at this
    obtain ⟨x, hx, rfl⟩ := List.mem_map.1 this
    exact h x (List.mem_filter.1 hx).1
end Go.Proofs.YtkppeejbmalefaaDoor
