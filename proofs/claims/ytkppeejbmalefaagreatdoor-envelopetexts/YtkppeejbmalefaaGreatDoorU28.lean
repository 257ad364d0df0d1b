/- The document's envelope's text: plain mathematics. -/
import Derived.Test.YtkppeejbmalefaaGreatDoorU26
import Derived.Test.YtkppeejbmalefaaGreatDoorU27
set_option linter.unusedSimpArgs false
set_option linter.unusedVariables false
namespace Go.Proofs.YtkppeejbmalefaaGreatDoor
open Go.RowKit Go.Shelf
/-- The names, in small letters. -/
def lowNs : List (List UInt8) := [[100, 97, 116, 101], [115, 117, 98, 106, 101, 99, 116], [102, 114, 111, 109], [115, 101, 110, 100, 101, 114], [114, 101, 112, 108, 121, 45, 116, 111], [116, 111], [99, 99], [98, 99, 99], [105, 110, 45, 114, 101, 112, 108, 121, 45, 116, 111], [109, 101, 115, 115, 97, 103, 101, 45, 105, 100]]
theorem vals_low {n n' : List UInt8} (h : n.map lowB = n'.map lowB) (fs : List FI) : valsOf n fs = valsOf n' fs := by
  unfold valsOf
  congr 1
  congr 1
  funext x
  unfold sameT
  rw [h]
theorem valE_low {n n' : List UInt8} (h : n.map lowB = n'.map lowB) (fs : List FI) : valE n fs = valE n' fs := by
  unfold valE fstE
  rw [vals_low h]
theorem fstE_low {n n' : List UInt8} (h : n.map lowB = n'.map lowB) (fs : List FI) : fstE n fs = fstE n' fs := by
  unfold fstE
  rw [vals_low h]
/-- A field's addresses' text. -/
def tE (n : List UInt8) (fs : List FI) : List UInt8 := lstT (adsV (fstE n fs))
theorem lst_nil {xs : List Ad} : lstT xs = tNil ↔ xs = [] := by
  constructor
  · intro h
    by_cases h0 : xs = []
    · exact h0
    · unfold lstT at h
      rw [if_neg h0] at h
      simp [tNil] at h
  · rintro rfl
    rfl
theorem adr_one (n : List UInt8) (fs : List FI) : adrN [n] fs = tE n fs := by
  unfold adrN tE
  by_cases h : adsV (fstE n fs) = []
  · rw [if_pos h, h]
    rfl
  · rw [if_neg h]
theorem adr_two (n f : List UInt8) (fs : List FI) : adrN [n, f] fs = if tE n fs = tNil then tE f fs else tE n fs := by
  rw [adrN, adr_one]
  unfold tE
  by_cases h : adsV (fstE n fs) = []
  · rw [if_pos h, if_pos (lst_nil.2 h)]
  · rw [if_neg h, if_neg (fun e => h (lst_nil.1 e))]
/-- The word in place k. -/
def wdE (fs : List FI) (k : Nat) (n : List UInt8) : List UInt8 := if k < 2 ∨ 7 < k then valE n fs else if k = 3 ∨ k = 4 then (if tE n fs = tNil then tE nFrom fs else tE n fs) else tE n fs
theorem env_words (fs : List FI) : ∀ k (hk : k < lowNs.length), (envW fs)[k]? = some (wdE fs k lowNs[k]) := by
  intro k hk
  have hk' : k < 10 := hk
  unfold envW
  simp only [adr_one, adr_two]
  match k, hk' with
  | 0, _ => exact congrArg some (valE_low (n := nDate) (n' := [100, 97, 116, 101]) (by decide) fs)
  | 1, _ => exact congrArg some (valE_low (n := nSubj) (n' := [115, 117, 98, 106, 101, 99, 116]) (by decide) fs)
  | 2, _ => exact congrArg some (by show tE nFrom fs = tE _ fs; unfold tE; rw [fstE_low (n := nFrom) (n' := [102, 114, 111, 109]) (by decide)]; rfl)
  | 3, _ => exact congrArg some (by show _ = (if tE _ fs = tNil then tE nFrom fs else tE _ fs); unfold tE; rw [fstE_low (n := nSend) (n' := [115, 101, 110, 100, 101, 114]) (by decide)]; rfl)
  | 4, _ => exact congrArg some (by show _ = (if tE _ fs = tNil then tE nFrom fs else tE _ fs); unfold tE; rw [fstE_low (n := nRepl) (n' := [114, 101, 112, 108, 121, 45, 116, 111]) (by decide)]; rfl)
  | 5, _ => exact congrArg some (by show tE nTo fs = tE _ fs; unfold tE; rw [fstE_low (n := nTo) (n' := [116, 111]) (by decide)]; rfl)
  | 6, _ => exact congrArg some (by show tE nCc fs = tE _ fs; unfold tE; rw [fstE_low (n := nCc) (n' := [99, 99]) (by decide)]; rfl)
  | 7, _ => exact congrArg some (by show tE nBcc fs = tE _ fs; unfold tE; rw [fstE_low (n := nBcc) (n' := [98, 99, 99]) (by decide)]; rfl)
  | 8, _ => exact congrArg some (valE_low (n := nIn) (n' := [105, 110, 45, 114, 101, 112, 108, 121, 45, 116, 111]) (by decide) fs)
  | 9, _ => exact congrArg some (valE_low (n := nMid) (n' := [109, 101, 115, 115, 97, 103, 101, 45, 105, 100]) (by decide) fs)
theorem env_len (fs : List FI) : (envW fs).length = 10 := rfl
theorem join_snocE (xs : List (List UInt8)) (x : List UInt8) : Lib.join (xs ++ [x]) [32] = Lib.join xs [32] ++ ((if xs = [] then [] else [32]) ++ x) := by
  cases xs with
  | nil => simp [Lib.join_one, Lib.join_nil]
  | cons a r =>
    rw [List.cons_append, Lib.join_cons, Lib.join_cons]
    unfold Lib.joinTail
    simp
/-- What has been put together behind k words. -/
def prE (fs : List FI) (k : Nat) : List UInt8 := 40 :: Lib.join ((envW fs).take k) [32]
theorem pr_next (fs : List FI) {k : Nat} (hk : k < lowNs.length) : prE fs (k + 1) = prE fs k ++ ((if k = 0 then [] else [32]) ++ wdE fs k lowNs[k]) := by
  have hk' : k < (envW fs).length := hk
  have h := env_words fs k hk
  rw [List.getElem?_eq_getElem hk'] at h
  unfold prE
  rw [List.take_succ_eq_append_getElem hk', Option.some.inj h, join_snocE, List.cons_append]
  congr 3
  have : ((envW fs).take k = []) ↔ k = 0 := by
    rw [List.take_eq_nil_iff]
    constructor
    · rintro (h | h)
      · exact h
      · have := congrArg List.length h
        rw [env_len] at this
        simp at this
    · exact .inl
  by_cases h0 : k = 0
  · rw [if_pos h0, if_pos (this.2 h0)]
  · rw [if_neg h0, if_neg (fun e => h0 (this.1 e))]
theorem pr_all (fs : List FI) : prE fs 10 ++ [41] = brk (envW fs) := by
  unfold prE brk
  rw [List.take_of_length_le (by rw [env_len]; omega)]
  simp
theorem pr_len {fs : List FI} (hf : ∀ n, (fstE n fs).length ≤ 10000) (k : Nat) : (prE fs k).length ≤ 100000000 := by
  unfold prE
  have h1 := joi_len ((envW fs).take k) (400 * 10000 + 22303) (fun x hx => envW_len (by omega) hf x (List.mem_of_mem_take hx))
  have h2 : ((envW fs).take k).length ≤ 10 := by rw [List.length_take, env_len]; omega
  have h3 : ((envW fs).take k).length * (400 * 10000 + 22303 + 1) ≤ 10 * (400 * 10000 + 22303 + 1) := Nat.mul_le_mul_right _ h2
  rw [List.length_cons]
  omega
theorem tE_len {fs : List FI} (hf : ∀ n, (fstE n fs).length ≤ 10000) (n : List UInt8) : (tE n fs).length ≤ 100000000 := by
  have := ads_lst_len (v := fstE n fs) (M := 10000) (by omega) (hf n)
  unfold tE
  omega
theorem lowNs_len : ∀ n ∈ lowNs, n.length ≤ 100 := by decide
/-- The text of From's addresses as it is known behind k words. -/
def frE (fs : List FI) (k : Nat) : List UInt8 := if 2 < k then tE nFrom fs else tNil
theorem tE_from (fs : List FI) : tE [102, 114, 111, 109] fs = tE nFrom fs := by
  unfold tE
  rw [fstE_low (n := [102, 114, 111, 109]) (n' := nFrom) (by decide)]
theorem TX.head {w : World} {v : Value} {xs : List (List UInt8)} {f : List UInt8} (h : TX w v xs) (hf : xs[0]? = some f) : ∃ g o c, v = .slice (some ⟨g, o, none⟩) xs.length c ∧ w.cell? ⟨g, o, none⟩ = some (.string ⟨f.toArray⟩) := by
  obtain ⟨A, c, rfl, hc⟩ := h
  obtain ⟨h0, e⟩ := List.getElem?_eq_some_iff.1 hf
  obtain ⟨g, o, rfl, _, hcell⟩ := hc 0 h0
  rw [e, Nat.add_zero] at hcell
  exact ⟨g, o, c, rfl, hcell⟩
theorem head_fst {n : List UInt8} {fs : List FI} (h : valsOf n fs ≠ []) : (valsOf n fs)[0]? = some (fstE n fs) := by
  unfold fstE
  cases hv : valsOf n fs with
  | nil => exact absurd hv h
  | cons a b => rfl
end Go.Proofs.YtkppeejbmalefaaGreatDoor
