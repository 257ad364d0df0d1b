/- An envelope's text: plain mathematics. -/
/- behindQuoted, behindAngle, behind, place of package envelope. -/
import Derived.Test.YtkppeejbmalefaaGreatDoorU13
import Derived.Test.YtkppeejbmalefaaGreatDoorU14
import Derived.Lib.Join
import Derived.Test.YtkppeejbmalefaaGreatDoorU06
section
namespace Go.Proofs.YtkppeejbmalefaaGreatDoor
/-- An address's text, a list's. -/
def adT (a : Ad) : List UInt8 := 40 :: (Lib.join [nilI a.name, tNil, quoI a.loc, quoI a.dom] [32] ++ [41])
def lstT (xs : List Ad) : List UInt8 := if xs = [] then tNil else 40 :: (xs.flatMap adT ++ [41])
/-- The first value of a name. -/
def fstE (n : List UInt8) (fs : List FI) : List UInt8 := (valsOf n fs).head?.getD []
def valE (n : List UInt8) (fs : List FI) : List UInt8 := if (valsOf n fs).isEmpty then tNil else quoI (fstE n fs)
/-- The addresses of the first of these names that has any. -/
def adrN : List (List UInt8) → List FI → List UInt8
  | [], _ => tNil
  | n :: r, fs => if adsV (fstE n fs) = [] then adrN r fs else lstT (adsV (fstE n fs))
def nDate : List UInt8 := [68, 97, 116, 101]
def nSubj : List UInt8 := [83, 117, 98, 106, 101, 99, 116]
def nFrom : List UInt8 := [70, 114, 111, 109]
def nSend : List UInt8 := [83, 101, 110, 100, 101, 114]
def nRepl : List UInt8 := [82, 101, 112, 108, 121, 45, 84, 111]
def nTo : List UInt8 := [84, 111]
def nCc : List UInt8 := [67, 99]
def nBcc : List UInt8 := [66, 99, 99]
def nIn : List UInt8 := [73, 110, 45, 82, 101, 112, 108, 121, 45, 84, 111]
def nMid : List UInt8 := [77, 101, 115, 115, 97, 103, 101, 45, 73, 68]
def envW (fs : List FI) : List (List UInt8) := [valE nDate fs, valE nSubj fs, adrN [nFrom] fs, adrN [nSend, nFrom] fs, adrN [nRepl, nFrom] fs, adrN [nTo] fs, adrN [nCc] fs, adrN [nBcc] fs, valE nIn fs, valE nMid fs]
/-- The words of a text in brackets. -/
def brk (ws : List (List UInt8)) : List UInt8 := 40 :: (Lib.join ws [32] ++ [41])
def envT (m : List UInt8) : List UInt8 := brk (envW ((fdsOf m).map Fd.fi))
theorem adsV_nil : adsV [] = [] := by unfold adsV; rw [adsL_nil]; rfl
theorem lstT_nil : lstT [] = tNil := rfl
theorem quoE_len (s : List UInt8) (h : s.length ≤ 1000000) : (quoI s).length ≤ 2 * s.length + 110 := by
  unfold quoI
  have h1 := esc_len s
  have h2 := dec_len s.length h
  split
  · simp only [List.length_cons, List.length_append, List.length_nil]
    omega
  · simp only [List.length_cons, List.length_append]
    omega
theorem nilE_len (s : List UInt8) (h : s.length ≤ 1000000) : (nilI s).length ≤ 2 * s.length + 110 := by
  unfold nilI
  split
  · simp [tNil]
  · exact quoE_len s h
theorem tailE_len (r : List (List UInt8)) (K : Nat) (h : ∀ x ∈ r, x.length ≤ K) : (Lib.joinTail [32] r).length ≤ r.length * (K + 1) := by
  induction r with
  | nil => simp [Lib.joinTail]
  | cons x r ih =>
    have h1 := h x (by simp)
    have h2 := ih (fun y hy => h y (by simp [hy]))
    unfold Lib.joinTail at *
    rw [List.map_cons, List.flatten_cons, List.length_append, List.length_cons, Nat.succ_mul]
    simp only [List.length_append, List.length_cons, List.length_nil]
    omega
theorem joi_len (r : List (List UInt8)) (K : Nat) (h : ∀ x ∈ r, x.length ≤ K) : (Lib.join r [32]).length ≤ r.length * (K + 1) := by
  cases r with
  | nil => simp [Lib.join_nil]
  | cons x r =>
    have h1 := h x (by simp)
    have h2 := tailE_len r K (fun y hy => h y (by simp [hy]))
    rw [Lib.join_cons, List.length_append, List.length_cons, Nat.succ_mul]
    omega
theorem brk_len (r : List (List UInt8)) (K : Nat) (h : ∀ x ∈ r, x.length ≤ K) : (brk r).length ≤ r.length * (K + 1) + 2 := by
  have := joi_len r K h
  unfold brk
  simp only [List.length_cons, List.length_append, List.length_nil]
  omega
/-- An address's texts are no longer than this. -/
def adLe (M : Nat) (a : Ad) : Prop := a.name.length ≤ M ∧ a.loc.length ≤ M ∧ a.dom.length ≤ M
theorem adT_brk (a : Ad) : adT a = brk [nilI a.name, tNil, quoI a.loc, quoI a.dom] := rfl
theorem adT_len {M : Nat} (hM : M ≤ 1000000) {a : Ad} (h : adLe M a) : (adT a).length ≤ 8 * M + 446 := by
  obtain ⟨h1, h2, h3⟩ := h
  have k1 := nilE_len a.name (by omega)
  have k2 := quoE_len a.loc (by omega)
  have k3 := quoE_len a.dom (by omega)
  have := brk_len [nilI a.name, tNil, quoI a.loc, quoI a.dom] (2 * M + 110) (by
    intro x hx
    simp only [List.mem_cons, List.not_mem_nil, or_false] at hx
    rcases hx with rfl | rfl | rfl | rfl
    · omega
    · simp [tNil]
    · omega
    · omega)
  rw [adT_brk]
  simp only [List.length_cons, List.length_nil] at this
  omega
theorem flat_adT_len {M : Nat} (hM : M ≤ 1000000) : ∀ {xs : List Ad}, (∀ x ∈ xs, adLe M x) → (xs.flatMap adT).length ≤ xs.length * (8 * M + 446)
  | [], _ => by simp
  | a :: r, h => by
    have h1 := adT_len hM (h a (by simp))
    have h2 := flat_adT_len hM (xs := r) (fun x hx => h x (by simp [hx]))
    rw [List.flatMap_cons, List.length_append, List.length_cons, Nat.succ_mul]
    omega
theorem lstT_len {M : Nat} (hM : M ≤ 1000000) {xs : List Ad} (h : ∀ x ∈ xs, adLe M x) : (lstT xs).length ≤ xs.length * (8 * M + 446) + 3 := by
  have := flat_adT_len hM h
  unfold lstT
  split
  · simp [tNil]
  · simp only [List.length_cons, List.length_append, List.length_nil]
    omega
theorem flat_adT {xs : List Ad} {k : Nat} (hk : k < xs.length) : (xs.take (k + 1)).flatMap adT = (xs.take k).flatMap adT ++ adT xs[k] := by
  rw [List.take_succ_eq_append_getElem hk, List.flatMap_append]
  simp
theorem adT_ge (a : Ad) : 2 ≤ (adT a).length := by simp [adT]
theorem adsV_le {v : List UInt8} {M : Nat} (hv : v.length ≤ M) : ∀ x ∈ adsV v, adLe M x := fun x hx => by
  have := adsV_len hx
  exact ⟨by omega, by omega, by omega⟩
theorem adsV_50 (v : List UInt8) : (adsV v).length ≤ 50 := by
  unfold adsV
  rw [List.length_take]
  omega
theorem ads_lst_len {v : List UInt8} {M : Nat} (hM : M ≤ 1000000) (hv : v.length ≤ M) : (lstT (adsV v)).length ≤ 400 * M + 22303 := by
  have h1 := lstT_len hM (adsV_le hv)
  have h2 := adsV_50 v
  have h3 : (adsV v).length * (8 * M + 446) ≤ 50 * (8 * M + 446) := Nat.mul_le_mul_right _ h2
  omega
theorem valE_len {n : List UInt8} {fs : List FI} {M : Nat} (hM : M ≤ 1000000) (h : (fstE n fs).length ≤ M) : (valE n fs).length ≤ 2 * M + 110 := by
  unfold valE
  split
  · simp [tNil]
  · have := quoE_len (fstE n fs) (by omega)
    omega
theorem adrN_len {fs : List FI} {M : Nat} (hM : M ≤ 1000000) (h : ∀ n, (fstE n fs).length ≤ M) : ∀ ns, (adrN ns fs).length ≤ 400 * M + 22303
  | [] => by simp [adrN, tNil]
  | n :: r => by
    unfold adrN
    split
    · exact adrN_len hM h r
    · exact ads_lst_len hM (h n)
theorem envW_len {fs : List FI} {M : Nat} (hM : M ≤ 1000000) (h : ∀ n, (fstE n fs).length ≤ M) : ∀ x ∈ envW fs, x.length ≤ 400 * M + 22303 := by
  intro x hx
  unfold envW at hx
  simp only [List.mem_cons, List.not_mem_nil, or_false] at hx
  rcases hx with rfl | rfl | rfl | rfl | rfl | rfl | rfl | rfl | rfl | rfl
  · have := valE_len hM (h nDate); omega
  · have := valE_len hM (h nSubj); omega
  · exact adrN_len hM h _
  · exact adrN_len hM h _
  · exact adrN_len hM h _
  · exact adrN_len hM h _
  · exact adrN_len hM h _
  · exact adrN_len hM h _
  · have := valE_len hM (h nIn); omega
  · have := valE_len hM (h nMid); omega
theorem fst_len {n : List UInt8} {fs : List FI} {M : Nat} (h : ∀ x ∈ fs, x.value.length ≤ M) : (fstE n fs).length ≤ M := by
  unfold fstE
  cases hv : valsOf n fs with
  | nil => simp
  | cons v r =>
    have : v ∈ valsOf n fs := by rw [hv]; simp
    unfold valsOf at this
    obtain ⟨x, hx, rfl⟩ := List.mem_map.1 this
    exact h x (List.mem_filter.1 hx).1
end Go.Proofs.YtkppeejbmalefaaGreatDoor

end
section
namespace Go.Proofs.YtkppeejbmalefaaGreatDoor
open Go.RowKit Go.Shelf
theorem u8_ne {c d : UInt8} {k : Int} (hk : (d.toNat : Int) = k) (h : c ≠ d) : ¬ ((c.toNat : Int) = k) := fun e => h (UInt8.toNat_inj.1 (Int.ofNat.inj (e.trans hk.symm)))
theorem ret_i {a b : Int} (h : a = b) : Ending.returned (.int .i64 a) = .returned (.int .i64 b) := by rw [h]
theorem qL_34 (r : List UInt8) : qL (34 :: r) = 1 := by
  cases r <;> simp [qL]
theorem qL_92 (d : UInt8) (r : List UInt8) : qL (92 :: d :: r) = qL r + 2 := by simp [qL]
theorem qL_1 (c : UInt8) : qL [c] = 1 := by simp [qL]
theorem qL_c {c : UInt8} (h : c ≠ 34) (h2 : c ≠ 92) (r : List UInt8) : qL (c :: r) = qL r + 1 := by
  cases r with
  | nil => simp [qL]
  | cons d r => rw [qL, if_neg h, if_neg h2]
theorem drop_at {l : List UInt8} {j : Nat} (hj : j < l.length) : l.drop j = l[j] :: l.drop (j + 1) := List.drop_eq_getElem_cons hj
theorem q_next {l : List UInt8} {j : Nat} (hj : j < l.length) (h : l[j] ≠ 34) (h2 : l[j] ≠ 92) : j + qL (l.drop j) = j + 1 + qL (l.drop (j + 1)) := by
  rw [drop_at hj, qL_c h h2]
  omega
theorem q_skip {l : List UInt8} {j : Nat} (hj : j < l.length) (h : l[j] = 92) : min (j + qL (l.drop j)) l.length = min (j + 2 + qL (l.drop (j + 2))) l.length := by
  rw [drop_at hj, h]
  by_cases hk : j + 1 < l.length
  · rw [drop_at hk, qL_92, show j + 1 + 1 = j + 2 from rfl]
    congr 1
    omega
  · rw [List.drop_of_length_le (by omega), List.drop_of_length_le (by omega), qL_1]
    simp [qL]
    omega
set_option maxHeartbeats 1000000 in
theorem bq_any (l : List UInt8) (k : Nat) (hk : k < l.length) (w : World) (hl : l.length ≤ 1000000) :
    Calls Tryz.prog 92 #[.string ⟨l.toArray⟩, .int .i64 k] w fun e w' => e = .returned (.int .i64 ((k + 1 + qL (l.drop (k + 1)) : Nat) : Int)) ∧ w' = w := by
  have hsz := size_lit l
  obtain ⟨E, hE⟩ : ∃ E, k + 1 + qL (l.drop (k + 1)) = E := ⟨_, rfl⟩
  have hEl : E ≤ l.length := by
    have := qL_le (l.drop (k + 1))
    rw [List.length_drop] at this
    omega
  have HE : Hid (E = min (k + 1 + qL (l.drop (k + 1))) l.length) := by show _ = _; omega
  rw [hE]
  clear hE
  go_enter Tryz.func92, Tryz.ntmps92
  go_wp2
  go_loop [1] (fun v => ∃ j : Nat, j ≤ l.length + 1 ∧ v = .int .i64 j ∧ Hid (E = min (j + qL (l.drop j)) l.length)) (fun v => l.length + 1 - (intOf v).toNat)
  case atStart => exact ⟨k + 1, by omega, by go_num, HE⟩
  case round =>
    obtain ⟨j, hj, rfl, HJ⟩ := hrel
    by_cases hlt : j < l.length
    · obtain ⟨c, hc, hat⟩ := at_str l j hlt
      have hlt' : (j : Int) < l.length := by omega
      by_cases h34 : c = 34
      · have hjn : E = j + 1 := by
          have h1 := HJ.out
          rw [drop_at hlt, hc, h34, qL_34] at h1
          omega
        subst h34
        clear HJ HE
        go_wp2
        go_ret
        exact ⟨ret_i (by omega), rfl⟩
      · have h34' := u8_ne (k := 34) rfl h34
        by_cases h92 : c = 92
        · have HN : Hid (E = min (j + 2 + qL (l.drop (j + 2))) l.length) := by
            show _ = _
            rw [← q_skip hlt (hc.trans h92)]
            exact HJ.out
          subst h92
          clear HJ HE
          go_wp2
          go_round
          case rel => exact ⟨j + 2, by omega, by go_num, HN⟩
          case measure => simp [intOf]; omega
        · have h92' := u8_ne (k := 92) rfl h92
          have HN : Hid (E = min (j + 1 + qL (l.drop (j + 1))) l.length) := by
            show _ = _
            rw [← q_next hlt (hc ▸ h34) (hc ▸ h92)]
            exact HJ.out
          clear HJ HE
          go_wp2
          go_round
          case rel => exact ⟨j + 1, by omega, by go_num, HN⟩
          case measure => simp [intOf]; omega
    · have hjn : E = l.length := by
        have h1 := HJ.out
        rw [List.drop_of_length_le (by omega)] at h1
        simp [qL] at h1
        omega
      have hlt' : ¬ ((j : Int) < l.length) := by omega
      clear HJ HE
      go_wp2
      go_ret
      exact ⟨ret_i (by omega), rfl⟩
theorem aL_in {p : List UInt8} (q : List UInt8) (h : (62 : UInt8) ∉ p) : aL (p ++ 62 :: q) = p.length + 1 := by
  induction p with
  | nil => simp [aL]
  | cons c r ih =>
    have hc : c ≠ 62 := fun e => h (by simp [e])
    rw [List.cons_append, aL, if_neg hc, ih (fun e => h (by simp [e]))]
    simp
theorem aL_out {p : List UInt8} (h : (62 : UInt8) ∉ p) : aL p = p.length := by
  induction p with
  | nil => simp [aL]
  | cons c r ih =>
    have hc : c ≠ 62 := fun e => h (by simp [e])
    rw [aL, if_neg hc, ih (fun e => h (by simp [e]))]
    simp
theorem ba_any (l : List UInt8) (k : Nat) (hk : k < l.length) (h60 : l[k] = 60) (w : World) (hl : l.length ≤ 1000000) :
    Calls Tryz.prog 93 #[.string ⟨l.toArray⟩, .int .i64 k] w fun e w' => e = .returned (.int .i64 ((k + 1 + aL (l.drop (k + 1)) : Nat) : Int)) ∧ w' = w := by
  have hsz := size_lit l
  have hd := drop_at hk
  rw [h60] at hd
  have e2 : (⟨l.toArray⟩ : ByteArray).extract k l.length = ⟨(l.drop k).toArray⟩ := ext_drop l k
  have hdl := List.length_drop (l := l) (i := k + 1)
  obtain ⟨r, hr⟩ : ∃ r, l.drop (k + 1) = r := ⟨_, rfl⟩
  rw [hr] at hd hdl ⊢
  rw [hd] at e2
  by_cases hb : (62 : UInt8) ∈ r
  · obtain ⟨p, q, rfl, hp⟩ := split_at_byte r hb
    have HI := hide (fun w => index_byte (60 :: (p ++ 62 :: q)) 62 (index_in (p := 60 :: p) q (by simp [hp])) w)
    rw [aL_in q hp]
    simp only [List.length_append, List.length_cons] at hdl
    generalize (60 :: (p ++ 62 :: q)) = S at *
    simp only [List.length_cons] at HI
    clear hr hd hb
    go_enter Tryz.func93, Tryz.ntmps93
    go_wp2_with (first
      | (go_at_call 102; refine (HI.out _).mono ?_; rintro e w2 ⟨rfl, rfl⟩))
    go_ret
    exact ⟨ret_i (by omega), rfl⟩
  · have HI := hide (fun w => index_byte (60 :: r) 62 (index_out (by simp [hb])) w)
    rw [aL_out hb]
    generalize (60 :: r) = S at *
    clear hr hd hb
    go_enter Tryz.func93, Tryz.ntmps93
    go_wp2_with (first
      | (go_at_call 102; refine (HI.out _).mono ?_; rintro e w2 ⟨rfl, rfl⟩))
    go_ret
    exact ⟨ret_i (by omega), rfl⟩
theorem be_any (l : List UInt8) (k : Nat) (hk : k < l.length) (w : World) (hl : l.length ≤ 1000000) :
    Calls Tryz.prog 59 #[.string ⟨l.toArray⟩, .int .i64 k] w fun e w' => e = .returned (.int .i64 ((k + stp (l.drop k) : Nat) : Int)) ∧ w' = w := by
  have hsz := size_lit l
  obtain ⟨c, hc, hat⟩ := at_str l k hk
  rw [drop_at hk, hc, stp_cons]
  by_cases h34 : c = 34
  · have HI := hide (fun w => bq_any l k hk w hl)
    rw [if_pos h34]
    generalize qL (l.drop (k + 1)) = E at *
    subst h34
    go_enter Tryz.func59, Tryz.ntmps59
    go_wp2_with (first
      | (go_at_call 92; refine (HI.out _).mono ?_; rintro e w2 ⟨rfl, rfl⟩))
    go_ret
    exact ⟨ret_i (by omega), rfl⟩
  · have h34' := u8_ne (k := 34) rfl h34
    rw [if_neg h34]
    by_cases h60 : c = 60
    · have HI := hide (fun w => ba_any l k hk (hc.trans h60) w hl)
      rw [if_pos h60]
      generalize aL (l.drop (k + 1)) = E at *
      subst h60
      go_enter Tryz.func59, Tryz.ntmps59
      go_wp2_with (first
        | (go_at_call 93; refine (HI.out _).mono ?_; rintro e w2 ⟨rfl, rfl⟩))
      go_ret
      exact ⟨ret_i (by omega), rfl⟩
    · have h60' := u8_ne (k := 60) rfl h60
      rw [if_neg h60]
      go_enter Tryz.func59, Tryz.ntmps59
      go_wp2
      go_ret
      exact ⟨ret_i (by omega), rfl⟩
theorem place_any (l : List UInt8) (m : UInt8) (w : World) (hl : l.length ≤ 1000000) :
    Calls Tryz.prog 28 #[.string ⟨l.toArray⟩, .int .u8 (m.toNat : Nat)] w fun e w' => e = .returned (.int .i64 ((plE m .o l : Nat) : Int)) ∧ w' = w := by
  have hsz := size_lit l
  obtain ⟨E, hE⟩ : ∃ E, plE m .o l = E := ⟨_, rfl⟩
  have HE : Hid (E = 0 + plE m .o (l.drop 0)) := by show _ = _; rw [← hE, List.drop_zero]; omega
  rw [hE]
  clear hE
  go_enter Tryz.func28, Tryz.ntmps28
  go_wp2
  go_loop [5] (fun v => ∃ j : Nat, j ≤ l.length ∧ v = .int .i64 j ∧ Hid (E = j + plE m .o (l.drop j))) (fun v => l.length - (intOf v).toNat)
  case atStart => exact ⟨0, by omega, rfl, HE⟩
  case round =>
    obtain ⟨j, hj, rfl, HJ⟩ := hrel
    clear HE
    by_cases hlt : j < l.length
    · obtain ⟨c, hc, hat⟩ := at_str l j hlt
      have hlt' : (j : Int) < l.length := by omega
      by_cases hm : c = m
      · have hjn : E = j := by
          have h1 := HJ.out
          rw [drop_at hlt, hc, hm] at h1
          simpa [plE] using h1
        subst hm
        clear HJ
        go_wp2
        go_ret
        exact ⟨ret_i (by omega), rfl⟩
      · have hm' : ¬ ((c.toNat : Int) = (m.toNat : Int)) := u8_ne rfl hm
        have HI := hide (fun w => be_any l j hlt w hl)
        have hp : 1 ≤ stp (l.drop j) := by rw [drop_at hlt]; exact stp_pos
        have hle : j + stp (l.drop j) ≤ l.length := by
          have := stp_le (l.drop j)
          rw [List.length_drop] at this
          omega
        have HN : Hid (E = (j + stp (l.drop j)) + plE m .o (l.drop (j + stp (l.drop j)))) := by
          show _ = _
          rw [HJ.out, Nat.add_assoc]
          congr 1
          rw [← List.drop_drop]
          conv => lhs; rw [drop_at hlt, hc, plE_step hm, ← hc, ← drop_at hlt]
        obtain ⟨q, hq⟩ : ∃ q, stp (l.drop j) = q := ⟨_, rfl⟩
        rw [hq] at HI HN hp hle
        clear HJ hq
        go_wp2_with (first
          | (go_at_call 59; refine (HI.out _).mono ?_; rintro e w2 ⟨rfl, rfl⟩))
        go_round
        case rel => exact ⟨j + q, by omega, by go_num, HN⟩
        case measure => simp [intOf]; omega
    · have hjn : E = j := by
        have h1 := HJ.out
        rw [List.drop_of_length_le (by omega)] at h1
        simpa [plE] using h1
      have hlt' : ¬ ((j : Int) < l.length) := by omega
      clear HJ
      go_wp2
      go_ret
      exact ⟨ret_i (by omega), rfl⟩
end Go.Proofs.YtkppeejbmalefaaGreatDoor

end
