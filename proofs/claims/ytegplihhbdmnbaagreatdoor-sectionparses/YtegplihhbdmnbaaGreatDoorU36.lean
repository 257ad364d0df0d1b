/- The document's Text of sections. -/
import Derived.Test.YtegplihhbdmnbaaGreatDoorU26
import Derived.Test.YtegplihhbdmnbaaGreatDoorU35
set_option linter.unusedVariables false
set_option linter.unusedSimpArgs false
namespace Go.Proofs.YtegplihhbdmnbaaGreatDoor
open Go.RowKit Go.Shelf
theorem pth_snoc : ∀ (q : List Int) (n : Int), pthT (q ++ [n]) = if q = [] then digI n else pthT q ++ 46 :: digI n
  | [], n => by simp [pthT]
  | [m], n => by simp [pthT]
  | m :: k :: r, n => by
    have := pth_snoc (k :: r) n
    simp only [List.cons_append, reduceCtorEq, if_false] at this ⊢
    rw [pthT, this, pthT]
    simp
theorem join_snoc (q : List (List UInt8)) (n : List UInt8) : Lib.join (q ++ [n]) [32] = if q = [] then n else Lib.join q [32] ++ 32 :: n := by
  induction q with
  | nil => simp [join_one]
  | cons a r ih =>
    rw [List.cons_append, join_cons2 _ (by simp), ih]
    by_cases h : r = []
    · subst h
      simp [join_one]
    · rw [if_neg h, if_neg (by simp), join_cons2 _ h]
      simp
/-- The names' text behind i of them. -/
def nmP (ns : List (List UInt8)) (i : Nat) : List UInt8 := if i = 0 then [] else 32 :: 40 :: Lib.join (ns.take i) [32]
theorem nmP_next {ns : List (List UInt8)} {i : Nat} (hi : i < ns.length) : nmP ns (i + 1) = nmP ns i ++ ((if i = 0 then [32, 40] else [32]) ++ ns[i]) := by
  unfold nmP
  rw [if_neg (by omega), List.take_succ_eq_append_getElem hi, join_snoc]
  by_cases h : i = 0
  · subst h
    simp
  · have : ns.take i ≠ [] := fun e => by
      rw [List.take_eq_nil_iff] at e
      rcases e with e | e
      · exact h e
      · rw [e] at hi; simp at hi
    rw [if_neg this, if_neg h, if_neg h]
    simp
theorem nmP_end {ns : List (List UInt8)} : nmsT ns = if ns = [] then [] else nmP ns ns.length ++ [41] := by
  unfold nmsT nmP
  by_cases h : ns = []
  · simp [h]
  · rw [if_neg h, if_neg h, if_neg (fun e => h (List.length_eq_zero_iff.1 e)), List.take_length]
    simp
theorem nmP_zero {ns : List (List UInt8)} : nmP ns 0 = [] := rfl
theorem min1_0 : min (0 : Int) 1 = 0 := by decide
theorem min1_s (k : Nat) : min ((k : Int) + 1) 1 = 1 := by omega
set_option maxRecDepth 20000 in
set_option maxHeartbeats 4000000 in
theorem rtext_A (path : List Int) (what : List UInt8) (names : List (List UInt8)) (pv nv : Value) (w : World) (hs : SpA w pv nv ⟨path, what, names⟩) (hr : rgtB ⟨path, what, names⟩ = true) (hx : ∀ x ∈ names, x.length ≤ 1000000) (hc : path = []) :
    Calls Tryz.prog 26 #[spV pv nv ⟨path, what, names⟩] w fun e w' => e = .returned (.string ⟨(secT ⟨path, what, names⟩).toArray⟩) ∧ Below w.heap.size w w' := by
  replace hc := hide hc
  obtain ⟨hpl, hnl, hnum, hq4, hq5⟩ := rgt_names hr
  clear hq4 hq5
  have hwl : what.length ≤ 100 := by
    have h := rgt_what hr
    simp only at h
    rcases h with e | e | e | e | e | e <;> rw [e] <;> decide
  simp only at hpl hnl hnum
  clear hr
  obtain ⟨A, c, rfl⟩ := hs.path.form
  obtain ⟨A2, c2, rfl⟩ := hs.names.form
  have HB0 : Hid (Below w.heap.size w (w.alloc (.cells #[.slice A path.length c, .string ⟨what.toArray⟩, .slice A2 names.length c2] 31))) := (Below.refl _ _).alloc (Nat.le_refl _) _
  have HK0 := hide (Blk.new w #[.slice A path.length c, .string ⟨what.toArray⟩, .slice A2 names.length c2] 31)
  have HP := hide (hs.path.below HB0.out)
  have HN := hide (hs.names.below HB0.out)
  have HX := hide hx
  have HNUM := hide hnum
  clear hs hx hnum
  unfold spV
  simp only at *
  have hwz := size_lit what
  go_enter Tryz.func26, Tryz.ntmps26
  go_wp2
  go_loopw [3, 11] (fun v3 v11 wr => ∃ (i : Nat) (t : List UInt8), i ≤ path.length ∧ v11 = .int .i64 i ∧ v3 = .string ⟨t.toArray⟩ ∧ t.length ≤ 30 * i ∧ Hid (t = pthT (path.take i)) ∧ Hid (Below (w.heap.size + 1) (w.alloc (.cells #[.slice A path.length c, .string ⟨what.toArray⟩, .slice A2 names.length c2] 31)) wr)) (fun _ v11 _ => path.length - (intOf v11).toNat)
  case atStart => exact ⟨0, [], Nat.zero_le _, rfl, rfl, Nat.zero_le _, rfl, Below.refl _ _⟩
  case round =>
    obtain ⟨i, t, hi, rfl, rfl, htl, HT, HB⟩ := hrel
    have htz := size_lit t
    have hBw : Hid (Below (w.alloc (.cells #[.slice A path.length c, .string ⟨what.toArray⟩, .slice A2 names.length c2] 31)).heap.size (w.alloc (.cells #[.slice A path.length c, .string ⟨what.toArray⟩, .slice A2 names.length c2] 31)) wr) := by
      have := HB.out
      rwa [← World.size_alloc w (.cells #[.slice A path.length c, .string ⟨what.toArray⟩, .slice A2 names.length c2] 31)] at this
    by_cases hlt : i < path.length
    · have hlt' : (i : Int) < path.length := by omega
      obtain ⟨g, o, cap, he, hg, q0⟩ := (HP.out.below hBw.out).at1 hlt
      obtain ⟨rfl, rfl⟩ : A = some ⟨g, o, none⟩ ∧ c = cap := by injection he with a b c; exact ⟨a, c⟩
      obtain ⟨x, hx⟩ : ∃ x, path[i] = x := ⟨_, rfl⟩
      have q1 : wr.cell? ⟨g, o + i, none⟩ = some (.int .i64 x) := by rw [q0, hx]; rfl
      have hxn := numB_iff.1 (List.all_eq_true.1 HNUM.out path[i] (List.getElem_mem hlt))
      rw [hx] at hxn
      have HD := hide (fun W => rdigits_any x.toNat W (by omega))
      have hxx : ((x.toNat : Nat) : Int) = x := by omega
      rw [hxx] at HD
      have hdl : (Lib.decDigits x.toNat).length ≤ 20 := by rw [Lib.decDigits_length]; exact Lib.nDigits_le20 _ (by omega)
      have hdI : digI x = Lib.decDigits x.toNat := rfl
      have HNX : Hid (pthT (path.take (i + 1)) = if i = 0 then digI x else t ++ 46 :: digI x) := by
        show _ = _
        rw [List.take_succ_eq_append_getElem hlt, pth_snoc, ← HT.out, hx]
        by_cases h0 : i = 0
        · rw [if_pos h0, if_pos (by rw [h0]; rfl)]
        · rw [if_neg h0, if_neg]
          intro e
          rw [List.take_eq_nil_iff] at e
          rcases e with e | e
          · exact h0 e
          · rw [e] at hlt; simp at hlt
      rw [hdI] at HNX
      have hdz := size_lit (Lib.decDigits x.toNat)
      generalize Lib.decDigits x.toNat = D at *
      clear hdI hxx hx q0 he
      cases i with
      | zero =>
        have hl0 : (0 : Int) < path.length := by omega
        rw [Nat.add_zero] at q1
        clear hlt'
        have ht0 : t = [] := HT.out
        subst ht0
        have hcat : (⟨#[]⟩ : ByteArray) ++ ⟨D.toArray⟩ = ⟨D.toArray⟩ := cat_lit [] D
        have h00 : ¬ ((0 : Int) > 0) := by omega
        go_wp2_with (first
          | (go_at_call 37; refine (HD.out _).mono ?_; rintro e w2 ⟨rfl, hb2⟩; replace hb2 := hide hb2))
        go_roundw
        case rel => exact ⟨1, D, by omega, rfl, rfl, by omega, by show _ = _; rw [HNX.out]; rfl, HB.out.trans (hb2.out.mono (by have := HB.out.size; simpa using this))⟩
        case measure => simp [intOf]; omega
      | succ k =>
        have hc1 : (⟨t.toArray⟩ : ByteArray) ++ ⟨#[46]⟩ = ⟨(t ++ [46]).toArray⟩ := cat_lit t [46]
        have hc2 : (⟨(t ++ [46]).toArray⟩ : ByteArray) ++ ⟨D.toArray⟩ = ⟨((t ++ [46]) ++ D).toArray⟩ := cat_lit _ _
        have hz1 := size_lit (t ++ [46])
        have hl1 : (t ++ [46]).length = t.length + 1 := by simp
        have hf1 : ((t ++ [46]) ++ D).length = t.length + 1 + D.length := by simp; omega
        have HF : Hid ((t ++ [46]) ++ D = pthT (path.take (k + 1 + 1))) := by
          show _ = _
          rw [HNX.out, if_neg (by omega)]
          simp
        generalize (t ++ [46]) ++ D = t3 at *
        generalize t ++ [46] = t2 at *
        have h00 : ((k : Int) + 1 > 0) := by omega
        go_wp2_with (first
          | (go_at_call 37; refine (HD.out _).mono ?_; rintro e w2 ⟨rfl, hb2⟩; replace hb2 := hide hb2))
        go_roundw
        case rel => exact ⟨k + 1 + 1, t3, by omega, by go_num, rfl, by omega, HF, HB.out.trans (hb2.out.mono (by have := HB.out.size; simpa using this))⟩
        case measure => simp [intOf]; omega
    · obtain rfl : i = path.length := by omega
      have hlt' : ¬ (path.length : Int) < path.length := by omega
      have hk1 := hide (HK0.out.below HB.out (Nat.lt_succ_self _))
      have hck := hk1.out.cell
      have HTT : Hid (t = pthT path) := by
        have := HT.out
        rwa [List.take_length] at this
      clear HT
      have ht0 : t = [] := by rw [HTT.out, hc.out]; rfl
      subst ht0
      have hcat : (⟨#[]⟩ : ByteArray) ++ ⟨what.toArray⟩ = ⟨what.toArray⟩ := cat_lit [] what
      obtain ⟨S, hS⟩ : ∃ S, what = S := ⟨_, rfl⟩
      have HS : Hid (S = preT path what ++ what) := by show _ = _; rw [← hS]; unfold preT; rw [if_pos (.inl hc.out), hc.out]; rfl
      have hSl : S.length ≤ 1000 := by rw [← hS]; omega
      rw [hS] at hcat
      have hcat' : (⟨#[]⟩ : ByteArray) ++ ⟨what.toArray⟩ = ⟨S.toArray⟩ := by rw [hS]; exact hcat
      clear hcat hS HTT
      go_wp2
      go_loopw [3, 41] (fun v3 v41 wr => ∃ (i : Nat) (u : List UInt8), i ≤ names.length ∧ v41 = .int .i64 i ∧ v3 = .string ⟨u.toArray⟩ ∧ u.length ≤ 1000 + 1000010 * i ∧ Hid (u = S ++ nmP names i) ∧ Hid (Below (w.heap.size + 1) (w.alloc (.cells #[.slice A path.length c, .string ⟨what.toArray⟩, .slice A2 names.length c2] 31)) wr)) (fun _ v41 _ => names.length - (intOf v41).toNat)
      case atStart => exact ⟨0, S, Nat.zero_le _, rfl, rfl, by omega, by show _ = _; rw [nmP_zero, List.append_nil], HB⟩
      case round =>
        clear HB hck hk1 hBw
        obtain ⟨i, u, hi, rfl, rfl, hul, HU, HB⟩ := hrel
        have huz := size_lit u
        have hBw : Hid (Below (w.alloc (.cells #[.slice A path.length c, .string ⟨what.toArray⟩, .slice A2 names.length c2] 31)).heap.size (w.alloc (.cells #[.slice A path.length c, .string ⟨what.toArray⟩, .slice A2 names.length c2] 31)) wr) := by
          have := HB.out
          rwa [← World.size_alloc w (.cells #[.slice A path.length c, .string ⟨what.toArray⟩, .slice A2 names.length c2] 31)] at this
        by_cases hlt : i < names.length
        · have hlt2' : (i : Int) < names.length := by omega
          obtain ⟨g, o, cap, he, hg, q0⟩ := (HN.out.below hBw.out).at1 hlt
          obtain ⟨rfl, rfl⟩ : A2 = some ⟨g, o, none⟩ ∧ c2 = cap := by injection he with a b c; exact ⟨a, c⟩
          obtain ⟨x, hx⟩ : ∃ x, names[i] = x := ⟨_, rfl⟩
          have q1 : wr.cell? ⟨g, o + i, none⟩ = some (.string ⟨x.toArray⟩) := by rw [q0, hx]; rfl
          have hxl : x.length ≤ 1000000 := by rw [← hx]; exact HX.out _ (List.getElem_mem hlt)
          have hxz := size_lit x
          have HNX : Hid (S ++ nmP names (i + 1) = u ++ ((if i = 0 then [32, 40] else [32]) ++ x)) := by
            show _ = _
            rw [nmP_next hlt, HU.out, hx]
            simp
          have hal := hide ((Below.refl wr.heap.size wr).alloc (Nat.le_refl _) (.cells #[.string ⟨#[32, 40]⟩, .string ⟨#[32]⟩] 9))
          clear hx q0 he
          cases i with
          | zero =>
            have hl0 : (0 : Int) < names.length := by omega
            rw [Nat.add_zero] at q1
            clear hlt2'
            have hc1 : (⟨#[32, 40]⟩ : ByteArray) ++ ⟨x.toArray⟩ = ⟨(32 :: 40 :: x).toArray⟩ := cat_lit [32, 40] x
            have hc2 : (⟨u.toArray⟩ : ByteArray) ++ ⟨(32 :: 40 :: x).toArray⟩ = ⟨(u ++ 32 :: 40 :: x).toArray⟩ := cat_lit _ _
            have hz1 := size_lit (32 :: 40 :: x)
            have hl1 : (32 :: 40 :: x).length = x.length + 2 := rfl
            have hl2 : (u ++ 32 :: 40 :: x).length = u.length + (x.length + 2) := by simp
            have HF : Hid (u ++ 32 :: 40 :: x = S ++ nmP names 1) := by show _ = _; exact HNX.out.symm
            generalize u ++ 32 :: 40 :: x = u3 at *
            generalize 32 :: 40 :: x = u2 at *
            have hm := min1_0
            go_wp2
            go_roundw
            case rel => exact ⟨1, u3, by omega, rfl, rfl, by omega, HF, HB.out.trans (hal.out.mono (by have := HB.out.size; simpa using this))⟩
            case measure => simp [intOf]; omega
          | succ k =>
            have hc1 : (⟨#[32]⟩ : ByteArray) ++ ⟨x.toArray⟩ = ⟨(32 :: x).toArray⟩ := cat_lit [32] x
            have hc2 : (⟨u.toArray⟩ : ByteArray) ++ ⟨(32 :: x).toArray⟩ = ⟨(u ++ 32 :: x).toArray⟩ := cat_lit _ _
            have hz1 := size_lit (32 :: x)
            have hl1 : (32 :: x).length = x.length + 1 := rfl
            have hl2 : (u ++ 32 :: x).length = u.length + (x.length + 1) := by simp
            have HF : Hid (u ++ 32 :: x = S ++ nmP names (k + 1 + 1)) := by show _ = _; rw [HNX.out, if_neg (by omega)]; rfl
            generalize u ++ 32 :: x = u3 at *
            generalize 32 :: x = u2 at *
            have hm := min1_s k
            go_wp2
            go_roundw
            case rel => exact ⟨k + 1 + 1, u3, by omega, by go_num, rfl, by omega, HF, HB.out.trans (hal.out.mono (by have := HB.out.size; simpa using this))⟩
            case measure => simp [intOf]; omega
        · obtain rfl : i = names.length := by omega
          have hlt2' : ¬ (names.length : Int) < names.length := by omega
          have hk1 := hide (HK0.out.below HB.out (Nat.lt_succ_self _))
          have hck := hk1.out.cell
          have hbe := hide (HB0.out.trans (HB.out.mono (Nat.le_succ _)))
          by_cases hn0 : names.length = 0
          · have hne : names = [] := List.length_eq_zero_iff.1 hn0
            have HV : Hid (u = secT ⟨path, what, names⟩) := by
              show _ = _
              rw [HU.out, hn0, nmP_zero, List.append_nil, HS.out]
              unfold secT secW
              simp only
              rw [hne]
              simp [nmsT]
            have hn1 : ¬ ((names.length : Int) > 0) := by omega
            clear hn0 hne
            go_wp2
            go_ret
            exact ⟨by rw [← HV.out]; rfl, hbe.out⟩
          · have hne : names ≠ [] := fun e => hn0 (by rw [e]; rfl)
            have hc1 : (⟨u.toArray⟩ : ByteArray) ++ ⟨#[41]⟩ = ⟨(u ++ [41]).toArray⟩ := cat_lit u [41]
            have HV : Hid (u ++ [41] = secT ⟨path, what, names⟩) := by
              show _ = _
              rw [HU.out, HS.out]
              unfold secT secW
              simp only
              rw [nmP_end, if_neg hne]
              simp
            have hn1 : ((names.length : Int) > 0) := by omega
            generalize u ++ [41] = u2 at *
            clear hn0 hne
            go_wp2
            go_ret
            exact ⟨by rw [← HV.out]; rfl, hbe.out⟩
set_option maxRecDepth 20000 in
set_option maxHeartbeats 4000000 in
theorem rtext_C (path : List Int) (what : List UInt8) (names : List (List UInt8)) (pv nv : Value) (w : World) (hs : SpA w pv nv ⟨path, what, names⟩) (hr : rgtB ⟨path, what, names⟩ = true) (hx : ∀ x ∈ names, x.length ≤ 1000000) (hc : path ≠ []) (hw0 : what ≠ []) :
    Calls Tryz.prog 26 #[spV pv nv ⟨path, what, names⟩] w fun e w' => e = .returned (.string ⟨(secT ⟨path, what, names⟩).toArray⟩) ∧ Below w.heap.size w w' := by
  replace hc := hide hc
  replace hw0 := hide hw0
  obtain ⟨hpl, hnl, hnum, hq4, hq5⟩ := rgt_names hr
  clear hq4 hq5
  have hwl : what.length ≤ 100 := by
    have h := rgt_what hr
    simp only at h
    rcases h with e | e | e | e | e | e <;> rw [e] <;> decide
  simp only at hpl hnl hnum
  clear hr
  obtain ⟨A, c, rfl⟩ := hs.path.form
  obtain ⟨A2, c2, rfl⟩ := hs.names.form
  have HB0 : Hid (Below w.heap.size w (w.alloc (.cells #[.slice A path.length c, .string ⟨what.toArray⟩, .slice A2 names.length c2] 31))) := (Below.refl _ _).alloc (Nat.le_refl _) _
  have HK0 := hide (Blk.new w #[.slice A path.length c, .string ⟨what.toArray⟩, .slice A2 names.length c2] 31)
  have HP := hide (hs.path.below HB0.out)
  have HN := hide (hs.names.below HB0.out)
  have HX := hide hx
  have HNUM := hide hnum
  clear hs hx hnum
  unfold spV
  simp only at *
  have hwz := size_lit what
  go_enter Tryz.func26, Tryz.ntmps26
  go_wp2
  go_loopw [3, 11] (fun v3 v11 wr => ∃ (i : Nat) (t : List UInt8), i ≤ path.length ∧ v11 = .int .i64 i ∧ v3 = .string ⟨t.toArray⟩ ∧ t.length ≤ 30 * i ∧ Hid (t = pthT (path.take i)) ∧ Hid (Below (w.heap.size + 1) (w.alloc (.cells #[.slice A path.length c, .string ⟨what.toArray⟩, .slice A2 names.length c2] 31)) wr)) (fun _ v11 _ => path.length - (intOf v11).toNat)
  case atStart => exact ⟨0, [], Nat.zero_le _, rfl, rfl, Nat.zero_le _, rfl, Below.refl _ _⟩
  case round =>
    obtain ⟨i, t, hi, rfl, rfl, htl, HT, HB⟩ := hrel
    have htz := size_lit t
    have hBw : Hid (Below (w.alloc (.cells #[.slice A path.length c, .string ⟨what.toArray⟩, .slice A2 names.length c2] 31)).heap.size (w.alloc (.cells #[.slice A path.length c, .string ⟨what.toArray⟩, .slice A2 names.length c2] 31)) wr) := by
      have := HB.out
      rwa [← World.size_alloc w (.cells #[.slice A path.length c, .string ⟨what.toArray⟩, .slice A2 names.length c2] 31)] at this
    by_cases hlt : i < path.length
    · have hlt' : (i : Int) < path.length := by omega
      obtain ⟨g, o, cap, he, hg, q0⟩ := (HP.out.below hBw.out).at1 hlt
      obtain ⟨rfl, rfl⟩ : A = some ⟨g, o, none⟩ ∧ c = cap := by injection he with a b c; exact ⟨a, c⟩
      obtain ⟨x, hx⟩ : ∃ x, path[i] = x := ⟨_, rfl⟩
      have q1 : wr.cell? ⟨g, o + i, none⟩ = some (.int .i64 x) := by rw [q0, hx]; rfl
      have hxn := numB_iff.1 (List.all_eq_true.1 HNUM.out path[i] (List.getElem_mem hlt))
      rw [hx] at hxn
      have HD := hide (fun W => rdigits_any x.toNat W (by omega))
      have hxx : ((x.toNat : Nat) : Int) = x := by omega
      rw [hxx] at HD
      have hdl : (Lib.decDigits x.toNat).length ≤ 20 := by rw [Lib.decDigits_length]; exact Lib.nDigits_le20 _ (by omega)
      have hdI : digI x = Lib.decDigits x.toNat := rfl
      have HNX : Hid (pthT (path.take (i + 1)) = if i = 0 then digI x else t ++ 46 :: digI x) := by
        show _ = _
        rw [List.take_succ_eq_append_getElem hlt, pth_snoc, ← HT.out, hx]
        by_cases h0 : i = 0
        · rw [if_pos h0, if_pos (by rw [h0]; rfl)]
        · rw [if_neg h0, if_neg]
          intro e
          rw [List.take_eq_nil_iff] at e
          rcases e with e | e
          · exact h0 e
          · rw [e] at hlt; simp at hlt
      rw [hdI] at HNX
      have hdz := size_lit (Lib.decDigits x.toNat)
      generalize Lib.decDigits x.toNat = D at *
      clear hdI hxx hx q0 he
      cases i with
      | zero =>
        have hl0 : (0 : Int) < path.length := by omega
        rw [Nat.add_zero] at q1
        clear hlt'
        have ht0 : t = [] := HT.out
        subst ht0
        have hcat : (⟨#[]⟩ : ByteArray) ++ ⟨D.toArray⟩ = ⟨D.toArray⟩ := cat_lit [] D
        have h00 : ¬ ((0 : Int) > 0) := by omega
        go_wp2_with (first
          | (go_at_call 37; refine (HD.out _).mono ?_; rintro e w2 ⟨rfl, hb2⟩; replace hb2 := hide hb2))
        go_roundw
        case rel => exact ⟨1, D, by omega, rfl, rfl, by omega, by show _ = _; rw [HNX.out]; rfl, HB.out.trans (hb2.out.mono (by have := HB.out.size; simpa using this))⟩
        case measure => simp [intOf]; omega
      | succ k =>
        have hc1 : (⟨t.toArray⟩ : ByteArray) ++ ⟨#[46]⟩ = ⟨(t ++ [46]).toArray⟩ := cat_lit t [46]
        have hc2 : (⟨(t ++ [46]).toArray⟩ : ByteArray) ++ ⟨D.toArray⟩ = ⟨((t ++ [46]) ++ D).toArray⟩ := cat_lit _ _
        have hz1 := size_lit (t ++ [46])
        have hl1 : (t ++ [46]).length = t.length + 1 := by simp
        have hf1 : ((t ++ [46]) ++ D).length = t.length + 1 + D.length := by simp; omega
        have HF : Hid ((t ++ [46]) ++ D = pthT (path.take (k + 1 + 1))) := by
          show _ = _
          rw [HNX.out, if_neg (by omega)]
          simp
        generalize (t ++ [46]) ++ D = t3 at *
        generalize t ++ [46] = t2 at *
        have h00 : ((k : Int) + 1 > 0) := by omega
        go_wp2_with (first
          | (go_at_call 37; refine (HD.out _).mono ?_; rintro e w2 ⟨rfl, hb2⟩; replace hb2 := hide hb2))
        go_roundw
        case rel => exact ⟨k + 1 + 1, t3, by omega, by go_num, rfl, by omega, HF, HB.out.trans (hb2.out.mono (by have := HB.out.size; simpa using this))⟩
        case measure => simp [intOf]; omega
    · obtain rfl : i = path.length := by omega
      have hlt' : ¬ (path.length : Int) < path.length := by omega
      have hk1 := hide (HK0.out.below HB.out (Nat.lt_succ_self _))
      have hck := hk1.out.cell
      have HTT : Hid (t = pthT path) := by
        have := HT.out
        rwa [List.take_length] at this
      clear HT
      have ht0 : t.isEmpty = false := by
        cases t with
        | nil => exact absurd HTT.out.symm (by
            cases path with
            | nil => exact absurd rfl hc.out
            | cons n r =>
              have := pj_ne n r []
              unfold pjT at this
              simpa using this)
        | cons _ _ => rfl
      have hw1 : what.isEmpty = false := by cases what with | nil => exact absurd rfl hw0.out | cons _ _ => rfl
      have hc1 : (⟨t.toArray⟩ : ByteArray) ++ ⟨#[46]⟩ = ⟨(t ++ [46]).toArray⟩ := cat_lit t [46]
      have hc2 : (⟨(t ++ [46]).toArray⟩ : ByteArray) ++ ⟨what.toArray⟩ = ⟨((t ++ [46]) ++ what).toArray⟩ := cat_lit _ _
      have hz1 := size_lit (t ++ [46])
      have hl1 : (t ++ [46]).length = t.length + 1 := by simp
      have hl2 : ((t ++ [46]) ++ what).length = t.length + 1 + what.length := by simp; omega
      have HS0 : Hid ((t ++ [46]) ++ what = preT path what ++ what) := by show _ = _; unfold preT; rw [if_neg (by simp [hc.out, hw0.out]), HTT.out]
      obtain ⟨S, hS⟩ : ∃ S, (t ++ [46]) ++ what = S := ⟨_, rfl⟩
      rw [hS] at hc2 hl2 HS0
      have HS := HS0
      have hSl : S.length ≤ 1000 := by omega
      clear hS HTT HS0 hc hw0
      generalize t ++ [46] = t2 at *
      go_wp2
      go_loopw [3, 41] (fun v3 v41 wr => ∃ (i : Nat) (u : List UInt8), i ≤ names.length ∧ v41 = .int .i64 i ∧ v3 = .string ⟨u.toArray⟩ ∧ u.length ≤ 1000 + 1000010 * i ∧ Hid (u = S ++ nmP names i) ∧ Hid (Below (w.heap.size + 1) (w.alloc (.cells #[.slice A path.length c, .string ⟨what.toArray⟩, .slice A2 names.length c2] 31)) wr)) (fun _ v41 _ => names.length - (intOf v41).toNat)
      case atStart => exact ⟨0, S, Nat.zero_le _, rfl, rfl, by omega, by show _ = _; rw [nmP_zero, List.append_nil], HB⟩
      case round =>
        clear HB hck hk1 hBw
        obtain ⟨i, u, hi, rfl, rfl, hul, HU, HB⟩ := hrel
        have huz := size_lit u
        have hBw : Hid (Below (w.alloc (.cells #[.slice A path.length c, .string ⟨what.toArray⟩, .slice A2 names.length c2] 31)).heap.size (w.alloc (.cells #[.slice A path.length c, .string ⟨what.toArray⟩, .slice A2 names.length c2] 31)) wr) := by
          have := HB.out
          rwa [← World.size_alloc w (.cells #[.slice A path.length c, .string ⟨what.toArray⟩, .slice A2 names.length c2] 31)] at this
        by_cases hlt : i < names.length
        · have hlt2' : (i : Int) < names.length := by omega
          obtain ⟨g, o, cap, he, hg, q0⟩ := (HN.out.below hBw.out).at1 hlt
          obtain ⟨rfl, rfl⟩ : A2 = some ⟨g, o, none⟩ ∧ c2 = cap := by injection he with a b c; exact ⟨a, c⟩
          obtain ⟨x, hx⟩ : ∃ x, names[i] = x := ⟨_, rfl⟩
          have q1 : wr.cell? ⟨g, o + i, none⟩ = some (.string ⟨x.toArray⟩) := by rw [q0, hx]; rfl
          have hxl : x.length ≤ 1000000 := by rw [← hx]; exact HX.out _ (List.getElem_mem hlt)
          have hxz := size_lit x
          have HNX : Hid (S ++ nmP names (i + 1) = u ++ ((if i = 0 then [32, 40] else [32]) ++ x)) := by
            show _ = _
            rw [nmP_next hlt, HU.out, hx]
            simp
          have hal := hide ((Below.refl wr.heap.size wr).alloc (Nat.le_refl _) (.cells #[.string ⟨#[32, 40]⟩, .string ⟨#[32]⟩] 9))
          clear hx q0 he
          cases i with
          | zero =>
            have hl0 : (0 : Int) < names.length := by omega
            rw [Nat.add_zero] at q1
            clear hlt2'
            have hc1 : (⟨#[32, 40]⟩ : ByteArray) ++ ⟨x.toArray⟩ = ⟨(32 :: 40 :: x).toArray⟩ := cat_lit [32, 40] x
            have hc2 : (⟨u.toArray⟩ : ByteArray) ++ ⟨(32 :: 40 :: x).toArray⟩ = ⟨(u ++ 32 :: 40 :: x).toArray⟩ := cat_lit _ _
            have hz1 := size_lit (32 :: 40 :: x)
            have hl1 : (32 :: 40 :: x).length = x.length + 2 := rfl
            have hl2 : (u ++ 32 :: 40 :: x).length = u.length + (x.length + 2) := by simp
            have HF : Hid (u ++ 32 :: 40 :: x = S ++ nmP names 1) := by show _ = _; exact HNX.out.symm
            generalize u ++ 32 :: 40 :: x = u3 at *
            generalize 32 :: 40 :: x = u2 at *
            have hm := min1_0
            go_wp2
            go_roundw
            case rel => exact ⟨1, u3, by omega, rfl, rfl, by omega, HF, HB.out.trans (hal.out.mono (by have := HB.out.size; simpa using this))⟩
            case measure => simp [intOf]; omega
          | succ k =>
            have hc1 : (⟨#[32]⟩ : ByteArray) ++ ⟨x.toArray⟩ = ⟨(32 :: x).toArray⟩ := cat_lit [32] x
            have hc2 : (⟨u.toArray⟩ : ByteArray) ++ ⟨(32 :: x).toArray⟩ = ⟨(u ++ 32 :: x).toArray⟩ := cat_lit _ _
            have hz1 := size_lit (32 :: x)
            have hl1 : (32 :: x).length = x.length + 1 := rfl
            have hl2 : (u ++ 32 :: x).length = u.length + (x.length + 1) := by simp
            have HF : Hid (u ++ 32 :: x = S ++ nmP names (k + 1 + 1)) := by show _ = _; rw [HNX.out, if_neg (by omega)]; rfl
            generalize u ++ 32 :: x = u3 at *
            generalize 32 :: x = u2 at *
            have hm := min1_s k
            go_wp2
            go_roundw
            case rel => exact ⟨k + 1 + 1, u3, by omega, by go_num, rfl, by omega, HF, HB.out.trans (hal.out.mono (by have := HB.out.size; simpa using this))⟩
            case measure => simp [intOf]; omega
        · obtain rfl : i = names.length := by omega
          have hlt2' : ¬ (names.length : Int) < names.length := by omega
          have hk1 := hide (HK0.out.below HB.out (Nat.lt_succ_self _))
          have hck := hk1.out.cell
          have hbe := hide (HB0.out.trans (HB.out.mono (Nat.le_succ _)))
          by_cases hn0 : names.length = 0
          · have hne : names = [] := List.length_eq_zero_iff.1 hn0
            have HV : Hid (u = secT ⟨path, what, names⟩) := by
              show _ = _
              rw [HU.out, hn0, nmP_zero, List.append_nil, HS.out]
              unfold secT secW
              simp only
              rw [hne]
              simp [nmsT]
            have hn1 : ¬ ((names.length : Int) > 0) := by omega
            clear hn0 hne
            go_wp2
            go_ret
            exact ⟨by rw [← HV.out]; rfl, hbe.out⟩
          · have hne : names ≠ [] := fun e => hn0 (by rw [e]; rfl)
            have hc1 : (⟨u.toArray⟩ : ByteArray) ++ ⟨#[41]⟩ = ⟨(u ++ [41]).toArray⟩ := cat_lit u [41]
            have HV : Hid (u ++ [41] = secT ⟨path, what, names⟩) := by
              show _ = _
              rw [HU.out, HS.out]
              unfold secT secW
              simp only
              rw [nmP_end, if_neg hne]
              simp
            have hn1 : ((names.length : Int) > 0) := by omega
            generalize u ++ [41] = u2 at *
            clear hn0 hne
            go_wp2
            go_ret
            exact ⟨by rw [← HV.out]; rfl, hbe.out⟩
set_option maxRecDepth 20000 in
set_option maxHeartbeats 4000000 in
theorem rtext_B (path : List Int) (names : List (List UInt8)) (pv nv : Value) (w : World) (hs : SpA w pv nv ⟨path, [], names⟩) (hr : rgtB ⟨path, [], names⟩ = true) (hx : ∀ x ∈ names, x.length ≤ 1000000) (hc : path ≠ []) :
    Calls Tryz.prog 26 #[spV pv nv ⟨path, [], names⟩] w fun e w' => e = .returned (.string ⟨(secT ⟨path, [], names⟩).toArray⟩) ∧ Below w.heap.size w w' := by
  replace hc := hide hc
  obtain ⟨hpl, hnl, hnum, hq4, hq5⟩ := rgt_names hr
  clear hq4 hq5
  simp only at hpl hnl hnum
  clear hr
  obtain ⟨A, c, rfl⟩ := hs.path.form
  obtain ⟨A2, c2, rfl⟩ := hs.names.form
  have HB0 : Hid (Below w.heap.size w (w.alloc (.cells #[.slice A path.length c, .string ⟨#[]⟩, .slice A2 names.length c2] 31))) := (Below.refl _ _).alloc (Nat.le_refl _) _
  have HK0 := hide (Blk.new w #[.slice A path.length c, .string ⟨#[]⟩, .slice A2 names.length c2] 31)
  have HP := hide (hs.path.below HB0.out)
  have HN := hide (hs.names.below HB0.out)
  have HX := hide hx
  have HNUM := hide hnum
  clear hs hx hnum
  unfold spV
  simp only at *
  go_enter Tryz.func26, Tryz.ntmps26
  go_wp2
  go_loopw [3, 11] (fun v3 v11 wr => ∃ (i : Nat) (t : List UInt8), i ≤ path.length ∧ v11 = .int .i64 i ∧ v3 = .string ⟨t.toArray⟩ ∧ t.length ≤ 30 * i ∧ Hid (t = pthT (path.take i)) ∧ Hid (Below (w.heap.size + 1) (w.alloc (.cells #[.slice A path.length c, .string ⟨#[]⟩, .slice A2 names.length c2] 31)) wr)) (fun _ v11 _ => path.length - (intOf v11).toNat)
  case atStart => exact ⟨0, [], Nat.zero_le _, rfl, rfl, Nat.zero_le _, rfl, Below.refl _ _⟩
  case round =>
    obtain ⟨i, t, hi, rfl, rfl, htl, HT, HB⟩ := hrel
    have htz := size_lit t
    have hBw : Hid (Below (w.alloc (.cells #[.slice A path.length c, .string ⟨#[]⟩, .slice A2 names.length c2] 31)).heap.size (w.alloc (.cells #[.slice A path.length c, .string ⟨#[]⟩, .slice A2 names.length c2] 31)) wr) := by
      have := HB.out
      rwa [← World.size_alloc w (.cells #[.slice A path.length c, .string ⟨#[]⟩, .slice A2 names.length c2] 31)] at this
    by_cases hlt : i < path.length
    · have hlt' : (i : Int) < path.length := by omega
      obtain ⟨g, o, cap, he, hg, q0⟩ := (HP.out.below hBw.out).at1 hlt
      obtain ⟨rfl, rfl⟩ : A = some ⟨g, o, none⟩ ∧ c = cap := by injection he with a b c; exact ⟨a, c⟩
      obtain ⟨x, hx⟩ : ∃ x, path[i] = x := ⟨_, rfl⟩
      have q1 : wr.cell? ⟨g, o + i, none⟩ = some (.int .i64 x) := by rw [q0, hx]; rfl
      have hxn := numB_iff.1 (List.all_eq_true.1 HNUM.out path[i] (List.getElem_mem hlt))
      rw [hx] at hxn
      have HD := hide (fun W => rdigits_any x.toNat W (by omega))
      have hxx : ((x.toNat : Nat) : Int) = x := by omega
      rw [hxx] at HD
      have hdl : (Lib.decDigits x.toNat).length ≤ 20 := by rw [Lib.decDigits_length]; exact Lib.nDigits_le20 _ (by omega)
      have hdI : digI x = Lib.decDigits x.toNat := rfl
      have HNX : Hid (pthT (path.take (i + 1)) = if i = 0 then digI x else t ++ 46 :: digI x) := by
        show _ = _
        rw [List.take_succ_eq_append_getElem hlt, pth_snoc, ← HT.out, hx]
        by_cases h0 : i = 0
        · rw [if_pos h0, if_pos (by rw [h0]; rfl)]
        · rw [if_neg h0, if_neg]
          intro e
          rw [List.take_eq_nil_iff] at e
          rcases e with e | e
          · exact h0 e
          · rw [e] at hlt; simp at hlt
      rw [hdI] at HNX
      have hdz := size_lit (Lib.decDigits x.toNat)
      generalize Lib.decDigits x.toNat = D at *
      clear hdI hxx hx q0 he
      cases i with
      | zero =>
        have hl0 : (0 : Int) < path.length := by omega
        rw [Nat.add_zero] at q1
        clear hlt'
        have ht0 : t = [] := HT.out
        subst ht0
        have hcat : (⟨#[]⟩ : ByteArray) ++ ⟨D.toArray⟩ = ⟨D.toArray⟩ := cat_lit [] D
        have h00 : ¬ ((0 : Int) > 0) := by omega
        go_wp2_with (first
          | (go_at_call 37; refine (HD.out _).mono ?_; rintro e w2 ⟨rfl, hb2⟩; replace hb2 := hide hb2))
        go_roundw
        case rel => exact ⟨1, D, by omega, rfl, rfl, by omega, by show _ = _; rw [HNX.out]; rfl, HB.out.trans (hb2.out.mono (by have := HB.out.size; simpa using this))⟩
        case measure => simp [intOf]; omega
      | succ k =>
        have hc1 : (⟨t.toArray⟩ : ByteArray) ++ ⟨#[46]⟩ = ⟨(t ++ [46]).toArray⟩ := cat_lit t [46]
        have hc2 : (⟨(t ++ [46]).toArray⟩ : ByteArray) ++ ⟨D.toArray⟩ = ⟨((t ++ [46]) ++ D).toArray⟩ := cat_lit _ _
        have hz1 := size_lit (t ++ [46])
        have hl1 : (t ++ [46]).length = t.length + 1 := by simp
        have hf1 : ((t ++ [46]) ++ D).length = t.length + 1 + D.length := by simp; omega
        have HF : Hid ((t ++ [46]) ++ D = pthT (path.take (k + 1 + 1))) := by
          show _ = _
          rw [HNX.out, if_neg (by omega)]
          simp
        generalize (t ++ [46]) ++ D = t3 at *
        generalize t ++ [46] = t2 at *
        have h00 : ((k : Int) + 1 > 0) := by omega
        go_wp2_with (first
          | (go_at_call 37; refine (HD.out _).mono ?_; rintro e w2 ⟨rfl, hb2⟩; replace hb2 := hide hb2))
        go_roundw
        case rel => exact ⟨k + 1 + 1, t3, by omega, by go_num, rfl, by omega, HF, HB.out.trans (hb2.out.mono (by have := HB.out.size; simpa using this))⟩
        case measure => simp [intOf]; omega
    · obtain rfl : i = path.length := by omega
      have hlt' : ¬ (path.length : Int) < path.length := by omega
      have hk1 := hide (HK0.out.below HB.out (Nat.lt_succ_self _))
      have hck := hk1.out.cell
      have HTT : Hid (t = pthT path) := by
        have := HT.out
        rwa [List.take_length] at this
      clear HT
      have ht0 : t.isEmpty = false := by
        cases t with
        | nil => exact absurd HTT.out.symm (by
            cases path with
            | nil => exact absurd rfl hc.out
            | cons n r =>
              have := pj_ne n r []
              unfold pjT at this
              simpa using this)
        | cons _ _ => rfl
      have hcat' : (⟨t.toArray⟩ : ByteArray) ++ ⟨#[]⟩ = ⟨t.toArray⟩ := by have := cat_lit t []; rwa [List.append_nil] at this
      have HS : Hid (t = preT path [] ++ []) := by show _ = _; rw [HTT.out]; unfold preT; rw [if_pos (.inr rfl), List.append_nil]
      have hSl : t.length ≤ 1000 := by omega
      clear HTT
      go_wp2
      go_loopw [3, 41] (fun v3 v41 wr => ∃ (i : Nat) (u : List UInt8), i ≤ names.length ∧ v41 = .int .i64 i ∧ v3 = .string ⟨u.toArray⟩ ∧ u.length ≤ 1000 + 1000010 * i ∧ Hid (u = t ++ nmP names i) ∧ Hid (Below (w.heap.size + 1) (w.alloc (.cells #[.slice A path.length c, .string ⟨#[]⟩, .slice A2 names.length c2] 31)) wr)) (fun _ v41 _ => names.length - (intOf v41).toNat)
      case atStart => exact ⟨0, t, Nat.zero_le _, rfl, rfl, by omega, by show _ = _; rw [nmP_zero, List.append_nil], HB⟩
      case round =>
        clear HB hck hk1 hBw
        obtain ⟨i, u, hi, rfl, rfl, hul, HU, HB⟩ := hrel
        have huz := size_lit u
        have hBw : Hid (Below (w.alloc (.cells #[.slice A path.length c, .string ⟨#[]⟩, .slice A2 names.length c2] 31)).heap.size (w.alloc (.cells #[.slice A path.length c, .string ⟨#[]⟩, .slice A2 names.length c2] 31)) wr) := by
          have := HB.out
          rwa [← World.size_alloc w (.cells #[.slice A path.length c, .string ⟨#[]⟩, .slice A2 names.length c2] 31)] at this
        by_cases hlt : i < names.length
        · have hlt2' : (i : Int) < names.length := by omega
          obtain ⟨g, o, cap, he, hg, q0⟩ := (HN.out.below hBw.out).at1 hlt
          obtain ⟨rfl, rfl⟩ : A2 = some ⟨g, o, none⟩ ∧ c2 = cap := by injection he with a b c; exact ⟨a, c⟩
          obtain ⟨x, hx⟩ : ∃ x, names[i] = x := ⟨_, rfl⟩
          have q1 : wr.cell? ⟨g, o + i, none⟩ = some (.string ⟨x.toArray⟩) := by rw [q0, hx]; rfl
          have hxl : x.length ≤ 1000000 := by rw [← hx]; exact HX.out _ (List.getElem_mem hlt)
          have hxz := size_lit x
          have HNX : Hid (t ++ nmP names (i + 1) = u ++ ((if i = 0 then [32, 40] else [32]) ++ x)) := by
            show _ = _
            rw [nmP_next hlt, HU.out, hx]
            simp
          have hal := hide ((Below.refl wr.heap.size wr).alloc (Nat.le_refl _) (.cells #[.string ⟨#[32, 40]⟩, .string ⟨#[32]⟩] 9))
          clear hx q0 he
          cases i with
          | zero =>
            have hl0 : (0 : Int) < names.length := by omega
            rw [Nat.add_zero] at q1
            clear hlt2'
            have hc1 : (⟨#[32, 40]⟩ : ByteArray) ++ ⟨x.toArray⟩ = ⟨(32 :: 40 :: x).toArray⟩ := cat_lit [32, 40] x
            have hc2 : (⟨u.toArray⟩ : ByteArray) ++ ⟨(32 :: 40 :: x).toArray⟩ = ⟨(u ++ 32 :: 40 :: x).toArray⟩ := cat_lit _ _
            have hz1 := size_lit (32 :: 40 :: x)
            have hl1 : (32 :: 40 :: x).length = x.length + 2 := rfl
            have hl2 : (u ++ 32 :: 40 :: x).length = u.length + (x.length + 2) := by simp
            have HF : Hid (u ++ 32 :: 40 :: x = t ++ nmP names 1) := by show _ = _; exact HNX.out.symm
            generalize u ++ 32 :: 40 :: x = u3 at *
            generalize 32 :: 40 :: x = u2 at *
            have hm := min1_0
            go_wp2
            go_roundw
            case rel => exact ⟨1, u3, by omega, rfl, rfl, by omega, HF, HB.out.trans (hal.out.mono (by have := HB.out.size; simpa using this))⟩
            case measure => simp [intOf]; omega
          | succ k =>
            have hc1 : (⟨#[32]⟩ : ByteArray) ++ ⟨x.toArray⟩ = ⟨(32 :: x).toArray⟩ := cat_lit [32] x
            have hc2 : (⟨u.toArray⟩ : ByteArray) ++ ⟨(32 :: x).toArray⟩ = ⟨(u ++ 32 :: x).toArray⟩ := cat_lit _ _
            have hz1 := size_lit (32 :: x)
            have hl1 : (32 :: x).length = x.length + 1 := rfl
            have hl2 : (u ++ 32 :: x).length = u.length + (x.length + 1) := by simp
            have HF : Hid (u ++ 32 :: x = t ++ nmP names (k + 1 + 1)) := by show _ = _; rw [HNX.out, if_neg (by omega)]; rfl
            generalize u ++ 32 :: x = u3 at *
            generalize 32 :: x = u2 at *
            have hm := min1_s k
            go_wp2
            go_roundw
            case rel => exact ⟨k + 1 + 1, u3, by omega, by go_num, rfl, by omega, HF, HB.out.trans (hal.out.mono (by have := HB.out.size; simpa using this))⟩
            case measure => simp [intOf]; omega
        · obtain rfl : i = names.length := by omega
          have hlt2' : ¬ (names.length : Int) < names.length := by omega
          have hk1 := hide (HK0.out.below HB.out (Nat.lt_succ_self _))
          have hck := hk1.out.cell
          have hbe := hide (HB0.out.trans (HB.out.mono (Nat.le_succ _)))
          by_cases hn0 : names.length = 0
          · have hne : names = [] := List.length_eq_zero_iff.1 hn0
            have HV : Hid (u = secT ⟨path, [], names⟩) := by
              show _ = _
              rw [HU.out, hn0, nmP_zero, List.append_nil, HS.out]
              unfold secT secW
              simp only
              rw [hne]
              simp [nmsT]
            have hn1 : ¬ ((names.length : Int) > 0) := by omega
            clear hn0 hne
            go_wp2
            go_ret
            exact ⟨by rw [← HV.out]; rfl, hbe.out⟩
          · have hne : names ≠ [] := fun e => hn0 (by rw [e]; rfl)
            have hc1 : (⟨u.toArray⟩ : ByteArray) ++ ⟨#[41]⟩ = ⟨(u ++ [41]).toArray⟩ := cat_lit u [41]
            have HV : Hid (u ++ [41] = secT ⟨path, [], names⟩) := by
              show _ = _
              rw [HU.out, HS.out]
              unfold secT secW
              simp only
              rw [nmP_end, if_neg hne]
              simp
            have hn1 : ((names.length : Int) > 0) := by omega
            generalize u ++ [41] = u2 at *
            clear hn0 hne
            go_wp2
            go_ret
            exact ⟨by rw [← HV.out]; rfl, hbe.out⟩
theorem rtext12_any (p : Spc) (pv nv : Value) (w : World) (hs : SpA w pv nv p) (hr : rgtB p = true) (hx : ∀ x ∈ p.names, x.length ≤ 1000000) :
    Calls Tryz.prog 26 #[spV pv nv p] w fun e w' => e = .returned (.string ⟨(secT p).toArray⟩) ∧ Below w.heap.size w w' := by
  obtain ⟨path, what, names⟩ := p
  by_cases h1 : path = []
  · exact rtext_A path what names pv nv w hs hr hx h1
  · by_cases h2 : what = []
    · subst h2
      exact rtext_B path names pv nv w hs hr hx h1
    · exact rtext_C path what names pv nv w hs hr hx h1 h2
end Go.Proofs.YtegplihhbdmnbaaGreatDoor
