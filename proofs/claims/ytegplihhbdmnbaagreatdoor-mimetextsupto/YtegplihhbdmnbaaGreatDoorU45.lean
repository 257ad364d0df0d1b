/- The document's Nil and Text. -/
import Derived.Test.YtegplihhbdmnbaaGreatDoorU44
import Derived.Test.YtegplihhbdmnbaaGreatDoorU30
import Derived.Deep.Cut
set_option linter.unusedSimpArgs false
set_option linter.unusedVariables false
namespace Go.Proofs.YtegplihhbdmnbaaGreatDoor
open Go.RowKit Go.Shelf
set_option maxHeartbeats 1000000 in
theorem rnil_any (l : List UInt8) (w : World) (hl : l.length ≤ 1000000) :
    Calls Tryz.prog 36 #[.string ⟨l.toArray⟩] w fun e w' => e = .returned (.string ⟨(nilI l).toArray⟩) ∧ Below w.heap.size w w' := by
  have HQ := hide (rquote_any l w hl)
  have HN : Hid (nilI l = if l = [] then tNil else quoI l) := rfl
  generalize nilI l = N at *
  generalize quoI l = q at *
  by_cases h : l = []
  · subst h
    rw [if_pos rfl] at HN
    go_enter Tryz.func36, Tryz.ntmps36
    go_wp2
    go_ret
    exact ⟨by rw [HN.out]; rfl, Below.refl _ _⟩
  · rw [if_neg h] at HN
    have h1 : l.isEmpty = false := by simpa using h
    clear h
    go_enter Tryz.func36, Tryz.ntmps36
    go_wp2_with (first
      | (go_at_call 35; refine HQ.out.mono ?_; rintro e w2 ⟨rfl, hb2⟩))
    go_ret
    exact ⟨by rw [HN.out]; rfl, hb2⟩
/-- The parameters as the document puts them, one behind the other. -/
def accD : List Pm → List UInt8
  | [] => []
  | p :: r => (40 :: (quoI p.name ++ 32 :: quoI p.value)) ++ (r.flatMap fun p => 32 :: (quoI p.name ++ 32 :: quoI p.value))
theorem joinTail_two (r : List Pm) : Lib.joinTail [32] (r.flatMap fun p => [quoI p.name, quoI p.value]) = r.flatMap fun p => 32 :: (quoI p.name ++ 32 :: quoI p.value) := by
  induction r with
  | nil => rfl
  | cons p r ih =>
    rw [List.flatMap_cons, List.flatMap_cons, ← ih]
    simp [Lib.joinTail]
theorem par_acc (ps : List Pm) (h : ps ≠ []) : parI ps = accD ps ++ [41] := by
  unfold parI
  rw [if_neg h]
  cases ps with
  | nil => exact absurd rfl h
  | cons p r =>
    rw [List.flatMap_cons, List.cons_append, Lib.join_cons]
    have := joinTail_two r
    rw [accD, ← this]
    simp [Lib.joinTail]
theorem acc_next (ps : List Pm) (k : Nat) (hk : k < ps.length) : accD (ps.take (k + 1)) = accD (ps.take k) ++ (((if k = 0 then [40] else [32]) ++ quoI ps[k].name) ++ [32] ++ quoI ps[k].value) := by
  cases ps with
  | nil => simp at hk
  | cons p r =>
    cases k with
    | zero => simp [accD]
    | succ k =>
      have hk2 : k < r.length := by simpa using hk
      rw [List.take_succ_cons, List.take_succ_cons, accD, accD, List.take_succ_eq_append_getElem hk2, List.flatMap_append, if_neg (by omega)]
      simp
theorem acc_le (ps : List Pm) (k : Nat) : (accD (ps.take k)).length ≤ (accD ps).length := by
  cases ps with
  | nil => simp
  | cons p r =>
    cases k with
    | zero => simp [accD]
    | succ k =>
      rw [List.take_succ_cons, accD, accD, List.length_append, List.length_append]
      have : (List.flatMap (fun p : Pm => 32 :: (quoI p.name ++ 32 :: quoI p.value)) (r.take k)).length ≤ (List.flatMap (fun p : Pm => 32 :: (quoI p.name ++ 32 :: quoI p.value)) r).length := by
        conv => rhs; rw [← List.take_append_drop k r, List.flatMap_append, List.length_append]
        omega
      omega
theorem leaf_text (h : PH) : textP (.mk h []) = (40 :: (quoI h.type ++ [32] ++ quoI h.sub ++ [32] ++ parI h.params ++ ([32] ++ nilI h.id ++ [32] ++ nilI h.desc ++ [32] ++ quoI h.enc ++ [32] ++ Lib.decDigits (h.end' - h.body).toNat) ++ (if h.type = tText then [32] ++ Lib.decDigits h.lines.toNat else []) ++ [41])) := by
  rw [textP]
  unfold leafW
  simp only [List.isEmpty_nil, if_true]
  split
  · simp [Lib.join_cons, Lib.joinTail]
  · simp [Lib.join_cons, Lib.joinTail]
set_option maxRecDepth 20000 in
set_option maxHeartbeats 4000000 in
theorem rtext_leaf (h : PH) (Ap : Option Addr) (cp : Nat) (A : Option Addr) (c : Nat) (w : World) (hr : ReadOf Pm.cs 2 w (.slice Ap h.params.length cp) h.params) (ho : OkH h) (hl : (textP (.mk h [])).length ≤ 100000000000000) :
    Calls Tryz.prog 13 #[.agg (phA h (.slice Ap h.params.length cp) (.slice A 0 c))] w fun e w' => e = .returned (.string ⟨(textP (.mk h [])).toArray⟩) ∧ Below w.heap.size w w' := by
  rw [leaf_text] at hl ⊢
  have HR := hide hr
  have HQ := hide rquote_any
  have HN := hide rnil_any
  have t1 := ho.type
  have t2 := ho.sub
  have t3 := ho.enc
  have t4 := ho.id
  have t5 := ho.desc
  have HDg := hide (fun W => rdigits_any (h.end' - h.body).toNat W (by have := ho.body; have := ho.end'; omega))
  have HDl := hide (fun W => rdigits_any h.lines.toNat W (by have := ho.lines; omega))
  have HEa := hide ho.each
  have hpl := ho.params
  obtain ⟨nD, hnD⟩ : ∃ nD, (h.end' - h.body).toNat = nD := ⟨_, rfl⟩
  obtain ⟨nL, hnL⟩ : ∃ nL, h.lines.toNat = nL := ⟨_, rfl⟩
  have hsub : IntKind.i64.wrap (h.end' - h.body) = (nD : Int) := by
    rw [wrap_big (by have := ho.end'; omega) (by have := ho.end'; have := ho.body; omega)]
    have := ho.end'
    omega
  have HLi : Hid (h.lines = (nL : Int)) := by show _ = _; have := ho.lines; omega
  rw [hnD] at HDg hl ⊢
  rw [hnL] at HDl hl ⊢
  have HPA : Hid (h.params ≠ [] → parI h.params = accD h.params ++ [41]) := par_acc h.params
  have HPN : Hid (h.params = [] → parI h.params = [78, 73, 76]) := fun e => by rw [e]; rfl
  obtain ⟨np, hnp⟩ : ∃ np, h.params.length = np := ⟨_, rfl⟩
  have HNp := hide hnp
  rw [hnp] at HR hpl ⊢
  obtain ⟨PS, hPS⟩ : ∃ PS, h.params = PS := ⟨_, rfl⟩
  rw [hPS] at HR HEa HPA HPN hl HNp ⊢
  clear hr ho hnp hPS hnD hnL
  have hA1 := (Below.refl w.heap.size w).alloc (Nat.le_refl _) (.cells (phA h (.slice Ap np cp) (.slice A 0 c)) 40)
  have hK1 := Blk.new w (phA h (.slice Ap np cp) (.slice A 0 c)) 40
  obtain ⟨W1, hW1⟩ : ∃ W1, w.alloc (.cells (phA h (.slice Ap np cp) (.slice A 0 c)) 40) = W1 := ⟨_, rfl⟩
  rw [hW1] at hA1 hK1
  have HB1 := hide hA1
  have HK1 := hide hK1
  have hs1 : w.heap.size < W1.heap.size := hK1.lt
  obtain ⟨b0, b1, b2, b3, b4, b5, b6, b7, b8, b9, b10⟩ := blk11 hK1
  rw [HLi.out] at b9
  obtain ⟨q1, hq1⟩ : ∃ q1, quoI h.type = q1 := ⟨_, rfl⟩
  rw [hq1] at hl ⊢
  obtain ⟨q2, hq2⟩ : ∃ q2, quoI h.sub = q2 := ⟨_, rfl⟩
  rw [hq2] at hl ⊢
  obtain ⟨q3, hq3⟩ : ∃ q3, quoI h.enc = q3 := ⟨_, rfl⟩
  rw [hq3] at hl ⊢
  obtain ⟨n1, hn1⟩ : ∃ n1, nilI h.id = n1 := ⟨_, rfl⟩
  rw [hn1] at hl ⊢
  obtain ⟨n2, hn2⟩ : ∃ n2, nilI h.desc = n2 := ⟨_, rfl⟩
  rw [hn2] at hl ⊢
  generalize Lib.decDigits nD = dg at *
  generalize Lib.decDigits nL = dl at *
  generalize parI PS = pi at *
  obtain ⟨ts, hts⟩ : ∃ ts : List UInt8, (if h.type = tText then [32] ++ dl else []) = ts := ⟨_, rfl⟩
  have HTs := hide hts
  rw [hts] at hl ⊢
  have hLall : q1.length + q2.length + pi.length + n1.length + n2.length + q3.length + dg.length + ts.length + 8 ≤ 100000000000000 := by
    simp only [List.length_cons, List.length_append, List.length_nil] at hl
    omega
  clear hts hl
  obtain ⟨X1, hX1⟩ : ∃ X1 : List UInt8, X1 = [40] ++ q1 := ⟨_, rfl⟩
  have cX1 : (⟨#[40]⟩ : ByteArray) ++ ⟨q1.toArray⟩ = ⟨X1.toArray⟩ := by rw [hX1]; exact cat_lit [40] q1
  have zX1 := size_lit X1
  have lX1 : X1.length = 1 + q1.length := by
    rw [hX1, List.length_append]
    first | done | rfl
  have HX1 := hide hX1
  clear hX1
  obtain ⟨X2, hX2⟩ : ∃ X2 : List UInt8, X2 = X1 ++ [32] := ⟨_, rfl⟩
  have cX2 : (⟨X1.toArray⟩ : ByteArray) ++ ⟨#[32]⟩ = ⟨X2.toArray⟩ := by rw [hX2]; exact cat_lit X1 [32]
  have zX2 := size_lit X2
  have lX2 : X2.length = X1.length + 1 := by
    rw [hX2, List.length_append]
    first | done | rfl
  have HX2 := hide hX2
  clear hX2
  obtain ⟨X3, hX3⟩ : ∃ X3 : List UInt8, X3 = X2 ++ q2 := ⟨_, rfl⟩
  have cX3 : (⟨X2.toArray⟩ : ByteArray) ++ ⟨q2.toArray⟩ = ⟨X3.toArray⟩ := by rw [hX3]; exact cat_lit X2 q2
  have zX3 := size_lit X3
  have lX3 : X3.length = X2.length + q2.length := by
    rw [hX3, List.length_append]
    first | done | rfl
  have HX3 := hide hX3
  clear hX3
  obtain ⟨X4, hX4⟩ : ∃ X4 : List UInt8, X4 = X3 ++ [32] := ⟨_, rfl⟩
  have cX4 : (⟨X3.toArray⟩ : ByteArray) ++ ⟨#[32]⟩ = ⟨X4.toArray⟩ := by rw [hX4]; exact cat_lit X3 [32]
  have zX4 := size_lit X4
  have lX4 : X4.length = X3.length + 1 := by
    rw [hX4, List.length_append]
    first | done | rfl
  have HX4 := hide hX4
  clear hX4
  have bX1 : X1.length ≤ 100000000000000 := by omega
  have bX2 : X2.length ≤ 100000000000000 := by omega
  have bX3 : X3.length ≤ 100000000000000 := by omega
  have bX4 : X4.length ≤ 100000000000000 := by omega
  have hn0 := ext_some W1
  have m0 : ∀ u : Ext W1, u.w.cell? ⟨w.heap.size, 0, none⟩ = some (.string ⟨h.type.toArray⟩) := fun u => (ext_cell W1 u _ _ hs1).trans b0
  have m1 : ∀ u : Ext W1, u.w.cell? ⟨w.heap.size, 1, none⟩ = some (.string ⟨h.sub.toArray⟩) := fun u => (ext_cell W1 u _ _ hs1).trans b1
  clear hA1 hK1
  unfold phA at hW1
  go_enter Tryz.func13, Tryz.ntmps13
  unfold phA
  go_wp2_with fail
  refine wp_region_ext (by kernel_rfl) (by kernel_rfl) ?_
  clear b0 b1
  repeat (go_big_quiet_step ((go_at_call 35; exact ext_call (HQ.out _ _ (by omega)))))
  refine wpQuiet_nil ?_
  rintro w2 ⟨⟨_, hb2⟩, rfl⟩
  have HB2 := hide hb2
  clear hq1 hq2 m0 m1 hn0 cX1 cX2 cX3 cX4 b2 b3 b4 b5 b6 b7 b8 b9 b10 hW1 hb2
  have hs2 := HB2.out.size
  have HK2 := hide (HK1.out.below HB2.out HK1.out.lt)
  obtain ⟨b0, b1, b2, b3, b4, b5, b6, b7, b8, b9, b10⟩ := blk11 HK2.out
  rw [HLi.out] at b9
  have HR2 : Hid (ReadOf Pm.cs 2 w2 (.slice Ap np cp) PS) := HR.out.below (HB1.out.trans (HB2.out.mono HB1.out.size))
  obtain ⟨X5, hX5⟩ : ∃ X5 : List UInt8, X5 = X4 ++ pi := ⟨_, rfl⟩
  have cX5 : (⟨X4.toArray⟩ : ByteArray) ++ ⟨pi.toArray⟩ = ⟨X5.toArray⟩ := by rw [hX5]; exact cat_lit X4 pi
  have zX5 := size_lit X5
  have lX5 : X5.length = X4.length + pi.length := by
    rw [hX5, List.length_append]
    first | done | rfl
  have HX5 := hide hX5
  clear hX5
  have bX5 : X5.length ≤ 100000000000000 := by omega
  go_upto_if 45 with fail
  go_cut [6, 7, 8] from 45 (fun v6 v7 v8 wq => v6 = .string ⟨X5.toArray⟩ ∧ Hid (Below w2.heap.size w2 wq))
  case first =>
    by_cases h0 : np = 0
    · have hnil : PS = [] := List.length_eq_zero_iff.1 (HNp.out.trans h0)
      have cN : (⟨X4.toArray⟩ : ByteArray) ++ ⟨#[78, 73, 76]⟩ = ⟨X5.toArray⟩ := by
        rw [HX5.out, HPN.out hnil]
        exact cat_lit X4 [78, 73, 76]
      subst h0
      clear hnil HPA HPN
      go_wp2
      go_meet
      case rel => exact ⟨rfl, Below.refl _ _⟩
    · have h0' : ¬ ((np : Int) = 0) := by omega
      have hne : PS ≠ [] := fun e => h0 (by rw [← HNp.out, e]; rfl)
      have hpi := HPA.out hne
      have hAcl : (accD PS).length + 1 = pi.length := by rw [hpi, List.length_append]; rfl
      have HPi := hide hpi
      have HAc := hide (acc_le PS)
      clear hpi hne HPA HPN
      have hb0 : ((np : Int) == 0) = false := by rw [beq_eq_false_iff_ne]; exact h0'
      rw [hb0]
      clear hb0 h0'
      go_wp2
      clear h0
      go_loopw [51, 6] (fun v51 v6 wx => ∃ (k : Nat) (Y : List UInt8), v51 = .int .i64 k ∧ k ≤ np ∧ v6 = .string ⟨Y.toArray⟩ ∧ Hid (Y = X4 ++ accD (PS.take k)) ∧ Hid (Below w2.heap.size w2 wx)) (fun v51 _ _ => np - (intOf v51).toNat)
      case atStart => exact ⟨0, X4, rfl, Nat.zero_le _, rfl, by show _ = _; simp [accD], Below.refl _ _⟩
      case round =>
        obtain ⟨k, Y, rfl, hk, rfl, HYe, HBx⟩ := hrel
        have hsx := HBx.out.size
        have hYl : Y.length ≤ X4.length + (accD PS).length := by
          have := HAc.out k
          rw [HYe.out, List.length_append]
          omega
        have hsY := size_lit Y
        by_cases hlt : k < np
        · have hlt' : (k : Int) < np := by omega
          have hkp : k < PS.length := by rw [HNp.out]; exact hlt
          obtain ⟨B, b, e2, hc2⟩ := HR2.out
          obtain ⟨g2, o2, rfl, hg2, k2⟩ := hc2 k hkp
          injection e2 with e2a e2b e2c
          subst e2a
          subst e2c
          clear e2b
          have HNx := hide (acc_next PS k hkp)
          have hel := HEa.out _ (List.getElem_mem hkp)
          obtain ⟨x, y, hab⟩ : ∃ a b, PS[k] = ⟨a, b⟩ := ⟨_, _, rfl⟩
          rw [hab] at k2 HNx hel
          dsimp only at HNx hel
          have l0 : wr.cell? ⟨g2, o2 + k * 2, none⟩ = some (.string ⟨x.toArray⟩) := (HBx.out.cell (p := ⟨g2, _, none⟩) hg2).trans (k2 0 (by omega))
          have l1 : wr.cell? ⟨g2, o2 + k * 2 + 1, none⟩ = some (.string ⟨y.toArray⟩) := (HBx.out.cell (p := ⟨g2, _, none⟩) hg2).trans (k2 1 (by omega))
          have hAn := HAc.out (k + 1)
          rw [HNx.out] at hAn
          obtain ⟨qn, hqn⟩ : ∃ q, quoI x = q := ⟨_, rfl⟩
          obtain ⟨qv, hqv⟩ : ∃ q, quoI y = q := ⟨_, rfl⟩
          have HQn := hide (fun W => rquote_any x W hel.1)
          have HQv := hide (fun W => rquote_any y W hel.2)
          rw [hqn] at HNx hAn HQn
          rw [hqv] at HNx hAn HQv
          obtain ⟨ix, sp, hix, hi2, hmin, hsp, hspl⟩ : ∃ (ix : Nat) (sp : List UInt8), ix < 2 ∧ (ix : Int) < 2 ∧ min (k : Int) 1 = (ix : Int) ∧ (#[.string ⟨#[40]⟩, .string ⟨#[32]⟩] : Array Value)[ix]? = some (.string ⟨sp.toArray⟩) ∧ Hid (sp = if k = 0 then [40] else [32]) := by
            by_cases hk0 : k = 0
            · exact ⟨0, [40], by omega, by omega, by omega, rfl, by rw [if_pos hk0]; exact rfl⟩
            · exact ⟨1, [32], by omega, by omega, by omega, rfl, by rw [if_neg hk0]; exact rfl⟩
          rw [← hspl.out] at HNx hAn
          simp only [List.length_append, List.length_cons, List.length_nil] at hAn
          have hYle : Y.length = X4.length + (accD (PS.take k)).length := by rw [HYe.out, List.length_append]
          have hszs := size_lit sp
          have hszq := size_lit qn
          have hszv := size_lit qv
          obtain ⟨U1, hU1⟩ : ∃ U1 : List UInt8, U1 = sp ++ qn := ⟨_, rfl⟩
          have cU1 : (⟨sp.toArray⟩ : ByteArray) ++ ⟨qn.toArray⟩ = ⟨U1.toArray⟩ := by rw [hU1]; exact cat_lit sp qn
          have zU1 := size_lit U1
          have lU1 : U1.length = sp.length + qn.length := by
            rw [hU1, List.length_append]
            first | done | rfl
          have HU1 := hide hU1
          clear hU1
          obtain ⟨U2, hU2⟩ : ∃ U2 : List UInt8, U2 = U1 ++ [32] := ⟨_, rfl⟩
          have cU2 : (⟨U1.toArray⟩ : ByteArray) ++ ⟨#[32]⟩ = ⟨U2.toArray⟩ := by rw [hU2]; exact cat_lit U1 [32]
          have zU2 := size_lit U2
          have lU2 : U2.length = U1.length + 1 := by
            rw [hU2, List.length_append]
            first | done | rfl
          have HU2 := hide hU2
          clear hU2
          obtain ⟨U3, hU3⟩ : ∃ U3 : List UInt8, U3 = U2 ++ qv := ⟨_, rfl⟩
          have cU3 : (⟨U2.toArray⟩ : ByteArray) ++ ⟨qv.toArray⟩ = ⟨U3.toArray⟩ := by rw [hU3]; exact cat_lit U2 qv
          have zU3 := size_lit U3
          have lU3 : U3.length = U2.length + qv.length := by
            rw [hU3, List.length_append]
            first | done | rfl
          have HU3 := hide hU3
          clear hU3
          obtain ⟨U4, hU4⟩ : ∃ U4 : List UInt8, U4 = Y ++ U3 := ⟨_, rfl⟩
          have cU4 : (⟨Y.toArray⟩ : ByteArray) ++ ⟨U3.toArray⟩ = ⟨U4.toArray⟩ := by rw [hU4]; exact cat_lit Y U3
          have zU4 := size_lit U4
          have lU4 : U4.length = Y.length + U3.length := by
            rw [hU4, List.length_append]
            first | done | rfl
          have HU4 := hide hU4
          clear hU4
          have bU1 : U1.length ≤ 100000000000000 := by omega
          have bU2 : U2.length ≤ 100000000000000 := by omega
          have bU3 : U3.length ≤ 100000000000000 := by omega
          have bU4 : U4.length ≤ 100000000000000 := by omega
          have HU5 : Hid (U4 = X4 ++ accD (PS.take (k + 1))) := by
            show _ = _
            rw [HU4.out, HYe.out, HNx.out, HU3.out, HU2.out, HU1.out]
            simp
          have HSp : Hid (∀ W : World, Blk (W.alloc (.cells #[.string ⟨#[40]⟩, .string ⟨#[32]⟩] 9)) W.heap.size #[.string ⟨#[40]⟩, .string ⟨#[32]⟩] 9) := fun W => Blk.new W _ _
          have HSc : Hid (∀ (W : World) (b : Nat), Blk W b #[.string ⟨#[40]⟩, .string ⟨#[32]⟩] 9 → W.cell? ⟨b, ix, none⟩ = some (.string ⟨sp.toArray⟩)) := fun W b h => (h.cell ix).trans hsp
          clear hsp hYle hAn hqn hqv hab k2 hc2 HYe HNx hspl
          have hXa := Blk.new wr #[.string ⟨x.toArray⟩, .string ⟨y.toArray⟩] 65
          have HBa := hide (HBx.out.trans (((Below.refl wr.heap.size wr).alloc (Nat.le_refl _) (.cells #[.string ⟨x.toArray⟩, .string ⟨y.toArray⟩] 65)).mono hsx))
          go_wp2_with fail
          clear l0 l1
          obtain ⟨Wa, hWa⟩ : ∃ Wa, wr.alloc (.cells #[.string ⟨x.toArray⟩, .string ⟨y.toArray⟩] 65) = Wa := ⟨_, rfl⟩
          rw [hWa] at hXa HBa ⊢
          have HXa := hide hXa
          clear hWa hXa
          refine regionL 16 (fun W => W.cell? ⟨wr.heap.size, 0, none⟩ = some (.string ⟨x.toArray⟩) ∧ W.cell? ⟨wr.heap.size, 1, none⟩ = some (.string ⟨y.toArray⟩)) (by kernel_rfl) ?_
          have HTH : Hid (∀ W, Below Wa.heap.size Wa W → W.cell? ⟨wr.heap.size, 0, none⟩ = some (.string ⟨x.toArray⟩) ∧ W.cell? ⟨wr.heap.size, 1, none⟩ = some (.string ⟨y.toArray⟩)) := fun W hW => ⟨(HXa.out.below hW HXa.out.lt).cell 0, (HXa.out.below hW HXa.out.lt).cell 1⟩
          have HM0 : Hid (Below Wa.heap.size Wa Wa.drew) := (Below.refl _ _).drew
          have HT0 := HTH.out _ HM0.out
          obtain ⟨Wd, hWd⟩ : ∃ Wd, Wa.drew = Wd := ⟨_, rfl⟩
          rw [hWd] at HM0 HT0 ⊢
          clear hWd
          refine takeW (i := 0) (v := (.string ⟨Y.toArray⟩)) rfl (by kernel_rfl) (by kernel_rfl) (by kernel_rfl) rfl (fun _ _ _ h => h) (fun _ => HT0) (Or.inl ⟨by rfl, fun W _ => by go_simp⟩) ?_
          simp only [Act.put, List.getElem_toArray, List.getElem_cons_succ, List.getElem_cons_zero, List.setIfInBounds_toArray, List.set_cons_zero, List.set_cons_succ]
          refine takeW (i := 2) (v := (.int .i64 (k : Nat))) rfl (by kernel_rfl) (by kernel_rfl) (by kernel_rfl) rfl (fun _ _ _ h => h) (fun _ => HT0) (Or.inl ⟨by rfl, fun W _ => by go_simp⟩) ?_
          simp only [Act.put, List.getElem_toArray, List.getElem_cons_succ, List.getElem_cons_zero, List.setIfInBounds_toArray, List.set_cons_zero, List.set_cons_succ]
          refine takeW (i := 3) (v := (.int .i64 (ix : Nat))) rfl (by kernel_rfl) (by kernel_rfl) (by kernel_rfl) rfl (fun _ _ _ h => h) (fun _ => HT0) (Or.inl ⟨by rfl, fun W _ => by go_simp⟩) ?_
          simp only [Act.put, List.getElem_toArray, List.getElem_cons_succ, List.getElem_cons_zero, List.setIfInBounds_toArray, List.set_cons_zero, List.set_cons_succ]
          refine takeW (i := 6) (v := (.pointer (some ⟨wr.heap.size, 0, none⟩))) rfl (by kernel_rfl) (by kernel_rfl) (by kernel_rfl) rfl (fun _ _ _ h => h) (fun _ => HT0) (Or.inl ⟨by rfl, fun W _ => by go_simp⟩) ?_
          simp only [Act.put, List.getElem_toArray, List.getElem_cons_succ, List.getElem_cons_zero, List.setIfInBounds_toArray, List.set_cons_zero, List.set_cons_succ]
          refine takeL (i := 7) (v := (.string ⟨x.toArray⟩)) rfl (by kernel_rfl) (by kernel_rfl) (by kernel_rfl) (by kernel_rfl) (by kernel_rfl) (fun _ _ _ h => h) HT0 (Or.inl ⟨by rfl, fun W hW => by obtain ⟨t0, t1⟩ := hW; go_simp⟩) ?_
          simp only [Act.put, List.getElem_toArray, List.getElem_cons_succ, List.getElem_cons_zero, List.setIfInBounds_toArray, List.set_cons_zero, List.set_cons_succ]
          refine takeW (i := 11) (v := (.pointer (some ⟨wr.heap.size, 1, none⟩))) rfl (by kernel_rfl) (by kernel_rfl) (by kernel_rfl) rfl (fun _ _ _ h => h) (fun _ => HT0) (Or.inl ⟨by rfl, fun W _ => by go_simp⟩) ?_
          simp only [Act.put, List.getElem_toArray, List.getElem_cons_succ, List.getElem_cons_zero, List.setIfInBounds_toArray, List.set_cons_zero, List.set_cons_succ]
          refine takeL (i := 12) (v := (.string ⟨y.toArray⟩)) rfl (by kernel_rfl) (by kernel_rfl) (by kernel_rfl) (by kernel_rfl) (by kernel_rfl) (fun _ _ _ h => h) HT0 (Or.inl ⟨by rfl, fun W hW => by obtain ⟨t0, t1⟩ := hW; go_simp⟩) ?_
          simp only [Act.put, List.getElem_toArray, List.getElem_cons_succ, List.getElem_cons_zero, List.setIfInBounds_toArray, List.set_cons_zero, List.set_cons_succ]
          refine readyL (rs := [1, 8]) (by kernel_rfl) (by simp) ?_
          refine AllL.cons rfl (fun K hK => ?_) ?_
          · try simp only [List.getElem_toArray, List.getElem_cons_succ, List.getElem_cons_zero]
            go_simp
            have HM1 := hide (HM0.out.alloc HM0.out.size (.cells #[.string ⟨#[40]⟩, .string ⟨#[32]⟩] 9))
            have HSb := hide (HSp.out Wd)
            obtain ⟨BL, hBL⟩ : ∃ BL, Wd.heap.size = BL := ⟨_, rfl⟩
            obtain ⟨W1_, hW1_⟩ : ∃ W, Wd.alloc (.cells #[.string ⟨#[40]⟩, .string ⟨#[32]⟩] 9) = W := ⟨_, rfl⟩
            rw [hBL] at HSb ⊢
            rw [hW1_] at HM1 HSb ⊢
            clear hW1_ hBL
            refine hK.out _ _ (fun _ => HTH.out _ HM1.out) (fun HTn => ?_)
            clear hK K HT0
            have HT0 := HTn (by kernel_rfl)
            clear HTn
            try simp only [Act.put, List.getElem_toArray, List.getElem_cons_succ, List.getElem_cons_zero, List.setIfInBounds_toArray, List.set_cons_zero, List.set_cons_succ]
            refine takeW (i := 4) (v := (.pointer (some ⟨BL, ix, none⟩))) rfl (by kernel_rfl) (by kernel_rfl) (by kernel_rfl) rfl (fun _ _ _ h => h) (fun _ => HT0) (Or.inl ⟨by rfl, fun W _ => by go_simp⟩) ?_
            simp only [Act.put, List.getElem_toArray, List.getElem_cons_succ, List.getElem_cons_zero, List.setIfInBounds_toArray, List.set_cons_zero, List.set_cons_succ]
            refine readyL (rs := [5, 8]) (by kernel_rfl) (by simp) ?_
            refine AllL.cons rfl (fun K hK => ?_) ?_
            · have hcs := HSc.out _ _ HSb.out
              try simp only [List.getElem_toArray, List.getElem_cons_succ, List.getElem_cons_zero]
              go_simp
              clear hcs
              have HM2 := HM1
              refine hK.out _ _ (fun _ => HTH.out _ HM2.out) (fun HTn => ?_)
              clear hK K HT0
              have HT0 := HTn (by kernel_rfl)
              clear HTn
              try simp only [Act.put, List.getElem_toArray, List.getElem_cons_succ, List.getElem_cons_zero, List.setIfInBounds_toArray, List.set_cons_zero, List.set_cons_succ]
              refine readyL (rs := [8]) (by kernel_rfl) (by simp) ?_
              refine AllL.cons rfl (fun K hK => ?_) AllL.nil
              try simp only [List.getElem_toArray, List.getElem_cons_succ, List.getElem_cons_zero]
              go_simp
              refine (HQn.out _).mono ?_
              rintro e W3_ ⟨rfl, hb2⟩
              have HM3 := hide (HM2.out.trans (hb2.mono HM2.out.size))
              have HSb := hide (HSb.out.below hb2 HSb.out.lt)
              clear hb2
              refine hK.out _ _ (fun _ => HTH.out _ HM3.out) (fun HTn => ?_)
              clear hK K HT0
              have HT0 := HTn (by kernel_rfl)
              clear HTn
              try simp only [Act.put, List.getElem_toArray, List.getElem_cons_succ, List.getElem_cons_zero, List.setIfInBounds_toArray, List.set_cons_zero, List.set_cons_succ]
              refine takeW (i := 9) (v := (.string ⟨U1.toArray⟩)) rfl (by kernel_rfl) (by kernel_rfl) (by kernel_rfl) rfl (fun _ _ _ h => h) (fun _ => HT0) (Or.inl ⟨by rfl, fun W _ => by go_simp <;> omega⟩) ?_
              simp only [Act.put, List.getElem_toArray, List.getElem_cons_succ, List.getElem_cons_zero, List.setIfInBounds_toArray, List.set_cons_zero, List.set_cons_succ]
              refine takeW (i := 10) (v := (.string ⟨U2.toArray⟩)) rfl (by kernel_rfl) (by kernel_rfl) (by kernel_rfl) rfl (fun _ _ _ h => h) (fun _ => HT0) (Or.inl ⟨by rfl, fun W _ => by go_simp <;> omega⟩) ?_
              simp only [Act.put, List.getElem_toArray, List.getElem_cons_succ, List.getElem_cons_zero, List.setIfInBounds_toArray, List.set_cons_zero, List.set_cons_succ]
              refine readyL (rs := [13]) (by kernel_rfl) (by simp) ?_
              refine AllL.cons rfl (fun K hK => ?_) AllL.nil
              try simp only [List.getElem_toArray, List.getElem_cons_succ, List.getElem_cons_zero]
              go_simp
              refine (HQv.out _).mono ?_
              rintro e W4_ ⟨rfl, hb3⟩
              have HM4 := hide (HM3.out.trans (hb3.mono HM3.out.size))
              have HSb := hide (HSb.out.below hb3 HSb.out.lt)
              clear hb3
              refine hK.out _ _ (fun _ => HTH.out _ HM4.out) (fun HTn => ?_)
              clear hK K HT0
              have HT0 := HTn (by kernel_rfl)
              clear HTn
              try simp only [Act.put, List.getElem_toArray, List.getElem_cons_succ, List.getElem_cons_zero, List.setIfInBounds_toArray, List.set_cons_zero, List.set_cons_succ]
              refine takeW (i := 14) (v := (.string ⟨U3.toArray⟩)) rfl (by kernel_rfl) (by kernel_rfl) (by kernel_rfl) rfl (fun _ _ _ h => h) (fun _ => HT0) (Or.inl ⟨by rfl, fun W _ => by go_simp <;> omega⟩) ?_
              simp only [Act.put, List.getElem_toArray, List.getElem_cons_succ, List.getElem_cons_zero, List.setIfInBounds_toArray, List.set_cons_zero, List.set_cons_succ]
              refine takeW (i := 15) (v := (.string ⟨U4.toArray⟩)) rfl (by kernel_rfl) (by kernel_rfl) (by kernel_rfl) rfl (fun _ _ _ h => h) (fun _ => HT0) (Or.inl ⟨by rfl, fun W _ => by go_simp <;> omega⟩) ?_
              simp only [Act.put, List.getElem_toArray, List.getElem_cons_succ, List.getElem_cons_zero, List.setIfInBounds_toArray, List.set_cons_zero, List.set_cons_succ]
              refine readyL (rs := [16]) (by kernel_rfl) (by simp) ?_
              refine AllL.cons rfl (fun K hK => ?_) AllL.nil
              try simp only [List.getElem_toArray, List.getElem_cons_succ, List.getElem_cons_zero]
              go_simp
              refine hK.out _ _ (vac (by kernel_rfl)) (fun _ => ?_)
              clear hK K
              try simp only [Act.put, List.getElem_toArray, List.getElem_cons_succ, List.getElem_cons_zero, List.setIfInBounds_toArray, List.set_cons_zero, List.set_cons_succ]
              refine doneL (by kernel_rfl) ?_ _
              go_wp2
              go_roundw
              case rel => exact ⟨k + 1, U4, by go_num, by omega, rfl, HU5, HBa.out.trans (HM4.out.mono HBa.out.size)⟩
              case measure => simp [intOf]; omega
            · refine AllL.cons rfl (fun K hK => ?_) AllL.nil
              try simp only [List.getElem_toArray, List.getElem_cons_succ, List.getElem_cons_zero]
              go_simp
              refine (HQn.out _).mono ?_
              rintro e W2_ ⟨rfl, hb1⟩
              have HM2 := hide (HM1.out.trans (hb1.mono HM1.out.size))
              have HSb := hide (HSb.out.below hb1 HSb.out.lt)
              clear hb1
              refine hK.out _ _ (fun _ => HTH.out _ HM2.out) (fun HTn => ?_)
              clear hK K HT0
              have HT0 := HTn (by kernel_rfl)
              clear HTn
              try simp only [Act.put, List.getElem_toArray, List.getElem_cons_succ, List.getElem_cons_zero, List.setIfInBounds_toArray, List.set_cons_zero, List.set_cons_succ]
              refine readyL (rs := [5, 13]) (by kernel_rfl) (by simp) ?_
              refine AllL.cons rfl (fun K hK => ?_) ?_
              · have hcs := HSc.out _ _ HSb.out
                try simp only [List.getElem_toArray, List.getElem_cons_succ, List.getElem_cons_zero]
                go_simp
                clear hcs
                have HM3 := HM2
                refine hK.out _ _ (fun _ => HTH.out _ HM3.out) (fun HTn => ?_)
                clear hK K HT0
                have HT0 := HTn (by kernel_rfl)
                clear HTn
                try simp only [Act.put, List.getElem_toArray, List.getElem_cons_succ, List.getElem_cons_zero, List.setIfInBounds_toArray, List.set_cons_zero, List.set_cons_succ]
                refine takeW (i := 9) (v := (.string ⟨U1.toArray⟩)) rfl (by kernel_rfl) (by kernel_rfl) (by kernel_rfl) rfl (fun _ _ _ h => h) (fun _ => HT0) (Or.inl ⟨by rfl, fun W _ => by go_simp <;> omega⟩) ?_
                simp only [Act.put, List.getElem_toArray, List.getElem_cons_succ, List.getElem_cons_zero, List.setIfInBounds_toArray, List.set_cons_zero, List.set_cons_succ]
                refine takeW (i := 10) (v := (.string ⟨U2.toArray⟩)) rfl (by kernel_rfl) (by kernel_rfl) (by kernel_rfl) rfl (fun _ _ _ h => h) (fun _ => HT0) (Or.inl ⟨by rfl, fun W _ => by go_simp <;> omega⟩) ?_
                simp only [Act.put, List.getElem_toArray, List.getElem_cons_succ, List.getElem_cons_zero, List.setIfInBounds_toArray, List.set_cons_zero, List.set_cons_succ]
                refine readyL (rs := [13]) (by kernel_rfl) (by simp) ?_
                refine AllL.cons rfl (fun K hK => ?_) AllL.nil
                try simp only [List.getElem_toArray, List.getElem_cons_succ, List.getElem_cons_zero]
                go_simp
                refine (HQv.out _).mono ?_
                rintro e W4_ ⟨rfl, hb3⟩
                have HM4 := hide (HM3.out.trans (hb3.mono HM3.out.size))
                have HSb := hide (HSb.out.below hb3 HSb.out.lt)
                clear hb3
                refine hK.out _ _ (fun _ => HTH.out _ HM4.out) (fun HTn => ?_)
                clear hK K HT0
                have HT0 := HTn (by kernel_rfl)
                clear HTn
                try simp only [Act.put, List.getElem_toArray, List.getElem_cons_succ, List.getElem_cons_zero, List.setIfInBounds_toArray, List.set_cons_zero, List.set_cons_succ]
                refine takeW (i := 14) (v := (.string ⟨U3.toArray⟩)) rfl (by kernel_rfl) (by kernel_rfl) (by kernel_rfl) rfl (fun _ _ _ h => h) (fun _ => HT0) (Or.inl ⟨by rfl, fun W _ => by go_simp <;> omega⟩) ?_
                simp only [Act.put, List.getElem_toArray, List.getElem_cons_succ, List.getElem_cons_zero, List.setIfInBounds_toArray, List.set_cons_zero, List.set_cons_succ]
                refine takeW (i := 15) (v := (.string ⟨U4.toArray⟩)) rfl (by kernel_rfl) (by kernel_rfl) (by kernel_rfl) rfl (fun _ _ _ h => h) (fun _ => HT0) (Or.inl ⟨by rfl, fun W _ => by go_simp <;> omega⟩) ?_
                simp only [Act.put, List.getElem_toArray, List.getElem_cons_succ, List.getElem_cons_zero, List.setIfInBounds_toArray, List.set_cons_zero, List.set_cons_succ]
                refine readyL (rs := [16]) (by kernel_rfl) (by simp) ?_
                refine AllL.cons rfl (fun K hK => ?_) AllL.nil
                try simp only [List.getElem_toArray, List.getElem_cons_succ, List.getElem_cons_zero]
                go_simp
                refine hK.out _ _ (vac (by kernel_rfl)) (fun _ => ?_)
                clear hK K
                try simp only [Act.put, List.getElem_toArray, List.getElem_cons_succ, List.getElem_cons_zero, List.setIfInBounds_toArray, List.set_cons_zero, List.set_cons_succ]
                refine doneL (by kernel_rfl) ?_ _
                go_wp2
                go_roundw
                case rel => exact ⟨k + 1, U4, by go_num, by omega, rfl, HU5, HBa.out.trans (HM4.out.mono HBa.out.size)⟩
                case measure => simp [intOf]; omega
              · refine AllL.cons rfl (fun K hK => ?_) AllL.nil
                try simp only [List.getElem_toArray, List.getElem_cons_succ, List.getElem_cons_zero]
                go_simp
                refine (HQv.out _).mono ?_
                rintro e W3_ ⟨rfl, hb2⟩
                have HM3 := hide (HM2.out.trans (hb2.mono HM2.out.size))
                have HSb := hide (HSb.out.below hb2 HSb.out.lt)
                clear hb2
                refine hK.out _ _ (fun _ => HTH.out _ HM3.out) (fun HTn => ?_)
                clear hK K HT0
                have HT0 := HTn (by kernel_rfl)
                clear HTn
                try simp only [Act.put, List.getElem_toArray, List.getElem_cons_succ, List.getElem_cons_zero, List.setIfInBounds_toArray, List.set_cons_zero, List.set_cons_succ]
                refine readyL (rs := [5]) (by kernel_rfl) (by simp) ?_
                refine AllL.cons rfl (fun K hK => ?_) AllL.nil
                have hcs := HSc.out _ _ HSb.out
                try simp only [List.getElem_toArray, List.getElem_cons_succ, List.getElem_cons_zero]
                go_simp
                clear hcs
                have HM4 := HM3
                refine hK.out _ _ (fun _ => HTH.out _ HM4.out) (fun HTn => ?_)
                clear hK K HT0
                have HT0 := HTn (by kernel_rfl)
                clear HTn
                try simp only [Act.put, List.getElem_toArray, List.getElem_cons_succ, List.getElem_cons_zero, List.setIfInBounds_toArray, List.set_cons_zero, List.set_cons_succ]
                refine takeW (i := 9) (v := (.string ⟨U1.toArray⟩)) rfl (by kernel_rfl) (by kernel_rfl) (by kernel_rfl) rfl (fun _ _ _ h => h) (fun _ => HT0) (Or.inl ⟨by rfl, fun W _ => by go_simp <;> omega⟩) ?_
                simp only [Act.put, List.getElem_toArray, List.getElem_cons_succ, List.getElem_cons_zero, List.setIfInBounds_toArray, List.set_cons_zero, List.set_cons_succ]
                refine takeW (i := 10) (v := (.string ⟨U2.toArray⟩)) rfl (by kernel_rfl) (by kernel_rfl) (by kernel_rfl) rfl (fun _ _ _ h => h) (fun _ => HT0) (Or.inl ⟨by rfl, fun W _ => by go_simp <;> omega⟩) ?_
                simp only [Act.put, List.getElem_toArray, List.getElem_cons_succ, List.getElem_cons_zero, List.setIfInBounds_toArray, List.set_cons_zero, List.set_cons_succ]
                refine takeW (i := 14) (v := (.string ⟨U3.toArray⟩)) rfl (by kernel_rfl) (by kernel_rfl) (by kernel_rfl) rfl (fun _ _ _ h => h) (fun _ => HT0) (Or.inl ⟨by rfl, fun W _ => by go_simp <;> omega⟩) ?_
                simp only [Act.put, List.getElem_toArray, List.getElem_cons_succ, List.getElem_cons_zero, List.setIfInBounds_toArray, List.set_cons_zero, List.set_cons_succ]
                refine takeW (i := 15) (v := (.string ⟨U4.toArray⟩)) rfl (by kernel_rfl) (by kernel_rfl) (by kernel_rfl) rfl (fun _ _ _ h => h) (fun _ => HT0) (Or.inl ⟨by rfl, fun W _ => by go_simp <;> omega⟩) ?_
                simp only [Act.put, List.getElem_toArray, List.getElem_cons_succ, List.getElem_cons_zero, List.setIfInBounds_toArray, List.set_cons_zero, List.set_cons_succ]
                refine readyL (rs := [16]) (by kernel_rfl) (by simp) ?_
                refine AllL.cons rfl (fun K hK => ?_) AllL.nil
                try simp only [List.getElem_toArray, List.getElem_cons_succ, List.getElem_cons_zero]
                go_simp
                refine hK.out _ _ (vac (by kernel_rfl)) (fun _ => ?_)
                clear hK K
                try simp only [Act.put, List.getElem_toArray, List.getElem_cons_succ, List.getElem_cons_zero, List.setIfInBounds_toArray, List.set_cons_zero, List.set_cons_succ]
                refine doneL (by kernel_rfl) ?_ _
                go_wp2
                go_roundw
                case rel => exact ⟨k + 1, U4, by go_num, by omega, rfl, HU5, HBa.out.trans (HM4.out.mono HBa.out.size)⟩
                case measure => simp [intOf]; omega
          · refine AllL.cons rfl (fun K hK => ?_) AllL.nil
            try simp only [List.getElem_toArray, List.getElem_cons_succ, List.getElem_cons_zero]
            go_simp
            refine (HQn.out _).mono ?_
            rintro e W1_ ⟨rfl, hb0⟩
            have HM1 := hide (HM0.out.trans (hb0.mono HM0.out.size))
            clear hb0
            refine hK.out _ _ (fun _ => HTH.out _ HM1.out) (fun HTn => ?_)
            clear hK K HT0
            have HT0 := HTn (by kernel_rfl)
            clear HTn
            try simp only [Act.put, List.getElem_toArray, List.getElem_cons_succ, List.getElem_cons_zero, List.setIfInBounds_toArray, List.set_cons_zero, List.set_cons_succ]
            refine readyL (rs := [1, 13]) (by kernel_rfl) (by simp) ?_
            refine AllL.cons rfl (fun K hK => ?_) ?_
            · try simp only [List.getElem_toArray, List.getElem_cons_succ, List.getElem_cons_zero]
              go_simp
              have HM2 := hide (HM1.out.alloc HM1.out.size (.cells #[.string ⟨#[40]⟩, .string ⟨#[32]⟩] 9))
              have HSb := hide (HSp.out W1_)
              obtain ⟨BL, hBL⟩ : ∃ BL, W1_.heap.size = BL := ⟨_, rfl⟩
              obtain ⟨W2_, hW2_⟩ : ∃ W, W1_.alloc (.cells #[.string ⟨#[40]⟩, .string ⟨#[32]⟩] 9) = W := ⟨_, rfl⟩
              rw [hBL] at HSb ⊢
              rw [hW2_] at HM2 HSb ⊢
              clear hW2_ hBL
              refine hK.out _ _ (fun _ => HTH.out _ HM2.out) (fun HTn => ?_)
              clear hK K HT0
              have HT0 := HTn (by kernel_rfl)
              clear HTn
              try simp only [Act.put, List.getElem_toArray, List.getElem_cons_succ, List.getElem_cons_zero, List.setIfInBounds_toArray, List.set_cons_zero, List.set_cons_succ]
              refine takeW (i := 4) (v := (.pointer (some ⟨BL, ix, none⟩))) rfl (by kernel_rfl) (by kernel_rfl) (by kernel_rfl) rfl (fun _ _ _ h => h) (fun _ => HT0) (Or.inl ⟨by rfl, fun W _ => by go_simp⟩) ?_
              simp only [Act.put, List.getElem_toArray, List.getElem_cons_succ, List.getElem_cons_zero, List.setIfInBounds_toArray, List.set_cons_zero, List.set_cons_succ]
              refine readyL (rs := [5, 13]) (by kernel_rfl) (by simp) ?_
              refine AllL.cons rfl (fun K hK => ?_) ?_
              · have hcs := HSc.out _ _ HSb.out
                try simp only [List.getElem_toArray, List.getElem_cons_succ, List.getElem_cons_zero]
                go_simp
                clear hcs
                have HM3 := HM2
                refine hK.out _ _ (fun _ => HTH.out _ HM3.out) (fun HTn => ?_)
                clear hK K HT0
                have HT0 := HTn (by kernel_rfl)
                clear HTn
                try simp only [Act.put, List.getElem_toArray, List.getElem_cons_succ, List.getElem_cons_zero, List.setIfInBounds_toArray, List.set_cons_zero, List.set_cons_succ]
                refine takeW (i := 9) (v := (.string ⟨U1.toArray⟩)) rfl (by kernel_rfl) (by kernel_rfl) (by kernel_rfl) rfl (fun _ _ _ h => h) (fun _ => HT0) (Or.inl ⟨by rfl, fun W _ => by go_simp <;> omega⟩) ?_
                simp only [Act.put, List.getElem_toArray, List.getElem_cons_succ, List.getElem_cons_zero, List.setIfInBounds_toArray, List.set_cons_zero, List.set_cons_succ]
                refine takeW (i := 10) (v := (.string ⟨U2.toArray⟩)) rfl (by kernel_rfl) (by kernel_rfl) (by kernel_rfl) rfl (fun _ _ _ h => h) (fun _ => HT0) (Or.inl ⟨by rfl, fun W _ => by go_simp <;> omega⟩) ?_
                simp only [Act.put, List.getElem_toArray, List.getElem_cons_succ, List.getElem_cons_zero, List.setIfInBounds_toArray, List.set_cons_zero, List.set_cons_succ]
                refine readyL (rs := [13]) (by kernel_rfl) (by simp) ?_
                refine AllL.cons rfl (fun K hK => ?_) AllL.nil
                try simp only [List.getElem_toArray, List.getElem_cons_succ, List.getElem_cons_zero]
                go_simp
                refine (HQv.out _).mono ?_
                rintro e W4_ ⟨rfl, hb3⟩
                have HM4 := hide (HM3.out.trans (hb3.mono HM3.out.size))
                have HSb := hide (HSb.out.below hb3 HSb.out.lt)
                clear hb3
                refine hK.out _ _ (fun _ => HTH.out _ HM4.out) (fun HTn => ?_)
                clear hK K HT0
                have HT0 := HTn (by kernel_rfl)
                clear HTn
                try simp only [Act.put, List.getElem_toArray, List.getElem_cons_succ, List.getElem_cons_zero, List.setIfInBounds_toArray, List.set_cons_zero, List.set_cons_succ]
                refine takeW (i := 14) (v := (.string ⟨U3.toArray⟩)) rfl (by kernel_rfl) (by kernel_rfl) (by kernel_rfl) rfl (fun _ _ _ h => h) (fun _ => HT0) (Or.inl ⟨by rfl, fun W _ => by go_simp <;> omega⟩) ?_
                simp only [Act.put, List.getElem_toArray, List.getElem_cons_succ, List.getElem_cons_zero, List.setIfInBounds_toArray, List.set_cons_zero, List.set_cons_succ]
                refine takeW (i := 15) (v := (.string ⟨U4.toArray⟩)) rfl (by kernel_rfl) (by kernel_rfl) (by kernel_rfl) rfl (fun _ _ _ h => h) (fun _ => HT0) (Or.inl ⟨by rfl, fun W _ => by go_simp <;> omega⟩) ?_
                simp only [Act.put, List.getElem_toArray, List.getElem_cons_succ, List.getElem_cons_zero, List.setIfInBounds_toArray, List.set_cons_zero, List.set_cons_succ]
                refine readyL (rs := [16]) (by kernel_rfl) (by simp) ?_
                refine AllL.cons rfl (fun K hK => ?_) AllL.nil
                try simp only [List.getElem_toArray, List.getElem_cons_succ, List.getElem_cons_zero]
                go_simp
                refine hK.out _ _ (vac (by kernel_rfl)) (fun _ => ?_)
                clear hK K
                try simp only [Act.put, List.getElem_toArray, List.getElem_cons_succ, List.getElem_cons_zero, List.setIfInBounds_toArray, List.set_cons_zero, List.set_cons_succ]
                refine doneL (by kernel_rfl) ?_ _
                go_wp2
                go_roundw
                case rel => exact ⟨k + 1, U4, by go_num, by omega, rfl, HU5, HBa.out.trans (HM4.out.mono HBa.out.size)⟩
                case measure => simp [intOf]; omega
              · refine AllL.cons rfl (fun K hK => ?_) AllL.nil
                try simp only [List.getElem_toArray, List.getElem_cons_succ, List.getElem_cons_zero]
                go_simp
                refine (HQv.out _).mono ?_
                rintro e W3_ ⟨rfl, hb2⟩
                have HM3 := hide (HM2.out.trans (hb2.mono HM2.out.size))
                have HSb := hide (HSb.out.below hb2 HSb.out.lt)
                clear hb2
                refine hK.out _ _ (fun _ => HTH.out _ HM3.out) (fun HTn => ?_)
                clear hK K HT0
                have HT0 := HTn (by kernel_rfl)
                clear HTn
                try simp only [Act.put, List.getElem_toArray, List.getElem_cons_succ, List.getElem_cons_zero, List.setIfInBounds_toArray, List.set_cons_zero, List.set_cons_succ]
                refine readyL (rs := [5]) (by kernel_rfl) (by simp) ?_
                refine AllL.cons rfl (fun K hK => ?_) AllL.nil
                have hcs := HSc.out _ _ HSb.out
                try simp only [List.getElem_toArray, List.getElem_cons_succ, List.getElem_cons_zero]
                go_simp
                clear hcs
                have HM4 := HM3
                refine hK.out _ _ (fun _ => HTH.out _ HM4.out) (fun HTn => ?_)
                clear hK K HT0
                have HT0 := HTn (by kernel_rfl)
                clear HTn
                try simp only [Act.put, List.getElem_toArray, List.getElem_cons_succ, List.getElem_cons_zero, List.setIfInBounds_toArray, List.set_cons_zero, List.set_cons_succ]
                refine takeW (i := 9) (v := (.string ⟨U1.toArray⟩)) rfl (by kernel_rfl) (by kernel_rfl) (by kernel_rfl) rfl (fun _ _ _ h => h) (fun _ => HT0) (Or.inl ⟨by rfl, fun W _ => by go_simp <;> omega⟩) ?_
                simp only [Act.put, List.getElem_toArray, List.getElem_cons_succ, List.getElem_cons_zero, List.setIfInBounds_toArray, List.set_cons_zero, List.set_cons_succ]
                refine takeW (i := 10) (v := (.string ⟨U2.toArray⟩)) rfl (by kernel_rfl) (by kernel_rfl) (by kernel_rfl) rfl (fun _ _ _ h => h) (fun _ => HT0) (Or.inl ⟨by rfl, fun W _ => by go_simp <;> omega⟩) ?_
                simp only [Act.put, List.getElem_toArray, List.getElem_cons_succ, List.getElem_cons_zero, List.setIfInBounds_toArray, List.set_cons_zero, List.set_cons_succ]
                refine takeW (i := 14) (v := (.string ⟨U3.toArray⟩)) rfl (by kernel_rfl) (by kernel_rfl) (by kernel_rfl) rfl (fun _ _ _ h => h) (fun _ => HT0) (Or.inl ⟨by rfl, fun W _ => by go_simp <;> omega⟩) ?_
                simp only [Act.put, List.getElem_toArray, List.getElem_cons_succ, List.getElem_cons_zero, List.setIfInBounds_toArray, List.set_cons_zero, List.set_cons_succ]
                refine takeW (i := 15) (v := (.string ⟨U4.toArray⟩)) rfl (by kernel_rfl) (by kernel_rfl) (by kernel_rfl) rfl (fun _ _ _ h => h) (fun _ => HT0) (Or.inl ⟨by rfl, fun W _ => by go_simp <;> omega⟩) ?_
                simp only [Act.put, List.getElem_toArray, List.getElem_cons_succ, List.getElem_cons_zero, List.setIfInBounds_toArray, List.set_cons_zero, List.set_cons_succ]
                refine readyL (rs := [16]) (by kernel_rfl) (by simp) ?_
                refine AllL.cons rfl (fun K hK => ?_) AllL.nil
                try simp only [List.getElem_toArray, List.getElem_cons_succ, List.getElem_cons_zero]
                go_simp
                refine hK.out _ _ (vac (by kernel_rfl)) (fun _ => ?_)
                clear hK K
                try simp only [Act.put, List.getElem_toArray, List.getElem_cons_succ, List.getElem_cons_zero, List.setIfInBounds_toArray, List.set_cons_zero, List.set_cons_succ]
                refine doneL (by kernel_rfl) ?_ _
                go_wp2
                go_roundw
                case rel => exact ⟨k + 1, U4, by go_num, by omega, rfl, HU5, HBa.out.trans (HM4.out.mono HBa.out.size)⟩
                case measure => simp [intOf]; omega
            · refine AllL.cons rfl (fun K hK => ?_) AllL.nil
              try simp only [List.getElem_toArray, List.getElem_cons_succ, List.getElem_cons_zero]
              go_simp
              refine (HQv.out _).mono ?_
              rintro e W2_ ⟨rfl, hb1⟩
              have HM2 := hide (HM1.out.trans (hb1.mono HM1.out.size))
              clear hb1
              refine hK.out _ _ (fun _ => HTH.out _ HM2.out) (fun HTn => ?_)
              clear hK K HT0
              have HT0 := HTn (by kernel_rfl)
              clear HTn
              try simp only [Act.put, List.getElem_toArray, List.getElem_cons_succ, List.getElem_cons_zero, List.setIfInBounds_toArray, List.set_cons_zero, List.set_cons_succ]
              refine readyL (rs := [1]) (by kernel_rfl) (by simp) ?_
              refine AllL.cons rfl (fun K hK => ?_) AllL.nil
              try simp only [List.getElem_toArray, List.getElem_cons_succ, List.getElem_cons_zero]
              go_simp
              have HM3 := hide (HM2.out.alloc HM2.out.size (.cells #[.string ⟨#[40]⟩, .string ⟨#[32]⟩] 9))
              have HSb := hide (HSp.out W2_)
              obtain ⟨BL, hBL⟩ : ∃ BL, W2_.heap.size = BL := ⟨_, rfl⟩
              obtain ⟨W3_, hW3_⟩ : ∃ W, W2_.alloc (.cells #[.string ⟨#[40]⟩, .string ⟨#[32]⟩] 9) = W := ⟨_, rfl⟩
              rw [hBL] at HSb ⊢
              rw [hW3_] at HM3 HSb ⊢
              clear hW3_ hBL
              refine hK.out _ _ (fun _ => HTH.out _ HM3.out) (fun HTn => ?_)
              clear hK K HT0
              have HT0 := HTn (by kernel_rfl)
              clear HTn
              try simp only [Act.put, List.getElem_toArray, List.getElem_cons_succ, List.getElem_cons_zero, List.setIfInBounds_toArray, List.set_cons_zero, List.set_cons_succ]
              refine takeW (i := 4) (v := (.pointer (some ⟨BL, ix, none⟩))) rfl (by kernel_rfl) (by kernel_rfl) (by kernel_rfl) rfl (fun _ _ _ h => h) (fun _ => HT0) (Or.inl ⟨by rfl, fun W _ => by go_simp⟩) ?_
              simp only [Act.put, List.getElem_toArray, List.getElem_cons_succ, List.getElem_cons_zero, List.setIfInBounds_toArray, List.set_cons_zero, List.set_cons_succ]
              refine readyL (rs := [5]) (by kernel_rfl) (by simp) ?_
              refine AllL.cons rfl (fun K hK => ?_) AllL.nil
              have hcs := HSc.out _ _ HSb.out
              try simp only [List.getElem_toArray, List.getElem_cons_succ, List.getElem_cons_zero]
              go_simp
              clear hcs
              have HM4 := HM3
              refine hK.out _ _ (fun _ => HTH.out _ HM4.out) (fun HTn => ?_)
              clear hK K HT0
              have HT0 := HTn (by kernel_rfl)
              clear HTn
              try simp only [Act.put, List.getElem_toArray, List.getElem_cons_succ, List.getElem_cons_zero, List.setIfInBounds_toArray, List.set_cons_zero, List.set_cons_succ]
              refine takeW (i := 9) (v := (.string ⟨U1.toArray⟩)) rfl (by kernel_rfl) (by kernel_rfl) (by kernel_rfl) rfl (fun _ _ _ h => h) (fun _ => HT0) (Or.inl ⟨by rfl, fun W _ => by go_simp <;> omega⟩) ?_
              simp only [Act.put, List.getElem_toArray, List.getElem_cons_succ, List.getElem_cons_zero, List.setIfInBounds_toArray, List.set_cons_zero, List.set_cons_succ]
              refine takeW (i := 10) (v := (.string ⟨U2.toArray⟩)) rfl (by kernel_rfl) (by kernel_rfl) (by kernel_rfl) rfl (fun _ _ _ h => h) (fun _ => HT0) (Or.inl ⟨by rfl, fun W _ => by go_simp <;> omega⟩) ?_
              simp only [Act.put, List.getElem_toArray, List.getElem_cons_succ, List.getElem_cons_zero, List.setIfInBounds_toArray, List.set_cons_zero, List.set_cons_succ]
              refine takeW (i := 14) (v := (.string ⟨U3.toArray⟩)) rfl (by kernel_rfl) (by kernel_rfl) (by kernel_rfl) rfl (fun _ _ _ h => h) (fun _ => HT0) (Or.inl ⟨by rfl, fun W _ => by go_simp <;> omega⟩) ?_
              simp only [Act.put, List.getElem_toArray, List.getElem_cons_succ, List.getElem_cons_zero, List.setIfInBounds_toArray, List.set_cons_zero, List.set_cons_succ]
              refine takeW (i := 15) (v := (.string ⟨U4.toArray⟩)) rfl (by kernel_rfl) (by kernel_rfl) (by kernel_rfl) rfl (fun _ _ _ h => h) (fun _ => HT0) (Or.inl ⟨by rfl, fun W _ => by go_simp <;> omega⟩) ?_
              simp only [Act.put, List.getElem_toArray, List.getElem_cons_succ, List.getElem_cons_zero, List.setIfInBounds_toArray, List.set_cons_zero, List.set_cons_succ]
              refine readyL (rs := [16]) (by kernel_rfl) (by simp) ?_
              refine AllL.cons rfl (fun K hK => ?_) AllL.nil
              try simp only [List.getElem_toArray, List.getElem_cons_succ, List.getElem_cons_zero]
              go_simp
              refine hK.out _ _ (vac (by kernel_rfl)) (fun _ => ?_)
              clear hK K
              try simp only [Act.put, List.getElem_toArray, List.getElem_cons_succ, List.getElem_cons_zero, List.setIfInBounds_toArray, List.set_cons_zero, List.set_cons_succ]
              refine doneL (by kernel_rfl) ?_ _
              go_wp2
              go_roundw
              case rel => exact ⟨k + 1, U4, by go_num, by omega, rfl, HU5, HBa.out.trans (HM4.out.mono HBa.out.size)⟩
              case measure => simp [intOf]; omega
        · obtain rfl : np = k := by omega
          have cN : (⟨Y.toArray⟩ : ByteArray) ++ ⟨#[41]⟩ = ⟨X5.toArray⟩ := by
            rw [HX5.out, HPi.out, ← List.append_assoc, HYe.out, List.take_of_length_le (by rw [HNp.out]; exact Nat.le_refl _)]
            exact cat_lit _ [41]
          clear HYe
          go_wp2
          go_meet
          case rel => exact ⟨rfl, HBx⟩
  case rest =>
    obtain ⟨rfl, HBx⟩ := hcut
    have hW3 : ∃ W3, W3 = wc := ⟨_, rfl⟩
    obtain ⟨W3, rfl⟩ := hW3
    have hs3 := HBx.out.size
    have HK3 := hide (HK2.out.below HBx.out HK2.out.lt)
    have HB3 : Hid (Below w.heap.size w W3) := (HB1.out.trans (HB2.out.mono HB1.out.size)).trans (HBx.out.mono (by omega))
    clear b0 b1 b2 b3 b4 b5 b6 b7 b8 b9 b10 HBx HR2 HPA HPN
    obtain ⟨Y1, hY1⟩ : ∃ Y1 : List UInt8, Y1 = [32] ++ n1 := ⟨_, rfl⟩
    have cY1 : (⟨#[32]⟩ : ByteArray) ++ ⟨n1.toArray⟩ = ⟨Y1.toArray⟩ := by rw [hY1]; exact cat_lit [32] n1
    have zY1 := size_lit Y1
    have lY1 : Y1.length = 1 + n1.length := by
      rw [hY1, List.length_append]
      first | done | rfl
    have HY1 := hide hY1
    clear hY1
    obtain ⟨Y2, hY2⟩ : ∃ Y2 : List UInt8, Y2 = Y1 ++ [32] := ⟨_, rfl⟩
    have cY2 : (⟨Y1.toArray⟩ : ByteArray) ++ ⟨#[32]⟩ = ⟨Y2.toArray⟩ := by rw [hY2]; exact cat_lit Y1 [32]
    have zY2 := size_lit Y2
    have lY2 : Y2.length = Y1.length + 1 := by
      rw [hY2, List.length_append]
      first | done | rfl
    have HY2 := hide hY2
    clear hY2
    obtain ⟨Y3, hY3⟩ : ∃ Y3 : List UInt8, Y3 = Y2 ++ n2 := ⟨_, rfl⟩
    have cY3 : (⟨Y2.toArray⟩ : ByteArray) ++ ⟨n2.toArray⟩ = ⟨Y3.toArray⟩ := by rw [hY3]; exact cat_lit Y2 n2
    have zY3 := size_lit Y3
    have lY3 : Y3.length = Y2.length + n2.length := by
      rw [hY3, List.length_append]
      first | done | rfl
    have HY3 := hide hY3
    clear hY3
    obtain ⟨Y4, hY4⟩ : ∃ Y4 : List UInt8, Y4 = Y3 ++ [32] := ⟨_, rfl⟩
    have cY4 : (⟨Y3.toArray⟩ : ByteArray) ++ ⟨#[32]⟩ = ⟨Y4.toArray⟩ := by rw [hY4]; exact cat_lit Y3 [32]
    have zY4 := size_lit Y4
    have lY4 : Y4.length = Y3.length + 1 := by
      rw [hY4, List.length_append]
      first | done | rfl
    have HY4 := hide hY4
    clear hY4
    obtain ⟨Y5, hY5⟩ : ∃ Y5 : List UInt8, Y5 = Y4 ++ q3 := ⟨_, rfl⟩
    have cY5 : (⟨Y4.toArray⟩ : ByteArray) ++ ⟨q3.toArray⟩ = ⟨Y5.toArray⟩ := by rw [hY5]; exact cat_lit Y4 q3
    have zY5 := size_lit Y5
    have lY5 : Y5.length = Y4.length + q3.length := by
      rw [hY5, List.length_append]
      first | done | rfl
    have HY5 := hide hY5
    clear hY5
    obtain ⟨Y6, hY6⟩ : ∃ Y6 : List UInt8, Y6 = Y5 ++ [32] := ⟨_, rfl⟩
    have cY6 : (⟨Y5.toArray⟩ : ByteArray) ++ ⟨#[32]⟩ = ⟨Y6.toArray⟩ := by rw [hY6]; exact cat_lit Y5 [32]
    have zY6 := size_lit Y6
    have lY6 : Y6.length = Y5.length + 1 := by
      rw [hY6, List.length_append]
      first | done | rfl
    have HY6 := hide hY6
    clear hY6
    obtain ⟨Y7, hY7⟩ : ∃ Y7 : List UInt8, Y7 = Y6 ++ dg := ⟨_, rfl⟩
    have cY7 : (⟨Y6.toArray⟩ : ByteArray) ++ ⟨dg.toArray⟩ = ⟨Y7.toArray⟩ := by rw [hY7]; exact cat_lit Y6 dg
    have zY7 := size_lit Y7
    have lY7 : Y7.length = Y6.length + dg.length := by
      rw [hY7, List.length_append]
      first | done | rfl
    have HY7 := hide hY7
    clear hY7
    obtain ⟨X6, hX6⟩ : ∃ X6 : List UInt8, X6 = X5 ++ Y7 := ⟨_, rfl⟩
    have cX6 : (⟨X5.toArray⟩ : ByteArray) ++ ⟨Y7.toArray⟩ = ⟨X6.toArray⟩ := by rw [hX6]; exact cat_lit X5 Y7
    have zX6 := size_lit X6
    have lX6 : X6.length = X5.length + Y7.length := by
      rw [hX6, List.length_append]
      first | done | rfl
    have HX6 := hide hX6
    clear hX6
    have bY1 : Y1.length ≤ 100000000000000 := by omega
    have bY2 : Y2.length ≤ 100000000000000 := by omega
    have bY3 : Y3.length ≤ 100000000000000 := by omega
    have bY4 : Y4.length ≤ 100000000000000 := by omega
    have bY5 : Y5.length ≤ 100000000000000 := by omega
    have bY6 : Y6.length ≤ 100000000000000 := by omega
    have bY7 : Y7.length ≤ 100000000000000 := by omega
    have bX6 : X6.length ≤ 100000000000000 := by omega
    obtain ⟨b0, b1, b2, b3, b4, b5, b6, b7, b8, b9, b10⟩ := blk11 HK3.out
    have hn0 := ext_some W3
    have m3 : ∀ u : Ext W3, u.w.cell? ⟨w.heap.size, 3, none⟩ = some (.string ⟨h.id.toArray⟩) := fun u => (ext_cell W3 u _ _ (by omega)).trans b3
    have m4 : ∀ u : Ext W3, u.w.cell? ⟨w.heap.size, 4, none⟩ = some (.string ⟨h.desc.toArray⟩) := fun u => (ext_cell W3 u _ _ (by omega)).trans b4
    have m5 : ∀ u : Ext W3, u.w.cell? ⟨w.heap.size, 5, none⟩ = some (.string ⟨h.enc.toArray⟩) := fun u => (ext_cell W3 u _ _ (by omega)).trans b5
    have m7 : ∀ u : Ext W3, u.w.cell? ⟨w.heap.size, 7, none⟩ = some (.int .i64 h.body) := fun u => (ext_cell W3 u _ _ (by omega)).trans b7
    have m8 : ∀ u : Ext W3, u.w.cell? ⟨w.heap.size, 8, none⟩ = some (.int .i64 h.end') := fun u => (ext_cell W3 u _ _ (by omega)).trans b8
    clear b0 b1 b2 b3 b4 b5 b6 b7 b8 b9 b10
    go_wp2_with fail
    refine wp_region_ext (by kernel_rfl) (by kernel_rfl) ?_
    repeat (go_big_quiet_step ((first | (go_at_call 35; exact ext_call (HQ.out _ _ (by omega))) | (go_at_call 36; exact ext_call (HN.out _ _ (by omega))) | (go_at_call 37; exact ext_call (HDg.out _)))))
    refine wpQuiet_nil ?_
    rintro w4 ⟨⟨_, hb4⟩, rfl⟩
    have HB4 := hide (HB3.out.trans (hb4.mono HB3.out.size))
    have HK4 := hide (HK3.out.below hb4 HK3.out.lt)
    obtain ⟨b0, b1, b2, b3, b4, b5, b6, b7, b8, b9, b10⟩ := blk11 HK4.out
    rw [HLi.out] at b9
    clear m3 m4 m5 m7 m8 hn0 hb4 cY1 cY2 cY3 cY4 cY5 cY6 cY7 cX6
    by_cases hty : h.type = tText
    · have hty' : (h.type == [116, 101, 120, 116]) = true := by rw [beq_iff_eq]; exact hty
      have hts : ts = [32] ++ dl := by rw [← HTs.out, if_pos hty]
      have htl : ts.length = 1 + dl.length := by rw [hts, List.length_append]; rfl
      have HTe := hide hts
      clear hty hts
      obtain ⟨Z1, hZ1⟩ : ∃ Z1 : List UInt8, Z1 = [32] ++ dl := ⟨_, rfl⟩
      have cZ1 : (⟨#[32]⟩ : ByteArray) ++ ⟨dl.toArray⟩ = ⟨Z1.toArray⟩ := by rw [hZ1]; exact cat_lit [32] dl
      have zZ1 := size_lit Z1
      have lZ1 : Z1.length = 1 + dl.length := by
        rw [hZ1, List.length_append]
        first | done | rfl
      have HZ1 := hide hZ1
      clear hZ1
      obtain ⟨X7, hX7⟩ : ∃ X7 : List UInt8, X7 = X6 ++ Z1 := ⟨_, rfl⟩
      have cX7 : (⟨X6.toArray⟩ : ByteArray) ++ ⟨Z1.toArray⟩ = ⟨X7.toArray⟩ := by rw [hX7]; exact cat_lit X6 Z1
      have zX7 := size_lit X7
      have lX7 : X7.length = X6.length + Z1.length := by
        rw [hX7, List.length_append]
        first | done | rfl
      have HX7 := hide hX7
      clear hX7
      obtain ⟨X8, hX8⟩ : ∃ X8 : List UInt8, X8 = X7 ++ [41] := ⟨_, rfl⟩
      have cX8 : (⟨X7.toArray⟩ : ByteArray) ++ ⟨#[41]⟩ = ⟨X8.toArray⟩ := by rw [hX8]; exact cat_lit X7 [41]
      have zX8 := size_lit X8
      have lX8 : X8.length = X7.length + 1 := by
        rw [hX8, List.length_append]
        first | done | rfl
      have HX8 := hide hX8
      clear hX8
      have bZ1 : Z1.length ≤ 100000000000000 := by omega
      have bX7 : X7.length ≤ 100000000000000 := by omega
      have bX8 : X8.length ≤ 100000000000000 := by omega
      have HF : Hid (X8 = 40 :: (q1 ++ [32] ++ q2 ++ [32] ++ pi ++ ([32] ++ n1 ++ [32] ++ n2 ++ [32] ++ q3 ++ [32] ++ dg) ++ ts ++ [41])) := by
        show _ = _
        rw [HX8.out, HX7.out, HX6.out, HX5.out, HX4.out, HX3.out, HX2.out, HX1.out, HY7.out, HY6.out, HY5.out, HY4.out, HY3.out, HY2.out, HY1.out, HZ1.out, HTe.out]
        simp
      go_wp2_with fail
      refine (HDl.out _).mono ?_
      rintro e w5 ⟨rfl, hb5⟩
      have HB5 := hide (HB4.out.trans (hb5.mono HB4.out.size))
      clear hb5
      go_wp2
      go_ret
      exact ⟨by rw [HF.out]; rfl, HB5.out⟩
    · have hty' : (h.type == [116, 101, 120, 116]) = false := by rw [beq_eq_false_iff_ne]; exact hty
      have hts : ts = [] := by rw [← HTs.out, if_neg hty]
      have HTe := hide hts
      clear hty hts
      obtain ⟨X8, hX8⟩ : ∃ X8 : List UInt8, X8 = X6 ++ [41] := ⟨_, rfl⟩
      have cX8 : (⟨X6.toArray⟩ : ByteArray) ++ ⟨#[41]⟩ = ⟨X8.toArray⟩ := by rw [hX8]; exact cat_lit X6 [41]
      have zX8 := size_lit X8
      have lX8 : X8.length = X6.length + 1 := by
        rw [hX8, List.length_append]
        first | done | rfl
      have HX8 := hide hX8
      clear hX8
      have bX8 : X8.length ≤ 100000000000000 := by omega
      have HF : Hid (X8 = 40 :: (q1 ++ [32] ++ q2 ++ [32] ++ pi ++ ([32] ++ n1 ++ [32] ++ n2 ++ [32] ++ q3 ++ [32] ++ dg) ++ ts ++ [41])) := by
        show _ = _
        rw [HX8.out, HX6.out, HX5.out, HX4.out, HX3.out, HX2.out, HX1.out, HY7.out, HY6.out, HY5.out, HY4.out, HY3.out, HY2.out, HY1.out, HTe.out]
        simp
      go_wp2
      go_ret
      exact ⟨by rw [HF.out]; rfl, HB4.out⟩
set_option maxRecDepth 20000 in
set_option maxHeartbeats 2000000 in
theorem rtext_many (n : Nat) (IH : ∀ (p : Part) (v : Value) (w : World), PA n (fun g => 0 ≤ g) w v p → OkP p → (textP p).length ≤ 100000000000000 → Calls Tryz.prog 13 #[v] w fun e w' => e = .returned (.string ⟨(textP p).toArray⟩) ∧ Below w.heap.size w w') (h : PH) (Ap : Option Addr) (np cp : Nat) (A : Option Addr) (c : Nat) (ks : List Part) (hne : ks ≠ []) (w : World)
    (hk : KidAt n w A ks) (ho : OkP (.mk h ks)) (hl : (textP (.mk h ks)).length ≤ 100000000000000) :
    Calls Tryz.prog 13 #[.agg (phA h (.slice Ap np cp) (.slice A ks.length c))] w fun e w' => e = .returned (.string ⟨(textP (.mk h ks)).toArray⟩) ∧ Below w.heap.size w w' := by
  have hX : textP (.mk h ks) = 40 :: (textL ks ++ (32 :: (quoI h.sub ++ [41]))) := by
    rw [textP, if_neg (by simpa using hne)]
  have hXl := congrArg List.length hX
  simp only [List.length_append, List.length_cons, List.length_nil] at hXl
  have hl2 : (textL ks).length + (quoI h.sub).length + 3 ≤ 100000000000000 := by omega
  have hmb : ks.length ≤ 100000000000000 := by have := textL_ge ks; omega
  rw [hX]
  clear hX hXl hl
  have h0 : 0 < ks.length := List.length_pos_iff.2 hne
  obtain ⟨m, hm⟩ : ∃ m, ks.length = m := ⟨_, rfl⟩
  have HM := hide hm
  rw [hm] at h0 hmb ⊢
  have HK1 := hide (Blk.new w (phA h (.slice Ap np cp) (.slice A m c)) 40)
  have HA := hide ((Below.refl w.heap.size w).alloc (Nat.le_refl _) (.cells (phA h (.slice Ap np cp) (.slice A m c)) 40))
  obtain ⟨W1, hW1⟩ : ∃ W1, w.alloc (.cells (phA h (.slice Ap np cp) (.slice A m c)) 40) = W1 := ⟨_, rfl⟩
  rw [hW1] at HK1 HA
  obtain ⟨c0, c1, c2, c3, c4, c5, c6, c7, c8, c9, c10⟩ := blk11 HK1.out
  have HQ := hide (fun W => rquote_any h.sub W ho.h.sub)
  have HKd := hide hk
  have HOk := hide ho.kids
  have HIH := hide IH
  have hm0 : (m : Int) > 0 := by omega
  generalize quoI h.sub = q at *
  have HTl := hide (textL_take ks)
  have HTb := hide (textL_le ks)
  unfold phA at hW1
  clear hk ho IH hm
  go_enter Tryz.func13, Tryz.ntmps13
  unfold phA
  go_wp2
  clear c0 c1 c2 c3 c4 c5 c6 c7 c8 c9 c10 hW1 hm0
  go_loopw [16, 3] (fun v16 v3 wx => ∃ (i : Nat) (Y : List UInt8), v16 = .int .i64 i ∧ v3 = .string ⟨Y.toArray⟩ ∧ i ≤ m ∧ Hid (Y = 40 :: textL (ks.take i)) ∧ Hid (Below W1.heap.size W1 wx)) (fun v _ _ => m - (intOf v).toNat)
  case atStart => exact ⟨0, [40], rfl, rfl, Nat.zero_le _, by show _ = _; simp [textL], Below.refl _ _⟩
  case round =>
    obtain ⟨i, Y, rfl, rfl, him, HYe, HB⟩ := hrel
    have hsY := size_lit Y
    have HBw := hide (HA.out.trans (HB.out.mono HA.out.size))
    by_cases hlt : i < m
    · have hlt' : (i : Int) < m := by omega
      have hip : i < ks.length := by rw [HM.out]; exact hlt
      obtain ⟨g, o, vs, rfl, _, hgw, hvs, hcs, hpa⟩ := HKd.out i hip
      have HOk1 := hide (HOk.out _ (List.getElem_mem hip))
      have hTl := HTl.out i hip
      have hTb := HTb.out i hip
      generalize ks[i] = kid at *
      obtain ⟨A1, q1, A2, q2, hvs2⟩ := hpa.form
      injection hvs2 with hvs2
      subst hvs2
      obtain ⟨n1, hn1⟩ : ∃ n, kid.h.params.length = n := ⟨_, rfl⟩
      obtain ⟨n2, hn2⟩ : ∃ n, kid.kids.length = n := ⟨_, rfl⟩
      rw [hn1, hn2] at hcs hpa
      obtain ⟨H, hH⟩ : ∃ H, kid.h = H := ⟨_, rfl⟩
      rw [hH] at hcs hpa
      obtain ⟨c0, c1, c2, c3, c4, c5, c6, c7, c8, c9, c10⟩ := row11 (fun j hj => (HBw.out.cell (p := ⟨g, o + i * 11 + j, none⟩) hgw).trans (hcs j hj))
      have hAl := (Below.refl wr.heap.size wr).alloc (Nat.le_refl _) (.cells (phA H (.slice A1 n1 q1) (.slice A2 n2 q2)) 40)
      have HAl := hide (HB.out.trans (hAl.mono HB.out.size))
      have HCw := hide (HIH.out kid _ _ (hpa.below (HBw.out.trans (hAl.mono HBw.out.size))) HOk1.out (by omega))
      obtain ⟨tk, htk⟩ : ∃ tk, textP kid = tk := ⟨_, rfl⟩
      rw [htk] at HCw hTl hTb
      obtain ⟨Z, hZ⟩ : ∃ Z : List UInt8, Z = Y ++ tk := ⟨_, rfl⟩
      have cZ : (⟨Y.toArray⟩ : ByteArray) ++ ⟨tk.toArray⟩ = ⟨Z.toArray⟩ := by rw [hZ]; exact cat_lit Y tk
      have hsk := size_lit tk
      have hYl : Y.length = 1 + (textL (ks.take i)).length := by rw [HYe.out, List.length_cons]; omega
      have hYb : Y.length ≤ 100000000000000 := by omega
      have hkb : tk.length ≤ 100000000000000 := by omega
      have HZe : Hid (Z = 40 :: textL (ks.take (i + 1))) := by
        show _ = _
        rw [hZ, hTl, HYe.out, List.cons_append]
      unfold phA at HCw
      clear hcs hpa hvs hTl hTb HOk1 hn1 hn2 hH hAl HKd HBw hZ hYl htk HYe
      go_wp2_with fail
      refine HCw.out.mono ?_
      rintro e w5 ⟨rfl, hw5⟩
      have HB5 := hide (HAl.out.trans (hw5.mono HAl.out.size))
      clear hw5 c0 c1 c2 c3 c4 c5 c6 c7 c8 c9 c10 HCw
      go_wp2
      go_roundw
      case rel => exact ⟨i + 1, Z, by go_num, rfl, by omega, HZe, HB5⟩
      case measure => simp [intOf]; omega
    · obtain rfl : m = i := by omega
      rw [List.take_of_length_le (by rw [HM.out]; exact Nat.le_refl _)] at HYe
      have hYl : Y.length = 1 + (textL ks).length := by rw [HYe.out, List.length_cons]; omega
      have hK2 : Blk wr w.heap.size (phA h (.slice Ap np cp) (.slice A m c)) 40 := (HB.out.block _ HK1.out.lt).trans HK1.out
      have b1 := (blk11 hK2).2.1
      have hsq := size_lit q
      obtain ⟨V1, hV1⟩ : ∃ V1 : List UInt8, V1 = Y ++ [32] := ⟨_, rfl⟩
      have cV1 : (⟨Y.toArray⟩ : ByteArray) ++ ⟨#[32]⟩ = ⟨V1.toArray⟩ := by rw [hV1]; exact cat_lit Y [32]
      have zV1 := size_lit V1
      have lV1 : V1.length = Y.length + 1 := by
        rw [hV1, List.length_append]
        first | done | rfl
      have HV1 := hide hV1
      clear hV1
      obtain ⟨V2, hV2⟩ : ∃ V2 : List UInt8, V2 = V1 ++ q := ⟨_, rfl⟩
      have cV2 : (⟨V1.toArray⟩ : ByteArray) ++ ⟨q.toArray⟩ = ⟨V2.toArray⟩ := by rw [hV2]; exact cat_lit V1 q
      have zV2 := size_lit V2
      have lV2 : V2.length = V1.length + q.length := by
        rw [hV2, List.length_append]
        first | done | rfl
      have HV2 := hide hV2
      clear hV2
      obtain ⟨V3, hV3⟩ : ∃ V3 : List UInt8, V3 = V2 ++ [41] := ⟨_, rfl⟩
      have cV3 : (⟨V2.toArray⟩ : ByteArray) ++ ⟨#[41]⟩ = ⟨V3.toArray⟩ := by rw [hV3]; exact cat_lit V2 [41]
      have zV3 := size_lit V3
      have lV3 : V3.length = V2.length + 1 := by
        rw [hV3, List.length_append]
        first | done | rfl
      have HV3 := hide hV3
      clear hV3
      have bV1 : V1.length ≤ 100000000000000 := by omega
      have bV2 : V2.length ≤ 100000000000000 := by omega
      have bV3 : V3.length ≤ 100000000000000 := by omega
      have HF : Hid (V3 = 40 :: (textL ks ++ 32 :: (q ++ [41]))) := by
        show _ = _
        rw [HV3.out, HV2.out, HV1.out, HYe.out]
        simp
      clear hK2 hYl HYe
      go_wp2_with fail
      refine (HQ.out _).mono ?_
      rintro e w5 ⟨rfl, hw5⟩
      have HB5 := hide (HBw.out.trans (hw5.mono HBw.out.size))
      clear hw5
      go_wp2
      go_ret
      exact ⟨by rw [HF.out]; rfl, HB5.out⟩
theorem rtext10_any : ∀ (n : Nat) (p : Part) (v : Value) (w : World), PA n (fun g => 0 ≤ g) w v p → OkP p → (textP p).length ≤ 100000000000000 → Calls Tryz.prog 13 #[v] w fun e w' => e = .returned (.string ⟨(textP p).toArray⟩) ∧ Below w.heap.size w w'
  | 0, p, v, w, hp, _, _ => hp.elim
  | n + 1, p, v, w, hp, ho, hl => by
    cases p with
    | mk h ks =>
      obtain ⟨vp, A, c, rfl, hr, hk⟩ := hp
      obtain ⟨Ap, cp, rfl⟩ := hr.form
      by_cases hne : ks = []
      · subst hne
        exact rtext_leaf h Ap cp A c w hr.reads ho.h hl
      · exact rtext_many n (rtext10_any n) h Ap _ cp A c ks hne w hk ho hl
end Go.Proofs.YtegplihhbdmnbaaGreatDoor
