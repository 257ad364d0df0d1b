/- Package post: Step, where messages are copied. -/
/- The law of copies: what Step does at its states. -/
/- The document's small functions of layer 15: in, moment, has, Find, User. -/
import Derived.Test.YtdbmaobjikjifaaGreatDoorRU41
import Derived.Test.YtdbmaobjikjifaaGreatDoorRU02
import Derived.Test.YtdbmaobjikjifaaGreatDoorRU38
import Derived.Test.YtdbmaobjikjifaaGreatDoorRU03
import Derived.Test.YtdbmaobjikjifaaGreatDoorRU04
import Derived.Test.YtdbmaobjikjifaaGreatDoorRU06
section
set_option linter.unusedVariables false
set_option linter.unusedSimpArgs false
namespace Go.Proofs.YtdbmaobjikjifaaGreatDoorR
open Go.RowKit Go.Shelf
/-- What a copy puts. -/
def cpM (s : Stt) (k : Nat) (hk : k < s.boxes.length) (us : List Int) : List Msg := atM s.boxes[k].msgs (mnt s.boxes[k].msgs us s.boxes[k].msgs.length)
set_option maxHeartbeats 4000000 in
theorem pstepCopy {w : World} {sv av : Value} {s : Stt} {a : Ac} {ea : Nat → Addr} (hE : Errs w ea) (hS : StR w sv s) (hA : AcR w av a) (hd : BdS s) (hform : poForm s = true) (hk : a.kind = 7) (h2 : a.name.length ≤ 1000000) (h3 : a.dst.length ≤ 1000000) (hq : qNames (paOf s (nmA a)) = 0) {k m : Nat} (hkk : k < s.boxes.length) (hmm : m < s.boxes.length) (hfi : fiP (poFind s.boxes a.user (nmP a.name)) = (k : Int)) (hfm : fiP (poFind s.boxes a.user (nmP a.dst)) = (m : Int)) (hb : s.boxes.length ≤ 24) (h100 : s.boxes[k].msgs.length ≤ 100) (hui : a.uids.length ≤ 1000000) (hs : ∀ i j (hi : i < s.boxes[k].msgs.length) (hj : j < s.boxes[k].msgs.length), i < j → (s.boxes[k].msgs[i]).uid < (s.boxes[k].msgs[j]).uid) (hml : s.boxes[m].msgs.length + 100 ≤ 1000000) (hnx : 0 ≤ s.boxes[m].next ∧ s.boxes[m].next ≤ 4000000000) (hroom : poRoom (poPut s.boxes[m] (cpM s k hkk a.uids)).1 = true) :
    Calls Tryz.prog 8 #[sv, av] w fun e w' => ∃ tv uv n t us, e = .returned (.tuple #[tv, .agg #[uv, .int .i64 n], .nilIface]) ∧ Below w.heap.size w w' ∧ (t = poSet s m (poPut s.boxes[m] (cpM s k hkk a.uids)).1 ∧ us = (poPut s.boxes[m] (cpM s k hkk a.uids)).2 ∧ n = 0) ∧ (∀ w2, Mvs (fun k => k < w.heap.size) w' w2 → StR w2 tv t ∧ RdE 1 IntAt w2 uv us) := by
  refine pstep_yes hE hS hA hd hform (fun t us n => t = poSet s m (poPut s.boxes[m] (cpM s k hkk a.uids)).1 ∧ us = (poPut s.boxes[m] (cpM s k hkk a.uids)).2 ∧ n = 0) ?_
  intro w0 W X p hb0 hAS hst hpa hus hn
  have hE0 := hE.below hb0
  have hl : p.lb.length = s.boxes.length := by rw [← hst, boxes_len]
  have hkd : dmL (.pointer (some ⟨X, 0, none⟩)) p.a.kind = .tuple #[.agg #[(.func (.func 50) #[.pointer (some ⟨X, 0, none⟩)] #[]), (.func (.func 56) #[.pointer (some ⟨X, 0, none⟩)] #[])], .bool true] := by
    rw [hpa, hk]
    rfl
  have e1 : (nmd p).st = (paOf s (nmA a)).st := by rw [nmd_st, paOf_st, hst]
  have e2 : (nmd p).a = (paOf s (nmA a)).a := by rw [nmd_a, paOf_a, hpa]
  have ea1 : (nmd p).a = nmA a := by rw [nmd_a, hpa]
  have hqn : qNames (nmd p) = 0 := by rw [qNames_eq e1 e2, hq]
  have hkp : k < (nmd p).lb.length := by show k < p.lb.length; omega
  have hbk : (nmd p).lb[k].b = s.boxes[k] := by
    have h1 : p.lb.map BL.b = s.boxes := congrArg Stt.boxes hst
    show p.lb[k].b = _
    simp only [← h1, List.getElem_map]
    rfl
  have hmp : m < (nmd p).lb.length := by show m < p.lb.length; omega
  have hbm : (nmd p).lb[m].b = s.boxes[m] := by
    have h1 : p.lb.map BL.b = s.boxes := congrArg Stt.boxes hst
    show p.lb[m].b = _
    simp only [← h1, List.getElem_map]
    rfl
  have hau : (nmd p).a.uids = a.uids := by rw [ea1]; rfl
  have hus' : (nmd p).us = [] := hus
  have hn' : (nmd p).n = 0 := hn
  refine (pact_yes hAS hE0 (by rw [hpa]; exact h2) (by rw [hpa]; exact h3) hkd (enters_of Tryz.func50 (by kernel_rfl) rfl) (enters_of Tryz.func56 (by kernel_rfl) rfl) (fun v w' => v = .nilIface ∧ ∃ t us n, FS w0 w' X t us n ∧ (t = poSet s m (poPut s.boxes[m] (cpM s k hkk a.uids)).1 ∧ us = (poPut s.boxes[m] (cpM s k hkk a.uids)).2 ∧ n = 0)) (fun W hW => ?_) (fun W hW => ?_)).mono ?_
  · refine (paskNames_any hW hE0 (by show p.lb.length ≤ _; omega)).mono ?_
    rintro e w' ⟨rfl, hb⟩
    rw [hqn]
    exact ⟨rfl, hb⟩
  · refine pcopy_any hW hE0 (by show p.lb.length ≤ _; omega) hkp hmp (by rw [e1, paOf_st, ea1]; exact hfi) (by rw [e1, paOf_st, ea1]; exact hfm) (by rw [hbk]; exact h100) (by rw [hau]; exact hui) (by rw [hbk]; exact hs) (by rw [hbm]; exact hml) (by rw [hbm]; exact hnx) (by rw [hus']; simp) (by rw [hbk]; exact fun x hx => (hd.bx _ (List.getElem_mem hkk)).body x hx) (by rw [hbm]; exact fun x hx => (hd.bx _ (List.getElem_mem hmm)).body x hx) _ ?_
    intro w' v G vu gu hR
    rw [hbk, hbm, hau] at hR ⊢
    change AS w0 w' X (PA.putP _ m ⟨(poPut s.boxes[m] (cpM s k hkk a.uids)).1, v, G⟩ (_ ++ (poPut s.boxes[m] (cpM s k hkk a.uids)).2) vu gu) at hR
    change (poRoom (poPut s.boxes[m] (cpM s k hkk a.uids)).1 = true → _) ∧ (poRoom (poPut s.boxes[m] (cpM s k hkk a.uids)).1 = false → _)
    refine ⟨fun _ => ⟨rfl, _, _, _, hR.fs, ?_, ?_, hn'⟩, fun hc => by rw [hroom] at hc; cases hc⟩
    · rw [putP_st]
      rw [e1, paOf_st]
    · show (nmd p).us ++ _ = _
      rw [hus', List.nil_append]
  · rintro e w' ⟨v, rfl, rfl, t, us, n, hf, hr⟩
    exact ⟨rfl, t, us, n, hf, hr⟩
end Go.Proofs.YtdbmaobjikjifaaGreatDoorR

end
section
set_option linter.unusedVariables false
set_option linter.unusedSimpArgs false
namespace Go.Proofs.YtdbmaobjikjifaaGreatDoorR
open Go.RowKit Go.Shelf
theorem at_mnt (xs : List Msg) (us : List Int) : ∀ n, n ≤ xs.length → atM xs (mnt xs us n) = (xs.take n).filter fun m => decide (m.uid ∈ us)
  | 0, _ => by simp [mnt, atM]
  | n + 1, h => by
    have ih := at_mnt xs us n (by omega)
    have h1 : n < xs.length := h
    rw [mnt_succ xs us n h1, List.take_succ_eq_append_getElem h1, List.filter_append, ← ih]
    unfold atM
    rw [List.map_append]
    congr 1
    by_cases hm : xs[n].uid ∈ us <;> simp [hm, List.getElem?_eq_getElem h1]
def inbL : List UInt8 := [105, 110, 98, 111, 120]
def ckA0 : Ac := ⟨1, 0, 0, 0, 0, 0, toU, [], [], [], [], []⟩
def ckA (k : Nat) (b : List UInt8) : Ac := ⟨6, 0, 0, 0, ((k &&& 31 : Nat) : Int), (k : Int), inboxU, [], [], b, [], []⟩
def ckZ (us : List Int) : Ac := ⟨7, 0, 0, 0, 0, 0, inbL, toU, [], [], us, []⟩
set_option maxRecDepth 100000 in
theorem ck_n1 : nmP inboxU = inboxU := by kernel_rfl
set_option maxRecDepth 100000 in
theorem ck_n2 : nmP inbL = inboxU := by kernel_rfl
set_option maxRecDepth 100000 in
theorem ck_n3 : nmP toU = toU := by kernel_rfl
set_option maxRecDepth 100000 in
theorem ck_q0 : qName (paOf alS0 (nmA ckA0)) = 0 := by kernel_rfl
set_option maxRecDepth 100000 in
theorem ck_c0 : qCreate (paOf alS0 (nmA ckA0)) = 0 := by kernel_rfl
theorem ck_bd (bs : List (List UInt8)) (hl : bs.length ≤ 20) (hb : ∀ b ∈ bs, b.length ≤ 500) : BdS (cpS bs) := ⟨by simp [cpS], by
  intro b h
  simp only [cpS, List.mem_cons, List.not_mem_nil, or_false] at h
  rcases h with rfl | rfl
  · refine ⟨by show inboxU.length ≤ _; simp [inboxU], by show (cpFrom 0 bs).length ≤ _; rw [cpFrom_len]; omega, fun m hm => ?_⟩
    have := cpFrom_body bs 0 hb m hm
    omega
  · exact ⟨by show toU.length ≤ _; simp [toU], by show 0 ≤ _; omega, by intro m hm; cases hm⟩, by simp [cpS], by simp [cpS], by simp [cpS], by simp [cpS]⟩
theorem ck_create {w : World} {sv av : Value} {ea : Nat → Addr} (hE : Errs w ea) (hS : StR w sv alS0) (hA : AcR w av ckA0) :
    Calls Tryz.prog 8 #[sv, av] w fun e w' => ∃ A1 c1 A2 c2 A3 c3 A c n, e = .returned (.tuple #[.agg #[.slice A1 2 c1, .slice A2 0 c2, .slice A3 0 c3, .int .i64 3, .int .i64 1], .agg #[.slice A 0 c, .int .i64 n], .nilIface]) ∧ Below w.heap.size w w' ∧ (∀ w2, Mvs (fun k => k < w.heap.size) w' w2 → StR w2 (.agg #[.slice A1 2 c1, .slice A2 0 c2, .slice A3 0 c3, .int .i64 3, .int .i64 1]) (cpS [])) := by
  refine (pstepCreate hE hS hA al_bd0 al_form0 rfl (by simp [ckA0, toU]) (by simp [ckA0]) ck_q0 ck_c0 (by simp [alS0]) (by simp [alS0])).mono ?_
  rintro e w' ⟨tv, uv, n, t, us, rfl, hb, ⟨h1, h2, h3, h4, h5, h6, rfl, rfl⟩, hsu⟩
  obtain ⟨tb, ts, tq, tv', ti⟩ := t
  have h7 : (alS0.boxes ++ [⟨ckA0.user, nmP ckA0.name, alS0.nextValid, 1, []⟩] : List Bx) = [cpB [], cpT] := by
    show [_, (⟨0, nmP toU, 2, 1, []⟩ : Bx)] = _
    rw [ck_n3]
    rfl
  rw [h7] at h5
  have h8 := two_sorted h5 h6 (by kernel_rfl)
  dsimp only at h1 h2 h3 h4 h8
  subst h1 h2 h3 h4 h8
  obtain ⟨hs, hu⟩ := hsu w' (Mvs.refl _ _)
  obtain ⟨A, c, rfl⟩ := hu.form
  obtain ⟨bv, sv', qv, rfl, k1, k2, k3⟩ := hs
  obtain ⟨A1, c1, rfl⟩ := k1.form
  obtain ⟨A2, c2, rfl⟩ := k2.form
  obtain ⟨A3, c3, rfl⟩ := k3.form
  exact ⟨A1, c1, A2, c2, A3, c3, A, c, 0, rfl, hb, fun w2 hw2 => (hsu w2 hw2).1⟩
theorem ck_fI (bs : List (List UInt8)) : poFind (cpS bs).boxes 0 inboxU = some 0 := cp_fI _ _ rfl rfl
theorem ck_fT (bs : List (List UInt8)) : poFind (cpS bs).boxes 0 toU = some 1 := cp_fT _ _ _ rfl rfl rfl
theorem ck_append {w : World} {sv av : Value} {ea : Nat → Addr} {bs : List (List UInt8)} {b : List UInt8} (hE : Errs w ea) (hS : StR w sv (cpS bs)) (hA : AcR w av (ckA bs.length b)) (hl : bs.length < 20) (hb : ∀ x ∈ bs, x.length ≤ 500) (hbl : b.length ≤ 500) :
    Calls Tryz.prog 8 #[sv, av] w fun e w' => ∃ A1 c1 A2 c2 A3 c3 A c n, e = .returned (.tuple #[.agg #[.slice A1 2 c1, .slice A2 0 c2, .slice A3 0 c3, .int .i64 3, .int .i64 1], .agg #[.slice A 1 c, .int .i64 n], .nilIface]) ∧ Below w.heap.size w w' ∧ (∀ w2, Mvs (fun k => k < w.heap.size) w' w2 → StR w2 (.agg #[.slice A1 2 c1, .slice A2 0 c2, .slice A3 0 c3, .int .i64 3, .int .i64 1]) (cpS (bs ++ [b])) ∧ RdE 1 IntAt w2 (.slice A 1 c) [(bs.length : Int) + 1]) := by
  have hn : nmP (ckA bs.length b).name = inboxU := ck_n1
  have hq : qBox (paOf (cpS bs) (nmA (ckA bs.length b))) = 0 := by
    have e1 : (paOf (cpS bs) (nmA (ckA bs.length b))).st = cpS bs := paOf_st _ _
    have e2 : (paOf (cpS bs) (nmA (ckA bs.length b))).a.name = inboxU := hn
    have e3 : (paOf (cpS bs) (nmA (ckA bs.length b))).a.user = 0 := rfl
    have e4 : qName (paOf (cpS bs) (nmA (ckA bs.length b))) = 0 := by
      unfold qName
      rw [e1, e2, e3, cp_user]
      rfl
    unfold qBox
    rw [e4, e1, e2, e3, ck_fI]
    rfl
  have hb' : ∀ x ∈ bs ++ [b], x.length ≤ 500 := fun x hx => by
    rcases List.mem_append.1 hx with hx | hx
    · exact hb x hx
    · rw [List.mem_singleton.1 hx]; exact hbl
  have hP : poPut ((cpS bs).boxes[0]'(by simp [cpS])) [addM (ckA bs.length b)] = (cpB (bs ++ [b]), [(bs.length : Int) + 1]) := cp_put bs b
  have h31 : bs.length &&& 31 ≤ 31 := Nat.and_le_right
  refine (pstepAppend hE hS hA (ck_bd bs (by omega) hb) (cp_form encP_le bs (by omega) hb) rfl (by simp [ckA, inboxU]) (by simp [ckA]) hq (k := 0) (by simp [cpS]) (by rw [hn]; show fiP (poFind (cpS bs).boxes 0 inboxU) = _; rw [ck_fI]; rfl) (by unfold poIn; simp only [Bool.and_eq_true, decide_eq_true_eq]; exact ⟨Int.natCast_nonneg _, by show ((bs.length &&& 31 : Nat) : Int) ≤ 31; omega⟩) (by unfold poMom poIn; simp only [Bool.and_eq_true, decide_eq_true_eq]; exact ⟨Int.natCast_nonneg _, by show (bs.length : Int) ≤ 4102444799; omega⟩) (by show b.length ≤ _; omega) (by simp [cpS]) (by show (cpFrom 0 bs).length + 1 ≤ _; rw [cpFrom_len]; omega) (by show 0 ≤ (bs.length : Int) + 1 ∧ (bs.length : Int) + 1 ≤ _; omega) (by
    rw [hP]
    refine cp_room encP_le _ (by show (cpFrom 0 (bs ++ [b])).length ≤ _; rw [cpFrom_len, List.length_append]; simp only [List.length_cons, List.length_nil]; omega) (by show ((bs ++ [b]).length : Int) + 1 ≤ _; rw [List.length_append]; simp only [List.length_cons, List.length_nil]; omega) (cpFrom_body _ 0 hb'))).mono ?_
  rintro e w' ⟨tv, uv, n, t, us, rfl, hbw, ⟨rfl, rfl, rfl⟩, hsu⟩
  rw [hP] at hsu
  obtain ⟨hs, hu⟩ := hsu w' (Mvs.refl _ _)
  obtain ⟨A, c, rfl⟩ := hu.form
  obtain ⟨bv, sv', qv, rfl, k1, k2, k3⟩ := hs
  obtain ⟨A1, c1, rfl⟩ := k1.form
  obtain ⟨A2, c2, rfl⟩ := k2.form
  obtain ⟨A3, c3, rfl⟩ := k3.form
  exact ⟨A1, c1, A2, c2, A3, c3, A, c, 0, rfl, hbw, fun w2 hw2 => hsu w2 hw2⟩
theorem ck_rise (bs : List (List UInt8)) : ∀ i j (hi : i < (cpFrom 0 bs).length) (hj : j < (cpFrom 0 bs).length), i < j → ((cpFrom 0 bs)[i]).uid < ((cpFrom 0 bs)[j]).uid := fun i j hi hj h => by
  rw [cpFrom_at, cpFrom_at]
  show (((0 + i : Nat) : Int) + 1) < (((0 + j : Nat) : Int) + 1)
  omega
theorem ck_copy {w : World} {sv av : Value} {ea : Nat → Addr} {bs : List (List UInt8)} {pk : List Bool} (hE : Errs w ea) (hS : StR w sv (cpS bs)) (hA : AcR w av (ckZ (selU pk bs))) (hl : bs.length ≤ 20) (hb : ∀ x ∈ bs, x.length ≤ 500) :
    Calls Tryz.prog 8 #[sv, av] w fun e w' => ∃ A1 c1 A2 c2 A3 c3 A c n, e = .returned (.tuple #[.agg #[.slice A1 2 c1, .slice A2 0 c2, .slice A3 0 c3, .int .i64 3, .int .i64 1], .agg #[.slice A (selW pk bs).length c, .int .i64 n], .nilIface]) ∧ Below w.heap.size w w' ∧ (∀ w2, Mvs (fun k => k < w.heap.size) w' w2 → StR w2 (.agg #[.slice A1 2 c1, .slice A2 0 c2, .slice A3 0 c3, .int .i64 3, .int .i64 1]) (cpZ pk bs)) := by
  have hn : nmP (ckZ (selU pk bs)).name = inboxU := ck_n2
  have hd : nmP (ckZ (selU pk bs)).dst = toU := ck_n3
  have hlc : (cpFrom 0 bs).length = bs.length := cpFrom_len bs 0
  have hq : qNames (paOf (cpS bs) (nmA (ckZ (selU pk bs)))) = 0 := by
    have e1 : (paOf (cpS bs) (nmA (ckZ (selU pk bs)))).st = cpS bs := paOf_st _ _
    have e2 : (paOf (cpS bs) (nmA (ckZ (selU pk bs)))).a.name = inboxU := hn
    have e3 : (paOf (cpS bs) (nmA (ckZ (selU pk bs)))).a.user = 0 := rfl
    have e5 : (paOf (cpS bs) (nmA (ckZ (selU pk bs)))).a.dst = toU := hd
    have e4 : qName (paOf (cpS bs) (nmA (ckZ (selU pk bs)))) = 0 := by
      unfold qName
      rw [e1, e2, e3, cp_user]
      rfl
    unfold qNames
    rw [e4, e5]
    rfl
  have hM : cpM (cpS bs) 0 (by simp [cpS]) (selU pk bs) = cpO pk bs := by
    show atM (cpFrom 0 bs) (mnt (cpFrom 0 bs) (selU pk bs) (cpFrom 0 bs).length) = _
    rw [at_mnt _ _ _ (Nat.le_refl _), List.take_length]
    exact cp_filter pk _ bs 0 (fun j _ hj => selU_mem pk bs j (by omega))
  have hol : (cpO pk bs).length ≤ bs.length := by rw [cpO_len, selW_len]; exact sel_len pk bs 0
  have hpl := poPut_len (cpO pk bs) cpT
  have hpn := poPut_next (cpO pk bs) cpT
  have hT1 : cpT.next = 1 := rfl
  have hT2 : cpT.msgs.length = 0 := rfl
  refine (pstepCopy hE hS hA (ck_bd bs hl hb) (cp_form encP_le bs hl hb) rfl (by simp [ckZ, inbL]) (by simp [ckZ, toU]) hq (k := 0) (m := 1) (by simp [cpS]) (by simp [cpS]) (by rw [hn]; show fiP (poFind (cpS bs).boxes 0 inboxU) = _; rw [ck_fI]; rfl) (by rw [hd]; show fiP (poFind (cpS bs).boxes 0 toU) = _; rw [ck_fT]; rfl) (by simp [cpS]) (by show (cpFrom 0 bs).length ≤ _; omega) (by show (selU pk bs).length ≤ _; have := selU_len pk bs; omega) (ck_rise bs) (by show 0 + 100 ≤ _; omega) (by show 0 ≤ (1 : Int) ∧ (1 : Int) ≤ _; omega) (by
    show poRoom (poPut cpT (cpM (cpS bs) 0 _ (selU pk bs))).1 = true
    rw [hM]
    refine cp_room encP_le _ (by rw [hpl.1]; omega) (by rw [hpn]; omega) (by rw [cpZ_msgs]; exact rnM_body _ 1 (cpO_body pk bs hb)))).mono ?_
  rintro e w' ⟨tv, uv, n, t, us, rfl, hbw, ⟨rfl, rfl, rfl⟩, hsu⟩
  have hM2 : cpM (cpS bs) 0 (by simp [cpS]) (ckZ (selU pk bs)).uids = cpO pk bs := hM
  rw [hM2] at hsu
  change ∀ w2, _ → StR w2 tv (cpZ pk bs) ∧ RdE 1 IntAt w2 uv (poPut cpT (cpO pk bs)).2 at hsu
  obtain ⟨hs, hu⟩ := hsu w' (Mvs.refl _ _)
  obtain ⟨A, c, rfl⟩ := hu.form
  obtain ⟨bv, sv', qv, rfl, k1, k2, k3⟩ := hs
  obtain ⟨A1, c1, rfl⟩ := k1.form
  obtain ⟨A2, c2, rfl⟩ := k2.form
  obtain ⟨A3, c3, rfl⟩ := k3.form
  rw [hpl.2, cpO_len] at *
  exact ⟨A1, c1, A2, c2, A3, c3, A, c, 0, rfl, hbw, fun w2 hw2 => (hsu w2 hw2).1⟩
theorem ck_find {w : World} {sv : Value} {pk : List Bool} {bs : List (List UInt8)} (hS : StR w sv (cpZ pk bs)) :
    Calls Tryz.prog 11 #[sv, .int .i64 0, .string ⟨#[116, 111]⟩] w fun e w' => e = .returned (.int .i64 1) ∧ Below w.heap.size w w' := by
  have h := pfind_any hS 0 toU (by simp [cpZ])
  have hk := poPut_keep (cpO pk bs) cpT
  have e : poFind (cpZ pk bs).boxes 0 toU = some 1 := cp_fT _ _ _ rfl hk.1 hk.2.1
  rw [e] at h
  exact h
end Go.Proofs.YtdbmaobjikjifaaGreatDoorR

end
section
set_option linter.unusedVariables false
set_option linter.unusedSimpArgs false
namespace Go.Proofs.YtdbmaobjikjifaaGreatDoorR
open Go.RowKit Go.Shelf
/-- What Find answers. -/
def fiV (o : Option Nat) : Int := match o with
  | some i => (i : Int)
  | none => -1
theorem poFind_next {l : List Bx} {u : Int} {n : List UInt8} {k : Nat} (hk : k < l.length) (h : ∀ i (hi : i < l.length), i < k → (decide (l[i].user = u) && decide (l[i].name = n)) = false) :
    ((decide (l[k].user = u) && decide (l[k].name = n)) = true → poFind l u n = some k) := by
  intro ht
  unfold poFind
  rw [List.findIdx?_eq_some_iff_getElem]
  exact ⟨hk, ht, fun j hj => by simpa using h j (by omega) hj⟩
theorem poFind_none {l : List Bx} {u : Int} {n : List UInt8} (h : ∀ i (hi : i < l.length), (decide (l[i].user = u) && decide (l[i].name = n)) = false) : poFind l u n = none := by
  unfold poFind
  rw [List.findIdx?_eq_none_iff]
  intro x hx
  obtain ⟨i, hi, rfl⟩ := List.mem_iff_getElem.1 hx
  exact h i hi
end Go.Proofs.YtdbmaobjikjifaaGreatDoorR

end
