/- Package post: a message is searched for by its number. -/
/- Package post: which messages are meant. -/
/- Package post: messages are copied over. -/
import Derived.Test.YtdbmaobjikjifaaGreatDoorRU06
import Derived.Test.YtdbmaobjikjifaaGreatDoorRU40
section
set_option linter.unusedVariables false
set_option linter.unusedSimpArgs false
namespace Go.Proofs.YtdbmaobjikjifaaGreatDoorR
open Go.RowKit
set_option maxHeartbeats 2000000 in
theorem pmc_any (a b c : Int) (s : Array UInt8) (t : Int) (w : World) :
    Calls Tryz.prog 123 #[.agg #[.int .i64 a, .int .i64 b, .int .i64 c, .string ⟨s⟩], .int .i64 t] w fun e w' => e = .returned (.int .i64 (ciV a t)) ∧ Below w.heap.size w w' := by
  have HC := hide (fun W => cmpI_any a t W)
  generalize ciV a t = R at *
  have HB := hide ((Below.refl w.heap.size w).alloc (Nat.le_refl _) (.cells #[.int .i64 a, .int .i64 b, .int .i64 c, .string ⟨s⟩] 47))
  go_enter Tryz.func123, Tryz.ntmps123
  go_wp2_with (go_at_call 68; refine (HC.out _).mono ?_; rintro e w1 ⟨rfl, rfl⟩)
  go_ret
  exact ⟨rfl, HB.out⟩
theorem ciV_lt (x y : Int) : (ciV x y < 0 ↔ x < y) := by
  unfold ciV
  split
  · simp [*]
  · split <;> simp [*]
theorem ciV_eq (x y : Int) : (ciV x y = 0 ↔ x = y) := by
  unfold ciV
  split
  · simp; omega
  · split
    · simp; omega
    · simp; omega
/-- What a search in a row of messages answers. -/
def Fnd (xs : List Msg) (t : Int) (i : Nat) (b : Bool) : Prop := i ≤ xs.length ∧ (b = true → ∃ hi : i < xs.length, xs[i].uid = t) ∧ (b = false → ∀ x ∈ xs, x.uid ≠ t)
/-- How far a search has come. -/
def Srch (xs : List Msg) (t : Int) (a b : Nat) : Prop := (∀ k (hk : k < xs.length), k < a → xs[k].uid < t) ∧ ∀ k (hk : k < xs.length), b ≤ k → t ≤ xs[k].uid
theorem Srch.done {xs : List Msg} {t : Int} {a : Nat} (h : Srch xs t a a) (ha : a ≤ xs.length) (hs : ∀ i j (hi : i < xs.length) (hj : j < xs.length), i < j → xs[i].uid < xs[j].uid) : (∀ h1 : a < xs.length, xs[a].uid = t → Fnd xs t a true) ∧ (∀ h1 : a < xs.length, xs[a].uid ≠ t → Fnd xs t a false) ∧ (¬ a < xs.length → Fnd xs t a false) := by
  refine ⟨fun h1 e => ⟨ha, fun _ => ⟨h1, e⟩, fun e => nomatch e⟩, fun h1 hne => ⟨ha, (fun e => nomatch e), fun _ x hx => ?_⟩, fun h1 => ⟨ha, (fun e => nomatch e), fun _ x hx => ?_⟩⟩
  · obtain ⟨k, hk, rfl⟩ := List.mem_iff_getElem.1 hx
    by_cases h2 : k < a
    · have := h.1 k hk h2; omega
    · have h3 := h.2 a h1 (Nat.le_refl _)
      by_cases h4 : k = a
      · subst h4; exact hne
      · have := hs a k h1 hk (by omega); omega
  · obtain ⟨k, hk, rfl⟩ := List.mem_iff_getElem.1 hx
    have := h.1 k hk (by omega); omega
theorem half_of (a b : Nat) (ha : a ≤ 1000000) (hb : b ≤ 1000000) : IntKind.i64.wrap ((a : Int) + b) = ((a + b : Nat) : Int) := by
  simp [IntKind.wrap, IntKind.signed, IntKind.bits]
  split <;> omega
set_option maxRecDepth 20000 in
set_option maxHeartbeats 4000000 in
theorem pbsF_any {xs : List Msg} {v : Value} {w : World} (h : RdE 4 MsgAt w v xs) (hl : xs.length ≤ 1000000) (hs : ∀ i j (hi : i < xs.length) (hj : j < xs.length), i < j → xs[i].uid < xs[j].uid) (t : Int) (F : Nat) (eg : ∀ args w, (callFunc F args).run Tryz.prog w = .ok (.enter F args) w)
    (HC : ∀ (a b c : Int) (s : Array UInt8) (w : World), Calls Tryz.prog F #[.agg #[.int .i64 a, .int .i64 b, .int .i64 c, .string ⟨s⟩], .int .i64 t] w fun e w' => e = .returned (.int .i64 (ciV a t)) ∧ Below w.heap.size w w') :
    Calls Tryz.prog 122 #[v, .int .i64 t, .func (.func F) #[] #[]] w fun e w' => ∃ (i : Nat) (b : Bool), e = .returned (.tuple #[.int .i64 (i : Int), .bool b]) ∧ Fnd xs t i b ∧ Below w.heap.size w w' := by
  have HO := hide h
  have HS := hide hs
  obtain ⟨A, c, rfl⟩ := h.form
  clear h hs
  replace HC := hide HC
  go_enter Tryz.func122, Tryz.ntmps122
  go_wp2
  go_loopw [9, 10] (fun u9 u10 wr => ∃ a b : Nat, u9 = .int .i64 a ∧ u10 = .int .i64 b ∧ a ≤ b ∧ b ≤ xs.length ∧ Hid (Srch xs t a b) ∧ Hid (Below w.heap.size w wr)) (fun u9 u10 _ => (intOf u10).toNat - (intOf u9).toNat)
  case atStart => exact ⟨0, xs.length, rfl, rfl, Nat.zero_le _, Nat.le_refl _, ⟨fun _ _ h => by omega, fun _ _ h => by omega⟩, Below.refl _ _⟩
  case round =>
    obtain ⟨a, b, rfl, rfl, hab, hbn, hsr, hB⟩ := hrel
    by_cases hlt : a < b
    · have hltz : (a : Int) < (b : Int) := by omega
      have hmx : (a + b) / 2 < xs.length := by omega
      have hmz : ((a : Int) + (b : Int)) / 2 < (xs.length : Int) := by omega
      have hge : 0 ≤ ((a : Int) + (b : Int)) / 2 := by omega
      obtain ⟨g, o, rfl, hgl, q0, q1, q2, q3⟩ := (HO.out.below stb_msg hB.out).at hmx
      have p0 : wr.cell? ⟨g, o + (a + b) / 2 * 4, none⟩ = some (.int .i64 (xs[(a + b) / 2]).uid) := q0
      have p1 : wr.cell? ⟨g, o + (a + b) / 2 * 4 + 1, none⟩ = some (.int .i64 (xs[(a + b) / 2]).flags) := q1
      have p2 : wr.cell? ⟨g, o + (a + b) / 2 * 4 + 2, none⟩ = some (.int .i64 (xs[(a + b) / 2]).date) := q2
      have p3 : wr.cell? ⟨g, o + (a + b) / 2 * 4 + 3, none⟩ = some (.string ⟨(xs[(a + b) / 2]).body.toArray⟩) := q3
      clear q0 q1 q2 q3
      have hup : Hid (xs[(a + b) / 2].uid < t → Srch xs t ((a + b) / 2 + 1) b) := fun hx => ⟨fun k hk h1 => by
        by_cases h2 : k = (a + b) / 2
        · subst h2; exact hx
        · have := HS.out k ((a + b) / 2) hk hmx (by omega); omega, hsr.out.2⟩
      have hdn : Hid (¬ xs[(a + b) / 2].uid < t → Srch xs t a ((a + b) / 2)) := fun hx => ⟨hsr.out.1, fun k hk h1 => by
        by_cases h2 : k = (a + b) / 2
        · subst h2; omega
        · have := HS.out ((a + b) / 2) k hmx hk (by omega); omega⟩
      have HC1 := hide (fun W => HC.out xs[(a + b) / 2].uid xs[(a + b) / 2].flags xs[(a + b) / 2].date xs[(a + b) / 2].body.toArray W)
      have hlc := hide (ciV_lt xs[(a + b) / 2].uid t)
      clear HC HS HO
      generalize xs[(a + b) / 2] = x at *
      generalize ciV x.uid t = R at *
      by_cases hr : R < 0
      · have hs1 := hide (hup.out (hlc.out.1 hr))
        clear hup hdn hlc hsr
        go_wp2_with (go_at_fn F; refine (HC1.out _).mono ?_; rintro e w' ⟨rfl, hb'⟩; replace hb' := hide hb')
        go_roundw
        case rel => exact ⟨(a + b) / 2 + 1, b, by go_num, rfl, by omega, hbn, hs1.out, hB.out.trans (hb'.out.mono hB.out.size)⟩
        case measure => simp [intOf]; omega
      · have hs1 := hide (hdn.out (fun h => hr (hlc.out.2 h)))
        clear hup hdn hlc hsr
        go_wp2_with (go_at_fn F; refine (HC1.out _).mono ?_; rintro e w' ⟨rfl, hb'⟩; replace hb' := hide hb')
        go_roundw
        case rel => exact ⟨a, (a + b) / 2, rfl, by go_num, by omega, by omega, hs1.out, hB.out.trans (hb'.out.mono hB.out.size)⟩
        case measure => simp [intOf]; omega
    · have hltz : ¬ (a : Int) < (b : Int) := by omega
      have eab : b = a := by omega
      have hdo := hide (Srch.done (a := a) (by have := hsr.out; rwa [eab] at this) (by omega) HS.out)
      clear hsr eab
      by_cases han : a < xs.length
      · have hanz : (a : Int) < (xs.length : Int) := by omega
        obtain ⟨g, o, rfl, hgl, q0, q1, q2, q3⟩ := (HO.out.below stb_msg hB.out).at han
        have p0 : wr.cell? ⟨g, o + a * 4, none⟩ = some (.int .i64 (xs[a]).uid) := q0
        have p1 : wr.cell? ⟨g, o + a * 4 + 1, none⟩ = some (.int .i64 (xs[a]).flags) := q1
        have p2 : wr.cell? ⟨g, o + a * 4 + 2, none⟩ = some (.int .i64 (xs[a]).date) := q2
        have p3 : wr.cell? ⟨g, o + a * 4 + 3, none⟩ = some (.string ⟨(xs[a]).body.toArray⟩) := q3
        clear q0 q1 q2 q3
        have HC1 := hide (fun W => HC.out xs[a].uid xs[a].flags xs[a].date xs[a].body.toArray W)
        have hle := hide (ciV_eq xs[a].uid t)
        have hd1 := hide (hdo.out.1 han)
        have hd2 := hide (hdo.out.2.1 han)
        clear HC HS HO hdo
        generalize xs[a] = x at *
        generalize ciV x.uid t = R at *
        by_cases hr : R = 0
        · have hs1 := hide (hd1.out (hle.out.1 hr))
          subst hr
          clear hd1 hd2 hle
          go_wp2_with (go_at_fn F; refine (HC1.out _).mono ?_; rintro e w' ⟨rfl, hb'⟩; replace hb' := hide hb')
          go_ret2
          exact ⟨a, true, rfl, hs1.out, hB.out.trans (hb'.out.mono hB.out.size)⟩
        · have hs1 := hide (hd2.out (fun h => hr (hle.out.2 h)))
          have hrb : (R == 0) = false := beq_eq_false_iff_ne.2 hr
          clear hd1 hd2 hle
          go_wp2_with (go_at_fn F; refine (HC1.out _).mono ?_; rintro e w' ⟨rfl, hb'⟩; replace hb' := hide hb')
          go_ret2
          exact ⟨a, false, rfl, hs1.out, hB.out.trans (hb'.out.mono hB.out.size)⟩
      · have hanz : ¬ (a : Int) < (xs.length : Int) := by omega
        have hs1 := hide (hdo.out.2.2 han)
        clear HC HS HO hdo
        go_wp2
        exact bodyPost_ret (v := .tuple #[.int .i64 (a : Int), .bool false]) (by simp [results, Tryz.results122, go_sem]) rfl ⟨a, .inl ⟨rfl, hs1.out, hB.out⟩⟩
theorem pbs_any {xs : List Msg} {v : Value} {w : World} (h : RdE 4 MsgAt w v xs) (hl : xs.length ≤ 1000000) (hs : ∀ i j (hi : i < xs.length) (hj : j < xs.length), i < j → xs[i].uid < xs[j].uid) (t : Int) :
    Calls Tryz.prog 122 #[v, .int .i64 t, .func (.func 123) #[] #[]] w fun e w' => ∃ (i : Nat) (b : Bool), e = .returned (.tuple #[.int .i64 (i : Int), .bool b]) ∧ Fnd xs t i b ∧ Below w.heap.size w w' :=
  pbsF_any h hl hs t _ (enters_of Tryz.func123 (by kernel_rfl) rfl) (fun a b c s W => pmc_any a b c s t W)
end Go.Proofs.YtdbmaobjikjifaaGreatDoorR

end
section
set_option linter.unusedVariables false
set_option linter.unusedSimpArgs false
namespace Go.Proofs.YtdbmaobjikjifaaGreatDoorR
open Go.RowKit Go.Shelf
/-- The marks: which messages' numbers stand among these. -/
def Mks (xs : List Msg) (us : List Int) (bs : List Bool) : Prop := bs.length = 100 ∧ ∀ i (hi : i < xs.length), bs[i]? = some (decide (xs[i].uid ∈ us))
theorem Mks.zero (xs : List Msg) (h : xs.length ≤ 100) : Mks xs [] (List.replicate 100 false) := ⟨by simp, fun i hi => by rw [List.getElem?_replicate, if_pos (by omega)]; simp⟩
theorem Mks.yes {xs : List Msg} {us : List Int} {bs : List Bool} {t : Int} {i : Nat} (h : Mks xs us bs) (hf : Fnd xs t i true) (hl : xs.length ≤ 100) (hs : ∀ i j (hi : i < xs.length) (hj : j < xs.length), i < j → xs[i].uid < xs[j].uid) : Mks xs (us ++ [t]) (bs.set i true) := by
  obtain ⟨hi, e⟩ := hf.2.1 rfl
  refine ⟨by rw [List.length_set]; exact h.1, fun k hk => ?_⟩
  by_cases hki : k = i
  · subst hki
    rw [List.getElem?_set_self (by rw [h.1]; omega)]
    simp [e]
  · rw [List.getElem?_set_ne (Ne.symm hki), h.2 k hk]
    have : xs[k].uid ≠ t := by
      rcases Nat.lt_or_gt_of_ne hki with h1 | h1
      · have := hs k i hk hi h1; omega
      · have := hs i k hi hk h1; omega
    simp [this]
theorem Mks.no {xs : List Msg} {us : List Int} {bs : List Bool} {t : Int} {i : Nat} (h : Mks xs us bs) (hf : Fnd xs t i false) : Mks xs (us ++ [t]) bs := by
  refine ⟨h.1, fun k hk => ?_⟩
  rw [h.2 k hk]
  have : xs[k].uid ≠ t := hf.2.2 rfl _ (List.getElem_mem hk)
  simp [this]
/-- The places of the messages whose numbers stand among these. -/
def mnt (xs : List Msg) (us : List Int) (n : Nat) : List Int := ((List.range n).filter fun (i : Nat) => decide (((xs[i]?.map Msg.uid).getD 0) ∈ us)).map fun (i : Nat) => (i : Int)
theorem mnt_succ (xs : List Msg) (us : List Int) (n : Nat) (h : n < xs.length) : mnt xs us (n + 1) = mnt xs us n ++ (if xs[n].uid ∈ us then [(n : Int)] else []) := by
  unfold mnt
  rw [List.range_succ, List.filter_append, List.map_append]
  congr 1
  have : xs[n]? = some xs[n] := List.getElem?_eq_getElem h
  simp only [List.filter_cons, List.filter_nil, this, Option.map_some, Option.getD_some]
  by_cases h1 : xs[n].uid ∈ us <;> simp [h1]
theorem mnt_len (xs : List Msg) (us : List Int) (n : Nat) : (mnt xs us n).length ≤ n := by
  unfold mnt
  rw [List.length_map]
  have := List.length_filter_le (fun i => decide (((xs[i]?.map Msg.uid).getD 0) ∈ us)) (List.range n)
  rwa [List.length_range] at this
theorem fnd_lt {xs : List Msg} {t : Int} {i : Nat} (h : Fnd xs t i true) : i < xs.length := (h.2.1 rfl).1
set_option maxRecDepth 20000 in
set_option maxHeartbeats 8000000 in
theorem pmeant_any {w0 w : World} {X : Nat} {p : PA} (h : AS w0 w X p) (hl : p.lb.length ≤ 1000) {k : Nat} (hk : k < p.lb.length) (hm : p.lb[k].b.msgs.length ≤ 100) (hu : p.a.uids.length ≤ 1000000) (hs : ∀ i j (hi : i < p.lb[k].b.msgs.length) (hj : j < p.lb[k].b.msgs.length), i < j → (p.lb[k].b.msgs[i]).uid < (p.lb[k].b.msgs[j]).uid) :
    Calls Tryz.prog 93 #[.pointer (some ⟨X, 0, none⟩), .int .i64 (k : Int)] w fun e w' => ∃ v G, e = .returned v ∧ Below w.heap.size w w' ∧ Rw w' 1 v (mnt p.lb[k].b.msgs p.a.uids p.lb[k].b.msgs.length).length ((mnt p.lb[k].b.msgs p.a.uids p.lb[k].b.msgs.length).flatMap inC) G ∧ (∀ g, G = some g → w.heap.size ≤ g) := by
  obtain ⟨i1, hj1, hy0, hy1, hy2⟩ := infoP intInfoP
  obtain ⟨A1, c1, ev, _, hat⟩ := rw_at blC_len h.rb
  obtain ⟨g, o, rfl, hgb, hgl, hcap, hc⟩ := hat k hk
  have q0 : w.cell? ⟨X, 0, none⟩ = some (.slice (some ⟨g, o, none⟩) p.lb.length c1) := by rw [← ev]; exact h.blk.cell 0
  have hkz : (k : Int) < (p.lb.length : Int) := by omega
  have q4 : w.cell? ⟨g, o + k * 5 + 4, none⟩ = some p.lb[k].v := (hc 4 (by omega)).1
  have q15 : w.cell? ⟨X, 15, none⟩ = some p.uv := h.blk.cell 15
  have HM : Hid (RdE 4 MsgAt w p.lb[k].v p.lb[k].b.msgs) := msC_rd (h.rm _ (List.getElem_mem hk))
  have HU : Hid (RdE 1 IntAt w p.uv p.a.uids) := h.ua.below stb_int h.bel
  have HS := hide hs
  have hXl : X < w.heap.size := h.blk.lt
  clear h ev hat hgb hc hs
  generalize p.lb[k].v = mv at *
  generalize p.lb[k].b.msgs = xs at *
  generalize p.uv = uv at *
  generalize p.a.uids = us at *
  generalize p.lb.length = nb at *
  have HBS : Hid (∀ W, Below w.heap.size w W → ∀ t, Calls Tryz.prog 122 #[mv, .int .i64 t, .func (.func 123) #[] #[]] W fun e w' => ∃ (i : Nat) (b : Bool), e = .returned (.tuple #[.int .i64 (i : Int), .bool b]) ∧ Fnd xs t i b ∧ Below W.heap.size W w') := fun W hW t => pbs_any (HM.out.below stb_msg hW) (by omega) HS.out t
  obtain ⟨Am, cm, rfl⟩ := HM.out.form
  obtain ⟨Au, cu, rfl⟩ := HU.out.form
  go_enter Tryz.func93, Tryz.ntmps93
  go_wp2
  have hal : Below w.heap.size w (w.alloc (.cells (((List.replicate 100 false).map Value.bool).toArray) 141)) := (Below.refl _ _).alloc (Nat.le_refl _) _
  go_loopw [28] (fun v28 wr => ∃ j : Nat, v28 = .int .i64 j ∧ j ≤ us.length ∧ Hid (Below w.heap.size w wr) ∧ ∃ bs : List Bool, Hid (Blk wr w.heap.size ((bs.map Value.bool).toArray) 141) ∧ Hid (Mks xs (us.take j) bs)) (fun v28 _ => us.length - (intOf v28).toNat)
  case atStart =>
    refine ⟨0, rfl, Nat.zero_le _, hal, List.replicate 100 false, ?_, Mks.zero xs hm⟩
    exact Blk.new w _ _
  case round =>
    obtain ⟨j, rfl, hj, hB, bs, hb, hmk⟩ := hrel
    by_cases hlt : j < us.length
    · have hltz : (j : Int) < (us.length : Int) := by omega
      obtain ⟨gu, ou, rfl, hgul, u0⟩ := (HU.out.below stb_int hB.out).at hlt
      have u1 : wr.cell? ⟨gu, ou + j * 1, none⟩ = some (.int .i64 us[j]) := u0
      rw [Nat.mul_one] at u1
      have HBj := hide (HBS.out wr hB.out us[j])
      have htk := hide (List.take_succ_eq_append_getElem hlt)
      clear u0
      generalize us[j] = t at *
      go_upto_if 38 with (go_at_call 122; refine HBj.out.mono ?_; rintro e w1 ⟨i, b, rfl, hfn, hb1⟩; replace hb1 := hide hb1)
      cases b
      · go_wp2
        go_roundw
        case rel => exact ⟨j + 1, by go_num, by omega, hB.out.trans (hb1.out.mono hB.out.size), bs, Blk.below hb.out hb1.out hb.out.lt, by show Mks _ _ _; rw [htk.out]; exact hmk.out.no hfn⟩
        case measure => simp [intOf]; omega
      · have hix := fnd_lt hfn
        have hbb := hide (Blk.below hb.out hb1.out hb.out.lt)
        have hbl := hmk.out.1
        have hiz : (i : Int) < 100 := by omega
        have z0 : w1.cell? ⟨w.heap.size, i, none⟩ = some (.bool (bs[i]'(by omega))) := by
          rw [hbb.out.cell i]
          simp [List.getElem?_eq_getElem (show i < bs.length by omega)]
        have y0 := hbb.out.frozen i
        go_wp2
        go_roundw
        case rel =>
          refine ⟨j + 1, by go_num, by omega, ?_, bs.set i true, ?_, by show Mks _ _ _; rw [htk.out]; exact hmk.out.yes hfn hm HS.out⟩
          · exact (hB.out.trans (hb1.out.mono hB.out.size)).setCell (p := ⟨w.heap.size, i, none⟩) (Nat.le_refl _) _
          · have := Blk.set hbb.out i (.bool true)
            have e : ((bs.set i true).map Value.bool).toArray = (bs.map Value.bool).toArray.setIfInBounds i (.bool true) := by simp
            show Blk _ _ _ _
            rw [e]
            exact this
        case measure => simp [intOf]; omega
    · have hltz : ¬ (j : Int) < (us.length : Int) := by omega
      have htj := hide (List.take_of_length_le (l := us) (i := j) (by omega))
      have HMk : Hid (Mks xs us bs) := by show Mks _ _ _; have := hmk.out; rwa [htj.out] at this
      clear hmk htj HBS HS HU HM q0 q4 q15
      go_wp2
      have hbsz := hb.out.lt
      go_loopw [44, 11] (fun v44 v11 w3 => ∃ j : Nat, v44 = .int .i64 j ∧ j ≤ xs.length ∧ Hid (Below w.heap.size w w3) ∧ Hid (Blk w3 w.heap.size ((bs.map Value.bool).toArray) 141) ∧ ∃ G, Hid (Rw w3 1 v11 (mnt xs us j).length ((mnt xs us j).flatMap inC) G) ∧ Hid (∀ g, G = some g → w.heap.size + 1 ≤ g)) (fun v44 _ _ => xs.length - (intOf v44).toNat)
      case atStart => exact ⟨0, rfl, Nat.zero_le _, hB.out, hb.out, none, Rw.nil _ _, fun g e => by cases e⟩
      case round =>
        obtain ⟨j2, rfl, hj2, hB2, hb2, G, hr2, hG2⟩ := hrel
        obtain ⟨A2, c2, rfl⟩ := hr2.out.form
        by_cases hlt2 : j2 < xs.length
        · have hltz2 : (j2 : Int) < (xs.length : Int) := by omega
          have hiz : (j2 : Int) < 100 := by omega
          have hbl := HMk.out.1
          have hsu := hide (mnt_succ xs us j2 hlt2)
          have hln := mnt_len xs us j2
          have z0 : wr.cell? ⟨w.heap.size, j2, none⟩ = some (.bool (decide (xs[j2].uid ∈ us))) := by
            rw [hb2.out.cell j2]
            have := HMk.out.2 j2 hlt2
            simp [this]
          by_cases hin : xs[j2].uid ∈ us
          · rw [decide_eq_true hin] at z0
            have hs1 : Hid (mnt xs us (j2 + 1) = mnt xs us j2 ++ [(j2 : Int)]) := by show _ = _; rw [hsu.out, if_pos hin]
            have AL : Below wr.heap.size wr (wr.alloc (.cells #[.int .i64 (j2 : Int)] 3)) := (Below.refl _ _).alloc (Nat.le_refl _) _
            have HR := hide (hr2.out.keep (Mvs.of_below (S := fun _ => False) AL) (fun _ _ c => c))
            have HSrc : Hid (Src Tryz.prog 1 34 (.slice (some ⟨wr.heap.size, 0, none⟩) 1 1) 1 [.int .i64 (j2 : Int)] (wr.alloc (.cells #[.int .i64 (j2 : Int)] 3))) := by
              have hk := Blk.new wr #[.int .i64 (j2 : Int)] 3
              refine Src.ofSlice _ Tryz.underlying34 ⟨wr.heap.size, 0, none⟩ 1 1 _ rfl (fun j u hu => ?_) (fun u hu => by rw [List.mem_singleton.1 hu]; rfl)
              rw [Go.WideShapes.add_plain, Nat.zero_add]
              exact (hk.cell j).trans (by rw [← hu]; simp)
            have HB3 := hide (hB2.out.trans (AL.mono hB2.out.size))
            have hb3 := hide (Blk.below hb2.out AL hb2.out.lt)
            clear hsu hin
            go_wp2_with (at_builtin; (refine wpList_append_rw rfl _ _ 34 34 rfl 3 i1 (.int .i64 0) 1 8 Tryz.underlying34 hj1 hy0 hy1 hy2 rfl rfl HR.out _ 1 _ rfl HSrc.out (by simp only [maxLen]; omega) (by omega) ?_); intro v6 w6 G6 hr6 hm6 hg6; obtain ⟨A6, c6, rfl⟩ := hr6.form; replace hr6 := hide hr6)
            go_roundw
            case rel =>
              have hgn : ∀ g, G6 = some g → w.heap.size + 1 ≤ g := fun g e => by
                rcases hg6 with h6 | h6
                · exact hG2.out g (h6 ▸ e)
                · rw [h6] at e
                  have e2 : (wr.alloc (.cells #[.int .i64 (j2 : Int)] 3)).heap.size = g := Option.some.inj e
                  have := hb3.out.lt
                  omega
              refine ⟨j2 + 1, by go_num, by omega, HB3.out.trans (hm6.below (fun g hg e => by have := hG2.out g e.symm; omega) HB3.out.size), hm6.blk hb3.out (fun e => by have := hG2.out _ e.symm; omega), G6, ?_, hgn⟩
              show Rw _ _ _ _ _ _
              rw [hs1.out, List.length_append, List.flatMap_append]
              exact hr6.out
            case measure => simp [intOf]; omega
          · rw [decide_eq_false hin] at z0
            have hs1 : Hid (mnt xs us (j2 + 1) = mnt xs us j2) := by show _ = _; rw [hsu.out, if_neg hin, List.append_nil]
            clear hsu hin
            go_wp2
            go_roundw
            case rel =>
              refine ⟨j2 + 1, by go_num, by omega, hB2.out, hb2.out, G, ?_, hG2.out⟩
              show Rw _ _ _ _ _ _
              rw [hs1.out]
              exact hr2.out
            case measure => simp [intOf]; omega
        · have hltz2 : ¬ (j2 : Int) < (xs.length : Int) := by omega
          have ej : j2 = xs.length := by omega
          have hfin := hr2.out
          rw [ej] at hfin
          replace hfin := hide hfin
          have el : (mnt xs us j2).length = (mnt xs us xs.length).length := by rw [ej]
          rw [el] at *
          clear hr2
          go_wp2
          go_ret
          exact ⟨_, rfl, hB2.out, G, hfin.out, fun g e => by have := hG2.out g e; omega⟩
end Go.Proofs.YtdbmaobjikjifaaGreatDoorR

end
section
set_option linter.unusedVariables false
set_option linter.unusedSimpArgs false
namespace Go.Proofs.YtdbmaobjikjifaaGreatDoorR
open Go.RowKit Go.Shelf
/-- The messages at these places. -/
def atM (xs : List Msg) (is : List Int) : List Msg := is.map fun i => (xs[i.toNat]?).getD ⟨0, 0, 0, []⟩
theorem atM_succ (xs : List Msg) (is : List Int) (j : Nat) (hj : j < is.length) (i : Nat) (hi : i < xs.length) (e : is[j] = (i : Int)) : atM xs (is.take (j + 1)) = atM xs (is.take j) ++ [xs[i]] := by
  unfold atM
  rw [List.take_succ_eq_append_getElem hj, List.map_append, e]
  simp [List.getElem?_eq_getElem hi]
theorem mnt_in (xs : List Msg) (us : List Int) (n j : Nat) (hj : j < (mnt xs us n).length) : ∃ i : Nat, i < n ∧ (mnt xs us n)[j] = (i : Int) := by
  have h1 := List.getElem_mem hj
  unfold mnt at h1
  obtain ⟨i, hi, e⟩ := List.mem_map.1 h1
  exact ⟨i, List.mem_range.1 (List.mem_filter.1 hi).1, e.symm⟩
theorem atM_mem (xs : List Msg) (us : List Int) : ∀ m ∈ atM xs (mnt xs us xs.length), m ∈ xs := fun m hm => by
  unfold atM at hm
  obtain ⟨t, ht, rfl⟩ := List.mem_map.1 hm
  obtain ⟨j, hj, rfl⟩ := List.mem_iff_getElem.1 ht
  obtain ⟨i, hi, e⟩ := mnt_in xs us xs.length j hj
  rw [e]
  simp [List.getElem?_eq_getElem hi]
theorem atM_len (xs : List Msg) (is : List Int) : (atM xs is).length = is.length := by unfold atM; rw [List.length_map]
set_option maxRecDepth 20000 in
set_option maxHeartbeats 8000000 in
theorem pcopy_any {w0 w : World} {X : Nat} {p : PA} {ea : Nat → Addr} (h : AS w0 w X p) (hE : Errs w0 ea) (hl : p.lb.length ≤ 1000) {k m : Nat} (hk : k < p.lb.length) (hm : m < p.lb.length) (hfk : fiP (poFind p.st.boxes p.a.user p.a.name) = (k : Int)) (hfm : fiP (poFind p.st.boxes p.a.user p.a.dst) = (m : Int))
    (h100 : p.lb[k].b.msgs.length ≤ 100) (hu : p.a.uids.length ≤ 1000000) (hs : ∀ i j (hi : i < p.lb[k].b.msgs.length) (hj : j < p.lb[k].b.msgs.length), i < j → (p.lb[k].b.msgs[i]).uid < (p.lb[k].b.msgs[j]).uid)
    (hml : p.lb[m].b.msgs.length + 100 ≤ 1000000) (hnx : 0 ≤ p.lb[m].b.next ∧ p.lb[m].b.next ≤ 4000000000) (hus : p.us.length + 100 ≤ 1000000) (hbk : ∀ x ∈ p.lb[k].b.msgs, x.body.length ≤ 1000000) (hbm : ∀ x ∈ p.lb[m].b.msgs, x.body.length ≤ 1000000) (Q : Value → World → Prop)
    (hQ : ∀ w' v G vu gu, AS w0 w' X (p.putP m ⟨(poPut p.lb[m].b (atM p.lb[k].b.msgs (mnt p.lb[k].b.msgs p.a.uids p.lb[k].b.msgs.length))).1, v, G⟩ (p.us ++ (poPut p.lb[m].b (atM p.lb[k].b.msgs (mnt p.lb[k].b.msgs p.a.uids p.lb[k].b.msgs.length))).2) vu gu) → (poRoom (poPut p.lb[m].b (atM p.lb[k].b.msgs (mnt p.lb[k].b.msgs p.a.uids p.lb[k].b.msgs.length))).1 = true → Q .nilIface w') ∧ (poRoom (poPut p.lb[m].b (atM p.lb[k].b.msgs (mnt p.lb[k].b.msgs p.a.uids p.lb[k].b.msgs.length))).1 = false → Q (erV ea 11) w')) :
    Calls Tryz.prog 56 #[.pointer (some ⟨X, 0, none⟩)] w fun e w' => ∃ v, e = .returned v ∧ Q v w' := by
  obtain ⟨i0, hi, hz0, hz1, hz2⟩ := infoP infoMsg
  have hlm := mnt_len p.lb[k].b.msgs p.a.uids p.lb[k].b.msgs.length
  have HP1 : Hid (∀ u : Ext w, Calls Tryz.prog 80 #[.pointer (some ⟨X, 0, none⟩), .string ⟨p.a.name.toArray⟩] u.w fun e w' => e = .returned (.int .i64 (k : Int)) ∧ Below u.w.heap.size u.w w') := fun u => by
    have := pplace_any (h.below u.ok) p.a.name (by omega)
    rwa [hfk] at this
  have HP2 : Hid (∀ u : Ext w, Calls Tryz.prog 80 #[.pointer (some ⟨X, 0, none⟩), .string ⟨p.a.dst.toArray⟩] u.w fun e w' => e = .returned (.int .i64 (m : Int)) ∧ Below u.w.heap.size u.w w') := fun u => by
    have := pplace_any (h.below u.ok) p.a.dst (by omega)
    rwa [hfm] at this
  have HPut : Hid (∀ W, Below w.heap.size w W → ∀ mv, (∀ w2, Mvs (fun j => some j ∈ p.blocks ∨ j = X) W w2 → RdE 4 MsgAt w2 mv (atM p.lb[k].b.msgs (mnt p.lb[k].b.msgs p.a.uids p.lb[k].b.msgs.length))) → Calls Tryz.prog 92 #[.pointer (some ⟨X, 0, none⟩), .int .i64 (m : Int), mv] W fun e w' => ∃ v, e = .returned v ∧ Q v w') := fun W hW mv HMs =>
    pput_loop (h.below hW) hE hl hm HMs (by rw [atM_len]; omega) hnx (by rw [atM_len]; omega) ⟨hbm, fun x hx => hbk x (atM_mem _ _ x hx)⟩ Q (fun w' v G vu gu h1 _ => hQ w' v G vu gu h1)
  have HMt := hide (fun W (hW : Below w.heap.size w W) => pmeant_any (h.below hW) hl hk h100 hu hs)
  obtain ⟨A1, c1, ev, _, hat⟩ := rw_at blC_len h.rb
  obtain ⟨g, o, rfl, hgb, hgl, hcap, hc⟩ := hat k hk
  have q0 : w.cell? ⟨X, 0, none⟩ = some (.slice (some ⟨g, o, none⟩) p.lb.length c1) := by rw [← ev]; exact h.blk.cell 0
  have hkz : (k : Int) < (p.lb.length : Int) := by omega
  have q4 : w.cell? ⟨g, o + k * 5 + 4, none⟩ = some p.lb[k].v := (hc 4 (by omega)).1
  have q11 : w.cell? ⟨X, 11, none⟩ = some (.string ⟨p.a.name.toArray⟩) := h.blk.cell 11
  have q12 : w.cell? ⟨X, 12, none⟩ = some (.string ⟨p.a.dst.toArray⟩) := h.blk.cell 12
  have HM : Hid (RdE 4 MsgAt w p.lb[k].v p.lb[k].b.msgs) := msC_rd (h.rm _ (List.getElem_mem hk))
  have hXl : X < w.heap.size := h.blk.lt
  have hown : Hid (∀ g, some g ∈ p.blocks → g < w.heap.size) := fun g hg => h.block_lt g hg
  clear h ev hat hgb hc hs hQ hbk hbm hfk hfm hnx hml hus
  generalize p.lb[k].v = mv at *
  generalize p.lb[k].b.msgs = xs at *
  generalize p.a.name = nm at *
  generalize p.a.dst = dst at *
  generalize p.lb.length = nb at *
  obtain ⟨is, his⟩ : ∃ is, Hid (mnt xs p.a.uids xs.length = is) := ⟨_, hide rfl⟩
  have hin : Hid (∀ j (hj : j < is.length), ∃ i : Nat, i < xs.length ∧ is[j] = (i : Int)) := by
    rw [← his.out]
    exact fun j hj => mnt_in _ _ _ j hj
  rw [his.out] at HPut HMt hlm
  obtain ⟨Am, cm, rfl⟩ := HM.out.form
  have hn0 := ext_some w
  have hc0 := ext_cell w
  go_enter Tryz.func56, Tryz.ntmps56
  go_wp2
  refine wp_region_ext (by kernel_rfl) (by kernel_rfl) ?_
  repeat (go_big_quiet_step ((first | (go_at_call_of 80 (Value.string { data := List.toArray nm }); exact ext_call (HP1.out _)) | (go_at_call_of 80 (Value.string { data := List.toArray dst }); exact ext_call (HP2.out _)))))
  refine wpQuiet_nil ?_
  rintro w1 ⟨u1, rfl⟩
  have HB1 := hide u1.ok
  generalize u1.w = w1 at *
  have hk0 : ¬ (k : Int) < 0 := by omega
  have hm0 : ¬ (m : Int) < 0 := by omega
  clear hn0 hc0 q11 q12 HP1 HP2
  go_wp2_with (go_at_call 93; refine (HMt.out _ HB1.out).mono ?_; rintro e wm ⟨vP, GP, rfl, hbm, hrP, hGP⟩; obtain ⟨AP, cP, rfl⟩ := hrP.form; replace hrP := hide hrP; replace hbm := hide hbm; replace hGP := hide hGP)
  have HBm := hide (HB1.out.trans (hbm.out.mono HB1.out.size))
  clear HMt
  go_loopw [33, 5] (fun v33 v5 wr => ∃ j : Nat, v33 = .int .i64 j ∧ j ≤ is.length ∧ Hid (Below wm.heap.size wm wr) ∧ ∃ G, Hid (Rw wr 4 v5 (atM xs (is.take j)).length ((atM xs (is.take j)).flatMap msC) G) ∧ Hid (∀ g, G = some g → wm.heap.size ≤ g)) (fun v33 _ _ => is.length - (intOf v33).toNat)
  case atStart => exact ⟨0, rfl, Nat.zero_le _, Below.refl _ _, none, Rw.nil _ _, fun g e => by cases e⟩
  case round =>
    obtain ⟨j, rfl, hj, hB2, G, hr2, hG2⟩ := hrel
    obtain ⟨A2, c2, rfl⟩ := hr2.out.form
    have HB := hide (HBm.out.trans (hB2.out.mono HBm.out.size))
    by_cases hlt : j < is.length
    · have hltz : (j : Int) < (is.length : Int) := by omega
      obtain ⟨i, hix, hie⟩ := hin.out j hlt
      have hsu := hide (atM_succ xs is j hlt i hix hie)
      have hln : (atM xs (is.take j)).length = j := by rw [atM_len, List.length_take]; omega
      have hixz : (i : Int) < (xs.length : Int) := by omega
      obtain ⟨gP, oP, eP, hgP, u0⟩ := ((inC_rd hrP.out).below stb_int hB2.out).at hlt
      subst eP
      have u1 : wr.cell? ⟨gP, oP + j * 1, none⟩ = some (.int .i64 is[j]) := u0
      rw [Nat.mul_one, hie] at u1
      obtain ⟨gM, oM, eM, hgM, p0, p1, p2, p3⟩ := (HM.out.below stb_msg HB.out).at hix
      subst eM
      have r0 : wr.cell? ⟨gM, oM + i * 4, none⟩ = some (.int .i64 xs[i].uid) := p0
      have r1 : wr.cell? ⟨gM, oM + i * 4 + 1, none⟩ = some (.int .i64 xs[i].flags) := p1
      have r2 : wr.cell? ⟨gM, oM + i * 4 + 2, none⟩ = some (.int .i64 xs[i].date) := p2
      have r3 : wr.cell? ⟨gM, oM + i * 4 + 3, none⟩ = some (.string ⟨xs[i].body.toArray⟩) := p3
      have z0 := cell_belowP HB.out hXl q0
      have z4 := cell_belowP HB.out hgl q4
      clear u0 p0 p1 p2 p3
      generalize xs[i] = x at *
      obtain ⟨x0, x1, x2, x3⟩ := x
      dsimp only at r0 r1 r2 r3
      have AL : Below wr.heap.size wr (wr.alloc (.cells #[.int .i64 x0, .int .i64 x1, .int .i64 x2, .string ⟨x3.toArray⟩] 47)) := (Below.refl _ _).alloc (Nat.le_refl _) _
      have HR := hide (hr2.out.keep (Mvs.of_below (S := fun _ => False) AL) (fun _ _ c => c))
      have HSrc : Hid (Src Tryz.prog 4 43 (.slice (some ⟨wr.heap.size, 0, none⟩) 1 1) 1 (msC ⟨x0, x1, x2, x3⟩) (wr.alloc (.cells #[.int .i64 x0, .int .i64 x1, .int .i64 x2, .string ⟨x3.toArray⟩] 47))) := by
        have hk := Blk.new wr #[.int .i64 x0, .int .i64 x1, .int .i64 x2, .string ⟨x3.toArray⟩] 47
        refine Src.ofSlice _ Tryz.underlying43 ⟨wr.heap.size, 0, none⟩ 1 1 _ rfl (fun j u hu => ?_) (fun u hu => by simp only [msC, List.mem_cons, List.not_mem_nil, or_false] at hu; rcases hu with rfl | rfl | rfl | rfl <;> rfl)
        rw [Go.WideShapes.add_plain, Nat.zero_add]
        exact (hk.cell j).trans (by rw [← hu]; simp [msC])
      have HB3 := hide (hB2.out.trans (AL.mono hB2.out.size))
      go_wp2_with (at_builtin; (refine wpList_append_rw rfl _ _ 43 43 rfl 47 i0 (.agg #[.int .i64 0, .int .i64 0, .int .i64 0, .string ⟨#[]⟩]) 4 40 Tryz.underlying43 hi hz0 hz1 hz2 rfl rfl HR.out _ 1 _ rfl HSrc.out (by simp only [maxLen]; omega) (by omega) ?_); intro v6 w6 G6 hr6 hm6 hg6; obtain ⟨A6, c6, rfl⟩ := hr6.form; replace hr6 := hide hr6)
      go_roundw
      case rel =>
        have hgn : ∀ g, G6 = some g → wm.heap.size ≤ g := fun g e => by
          rcases hg6 with h6 | h6
          · exact hG2.out g (h6 ▸ e)
          · rw [h6] at e
            have e2 : (wr.alloc (.cells #[.int .i64 x0, .int .i64 x1, .int .i64 x2, .string ⟨x3.toArray⟩] 47)).heap.size = g := Option.some.inj e
            have := HB3.out.size
            omega
        refine ⟨j + 1, by go_num, by omega, HB3.out.trans (hm6.below (fun g hg e => by have := hG2.out g e.symm; omega) HB3.out.size), G6, ?_, hgn⟩
        show Rw _ _ _ _ _ _
        rw [hsu.out, List.length_append, List.flatMap_append]
        have h9 := hr6.out
        rw [hln] at h9 ⊢
        exact h9
      case measure => simp [intOf]; omega
    · have hltz : ¬ (j : Int) < (is.length : Int) := by omega
      have htk := List.take_of_length_le (l := is) (i := j) (by omega)
      have hfin := hr2.out
      rw [htk] at hfin
      have HQ := hide (HPut.out wr HB.out _ (fun w2 h2 => msC_rd (hfin.keep h2 (fun g e hc => by
        have h1 := hG2.out g e
        have h3 := HBm.out.size
        rcases hc with hc | hc
        · have := hown.out g hc
          omega
        · omega))))
      rw [htk] at *
      clear hr2 htk hfin
      go_wp2_with (go_at_call 92; refine HQ.out.mono ?_; rintro e w9 ⟨v9, rfl, hq9⟩; replace hq9 := hide hq9)
      go_ret
      exact ⟨_, rfl, hq9.out⟩
end Go.Proofs.YtdbmaobjikjifaaGreatDoorR

end
