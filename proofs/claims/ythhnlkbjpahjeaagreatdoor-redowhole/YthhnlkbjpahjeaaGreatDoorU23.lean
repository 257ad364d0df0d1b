/- A disk: a file restored, whatever steps of it are open. -/
/- A disk: what a crash leaves in memory. -/
/- A disk: a crash, where one file has open steps, and any steps of names are open. -/
import Derived.Test.YthhnlkbjpahjeaaGreatDoorU22
section
namespace Go.Proofs.YthhnlkbjpahjeaaGreatDoor
open Go.RowKit Go.Maps
def SA.room : SA → Nat
  | .put _ len => len
  | .cut _ => 0
def undAll : List SA → List UInt8 → List UInt8
  | [], bs => bs
  | x :: r, bs => x.und 0 (undAll r bs)
def canAll : List SA → List UInt8 → Prop
  | [], _ => True
  | x :: r, bs => canAll r bs ∧ ∀ stay, stay ≤ x.room → x.can stay (undAll r bs)
/-- What a loss of power may leave of a file. -/
def mayB (opn : List SA) (bs c : List UInt8) : Prop := ∃ first, first ≤ opn.length ∧ match opn.drop first with
  | [] => c = bs
  | x :: r => ∃ stay, stay ≤ x.room ∧ c = x.und stay (undAll r bs)
theorem StepsR.at {w : World} {ρ : Nat → Option Role} : ∀ {cs : List Value} {l : List SA}, StepsR w ρ cs l → ∀ {i : Nat} (hi : i < l.length), ∃ c0 c1 c2, cs[3 * i]? = some c0 ∧ cs[3 * i + 1]? = some c1 ∧ cs[3 * i + 2]? = some c2 ∧ StepR w ρ c0 c1 c2 l[i]
  | c0 :: c1 :: c2 :: _, x :: r, ⟨h1, _⟩, 0, _ => ⟨c0, c1, c2, rfl, rfl, rfl, h1⟩
  | _ :: _ :: _ :: cs, x :: r, ⟨_, h2⟩, i + 1, hi => by
    obtain ⟨c0, c1, c2, e0, e1, e2, h⟩ := StepsR.at h2 (i := i) (by simpa using hi)
    refine ⟨c0, c1, c2, ?_, ?_, ?_, by simpa using h⟩
    · rw [show 3 * (i + 1) = 3 * i + 3 by omega]; simpa using e0
    · rw [show 3 * (i + 1) + 1 = (3 * i + 1) + 3 by omega]; simpa using e1
    · rw [show 3 * (i + 1) + 2 = (3 * i + 2) + 3 by omega]; simpa using e2
  | [], _ :: _, h, _, _ => h.elim
  | [_], _ :: _, h, _, _ => h.elim
  | [_, _], _ :: _, h, _, _ => h.elim
  | _, [], _, _, hi => absurd hi (Nat.not_lt_zero _)
theorem undAll_can {x : SA} {r : List SA} {bs : List UInt8} (h : canAll (x :: r) bs) : x.can 0 (undAll r bs) := h.2 0 (Nat.zero_le _)
theorem canAll_drop {bs : List UInt8} : ∀ {l : List SA} (i : Nat), canAll l bs → canAll (l.drop i) bs
  | _, 0, h => h
  | [], _ + 1, h => h
  | _ :: l, i + 1, h => canAll_drop (l := l) i h.1
/-- What a file is in the midst of being restored. -/
structure Mid (w wr : World) (ρ : Nat → Option Role) (t b ck : Nat) (num : Int) (Gb : Option Nat) (bs : List UInt8) : Prop where
  mvs : Mvs (fun k => k = ck ∨ k = b ∨ some k = Gb) w wr
  drw : Drw t wr ρ ck
  ex : ∃ vb G, Blk wr b #[.int .i64 num, vb, .slice none 0 0] 100 ∧ Rw wr 1 vb bs.length (bs.map bv) G ∧ (G = Gb ∨ ∃ g, G = some g ∧ w.heap.size ≤ g)
theorem mid_step {w wr w4 : World} {ρ : Nat → Option Role} {t b ck : Nat} {num : Int} {Gb G G' : Option Nat} {vb v' : Value} {c : List UInt8} (hm : Mvs (fun k => k = ck ∨ k = b ∨ some k = Gb) w wr) (hd : Drw t wr ρ ck) (ht : t ≤ w.heap.size) (hk : Blk wr b #[.int .i64 num, vb, .slice none 0 0] 100) (hG : G = Gb ∨ ∃ g, G = some g ∧ w.heap.size ≤ g)
    (hm4 : Mvs (fun j => some j = G) wr.drew w4) (hr4 : Rw w4 1 v' c.length (c.map bv) G') (hG4 : G' = G ∨ ∃ g, G' = some g ∧ wr.drew.heap.size ≤ g) (hb : ρ b = some .file) (hbl : b < w.heap.size) (hGb : ∀ g, Gb = some g → ρ g = some (.bytes b)) (hck : ρ ck = none) : Mid w (w4.setCell ⟨b, 1, none⟩ v') ρ t b ck num Gb c := by
  have hcw : ck < w.heap.size := Nat.lt_of_lt_of_le hd.1 ht
  have hm3 : Mvs (fun j => some j = G) wr w4 := ((Mvs.refl _ wr).drew).trans hm4
  have hws := hm.size
  have hG1 : ∀ j, some j = G → j ≠ b ∧ j ≠ ck ∧ (j < w.heap.size → some j = Gb) := fun j e => by
    rcases hG with e' | ⟨g, e', hle⟩
    · have r1 := hGb j (by rw [← e', e])
      exact ⟨(fun e => by rw [e, hb] at r1; cases r1), (fun e => by rw [e, hck] at r1; cases r1), fun _ => by rw [e, e']⟩
    · rw [e'] at e
      cases e
      exact ⟨by omega, by omega, fun _ => by omega⟩
  have hm5 : Mvs (fun j => j = b) w4 (w4.setCell ⟨b, 1, none⟩ v') := (Mvs.refl (fun k => k = b) w4).setCell ⟨b, 1, none⟩ _ (fun _ => rfl)
  have hs3 := hm3.size
  have hG5 : ∀ g, G' = some g → ¬ g = b := fun g hg e => by
    rcases hG4 with e' | ⟨g', e', hle⟩
    · exact (hG1 g (by rw [← e', hg])).1 e
    · rw [e'] at hg
      cases hg
      have : wr.drew.heap.size = wr.heap.size := rfl
      omega
  refine ⟨?_, ?_, v', G', (hm3.blk hk (fun e => (hG1 b e).1 rfl)).set 1 _, hr4.keep hm5 hG5, ?_⟩
  · refine (hm.trans' hm3 (fun j hj e => .inr (.inr ((hG1 j e).2.2 hj)))).trans (hm5.mono fun _ _ e => .inr (.inl e))
  · refine (hd.keep hm3 (fun j e => ⟨(hG1 j e).2.1, fun hj => ⟨_, hGb j ((hG1 j e).2.2 (Nat.lt_of_lt_of_le hj ht)).symm⟩⟩)).keep hm5 (fun j e => ⟨fun e' => ?_, fun _ => ⟨_, e ▸ hb⟩⟩)
    rw [← e', e, hb] at hck
    cases hck
  · rcases hG4 with e' | ⟨g', e', hle⟩
    · rw [e']
      exact hG
    · exact .inr ⟨g', e', Nat.le_trans hws hle⟩
set_option maxRecDepth 20000 in
set_option maxHeartbeats 4000000 in
theorem restore_any (w : World) (ρ : Nat → Option Role) (b : Nat) (fa : FA) (vb vo : Value) (Gb Go : Option Nat) (cs : List Value) (h : FileRs w ρ b fa vb vo Gb Go cs) (hlo : fa.opn.length ≤ 1000) (hcan : canAll fa.opn fa.bytes) (t ck : Nat) (hck : Drw t w ρ ck) (hr : ρ ck = none) (hne : fa.opn ≠ []) (hroom : ∀ x ∈ fa.opn, x.room ≤ 1000000) :
    Calls Tryz.prog 33 #[pv b, drawV ck] w fun e w' => e = .returned (.tuple #[]) ∧ ∃ c, mayB fa.opn fa.bytes c ∧ Mid w w' ρ t b ck fa.num Gb c := by
  have hneb : ck ≠ b := fun e => by rw [e, h.role] at hr; cases hr
  have hblt := h.blk.lt
  obtain ⟨go, oo, capo, hGo, rfl, hco, hco2, hcells⟩ : ∃ go oo capo, Go = some go ∧ vo = .slice (some ⟨go, oo, none⟩) fa.opn.length capo ∧ fa.opn.length ≤ capo ∧ capo ≤ 9223372036854775807 ∧ ∀ j u, cs[j]? = some u → w.cell? ⟨go, oo + j, none⟩ = some u := by
    rcases h.orow.2 with ⟨_, h, _⟩ | ⟨g', o', c', k1, k2, hle, hmx, _, h4, _⟩
    · exact absurd (List.length_eq_zero_iff.1 h) hne
    · exact ⟨g', o', c', k1, k2, hle, by simpa only [maxLen] using hmx, h4⟩
  subst hGo
  have hgo := h.orow.lt go rfl
  have hrgo := h.ro go rfl
  have HD := hide (draw_any w ρ t ck fa.opn.length hck (by omega))
  have HH := hide h
  have hcb := h.blk.cell
  replace hcells := hide hcells
  replace hcan := hide hcan
  replace hroom := hide hroom
  replace hne := hide hne
  have ht : Hid (t ≤ w.heap.size) := hck.2.1
  have hrb : Hid (ρ b = some .file) := h.role
  have hGbr : Hid (∀ g, Gb = some g → ρ g = some (.bytes b)) := h.rb
  clear hck h
  unfold pv drawV at *
  go_enter Tryz.func33, Tryz.ntmps33
  go_wp2_with fail
  refine HD.out.mono ?_
  rintro e w1 ⟨first, hfl, rfl, hm1, hd1⟩
  have kb1 := hm1.blk HH.out.blk (fun e => hneb e.symm)
  have hcb1 := kb1.cell
  have hfb1 := kb1.frozen
  have hm2 : Mvs (fun k => k = b) w1 (w1.setCell ⟨b, 2, none⟩ (.slice none 0 0)) := (Mvs.refl (fun k => k = b) w1).setCell ⟨b, 2, none⟩ _ (fun _ => rfl)
  have hgbn : ∀ g, Gb = some g → g ≠ ck ∧ g ≠ b := fun g hg => by
    have r1 := HH.out.rb g hg
    exact ⟨(fun e => by rw [e, hr] at r1; cases r1), (fun e => by rw [e, HH.out.role] at r1; cases r1)⟩
  have hM0 : Hid (Mid w (w1.setCell ⟨b, 2, none⟩ (.slice none 0 0)) ρ t b ck fa.num Gb fa.bytes) := by
    refine ⟨(hm1.mono fun _ _ e => .inl e).trans (hm2.mono fun _ _ e => .inr (.inl e)), hd1.keep hm2 (fun k e => ⟨fun e' => hneb (e'.symm.trans e), fun _ => ⟨_, e ▸ HH.out.role⟩⟩), vb, Gb, kb1.set 2 _, (HH.out.row.keep hm1 (fun g hg => (hgbn g hg).1)).keep hm2 (fun g hg => (hgbn g hg).2), .inl rfl⟩
  replace hgbn := hide hgbn
  have hfc : first ≤ capo := by omega
  clear hm1 hd1 hcb HD hm2 kb1
  by_cases hfo : first = fa.opn.length
  · have hmay : Hid (mayB fa.opn fa.bytes fa.bytes) := ⟨first, hfl, by rw [hfo, List.drop_length]⟩
    have hz : fa.opn.length - first = 0 := by omega
    by_cases hcf : capo = first
    · go_wp2
      refine bodyPost_ret (results_none rfl _ _ _) rfl ?_
      exact ⟨rfl, _, hmay.out, hM0.out⟩
    · go_wp2
      refine bodyPost_ret (results_none rfl _ _ _) rfl ?_
      exact ⟨rfl, _, hmay.out, hM0.out⟩
  · obtain ⟨n, hn⟩ : ∃ n, fa.opn.length = first + (n + 1) := ⟨fa.opn.length - first - 1, by omega⟩
    rw [hn] at hcb1
    have hcf : ¬ capo = first := by omega
    have hnz : ¬ (n : Int) + 1 = 0 := by omega
    have hnz2 : (((n + 1 : Nat) : Int) == 0) = false := by simp; omega
    go_wp2
    go_loopw [6] (fun u wr => ∃ i : Nat, i ≤ n ∧ u = .int .i64 i ∧ Hid (Mid w wr ρ t b ck fa.num Gb (undAll ((fa.opn.drop first).drop (i + 1)) fa.bytes))) (fun u _ => (intOf u).toNat)
    case atStart => exact ⟨n, Nat.le_refl _, rfl, by
      rw [List.drop_eq_nil_of_le (by rw [List.length_drop]; omega)]
      exact hM0⟩
    case round =>
      obtain ⟨i, hin, rfl, hM⟩ := hrel
      obtain ⟨bs, hbs⟩ : ∃ bs, Hid (bs = undAll ((fa.opn.drop first).drop (i + 1)) fa.bytes) := ⟨_, rfl⟩
      rw [← hbs.out] at hM
      have hil : first + i < fa.opn.length := by omega
      have hir : i < (fa.opn.drop first).length := by rw [List.length_drop]; omega
      obtain ⟨c0, c1, c2, e0, e1, e2, hst⟩ := HH.out.steps.at hil
      have hgn : ¬ (go = ck ∨ go = b ∨ some go = Gb) := fun e => by
        rcases e with e | e | e
        · rw [e, hr] at hrgo; cases hrgo
        · rw [e, HH.out.role] at hrgo; cases hrgo
        · rw [HH.out.rb go e.symm] at hrgo; cases hrgo
      have hcap : ∀ k, ρ k = some .cap → ¬ (k = ck ∨ k = b ∨ some k = Gb) := fun k hk e => by
        rcases e with e | e | e
        · rw [e, hr] at hk; cases hk
        · rw [e, HH.out.role] at hk; cases hk
        · rw [HH.out.rb k e.symm] at hk; cases hk
      have f2 := (hM.out.mvs.cell (a := ⟨go, oo + (3 * (first + i) + 2), none⟩) hgo hgn).trans (hcells.out _ _ e2)
      have f0 := (hM.out.mvs.cell (a := ⟨go, oo + 3 * (first + i), none⟩) hgo hgn).trans (hcells.out _ _ e0)
      have f1 := (hM.out.mvs.cell (a := ⟨go, oo + (3 * (first + i) + 1), none⟩) hgo hgn).trans (hcells.out _ _ e1)
      rw [show oo + (3 * (first + i) + 2) = oo + first * 3 + i * 3 + 2 by omega] at f2
      rw [show oo + 3 * (first + i) = oo + first * 3 + i * 3 by omega] at f0
      rw [show oo + (3 * (first + i) + 1) = oo + first * 3 + i * 3 + 1 by omega] at f1
      have hstw := hst.keep hM.out.mvs hcap (fun _ h => h)
      have hdr : (fa.opn.drop first).drop i = fa.opn[first + i] :: (fa.opn.drop first).drop (i + 1) := by
        rw [List.drop_eq_getElem_cons hir, List.getElem_drop]
      have hcn : canAll (fa.opn[first + i] :: (fa.opn.drop first).drop (i + 1)) fa.bytes := by
        rw [← hdr]
        exact canAll_drop i (canAll_drop first hcan.out)
      have hcan1 : Hid (∀ stay, stay ≤ (fa.opn[first + i]).room → (fa.opn[first + i]).can stay bs) := by
        intro stay hs
        rw [hbs.out]
        exact hcn.2 stay hs
      have hund1 : Hid ((fa.opn[first + i]).und 0 bs = undAll ((fa.opn.drop first).drop i) fa.bytes) := by
        rw [hdr, hbs.out]
        rfl
      have hmay : Hid (i = 0 → ∀ stay, stay ≤ (fa.opn[first + i]).room → mayB fa.opn fa.bytes ((fa.opn[first + i]).und stay bs)) := by
        intro h0 stay hs
        refine ⟨first, hfl, ?_⟩
        have hd0 : fa.opn.drop first = fa.opn[first + i] :: (fa.opn.drop first).drop (i + 1) := by
          rw [← hdr, h0]
          rfl
        rw [hd0]
        exact ⟨stay, hs, by rw [hbs.out]⟩
      have hgw : go < wr.heap.size := Nat.lt_of_lt_of_le hgo hM.out.mvs.size
      obtain ⟨vbr, Gr, hkr, hrr, hGr⟩ := hM.out.ex
      obtain ⟨Abr, cbr, rfl⟩ := hrr.form
      have hcr := hkr.cell
      have hfr := hkr.frozen
      have hbG : Hid (¬ some b = Gr) := fun e => by
        rcases hGr with e' | ⟨g, e', hle⟩
        · have := HH.out.rb b (by rw [← e', e])
          rw [HH.out.role] at this
          cases this
        · rw [e'] at e
          cases e
          omega
      have HKr := hide hkr
      replace hGr := hide hGr
      have hMm := hide hM.out.mvs
      have hDd := hide hM.out.drw
      have HKw := hide (And.intro hstw hrr)
      clear hcn hdr hbs
      clear hst hstw hrr hkr hM e0 e1 e2 hgn hcap
      by_cases hi0 : 0 < i
      · obtain ⟨j, rfl⟩ : ∃ j, i = j + 1 := ⟨i - 1, by omega⟩
        have hiz : (0 : Int) < (j : Int) + 1 := by omega
        have hiz1 : (0 : Int) ≤ (j : Int) + 1 := by omega
        have hjn : j < n := by omega
        have hund := undClo wr.drew ρ c0 c1 c2 _ (HKw.out.1.keep (S := fun _ => False) (Mvs.refl _ wr).drew (fun _ _ c => c) (fun _ h => h)) _ _ Gr (HKw.out.2.keep (S := fun _ => False) (Mvs.refl _ wr).drew (fun _ _ c => c)) 0 (hcan1.out 0 (Nat.zero_le _))
        have hund2 := hide (hund1.out)
        generalize fa.opn[first + (j + 1)] = sa at *
        clear HKw hmay hcan1 hund1
        rcases hund with ⟨kk, rfl, hC⟩ | ⟨kk, rfl, hC⟩
        · have HC := hide hC
          unfold pv at HC f2
          clear hC
          go_wp2_with fail
          go_region_law (go_simp
                         go_at_call 110
                         refine HC.out.mono ?_
                         rintro e w4 ⟨v4, G4, rfl, hr4, hm4, hg4⟩
                         obtain ⟨A4, c4, rfl⟩ := hr4.form
                         have H4 := hide (mid_step hMm.out hDd.out ht.out HKr.out hGr.out hm4 hr4 hg4 hrb.out hblt hGbr.out hr)
                         have hk4 := hm4.blk (x := wr.drew) HKr.out hbG.out
                         have hcb4 := hk4.cell
                         have hfb4 := hk4.frozen
                         have hlt4 := hk4.lt
                         clear hr4 hm4 hg4 hk4)
          all_goals (
            go_wp2
            go_roundw
            case rel =>
              have H5 := Eq.subst (motive := fun z => Hid (Mid w (w4.setCell ⟨b, 1, none⟩ (.slice A4 (sa.und 0 bs).length c4)) ρ t b ck fa.num Gb z)) hund2.out H4
              exact ⟨_, _, _, _, _, _, _, _, _, _, _, _, _, _, _, _, _, _, ⟨j, by omega, rfl, H5⟩, rfl⟩
            case measure => simp [intOf])
        · have HC := hide hC
          unfold pv at HC f2
          clear hC
          go_wp2_with fail
          go_region_law (go_simp
                         go_at_call 113
                         refine HC.out.mono ?_
                         rintro e w4 ⟨v4, G4, rfl, hr4, hm4, hg4⟩
                         obtain ⟨A4, c4, rfl⟩ := hr4.form
                         have H4 := hide (mid_step hMm.out hDd.out ht.out HKr.out hGr.out hm4 hr4 hg4 hrb.out hblt hGbr.out hr)
                         have hk4 := hm4.blk (x := wr.drew) HKr.out hbG.out
                         have hcb4 := hk4.cell
                         have hfb4 := hk4.frozen
                         have hlt4 := hk4.lt
                         clear hr4 hm4 hg4 hk4)
          all_goals (
            go_wp2
            go_roundw
            case rel =>
              have H5 := Eq.subst (motive := fun z => Hid (Mid w (w4.setCell ⟨b, 1, none⟩ (.slice A4 (sa.und 0 bs).length c4)) ρ t b ck fa.num Gb z)) hund2.out H4
              exact ⟨_, _, _, _, _, _, _, _, _, _, _, _, _, _, _, _, _, _, ⟨j, by omega, rfl, H5⟩, rfl⟩
            case measure => simp [intOf])
      · obtain rfl : i = 0 := by omega
        simp only [Nat.zero_mul, Nat.add_zero] at f0 f1 f2
        have hroom1 : Hid ((fa.opn[first + 0]).room ≤ 1000000) := hroom.out _ (List.getElem_mem _)
        clear hund1
        generalize fa.opn[first + 0] = sa at *
        obtain ⟨hs1, hr1⟩ := HKw.out
        clear HKw
        cases sa with
        | put size len =>
          obtain ⟨rfl, rfl, kk, rfl, hkk, hkr'⟩ := hs1
          have hlen : len ≤ 1000000 := hroom1.out
          have HDr := hide (draw_any wr ρ t ck len hDd.out hlen)
          have HR1 := hide (And.intro hr1 (And.intro hkk hkr'))
          unfold pv at HDr f2
          clear hr1 hkk hkr'
          go_wp2_with fail
          refine HDr.out.mono ?_
          rintro e w5 ⟨stay, hst, rfl, hm5, hd5⟩
          have hm5s := hm5.size
          have hk5 := hide (hm5.blk HKr.out (fun e => hneb e.symm))
          have hck5 : ∀ g, Gr = some g → ¬ g = ck := fun g hg e => by
            rcases hGr.out with e' | ⟨g', e', hle⟩
            · have r1 := hGbr.out g (by rw [← e', hg])
              rw [e, hr] at r1
              cases r1
            · rw [e'] at hg
              cases hg
              have := hDd.out.1
              have := ht.out
              omega
          have hr5 := HR1.out.1.keep hm5 hck5
          have hkk5 := hm5.blk HR1.out.2.1 (fun e => by have := HR1.out.2.2; rw [e, hr] at this; cases this)
          have hMm5 := hide (hMm.out.trans (hm5.mono fun _ _ e => .inl e))
          have g2 := (hm5.cell (a := ⟨go, oo + first * 3 + 2, none⟩) hgw (fun e => by
            have e' : go = ck := e
            rw [e', hr] at hrgo
            cases hrgo)).trans f2
          have hcr5 := hk5.out.cell
          have hfr5 := hk5.out.frozen
          have hD5 := hide hd5
          have hrd5 : Hid (Rw w5.drew 1 (.slice Abr bs.length cbr) bs.length (bs.map bv) Gr) := hr5.keep (S := fun _ => False) (Mvs.refl _ w5).drew (fun _ _ c => c)
          obtain ⟨At, ct, hAt, h1t, h2t, h3t⟩ := hrd5.out.take (hcan1.out stay hst)
          cases hAt
          have HC0 := hide (put1_all w5.drew kk bs.length cbr size stay Abr hkk5 (hcan1.out stay hst) h1t h2t)
          have HC : Hid (Calls Tryz.prog 110 #[.slice Abr bs.length cbr, .int .i64 stay, pv kk] w5.drew (Und w5.drew (bs.take (size + stay)) Gr)) := by
            refine HC0.out.mono ?_
            rintro e w' ⟨rfl, rfl⟩
            refine ⟨_, Gr, rfl, ?_, Mvs.refl _ _, .inl rfl⟩
            rw [List.length_take, Nat.min_eq_left (hcan1.out stay hst), List.map_take]
            exact h3t
          have hmay2 : Hid (mayB fa.opn fa.bytes (bs.take (size + stay))) := hmay.out (by first | rfl | trivial) stay hst
          obtain ⟨bt, hbt⟩ : ∃ bt, Hid (bt = bs.take (size + stay)) := ⟨_, rfl⟩
          rw [← hbt.out] at HC hmay2
          unfold pv at HC
          clear hbt HC0 h3t h1t h2t hkk5 hr5 HR1 hm5 hd5 f0 f1 f2 hcr hfr HDr hrd5 hmay hcan1
          go_wp2_with fail
          go_region_law (go_simp
                         go_at_call 110
                         refine HC.out.mono ?_
                         rintro e w4 ⟨v4, G4, rfl, hr4, hm4, hg4⟩
                         obtain ⟨A4, c4, rfl⟩ := hr4.form
                         have H4 := hide (mid_step hMm5.out hD5.out ht.out hk5.out hGr.out hm4 hr4 hg4 hrb.out hblt hGbr.out hr)
                         have hk4 := hm4.blk (x := w5.drew) hk5.out hbG.out
                         have hcb4 := hk4.cell
                         have hfb4 := hk4.frozen
                         have hlt4 := hk4.lt
                         clear hr4 hm4 hg4 hk4)
          all_goals (
            go_wp2
            go_end0
            exact ⟨rfl, _, hmay2.out, H4.out⟩)
        | cut gone =>
          obtain ⟨rfl, rfl, kk, vg, Gg, rfl, hkk, hkr', hgr, hgc⟩ := hs1
          have hund := cut1_any wr.drew kk _ gone _ vg Gr Gg 0 hkk (hr1.keep (S := fun _ => False) (Mvs.refl _ wr).drew (fun _ _ c => c)) (hgr.keep (S := fun _ => False) (Mvs.refl _ wr).drew (fun _ _ c => c)) (hcan1.out 0 (Nat.zero_le _))
          have HC := hide hund
          have hmay2 : Hid (mayB fa.opn fa.bytes (bs ++ gone)) := hmay.out (by first | rfl | trivial) 0 (Nat.zero_le _)
          obtain ⟨bt, hbt⟩ : ∃ bt, Hid (bt = bs ++ gone) := ⟨_, rfl⟩
          change Hid (Calls _ _ _ _ (Und wr.drew (bs ++ gone) Gr)) at HC
          rw [← hbt.out] at HC hmay2
          unfold pv at HC f2
          clear hbt hund hr1 hkk hkr' hgr hgc
          go_wp2_with fail
          go_region_law (go_simp
                         go_at_call 113
                         refine HC.out.mono ?_
                         rintro e w4 ⟨v4, G4, rfl, hr4, hm4, hg4⟩
                         obtain ⟨A4, c4, rfl⟩ := hr4.form
                         have H4 := hide (mid_step hMm.out hDd.out ht.out HKr.out hGr.out hm4 hr4 hg4 hrb.out hblt hGbr.out hr)
                         have hk4 := hm4.blk (x := wr.drew) HKr.out hbG.out
                         have hcb4 := hk4.cell
                         have hfb4 := hk4.frozen
                         have hlt4 := hk4.lt
                         clear hr4 hm4 hg4 hk4)
          all_goals (
            go_wp2
            go_end0
            exact ⟨rfl, _, hmay2.out, H4.out⟩)
end Go.Proofs.YthhnlkbjpahjeaaGreatDoor

end
section
namespace Go.Proofs.YthhnlkbjpahjeaaGreatDoor
open Go.RowKit Go.Maps
def crashX (ρ : Nat → Option Role) (bs nb nc b : Nat) (G : Option Nat) : Nat → Option Role := putRole (putRole (putRole (putRole ρ G (.bytes b)) (some bs) .names) (some nb) .sure) (some nc) .changed
def St.crashedX (s : St) (b : Nat) (fa : FA) (D : DataW Unit) (N : Nat) : St := { (s.withF b fa) with D := D, Ds := D, ch := .map [], ns := 0, nl := [], ls := [], opened := 0, off := false, armed := -1, N := N }
section
variable {w0 w w' : World} {d : Nat} {ρ : Nat → Option Role} {s : St} {bn bs bc : Nat} {vs vl : Value} {Gs Gl : Option Nat} {cs : List Value}
theorem crashX_back {nb nc b k : Nat} {G : Option Nat} {r : Role} (hr : crashX ρ bs nb nc b G k = some r) : k = nc ∨ k = nb ∨ k = bs ∨ G = some k ∨ ρ k = some r := by
  unfold crashX at hr
  rcases putRole_cases hr with e | hr
  · cases e; exact .inl rfl
  · rcases putRole_cases hr with e | hr
    · cases e; exact .inr (.inl rfl)
    · rcases putRole_cases hr with e | hr
      · cases e; exact .inr (.inr (.inl rfl))
      · rcases putRole_cases hr with e | hr
        · exact .inr (.inr (.inr (.inl e)))
        · exact .inr (.inr (.inr (.inr hr)))
theorem DKs.crashX_keep (h : DKs w0 w d ρ s bn bs bc vs vl Gs Gl cs) {b nb nc : Nat} {Gb G : Option Nat} (hGb : ∀ g, Gb = some g → ρ g = some (.bytes b)) (hG : G = Gb ∨ ∃ g, G = some g ∧ w.heap.size ≤ g) (h1 : w.heap.size ≤ nb) (h2 : w.heap.size ≤ nc) {k : Nat} {r : Role} (hr : ρ k = some r) (hk : k ≠ bs) : crashX ρ bs nb nc b G k = some r := by
  have hlt := h.lt hr
  unfold crashX
  rw [putRole_other (by intro e; cases e; omega), putRole_other (by intro e; cases e; omega), putRole_other (by intro e; cases e; exact hk rfl)]
  by_cases e : G = some k
  · rw [putRole_is e]
    rcases hG with e' | ⟨g, e', hle⟩
    · rw [← hGb k (by rw [← e', e]), hr]
    · rw [e'] at e
      cases e
      omega
  · rw [putRole_other (fun e' => e e'.symm)]
    exact hr
theorem DKs.crashedX (h : DKs w0 w d ρ s bn bs bc vs vl Gs Gl cs) {b nb nc : Nat} {fa fa0 : FA} {Gb G : Option Nat} {D : DataW Unit} {N : Nat} (hm : Mvs (fun k => k = d ∨ k = bs ∨ k = b ∨ some k = Gb) w w') (hφ : s.φ b = some fa0) (hGb : ∀ g, Gb = some g → ρ g = some (.bytes b)) (hG : G = Gb ∨ ∃ g, G = some g ∧ w.heap.size ≤ g) (hGlt : ∀ g, G = some g → g < w'.heap.size) (hF : FileR w' (crashX ρ bs nb nc b G) b fa) (h1 : w.heap.size ≤ nb) (h2 : w.heap.size ≤ nc) (l1 : nb < w'.heap.size) (l2 : nc < w'.heap.size) (hne : nb ≠ nc)
    (hn : w'.ownsMap Tryz.prog 9 ptrElem bs N D) (hs : w'.ownsMap Tryz.prog 9 ptrElem nb N D) (hc : w'.ownsMap Tryz.prog 3 ptrElem nc N (.map [])) (hv : ∀ kl b, D.atKey kl .nil = pd b → (s.φ b).isSome = true) (he : ∀ p ∈ entriesOf D, ∃ b, p.2 = pd b)
    (hblk : Blk w' d #[.map (some bs), .map (some nb), .slice none 0 0, .map (some nc), .slice none 0 0, .int .i64 s.created, .int .i64 0, .int .i64 s.steps, .int .i64 (-1), .bool false, .int .i64 s.quota] 56) :
    DKs w0 w' d (crashX ρ bs nb nc b G) (s.crashedX b fa D N) bs nb nc (.slice none 0 0) (.slice none 0 0) none none [] ∧ Turn w w' ρ (crashX ρ bs nb nc b G) := by
  have hbf : ρ b = some .file := by
    obtain ⟨_, _, _, _, _, hF⟩ := h.files b fa0 hφ
    exact hF.role
  have hw0 := h.below.size
  have hbs := h.lt h.rs
  have keep : ∀ k r, ρ k = some r → k ≠ bs → crashX ρ bs nb nc b G k = some r := fun k r hr hk => h.crashX_keep hGb hG h1 h2 hr hk
  have neS : ∀ k r, ρ k = some r → r ≠ .sure → k ≠ bs := fun k r hr h1 e => by subst e; rw [h.rs] at hr; exact h1 (Option.some.inj hr).symm
  have role : ∀ k, (k = d ∨ k = bs ∨ k = b ∨ some k = Gb) → ∃ r, ρ k = some r := fun k e => by
    rcases e with rfl | rfl | rfl | e
    · exact ⟨_, h.rd⟩
    · exact ⟨_, h.rs⟩
    · exact ⟨_, hbf⟩
    · exact ⟨_, hGb k e.symm⟩
  have ne : ∀ k r, ρ k = some r → ∀ b', b' ≠ b → r.of b' k → ¬ (k = d ∨ k = bs ∨ k = b ∨ some k = Gb) := fun k r hr b' hb' hof e => by
    rcases e with e | e | e | e
    · rw [e, h.rd] at hr; cases Option.some.inj hr; exact hof
    · rw [e, h.rs] at hr; cases Option.some.inj hr; exact hof
    · rw [e, hbf] at hr
      cases Option.some.inj hr
      exact hb' ((show k = b' from hof).symm.trans e)
    · rw [hGb k e.symm] at hr
      cases Option.some.inj hr
      exact hb' (show b = b' from hof).symm
  refine ⟨{
    below := h.below.trans (hm.below (fun k hk c => by
      obtain ⟨r, hr⟩ := role k c
      have := (h.low k r hr).1
      omega) h.below.size)
    low := fun k r hr => by
      have hms := hm.size
      rcases crashX_back hr with rfl | rfl | rfl | e | hr
      · omega
      · omega
      · have := h.low _ _ h.rs; omega
      · have hg := hGlt k e
        rcases hG with e' | ⟨g, e', hle⟩
        · exact ⟨(h.low k _ (hGb k (by rw [← e', e]))).1, hg⟩
        · rw [e'] at e
          cases e
          omega
      · have := h.low _ _ hr; omega
    blk := hblk
    rd := keep _ _ h.rd (neS _ _ h.rd (by simp))
    rn := by
      unfold crashX
      rw [putRole_other (by intro e; cases e; omega), putRole_other (by intro e; cases e; omega)]
      exact putRole_at _ _ _
    rs := by
      unfold crashX
      rw [putRole_other (by intro e; cases e; exact hne rfl)]
      exact putRole_at _ _ _
    rc := putRole_at _ _ _
    names := hn
    sure := hs
    chg := hc
    row := Rw.nil _ _
    rsteps := fun _ h => by cases h
    lost := Rw.nil _ _
    rlost := fun _ h => by cases h
    files := fun b' fa' hb' => by
      replace hb' : (if b' = b then some fa else s.φ b') = some fa' := hb'
      by_cases e : b' = b
      · subst e
        rw [if_pos rfl] at hb'
        cases hb'
        exact hF
      · rw [if_neg e] at hb'
        exact (h.files b' fa' hb').keep hm (fun k r hr hof => ne k r hr b' e hof) (fun k r hr hof => keep k r hr (neS k r hr (by intro e; subst e; exact hof)))
    vD := fun kl b' hb' => by
      have := hv kl b' hb'
      show (if b' = b then some fa else s.φ b').isSome = true
      split
      · rfl
      · exact this
    eD := he
    nsr := trivial }, hm.mono (fun k _ e => role k e), fun k r hr hlt => by
      rcases crashX_back hr with rfl | rfl | rfl | e | hr
      · omega
      · omega
      · exact ⟨_, h.rs⟩
      · rcases hG with e' | ⟨g, e', hle⟩
        · exact ⟨_, hGb k (by rw [← e', e])⟩
        · rw [e'] at e
          cases e
          omega
      · exact ⟨r, hr⟩⟩
end
end Go.Proofs.YthhnlkbjpahjeaaGreatDoor

end
section
namespace Go.Proofs.YthhnlkbjpahjeaaGreatDoor
open Go.RowKit Go.Maps
/-- The numbers that a crash is given. -/
def Keep (w : World) (ρ : Nat → Option Role) (A : Option Addr) (n c : Nat) : Prop := n ≤ c ∧ c ≤ 9223372036854775807 ∧ (n ≠ 0 → ∃ g o, A = some ⟨g, o, none⟩ ∧ g < w.heap.size ∧ ρ g = none ∧ ∀ j, j < n → ∃ x : Int, w.cell? ⟨g, o + j, none⟩ = some (.int .i64 x) ∧ x ≤ 9223372036854775807)
theorem Keep.drw {w : World} {ρ : Nat → Option Role} {A : Option Addr} {n c : Nat} (h : Keep w ρ A n c) : Drw (w.heap.size + 1) (w.alloc (.cells #[.slice A n c] 26)) ρ w.heap.size := by
  obtain ⟨h1, h2, h3⟩ := h
  have hb : Below w.heap.size w (w.alloc (.cells #[.slice A n c] 26)) := (Below.refl _ _).alloc (Nat.le_refl _) _
  refine ⟨by omega, by simp, A, n, c, Blk.new _ _ _, h1, h2, fun hn => ?_⟩
  obtain ⟨g, o, rfl, hg, hr, hx⟩ := h3 hn
  refine ⟨g, o, rfl, by omega, hr, by omega, fun j hj => ?_⟩
  obtain ⟨x, hx1, hx2⟩ := hx j hj
  exact ⟨x, (hb.cell (p := ⟨g, o + j, none⟩) hg).trans hx1, hx2⟩
set_option maxRecDepth 20000 in
set_option maxHeartbeats 4000000 in
theorem crash_file (w0 w : World) (d : Nat) (ρ : Nat → Option Role) (s : St) (h : DK w0 w d ρ s) (hls : s.ls = []) (b : Nat) (fa : FA) (hch : s.ch = .map [(.int .i64 fa.num, pd b)]) (hφ : s.φ b = some fa) (hne' : fa.opn ≠ []) (hlo : fa.opn.length ≤ 1000) (hcan : canAll fa.opn fa.bytes) (hroom : ∀ x ∈ fa.opn, x.room ≤ 1000000)
    (hN : s.N ≤ 100000) (hns : s.ns ≤ 100000) (hln : ∀ x ∈ s.nl, x.name.length ≤ 1000000) (ho : (s.ns : Int) ≤ s.opened) (ho1 : s.opened ≤ 1000000)
    (hv : ∀ k kl b, (apN s.Ds (s.nl.take k)).atKey kl .nil = pd b → (s.φ b).isSome = true) (he : ∀ k, ∀ p ∈ entriesOf (apN s.Ds (s.nl.take k)), ∃ b, p.2 = pd b) (A : Option Addr) (n c : Nat) (hkp : Keep w ρ A n c) :
    Calls Tryz.prog 14 #[pv d, .slice A n c] w fun e w' => e = .returned (.tuple #[]) ∧ ∃ k bt ρ', k ≤ s.ns ∧ mayB fa.opn fa.bytes bt ∧ DK w0 w' d ρ' (s.crashedX b ⟨fa.num, bt, []⟩ (apN s.Ds (s.nl.take k)) (s.N + k)) ∧ Turn w w' ρ ρ' := by
  obtain ⟨bn, bs, bc, vs, vl, Gs, Gl, cs, h⟩ := h
  have HD := hide h
  have hrow := h.row
  have hnl := h.nsr
  have hlost : Hid (Rw w 1 vl 0 [] Gl) := by
    have := h.lost
    rw [hls] at this
    exact this
  have hchg : Hid (w.ownsMap Tryz.prog 3 ptrElem bc s.N (.map [(.int .i64 fa.num, pd b)])) := by
    have := h.chg
    rw [hch] at this
    exact this
  have hk0 := h.blk
  have hck0 : ρ w.heap.size = none := h.off (Nat.le_refl _)
  have hdlt := h.lt h.rd
  have hbslt := h.lt h.rs
  have hne := h.ne
  have hDF : Hid (Calls Tryz.prog 30 #[.slice A n c] w fun e w' => e = .returned (drawV w.heap.size) ∧ w' = w.alloc (.cells #[.slice A n c] 26)) := by
    show Calls _ _ _ _ _
    unfold drawV pv
    go_enter Tryz.func30, Tryz.ntmps30
    go_wp2
    go_ret
    exact ⟨rfl, rfl⟩
  have hdrw := hide hkp.drw
  obtain ⟨As, cc, rfl⟩ := hrow.form
  replace hrow := hide hrow
  replace hnl := hide hnl
  have hmayc := hide (And.intro hcan (And.intro hroom hne'))
  have hva := hide (And.intro hv he)
  replace hln := hide hln
  clear h hkp hcan hroom hne' hv he
  unfold pv
  go_enter Tryz.func14, Tryz.ntmps14
  go_wp2_with (go_at_call 30; refine hDF.out.mono ?_)
  rintro e w1 ⟨rfl, hw1⟩
  have hb1 : Below w.heap.size w w1 := by rw [hw1]; exact (Below.refl _ _).alloc (Nat.le_refl _) _
  have hs1 : w1.heap.size = w.heap.size + 1 := by rw [hw1]; simp
  have hd1 : Hid (Drw (w.heap.size + 1) w1 ρ w.heap.size) := by rw [hw1]; exact hdrw.out
  have kd1 := hk0.below hb1 hdlt
  have hc1 := kd1.cell
  unfold drawV
  have HB1 := hide hb1
  have hdc : d ≠ w.heap.size := by omega
  replace hk0 := hide hk0
  replace hch := hide hch
  replace hls := hide hls
  replace hφ := hide hφ
  have HDr := hide (draw_any w1 ρ (w.heap.size + 1) w.heap.size s.ns hd1.out (by omega))
  unfold pv at HDr
  clear hw1 hDF hdrw hd1
  go_wp2_with fail
  refine HDr.out.mono ?_
  rintro e w2 ⟨k, hkn, rfl, hm2, hd2⟩
  have hm02 : Mvs (fun j => False) w w2 := (Mvs.of_below HB1.out).trans' hm2 (fun i hi e => by omega)
  have kd2 := hm2.blk kd1 hdc
  have hs2 := hm2.size
  have HR := hide (restoreNames_any w2 ρ d bs s.N s.Ds _ _ _ _ _ _ _ _ s.ns _ Gs cs s.nl s.opened kd2 (HD.out.sure.mvs hm02 (fun c => c)) HD.out.rd HD.out.rs (hrow.out.keep hm02 (fun _ _ c => c)) HD.out.rsteps (NsR.keep hm02 (fun _ _ c => c) (fun _ h => h) _ _ hnl.out) hN hns hln.out ho (by omega) k hkn)
  have HM2 := hide hm02
  have HD2 := hide hd2
  have hs2' := hide (show w.heap.size + 1 ≤ w2.heap.size by omega)
  unfold pv at HR
  clear hm2 hd2 hm02 kd2 hs2 kd1 hc1 HDr hs1
  go_wp2_with fail
  refine HR.out.mono ?_
  rintro e w3 ⟨rfl, hm3, nb, hnb, hnlt, kd3, hs3, hn3⟩
  have hm03 : Mvs (fun j => j = d ∨ j = bs) w w3 := (HM2.out.mono fun _ _ c => c.elim).trans hm3
  have hchg3 := hchg.out.mvs hm03 (fun e => by rcases e with e | e; exact hne.2.2.1 e; exact hne.2.2.2.2.2 e.symm)
  have hlost3 := hlost.out.keep hm03 (fun g hg e => by
    have r1 := HD.out.rlost g hg
    rcases e with e | e
    · rw [e, HD.out.rd] at r1; cases r1
    · rw [e, HD.out.rs] at r1; cases r1)
  have hd3 := hide (HD2.out.keep hm3 (fun j e => by
    rcases e with e | e
    · exact ⟨by omega, fun _ => ⟨_, e ▸ HD.out.rd⟩⟩
    · exact ⟨by omega, fun _ => ⟨_, e ▸ HD.out.rs⟩⟩))
  have HM3 := hide hm03
  have hsu3 := hide (And.intro hs3 hn3)
  have hnb3 := hide (And.intro hnb hnlt)
  have hs3' := hide hm3.size
  clear hm3 hm03 hs3 hn3 hnb hnlt HR
  go_wp2_with fail
  refine (unsure_one w3 d bc s.N b fa.num _ _ _ vl _ _ _ _ _ _ Gl kd3 hchg3 hlost3).mono ?_
  rintro e w4 ⟨v4, rfl, hb4, G4, hr4, _⟩
  obtain ⟨g4, o4, c4, rfl, hcell4⟩ : ∃ g4 o4 c4, v4 = .slice (some ⟨g4, o4, none⟩) 1 c4 ∧ w4.cell? ⟨g4, o4, none⟩ = some (.pointer (some ⟨b, 0, none⟩)) := by
    rcases hr4.2 with ⟨_, h, _⟩ | ⟨g', o', c', _, k2, _, _, _, k4, _⟩
    · simp at h
    · exact ⟨g', o', c', k2, by have := k4 0 (pv b) rfl; simpa [pv] using this⟩
  have hs4 := hb4.size
  have kd4 := hide (kd3.below hb4 kd3.lt)
  have hF4 := ((HD.out.files b _ hφ.out).keep HM3.out (fun k r hr hof e => by
    rcases e with e | e
    · rw [e, HD.out.rd] at hr; cases Option.some.inj hr; exact hof
    · rw [e, HD.out.rs] at hr; cases Option.some.inj hr; exact hof) (fun k r hr _ => hr)).below hb4
  have hsu4 := hide (And.intro (hsu3.out.1.mvs (S := fun _ => False) (Mvs.of_below hb4) (fun c => c)) (hsu3.out.2.mvs (S := fun _ => False) (Mvs.of_below hb4) (fun c => c)))
  have HM4 := hide (HM3.out.then hb4)
  have hd4 := hide (hd3.out.keep (S := fun _ => False) (Mvs.of_below hb4) (fun _ c => c.elim))
  obtain ⟨fvb, fvo, fGb, fGo, fcs, hFs⟩ := hF4
  have HRe := hide (restore_any w4 ρ b fa fvb fvo fGb fGo fcs hFs hlo hmayc.out.1 (w.heap.size + 1) w.heap.size hd4.out hck0 hmayc.out.2.2 hmayc.out.2.1)
  have hbd : Hid (b ≠ d) := fun e => by have := hFs.role; rw [e, HD.out.rd] at this; cases this
  have hbw : Hid (b < w.heap.size) := HD.out.lt hFs.role
  have hrol : Hid (ρ b = some .file ∧ ∀ g, fGb = some g → ρ g = some (.bytes b)) := ⟨hFs.role, hFs.rb⟩
  have hsz4 := hide (show nb < w4.heap.size ∧ w.heap.size + 1 ≤ nb ∧ w.heap.size ≤ w4.heap.size by have := hnb3.out; have := hs2'.out; have := hs3'.out; omega)
  clear hb4 hr4 hs4 kd3 hchg3 hlost3 hFs hd4 hd3
  unfold pv drawV at HRe
  go_wp2
  refine wp_loop_rounds 2 ?_
  rw [rounds_succ]
  go_wp2_with fail
  refine HRe.out.mono ?_
  rintro e w5 ⟨rfl, bt, hmay, hM5⟩
  have hGn : ∀ g, fGb = some g → g ≠ d ∧ g ≠ bs ∧ g < w.heap.size := fun g hg => by
    have r1 := hrol.out.2 g hg
    exact ⟨(fun e => by rw [e, HD.out.rd] at r1; cases r1), (fun e => by rw [e, HD.out.rs] at r1; cases r1), HD.out.lt r1⟩
  have kd5 := hM5.mvs.blk kd4.out (fun e => by
    rcases e with e | e | e
    · exact hdc e
    · exact hbd.out e.symm
    · exact (hGn d e.symm).1 rfl)
  have hc5 := kd5.cell
  have hf5 := kd5.frozen
  have hd5 := kd5.lt
  have HM5 := hide hM5
  have HK5 := hide kd5
  replace hGn := hide hGn
  replace hmay := hide hmay
  have hmm := @run_makeMap Tryz.prog
  clear hM5 kd5 HRe hcell4
  go_wp2_with fail
  rw [rounds_succ]
  go_wp2_with fail
  go_end0
  have hbs : w5.heap.size = (((((w5.setCell ⟨d, 3, none⟩ (.map (some w5.heap.size))).setCell ⟨d, 4, none⟩ (.slice none 0 0)).setCell ⟨d, 6, none⟩ (.int .i64 0)).setCell ⟨d, 9, none⟩ (.bool false)).setCell ⟨d, 8, none⟩ (.int .i64 (-1))).heap.size := by simp [World.setCell]
  have hm6 : Mvs (fun k => k = d) w5 ((((((w5.setCell ⟨d, 3, none⟩ (.map (some w5.heap.size))).setCell ⟨d, 4, none⟩ (.slice none 0 0)).setCell ⟨d, 6, none⟩ (.int .i64 0)).setCell ⟨d, 9, none⟩ (.bool false)).setCell ⟨d, 8, none⟩ (.int .i64 (-1))).alloc (.map #[] 0)) :=
    ((((((Mvs.refl (fun k => k = d) w5).setCell ⟨d, 3, none⟩ _ (fun _ => rfl)).setCell ⟨d, 4, none⟩ _ (fun _ => rfl)).setCell ⟨d, 6, none⟩ _ (fun _ => rfl)).setCell ⟨d, 9, none⟩ _ (fun _ => rfl)).setCell ⟨d, 8, none⟩ _ (fun _ => rfl)).alloc _
  have kd6 := (((((HK5.out.set 3 (.map (some w5.heap.size))).set 4 (.slice none 0 0)).set 6 (.int .i64 0)).set 9 (.bool false)).set 8 (.int .i64 (-1))).alloc (.map #[] 0)
  have hc6 := World.ownsMap_made (((((w5.setCell ⟨d, 3, none⟩ (.map (some w5.heap.size))).setCell ⟨d, 4, none⟩ (.slice none 0 0)).setCell ⟨d, 6, none⟩ (.int .i64 0)).setCell ⟨d, 9, none⟩ (.bool false)).setCell ⟨d, 8, none⟩ (.int .i64 (-1))) Tryz.prog 3 ptrElem
  rw [← hbs] at hc6
  have hs6 : ((((((w5.setCell ⟨d, 3, none⟩ (.map (some w5.heap.size))).setCell ⟨d, 4, none⟩ (.slice none 0 0)).setCell ⟨d, 6, none⟩ (.int .i64 0)).setCell ⟨d, 9, none⟩ (.bool false)).setCell ⟨d, 8, none⟩ (.int .i64 (-1))).alloc (.map #[] 0)).heap.size = w5.heap.size + 1 := by rw [World.size_alloc, ← hbs]
  generalize (((((w5.setCell ⟨d, 3, none⟩ _).setCell ⟨d, 4, none⟩ _).setCell ⟨d, 6, none⟩ _).setCell ⟨d, 9, none⟩ _).setCell ⟨d, 8, none⟩ _).alloc _ = w6 at *
  obtain ⟨z1, z2, z3⟩ := hsz4.out
  have hs5 := HM5.out.mvs.size
  have hbwo := hbw.out
  obtain ⟨vb5, G5, hk5, hr5, hG5⟩ := HM5.out.ex
  have hm46 : Mvs (fun j => j = w.heap.size ∨ j = b ∨ some j = fGb ∨ j = d) w4 w6 := (HM5.out.mvs.mono fun _ _ e => e.elim .inl fun e => e.elim (fun e => .inr (.inl e)) fun e => .inr (.inr (.inl e))).trans (hm6.mono fun _ _ e => .inr (.inr (.inr e)))
  have hmA : Mvs (fun j => j = d ∨ j = bs ∨ j = b ∨ some j = fGb) w w6 := (HM4.out.mono fun _ _ e => e.elim .inl fun e => .inr (.inl e)).trans' hm46 (fun i hi e => by
    rcases e with e | e | e | e
    · omega
    · exact .inr (.inr (.inl e))
    · exact .inr (.inr (.inr e))
    · exact .inl e)
  have hlt5 := hr5.lt
  have hG6 : G5 = fGb ∨ ∃ g, G5 = some g ∧ w.heap.size ≤ g := hG5.imp id fun ⟨g, e, hle⟩ => ⟨g, e, by omega⟩
  have hbsn : ¬ (bs = w.heap.size ∨ bs = b ∨ some bs = fGb ∨ bs = d) := fun e => by
    rcases e with e | e | e | e
    · omega
    · have := HD.out.rs; rw [e, hrol.out.1] at this; cases this
    · exact (hGn.out bs e.symm).2.1 rfl
    · exact hne.2.1 e
  have hnbn : ¬ (nb = w.heap.size ∨ nb = b ∨ some nb = fGb ∨ nb = d) := fun e => by
    rcases e with e | e | e | e
    · omega
    · omega
    · have := (hGn.out nb e.symm).2.2; omega
    · omega
  have hgd : ∀ g, G5 = some g → ¬ g = d := fun g hg e => by
    rcases hG5 with e' | ⟨g', e', hle⟩
    · exact (hGn.out g (by rw [← e', hg])).1 e
    · rw [e'] at hg
      cases hg
      omega
  have hkX : ∀ j r, ρ j = some r → j ≠ bs → crashX ρ bs nb w5.heap.size b G5 j = some r := fun j r hr hj => HD.out.crashX_keep hrol.out.2 hG6 (by omega) (by omega) hr hj
  have hF6 : FileR w6 (crashX ρ bs nb w5.heap.size b G5) b ⟨fa.num, bt, []⟩ := by
    refine ⟨vb5, _, G5, none, [], hkX _ _ hrol.out.1 (fun e => by have := HD.out.rs; rw [← e, hrol.out.1] at this; cases this), hm6.blk hk5 hbd.out, hr5.keep hm6 hgd, fun g hg => ?_, Rw.nil _ _, (fun _ h => by cases h), trivial⟩
    rcases hG5 with e' | ⟨g', e', hle⟩
    · have hg' : fGb = some g := by rw [← e', hg]
      exact hkX _ _ (hrol.out.2 g hg') (hGn.out g hg').2.1
    · have hgl := hlt5 g hg
      have : g' = g := by rw [e'] at hg; exact Option.some.inj hg
      unfold crashX
      rw [putRole_other (by intro e; cases e; omega), putRole_other (by intro e; cases e; omega), putRole_other (by intro e; cases e; omega)]
      exact putRole_is hg
  obtain ⟨hDK, hT⟩ := HD.out.crashedX (N := s.N + k) (D := apN s.Ds (s.nl.take k)) hmA hφ.out hrol.out.2 hG6 (fun g hg => by have := hlt5 g hg; omega) hF6 (by omega) (by omega) (by omega) (by omega) (by omega) (hsu4.out.2.mvs hm46 hbsn) (hsu4.out.1.mvs hm46 hnbn) (hc6.mono (Nat.zero_le _)) (hva.out.1 k) (hva.out.2 k) kd6
  exact ⟨rfl, k, bt, _, hkn, hmay.out, ⟨_, _, _, _, _, _, _, _, hDK⟩, hT⟩
end Go.Proofs.YthhnlkbjpahjeaaGreatDoor

end
