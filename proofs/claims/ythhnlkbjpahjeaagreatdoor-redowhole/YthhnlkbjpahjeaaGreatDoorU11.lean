/- A disk: the names as they were sure; a file of one Append, restored. -/
/- A disk: a crash, where one file has one open step, an Append. -/
/- A disk: a crash where nothing is open. -/
import Derived.Test.YthhnlkbjpahjeaaGreatDoorU10
section
namespace Go.Proofs.YthhnlkbjpahjeaaGreatDoor
open Go.RowKit Go.Maps
set_option maxRecDepth 20000 in
set_option maxHeartbeats 2000000 in
/-- restoreNames, where no step of names is open. -/
theorem restoreNames_none (w : World) (d bs N : Nat) (D : DataW Unit) (v0 v3 v4 v5 v7 v8 v9 v10 : Value) (As : Option Addr) (cc : Nat) (o : Int) (hk : Blk w d #[v0, .map (some bs), .slice As 0 cc, v3, v4, v5, .int .i64 o, v7, v8, v9, v10] 56) (hown : w.ownsMap Tryz.prog 9 ptrElem bs N D) (hne : bs ≠ d) (ho : 0 ≤ o) (ho1 : o ≤ 1000000000) :
    Calls Tryz.prog 31 #[pv d, .int .i64 0] w fun e w' => e = .returned (.tuple #[]) ∧ Mvs (fun k => k = d) w w' ∧ Blk w' d #[.map (some bs), .map (some w.heap.size), .slice none 0 0, v3, v4, v5, .int .i64 o, v7, v8, v9, v10] 56 ∧ w'.ownsMap Tryz.prog 9 ptrElem w.heap.size N D ∧ w.heap.size < w'.heap.size := by
  have hc := hk.cell
  have hf := hk.frozen
  have hm1 : Mvs (fun k => k = d) w (w.setCell ⟨d, 0, none⟩ (.map (some bs))) := (Mvs.refl (fun k => k = d) w).setCell ⟨d, 0, none⟩ _ (fun _ => rfl)
  have hk1 := hk.set 0 (.map (some bs))
  have hsz : (w.setCell ⟨d, 0, none⟩ (.map (some bs))).heap.size = w.heap.size := by simp [World.setCell]
  have HS := hide (makeSure_raw _ d bs N D _ _ _ _ _ _ _ _ As 0 cc o hk1 (hown.mvs hm1 hne) ho ho1)
  rw [hsz] at HS
  have HM1 := hide hm1
  clear hk hown hm1 hk1
  unfold pv at *
  go_enter Tryz.func31, Tryz.ntmps31
  go_wp2
  refine wp_loop_rounds 1 ?_
  rw [rounds_succ]
  go_wp2_with (go_at_call 38; refine HS.out.mono ?_)
  rintro e w2 ⟨rfl, hm2, hk2, ho2, hlt2⟩
  have H2 := hide (And.intro hm2 (And.intro hk2 (And.intro ho2 hlt2)))
  clear hm2 hk2 ho2 hlt2
  go_wp2
  go_end0
  obtain ⟨hm2, hk2, ho2, hlt2⟩ := H2.out
  exact ⟨rfl, HM1.out.trans hm2, by simpa using hk2, ho2, hlt2⟩
set_option maxRecDepth 20000 in
set_option maxHeartbeats 2000000 in
/-- An Append undone, but for the first bytes. -/
theorem put1_any (w : World) (k g o n c size stay : Nat) (hk : Blk w k #[.int .i64 size] 3) (h1 : size + stay ≤ n) (h2 : n ≤ c) (h3 : c ≤ maxLen) :
    Calls Tryz.prog 110 #[.slice (some ⟨g, o, none⟩) n c, .int .i64 stay, pv k] w fun e w' => e = .returned (.slice (some ⟨g, o, none⟩) (size + stay) c) ∧ w' = w := by
  have hc := hk.cell
  simp only [maxLen] at h3
  clear hk
  unfold pv
  go_enter Tryz.func110, Tryz.ntmps110
  go_wp2
  go_ret
  exact ⟨rfl, rfl⟩
set_option maxRecDepth 20000 in
set_option maxHeartbeats 4000000 in
/-- A file whose one open step is an Append, where the first number is 0. -/
theorem restore_one (w : World) (ρ : Nat → Option Role) (b : Nat) (num : Int) (bytes : List UInt8) (size len k2 : Nat) (vb vo : Value) (Gb Go : Option Nat) (cs : List Value) (h : FileRs w ρ b ⟨num, bytes, [.put size len]⟩ vb vo Gb Go cs) (hl : bytes.length = size + len) (hpos : 0 < len) (hsm : bytes.length ≤ 100000)
    (ck g o : Nat) (hck : Blk w ck #[.slice (some ⟨g, o, none⟩) 2 2] 26) (hr : ρ ck = none) (hgr : ρ g = none) (hgc : g ≠ ck) (hglt : g < w.heap.size) (h0 : w.cell? ⟨g, o, none⟩ = some (.int .i64 0)) (h1 : w.cell? ⟨g, o + 1, none⟩ = some (.int .i64 k2)) (hk2 : k2 ≤ 100000) :
    Calls Tryz.prog 33 #[pv b, drawV ck] w fun e w' => e = .returned (.tuple #[]) ∧ Mvs (fun k => k = ck ∨ k = b) w w' ∧ FileR w' ρ b ⟨num, bytes.take (size + k2 % (len + 1)), []⟩ := by
  have hneb : ck ≠ b := fun e => by rw [e, h.role] at hr; cases hr
  have hngb : g ≠ b := fun e => by rw [e, h.role] at hgr; cases hgr
  have hblt := h.blk.lt
  -- the row of the one step
  obtain ⟨go, oo, capo, hGo, rfl, hco⟩ : ∃ go oo capo, Go = some go ∧ vo = .slice (some ⟨go, oo, none⟩) 1 capo ∧ 1 ≤ capo := by
    rcases h.orow.2 with ⟨_, h, _⟩ | ⟨g', o', c', k1, k2, hle, _⟩
    · simp at h
    · exact ⟨g', o', c', k1, k2, hle⟩
  subst hGo
  have hro := h.ro go rfl
  have hgob : go ≠ b := fun e => by rw [e, h.role] at hro; cases hro
  have hgoc : go ≠ ck := fun e => by rw [e, hr] at hro; cases hro
  have hgolt := h.orow.lt go rfl
  obtain ⟨kc, hcs, hkB, hkr⟩ : ∃ kc, cs = [.bool true, .int .i64 len, .func (.func 110) #[] #[pv kc]] ∧ Blk w kc #[.int .i64 size] 3 ∧ ρ kc = some .cap := by
    have hst := h.steps
    have hlen := h.orow.1
    match cs, hlen, hst with
    | [c0, c1, c2], _, hst =>
      obtain ⟨⟨e0, e1, kc, e2, e3, e4⟩, _⟩ := hst
      exact ⟨kc, by rw [e0, e1, e2], e3, e4⟩
  subst hcs
  have hkb : kc ≠ b := fun e => by rw [e, h.role] at hkr; cases hkr
  have hkc : kc ≠ ck := fun e => by rw [e, hr] at hkr; cases hkr
  have cells : ∀ j u, [Value.bool true, .int .i64 len, .func (.func 110) #[] #[pv kc]][j]? = some u → w.cell? ⟨go, oo + j, none⟩ = some u := by
    rcases h.orow.2 with ⟨h, _⟩ | ⟨g', o', c', e1, e2, _, _, _, h4, _⟩
    · cases h
    · cases e1
      cases e2
      exact h4
  have d0 := cells 0 _ rfl
  have d1 := cells 1 _ rfl
  have d2 := cells 2 _ rfl
  simp only [Nat.add_zero] at d0
  -- the row of its bytes
  obtain ⟨gb, ob, capb, hGb, rfl, hcb1, hcb2⟩ : ∃ gb ob capb, Gb = some gb ∧ vb = .slice (some ⟨gb, ob, none⟩) bytes.length capb ∧ bytes.length ≤ capb ∧ capb ≤ maxLen := by
    rcases h.row.2 with ⟨_, h, _⟩ | ⟨g', o', c', k1, k2, hle, hmx, _⟩
    · have : bytes.length = 0 := h
      omega
    · exact ⟨g', o', c', k1, k2, hle, hmx⟩
  subst hGb
  have hrb := h.rb gb rfl
  have hgbb : gb ≠ b := fun e => by rw [e, h.role] at hrb; cases hrb
  have hgbc : gb ≠ ck := fun e => by rw [e, hr] at hrb; cases hrb
  have HH := hide h
  have hcb := h.blk.cell
  have hmod : k2 % (len + 1) ≤ len := by have := Nat.mod_lt k2 (show 0 < len + 1 by omega); omega
  clear h cells
  unfold pv drawV
  go_enter Tryz.func33, Tryz.ntmps33
  go_wp2_with fail
  refine (draw_head w ck g o 1 2 0 1 hck h0 (by omega) (by omega)).mono ?_
  rintro e w1 ⟨rfl, hw1⟩
  have hm1 : Mvs (fun k => k = ck) w w1 := by rw [hw1]; exact (Mvs.refl (fun k => k = ck) w).setCell ⟨ck, 0, none⟩ _ (fun _ => rfl)
  have kck1 : Blk w1 ck #[.slice (some ⟨g, o + 1, none⟩) 1 1] 26 := by rw [hw1]; exact hck.set 0 _
  have kb1 := hm1.blk HH.out.blk (fun e => hneb e.symm)
  have hcb1' := kb1.cell
  have hfb1 := kb1.frozen
  have d0' := (hm1.cell (a := ⟨go, oo, none⟩) hgolt hgoc).trans d0
  have d1' := (hm1.cell (a := ⟨go, oo + 1, none⟩) hgolt hgoc).trans d1
  have d2' := (hm1.cell (a := ⟨go, oo + 2, none⟩) hgolt hgoc).trans d2
  have h1' := (hm1.cell (a := ⟨g, o + 1, none⟩) hglt hgc).trans h1
  have kk1 := hm1.blk hkB hkc
  have hs1 := hm1.size
  obtain ⟨W2, hW2⟩ : ∃ W2, W2 = w1.setCell ⟨b, 2, none⟩ (.slice none 0 0) := ⟨_, rfl⟩
  have hm2 : Mvs (fun k => k = b) w1 W2 := by rw [hW2]; exact (Mvs.refl (fun k => k = b) w1).setCell ⟨b, 2, none⟩ _ (fun _ => rfl)
  have kck2 := hm2.blk kck1 hneb
  have kb2 : Blk W2 b #[.int .i64 num, .slice (some ⟨gb, ob, none⟩) bytes.length capb, .slice none 0 0] 100 := by rw [hW2]; exact kb1.set 2 _
  have h12 := (hm2.cell (a := ⟨g, o + 1, none⟩) (by show g < _; omega) hngb).trans h1'
  have d12 := (hm2.cell (a := ⟨go, oo, none⟩) (by show go < _; omega) hgob).trans d0'
  have d22 := (hm2.cell (a := ⟨go, oo + 1, none⟩) (by show go < _; omega) hgob).trans d1'
  have d32 := (hm2.cell (a := ⟨go, oo + 2, none⟩) (by show go < _; omega) hgob).trans d2'
  have kk2 := hm2.blk kk1 hkb
  have HD := hide (draw_head W2 ck g (o + 1) 0 1 k2 len kck2 h12 (by omega) (by omega))
  have hs2 := hm2.size
  have HM := hide (And.intro hm1 hm2)
  have HK := hide (And.intro kb2 kk2)
  have Hd := hide (And.intro d12 (And.intro d22 d32))
  have HL := hide hl
  have hlt2 : Hid (go < W2.heap.size ∧ kc < W2.heap.size ∧ b < W2.heap.size) := by
    refine ⟨by omega, kk2.lt, by omega⟩
  replace hmod := hide hmod
  replace hsm := hide hsm
  replace hpos := hide hpos
  clear hck h0 h1 hkB d0 d1 d2 hcb hw1 hm1 hm2 kck1 kck2 kk1 kk2 h1' h12 kb2 hl d12 d22 d32 hs2 hs1
  go_wp2
  refine wp_loop_rounds 1 ?_
  rw [rounds_succ]
  obtain ⟨d12, d22, d32⟩ := Hd.out
  rw [← hW2]
  clear hW2 hcb1' hfb1 d0' d1' d2'
  go_wp2_with fail
  refine HD.out.mono ?_
  rintro e w3 ⟨rfl, hw3⟩
  have hm3 : Mvs (fun k => k = ck) W2 w3 := by rw [hw3]; exact (Mvs.refl (fun k => k = ck) W2).setCell ⟨ck, 0, none⟩ _ (fun _ => rfl)
  obtain ⟨kb2, kk2⟩ := HK.out
  obtain ⟨l1, l2, l3⟩ := hlt2.out
  have kb3 := hm3.blk kb2 (fun e => hneb e.symm)
  have kk3 := hm3.blk kk2 hkc
  have d33 := (hm3.cell (a := ⟨go, oo + 2, none⟩) l1 hgoc).trans d32
  have hcb3 := kb3.cell
  have hfb3 := kb3.frozen
  unfold pv at d33
  have HP := hide (put1_any w3.drew kc gb ob bytes.length capb size (k2 % (len + 1)) kk3 (by have := hmod.out; have := HL.out; omega) hcb1 hcb2)
  have HM3 := hide hm3
  have HB3 := hide kb3
  clear hw3 hm3 kb2 kk2 l1 l2 l3 kb3 kk3 d12 d22 d32 HD Hd
  unfold pv at HP
  go_wp2_with fail
  go_region_law (go_simp
                 go_at_call 110
                 refine HP.out.mono ?_
                 rintro e w4 ⟨rfl, rfl⟩)
  all_goals (
    go_wp2
    go_end0
    obtain ⟨hm1, hm2⟩ := HM.out
    have hm4 : Mvs (fun k => k = b) w3 (w3.setCell ⟨b, 1, none⟩ (.slice (some ⟨gb, ob, none⟩) (size + k2 % (len + 1)) capb)).drew := ((Mvs.refl (fun k => k = b) w3).setCell ⟨b, 1, none⟩ _ (fun _ => rfl)).drew
    have hmA := (((hm1.mono (S' := fun k => k = ck ∨ k = b) fun _ _ e => .inl e).trans (hm2.mono fun _ _ e => .inr e)).trans (HM3.out.mono fun _ _ e => .inl e)).trans (hm4.mono fun _ _ e => .inr e)
    have hlen : size + k2 % (len + 1) ≤ bytes.length := by have := hmod.out; have := HL.out; omega
    have hrw := (HH.out.row.keep hmA (fun g hg e => by cases hg; rcases e with e | e; exact hgbc e; exact hgbb e)).to hlen
    refine ⟨rfl, hmA, _, _, some gb, none, [], HH.out.role, HB3.out.set 1 _, ?_, HH.out.rb, Rw.nil _ _, (fun _ h => by cases h), trivial⟩
    have e1 : (bytes.take (size + k2 % (len + 1))).length = size + k2 % (len + 1) := by rw [List.length_take]; omega
    show Rw _ 1 _ (bytes.take (size + k2 % (len + 1))).length ((bytes.take (size + k2 % (len + 1))).map bv) _
    rw [e1, List.map_take]
    exact hrw)
end Go.Proofs.YthhnlkbjpahjeaaGreatDoor

end
section
namespace Go.Proofs.YthhnlkbjpahjeaaGreatDoor
open Go.RowKit Go.Maps
def crashRole (ρ : Nat → Option Role) (bs nb nc : Nat) : Nat → Option Role := putRole (putRole (putRole ρ (some bs) .names) (some nb) .sure) (some nc) .changed
def St.crashed (s : St) (b : Nat) (fa : FA) : St := { (s.withF b fa) with D := s.Ds, Ds := s.Ds, ch := .map [], ns := 0, nl := [], ls := [], opened := 0, off := false, armed := -1 }
section
variable {w0 w w' : World} {d : Nat} {ρ : Nat → Option Role} {s : St} {bn bs bc : Nat} {vs vl : Value} {Gs Gl : Option Nat} {cs : List Value}
theorem DKs.crashed (h : DKs w0 w d ρ s bn bs bc vs vl Gs Gl cs) {b : Nat} {fa fa0 : FA} (hm : Mvs (fun k => k = d ∨ k = b) w w') (hφ : s.φ b = some fa0) (hF : FileR w' ρ b fa) {nb nc : Nat} (h1 : w.heap.size ≤ nb) (h2 : w.heap.size ≤ nc) (l1 : nb < w'.heap.size) (l2 : nc < w'.heap.size) (hne : nb ≠ nc)
    (hs : w'.ownsMap Tryz.prog 9 ptrElem nb s.N s.Ds) (hc : w'.ownsMap Tryz.prog 3 ptrElem nc s.N (.map [])) (hv : ∀ kl b, s.Ds.atKey kl .nil = pd b → (s.φ b).isSome = true) (he : ∀ p ∈ entriesOf s.Ds, ∃ b, p.2 = pd b)
    (hblk : Blk w' d #[.map (some bs), .map (some nb), .slice none 0 0, .map (some nc), .slice none 0 0, .int .i64 s.created, .int .i64 0, .int .i64 s.steps, .int .i64 (-1), .bool false, .int .i64 s.quota] 56) :
    DKs w0 w' d (crashRole ρ bs nb nc) (s.crashed b fa) bs nb nc (.slice none 0 0) (.slice none 0 0) none none [] ∧ Turn w w' ρ (crashRole ρ bs nb nc) := by
  have hbf : ρ b = some .file := by
    obtain ⟨_, _, _, _, _, hF⟩ := h.files b fa0 hφ
    exact hF.role
  have hw0 := h.below.size
  have hbs := h.lt h.rs
  have keep : ∀ k r, ρ k = some r → k ≠ bs → crashRole ρ bs nb nc k = some r := fun k r hr hk => by
    have := h.lt hr
    unfold crashRole
    rw [putRole_other (by intro e; cases e; omega), putRole_other (by intro e; cases e; omega), putRole_other (by intro e; cases e; exact hk rfl)]
    exact hr
  have neS : ∀ k r, ρ k = some r → r ≠ .sure → k ≠ bs := fun k r hr h1 e => by subst e; rw [h.rs] at hr; exact h1 (Option.some.inj hr).symm
  have back : ∀ k r, crashRole ρ bs nb nc k = some r → k = nc ∨ k = nb ∨ k = bs ∨ ρ k = some r := fun k r hr => by
    unfold crashRole at hr
    rcases putRole_cases hr with e | hr
    · cases e; exact .inl rfl
    · rcases putRole_cases hr with e | hr
      · cases e; exact .inr (.inl rfl)
      · rcases putRole_cases hr with e | hr
        · cases e; exact .inr (.inr (.inl rfl))
        · exact .inr (.inr (.inr hr))
  have ne : ∀ k r, ρ k = some r → r ≠ .disk → (r = .file → k ≠ b) → ¬ (k = d ∨ k = b) := fun k r hr h1 h2 e => by
    rcases e with rfl | rfl
    · rw [h.rd] at hr; exact h1 (Option.some.inj hr).symm
    · rw [hbf] at hr; exact h2 (Option.some.inj hr).symm rfl
  refine ⟨{
    below := h.below.trans (hm.below (fun k hk c => by
      rcases c with rfl | rfl
      · have := (h.low _ _ h.rd).1; omega
      · have := (h.low _ _ hbf).1; omega) h.below.size)
    low := fun k r hr => by
      rcases back k r hr with rfl | rfl | rfl | hr
      · omega
      · omega
      · have := h.low _ _ h.rs; have := hm.size; omega
      · have := h.low _ _ hr; have := hm.size; omega
    blk := hblk
    rd := keep _ _ h.rd (neS _ _ h.rd (by simp))
    rn := by
      unfold crashRole
      rw [putRole_other (by intro e; cases e; omega), putRole_other (by intro e; cases e; omega)]
      exact putRole_at _ _ _
    rs := by
      unfold crashRole
      rw [putRole_other (by intro e; cases e; exact hne rfl)]
      exact putRole_at _ _ _
    rc := putRole_at _ _ _
    names := h.sure.mvs hm (ne _ _ h.rs (by simp) (by simp))
    sure := hs
    chg := hc
    row := Rw.nil _ _
    rsteps := fun _ h => by cases h
    lost := Rw.nil _ _
    rlost := fun _ h => by cases h
    files := fun b' fa' hb' => by
      replace hb' : (if b' = b then some fa else s.φ b') = some fa' := hb'
      by_cases e : b' = b
      · subst e
        rw [if_pos rfl] at hb'
        cases hb'
        exact hF.keep (S := fun _ => False) (Mvs.refl _ _) (fun _ _ _ _ c => c) (fun k r hr hof => keep k r hr (neS k r hr (by intro e; subst e; exact hof)))
      · have hne' := e
        rw [if_neg e] at hb'
        exact (h.files b' fa' hb').keep hm (fun k r hr hof => ne k r hr (by intro e; subst e; exact hof) (by intro e; subst e; exact fun e' => hne' ((show k = b' from hof).symm.trans e'))) (fun k r hr hof => keep k r hr (neS k r hr (by intro e; subst e; exact hof)))
    vD := fun kl b' hb' => by
      have := hv kl b' hb'
      show (if b' = b then some fa else s.φ b').isSome = true
      split
      · rfl
      · exact this
    eD := he
    nsr := trivial }, hm.mono (fun k _ e => by
      rcases e with rfl | rfl
      · exact ⟨_, h.rd⟩
      · exact ⟨_, hbf⟩), fun k r hr hlt => by
      rcases back k r hr with rfl | rfl | rfl | hr
      · omega
      · omega
      · exact ⟨_, h.rs⟩
      · exact ⟨r, hr⟩⟩
end
set_option maxRecDepth 20000 in
set_option maxHeartbeats 4000000 in
theorem crash_one (w0 w : World) (d : Nat) (ρ : Nat → Option Role) (s : St) (h : DK w0 w d ρ s) (hns : s.ns = 0) (hls : s.ls = []) (b : Nat) (num : Int) (bytes : List UInt8) (size len k2 : Nat) (hch : s.ch = .map [(.int .i64 num, pd b)]) (hφ : s.φ b = some ⟨num, bytes, [.put size len]⟩) (hl : bytes.length = size + len) (hpos : 0 < len) (hsm : bytes.length ≤ 100000)
    (ho0 : 0 ≤ s.opened) (ho1 : s.opened ≤ 1000000)
    (hv : ∀ kl b, s.Ds.atKey kl .nil = pd b → (s.φ b).isSome = true) (he : ∀ p ∈ entriesOf s.Ds, ∃ b, p.2 = pd b)
    (g o : Nat) (hgr : ρ g = none) (hglt : g < w.heap.size) (c0 : w.cell? ⟨g, o, none⟩ = some (.int .i64 0)) (c1 : w.cell? ⟨g, o + 1, none⟩ = some (.int .i64 0)) (c2 : w.cell? ⟨g, o + 2, none⟩ = some (.int .i64 k2)) (hk2 : k2 ≤ 100000) :
    Calls Tryz.prog 14 #[pv d, .slice (some ⟨g, o, none⟩) 3 3] w fun e w' => e = .returned (.tuple #[]) ∧ ∃ ρ', DK w0 w' d ρ' (s.crashed b ⟨num, bytes.take (size + k2 % (len + 1)), []⟩) ∧ Turn w w' ρ ρ' := by
  obtain ⟨bn, bs, bc, vs, vl, Gs, Gl, cs, h⟩ := h
  have HD := hide h
  have hrow := h.row
  rw [hns] at hrow
  obtain ⟨As, cc, rfl⟩ := hrow.form
  have hlost : Hid (Rw w 1 vl 0 [] Gl) := by
    have := h.lost
    rw [hls] at this
    exact this
  have hchg : Hid (w.ownsMap Tryz.prog 3 ptrElem bc s.N (.map [(.int .i64 num, pd b)])) := by
    have := h.chg
    rw [hch] at this
    exact this
  have hk0 := h.blk
  have hck0 : ρ w.heap.size = none := h.off (Nat.le_refl _)
  have hdlt := h.lt h.rd
  have hne := h.ne
  have hDF : Hid (Calls Tryz.prog 30 #[.slice (some ⟨g, o, none⟩) 3 3] w fun e w' => e = .returned (drawV w.heap.size) ∧ w' = w.alloc (.cells #[.slice (some ⟨g, o, none⟩) 3 3] 26)) := by
    show Calls _ _ _ _ _
    unfold drawV pv
    go_enter Tryz.func30, Tryz.ntmps30
    go_wp2
    go_ret
    exact ⟨rfl, rfl⟩
  clear h hrow
  unfold pv
  go_enter Tryz.func14, Tryz.ntmps14
  go_wp2_with (go_at_call 30; refine hDF.out.mono ?_)
  rintro e w1 ⟨rfl, hw1⟩
  have hb1 : Below w.heap.size w w1 := by rw [hw1]; exact (Below.refl _ _).alloc (Nat.le_refl _) _
  have kck1 : Blk w1 w.heap.size #[.slice (some ⟨g, o, none⟩) 3 3] 26 := by rw [hw1]; exact Blk.new _ _ _
  have hs1 : w1.heap.size = w.heap.size + 1 := by rw [hw1]; simp
  have kd1 := hk0.below hb1 hdlt
  have hc1 := kd1.cell
  have e0 := (hb1.cell (p := ⟨g, o, none⟩) hglt).trans c0
  unfold drawV
  have e1 := hide ((hb1.cell (p := ⟨g, o + 1, none⟩) hglt).trans c1)
  have e2 := hide ((hb1.cell (p := ⟨g, o + 2, none⟩) hglt).trans c2)
  have HB1 := hide hb1
  have hgc : g ≠ w.heap.size := by omega
  have hdc : d ≠ w.heap.size := by omega
  replace hk0 := hide hk0
  replace hl := hide hl
  replace hch := hide hch
  replace hls := hide hls
  replace hns := hide hns
  replace hsm := hide hsm
  replace hφ := hide hφ
  clear hw1 hDF c0 c1 c2
  go_wp2_with fail
  refine (draw_head w1 w.heap.size g o 2 3 0 0 kck1 e0 (by omega) (by omega)).mono ?_
  rintro e w2 ⟨rfl, hw2⟩
  have hm2 : Mvs (fun k => k = w.heap.size) w1 w2 := by rw [hw2]; exact (Mvs.refl (fun k => k = w.heap.size) w1).setCell ⟨w.heap.size, 0, none⟩ _ (fun _ => rfl)
  have kck2 := hide (show Blk w2 w.heap.size #[.slice (some ⟨g, o + 1, none⟩) 2 2] 26 by rw [hw2]; exact kck1.set 0 _)
  have kd2 := hm2.blk kd1 hdc
  have f1 := hide ((hm2.cell (a := ⟨g, o + 1, none⟩) (by show g < _; omega) hgc).trans e1.out)
  have f2 := hide ((hm2.cell (a := ⟨g, o + 2, none⟩) (by show g < _; omega) hgc).trans e2.out)
  have hs2 := hm2.size
  have hm02 : Mvs (fun k => k = d) w w2 := ((Mvs.of_below HB1.out).trans' hm2 (fun i hi e => by omega))
  have hsure2 := HD.out.sure.mvs hm02 hne.2.1
  have HM2 := hide hm02
  have hs2' := hide hs2
  clear hw2 hm2 kck1 kd1 hc1 e0 e1 e2 hs2 hm02
  go_wp2_with fail
  refine (restoreNames_none w2 d bs s.N s.Ds _ _ _ _ _ _ _ _ As cc s.opened kd2 hsure2 hne.2.1 ho0 (by omega)).mono ?_
  rintro e w3 ⟨rfl, hm3, kd3, hsure3, hlt3⟩
  have hs3 := hm3.size
  have hm03 := HM2.out.trans hm3
  have hchg3 := hchg.out.mvs hm03 hne.2.2.1
  have hlost3 := hlost.out.keep hm03 (fun g hg e => by have := HD.out.rlost g hg; rw [e, HD.out.rd] at this; cases this)
  have kck3 := hide (hm3.blk kck2.out (fun e => hdc e.symm))
  have hgd : g ≠ d := fun e => by rw [e, HD.out.rd] at hgr; cases hgr
  have g1 := hide ((hm3.cell (a := ⟨g, o + 1, none⟩) (by show g < _; have := hs2'.out; omega) hgd).trans f1.out)
  have g2 := hide ((hm3.cell (a := ⟨g, o + 2, none⟩) (by show g < _; have := hs2'.out; omega) hgd).trans f2.out)
  have HM3 := hide hm03
  have hsu3 := hide hsure3
  have hl3 := hide hlt3
  clear hm3 kd2 hsure2 hsure3 hlt3 hm03 kck2 f1 f2
  go_wp2_with fail
  refine (unsure_one w3 d bc s.N b num _ _ _ vl _ _ _ _ _ _ Gl kd3 hchg3 hlost3).mono ?_
  rintro e w4 ⟨v4, rfl, hb4, G4, hr4, _⟩
  obtain ⟨g4, o4, c4, rfl, hcell4⟩ : ∃ g4 o4 c4, v4 = .slice (some ⟨g4, o4, none⟩) 1 c4 ∧ w4.cell? ⟨g4, o4, none⟩ = some (.pointer (some ⟨b, 0, none⟩)) := by
    rcases hr4.2 with ⟨_, h, _⟩ | ⟨g', o', c', _, k2, _, _, _, k4, _⟩
    · simp at h
    · exact ⟨g', o', c', k2, by have := k4 0 (pv b) rfl; simpa [pv] using this⟩
  have hs4 := hb4.size
  have kd4 := hide (kd3.below hb4 kd3.lt)
  have kck4 := hide (kck3.out.below hb4 kck3.out.lt)
  have hglt3 : g < w3.heap.size := by have := hs2'.out; omega
  have i1 := hide ((hb4.cell (p := ⟨g, o + 1, none⟩) hglt3).trans g1.out)
  have i2 := hide ((hb4.cell (p := ⟨g, o + 2, none⟩) hglt3).trans g2.out)
  have hF4 := ((HD.out.files b _ hφ.out).keep HM3.out (fun k r hr hof e => by rw [e, HD.out.rd] at hr; cases Option.some.inj hr; exact hof) (fun k r hr _ => hr)).below hb4
  have hsu4 := hide (hsu3.out.mvs (S := fun _ => False) (Mvs.of_below hb4) (fun c => c))
  have HM4 := hide (HM3.out.then hb4)
  obtain ⟨fvb, fvo, fGb, fGo, fcs, hFs⟩ := hF4
  have HRe := hide (restore_one w4 ρ b num bytes size len k2 fvb fvo fGb fGo fcs hFs hl.out hpos hsm.out w.heap.size g (o + 1) kck4.out hck0 hgr hgc (by omega) i1.out i2.out hk2)
  have hbd : Hid (b ≠ d) := fun e => by have := hFs.role; rw [e, HD.out.rd] at this; cases this
  have hbw : Hid (b < w.heap.size) := HD.out.lt hFs.role
  have hsz4 := hide (show w2.heap.size < w4.heap.size ∧ w.heap.size + 1 ≤ w2.heap.size by have := hl3.out; have := hs2'.out; omega)
  clear hb4 hr4 hs4 kd3 hchg3 hlost3 kck3 g1 g2 i1 i2 hFs kck4 hs3 hglt3
  go_wp2
  refine wp_loop_rounds 2 ?_
  rw [rounds_succ]
  go_wp2_with fail
  refine HRe.out.mono ?_
  rintro e w5 ⟨rfl, hm5, hF5⟩
  have kd5 := hm5.blk kd4.out (fun e => by rcases e with e | e; exact hdc e; exact hbd.out e.symm)
  have hc5 := kd5.cell
  have hf5 := kd5.frozen
  have hd5 := kd5.lt
  have HM5 := hide hm5
  have HF5 := hide hF5
  have HK5 := hide kd5
  have hmm := @run_makeMap Tryz.prog
  clear hm5 hF5 kd5 HRe hcell4
  go_wp2_with fail
  rw [rounds_succ]
  go_wp2_with fail
  go_end0
  have hbs : w5.heap.size = (((((w5.setCell ⟨d, 3, none⟩ (.map (some w5.heap.size))).setCell ⟨d, 4, none⟩ (.slice none 0 0)).setCell ⟨d, 6, none⟩ (.int .i64 0)).setCell ⟨d, 9, none⟩ (.bool false)).setCell ⟨d, 8, none⟩ (.int .i64 (-1))).heap.size := by simp [World.setCell]
  have hm6 : Mvs (fun k => k = d) w5 ((((((w5.setCell ⟨d, 3, none⟩ (.map (some w5.heap.size))).setCell ⟨d, 4, none⟩ (.slice none 0 0)).setCell ⟨d, 6, none⟩ (.int .i64 0)).setCell ⟨d, 9, none⟩ (.bool false)).setCell ⟨d, 8, none⟩ (.int .i64 (-1))).alloc (.map #[] 0)) :=
    ((((((Mvs.refl (fun k => k = d) w5).setCell ⟨d, 3, none⟩ _ (fun _ => rfl)).setCell ⟨d, 4, none⟩ _ (fun _ => rfl)).setCell ⟨d, 6, none⟩ _ (fun _ => rfl)).setCell ⟨d, 9, none⟩ _ (fun _ => rfl)).setCell ⟨d, 8, none⟩ _ (fun _ => rfl)).alloc _
  have kd6 := (((((HK5.out.set 3 (.map (some w5.heap.size))).set 4 (.slice none 0 0)).set 6 (.int .i64 0)).set 9 (.bool false)).set 8 (.int .i64 (-1))).alloc (.map #[] 0)
  have hc6 := World.ownsMap_made (((((w5.setCell ⟨d, 3, none⟩ (.map (some w5.heap.size))).setCell ⟨d, 4, none⟩ (.slice none 0 0)).setCell ⟨d, 6, none⟩ (.int .i64 0)).setCell ⟨d, 9, none⟩ (.bool false)).setCell ⟨d, 8, none⟩ (.int .i64 (-1))) Tryz.prog 3 ptrElem
  rw [← hbs] at hc6
  have hs6 : ((((((w5.setCell ⟨d, 3, none⟩ (.map (some w5.heap.size))).setCell ⟨d, 4, none⟩ (.slice none 0 0)).setCell ⟨d, 6, none⟩ (.int .i64 0)).setCell ⟨d, 9, none⟩ (.bool false)).setCell ⟨d, 8, none⟩ (.int .i64 (-1))).alloc (.map #[] 0)).heap.size = w5.heap.size + 1 := by rw [World.size_alloc, ← hbs]
  generalize (((((w5.setCell ⟨d, 3, none⟩ _).setCell ⟨d, 4, none⟩ _).setCell ⟨d, 6, none⟩ _).setCell ⟨d, 9, none⟩ _).setCell ⟨d, 8, none⟩ _).alloc _ = w6 at *
  obtain ⟨z1, z2⟩ := hsz4.out
  have hs5 := HM5.out.size
  have hm46 : Mvs (fun k => k = w.heap.size ∨ k = b ∨ k = d) w4 w6 := (HM5.out.mono fun _ _ e => e.elim .inl fun e => .inr (.inl e)).trans (hm6.mono fun _ _ e => .inr (.inr e))
  have hmA : Mvs (fun k => k = d ∨ k = b) w w6 := (HM4.out.mono fun _ _ e => .inl e).trans' hm46 (fun i hi e => by
    rcases e with e | e | e
    · omega
    · exact .inr e
    · exact .inl e)
  have hF6 := HF5.out.keep (ρ' := ρ) hm6 (fun k r hr hof e => by rw [e, HD.out.rd] at hr; cases Option.some.inj hr; exact hof) (fun k r hr _ => hr)
  have hsu6 := hsu4.out.mvs hm46 (fun e => by
    have := hbw.out
    rcases e with e | e | e <;> omega)
  obtain ⟨hDK, hT⟩ := HD.out.crashed hmA hφ.out hF6 (nb := w2.heap.size) (nc := w5.heap.size) (by omega) (by omega) (by omega) (by omega) (by omega) hsu6 (hc6.mono (Nat.zero_le _)) hv he kd6
  exact ⟨rfl, _, ⟨_, _, _, _, _, _, _, _, hDK⟩, hT⟩
end Go.Proofs.YthhnlkbjpahjeaaGreatDoor

end
section
namespace Go.Proofs.YthhnlkbjpahjeaaGreatDoor
open Go.RowKit Go.Maps
set_option maxHeartbeats 1000000 in
/-- No numbers: 0. -/
theorem draw_nil (w : World) (ck : Nat) (A : Option Addr) (c : Nat) (m : Value) (hk : Blk w ck #[.slice A 0 c] 26) :
    Calls Tryz.prog 58 #[m, pv ck] w fun e w' => e = .returned (.int .i64 0) ∧ w' = w := by
  have hcl := hk.cell
  clear hk
  unfold pv
  go_enter Tryz.func58, Tryz.ntmps58
  go_wp2
  go_ret
  exact ⟨rfl, rfl⟩
set_option maxRecDepth 20000 in
set_option maxHeartbeats 2000000 in
theorem len0 (w : World) : Calls Tryz.prog 97 #[.int .u64 0] w fun e w' => ∃ l : Int, e = .returned (.int .i64 l) ∧ w' = w := by
  have h64 : Calls Tryz.prog 126 #[.int .u64 0] w fun e w' => ∃ l : Int, e = .returned (.int .i64 l) ∧ w' = w := by
    go_enter Tryz.func126, Tryz.ntmps126
    go_wp2
    go_ret
    exact ⟨_, rfl, rfl⟩
  go_enter Tryz.func97, Tryz.ntmps97
  go_wp2_with (go_at_call 126; refine h64.mono ?_; rintro e w' ⟨l, rfl, rfl⟩)
  go_ret
  exact ⟨_, rfl, rfl⟩
theorem insertion0 (w : World) (v f : Value) : Calls Tryz.prog 117 #[v, .int .i64 0, .int .i64 0, f] w fun e w' => e = .returned (.tuple #[]) ∧ w' = w := by
  go_enter Tryz.func117, Tryz.ntmps117
  go_wp2
  refine wp_loop_rounds 1 ?_
  rw [rounds_succ]
  go_wp2
  go_end0
  exact ⟨rfl, rfl⟩
set_option maxRecDepth 20000 in
set_option maxHeartbeats 2000000 in
theorem pdq0 (w : World) (v lim f : Value) : Calls Tryz.prog 96 #[v, .int .i64 0, .int .i64 0, lim, f] w fun e w' => e = .returned (.tuple #[]) ∧ w' = w := by
  go_enter Tryz.func96, Tryz.ntmps96
  go_wp2
  refine wp_loop_rounds 1 ?_
  rw [rounds_succ]
  go_wp2_with (go_at_call 117; refine (insertion0 _ _ _).mono ?_; rintro e w' ⟨rfl, rfl⟩)
  refine bodyPost_ret (results_none rfl _ _ _) rfl ?_
  exact ⟨rfl, rfl⟩
theorem sort0 (w : World) (A : Option Addr) (c : Nat) (f : Value) : Calls Tryz.prog 60 #[.slice A 0 c, f] w fun e w' => e = .returned (.tuple #[]) ∧ w' = w := by
  go_enter Tryz.func60, Tryz.ntmps60
  go_wp2_with (first | (go_at_call 97; refine (len0 _).mono ?_; rintro e w' ⟨l, rfl, rfl⟩) | (go_at_call 96; refine (pdq0 _ _ _ _).mono ?_; rintro e w' ⟨rfl, rfl⟩))
  go_end0
  exact ⟨rfl, rfl⟩
set_option maxRecDepth 20000 in
set_option maxHeartbeats 2000000 in
theorem unsure_none (w : World) (d bc N : Nat) (v0 v1 v2 vl v5 v6 v7 v8 v9 v10 : Value) (Gl : Option Nat) (hk : Blk w d #[v0, v1, v2, .map (some bc), vl, v5, v6, v7, v8, v9, v10] 56) (hown : w.ownsMap Tryz.prog 3 ptrElem bc N (.map [])) (hl : Rw w 1 vl 0 [] Gl) :
    Calls Tryz.prog 32 #[pv d] w fun e w' => ∃ A c, e = .returned (.slice A 0 c) ∧ Below w.heap.size w w' := by
  have hc := hk.cell
  have HO := hide hown
  have HC := hide (cloneP_any w vl [] Gl hl (by simp))
  have hdl : Hid (d < w.heap.size) := hk.lt
  have HK := hide hk
  clear hk hown hl
  unfold pv
  go_enter Tryz.func32, Tryz.ntmps32
  go_wp2_with fail
  refine HC.out.mono ?_
  rintro e w1 ⟨v1', rfl, hP⟩
  obtain ⟨hb1, G1, hr1, hg1⟩ := hP
  have hc1 := (HK.out.below hb1 hdl.out).cell
  have HO1 := hide (HO.out.mvs (S := fun _ => False) (Mvs.of_below hb1) (fun c => c))
  obtain ⟨A1, c1, rfl⟩ := hr1.form
  have HB1 := hide hb1
  clear hb1 hr1 hg1 HC hc HO
  go_wp2_with (at_range; refine wpList_range_own _ rfl _ 52 rfl 3 72 intKeyed Tryz.underlying52 ptrElem bc N (.map []) rfl HO1.out ?_)
  intro w2 hrg0 hg0 hs0
  have HB2 := hide (HB1.out.trans ((Below.of_grown (B := w1.heap.size) hg0 (fun j e => by cases e) (Nat.le_refl _)).mono HB1.out.size))
  have HR0 := hide hrg0
  clear hrg0 hg0 hs0
  go_wp2
  go_loopw [3] (fun u wr => u = .slice A1 0 c1 ∧ Hid (wr = w2)) (fun _ _ => 0)
  case atStart => exact ⟨rfl, rfl⟩
  case round =>
    obtain ⟨rfl, hrw⟩ := hrel
    obtain rfl := hrw.out
    go_wp2_with (at_next; refine wpList_next_ranges _ rfl _ rfl 3 intKeyed ptrElem (Value.int .i64) mkP (fun key kl h => by obtain ⟨x, hx, _⟩ := Maps.keyOf_int_inv Tryz.underlying3 h; exact ⟨x, hx⟩) mkP_inv bc w1.heap.size N (.map []) (Maps.has (.map [])) (Maps.size (.map [] : DataW Unit)) rfl HR0.out ?_ ?_)
    · intro _ _
      go_wp2_with (go_at_call 60; refine (sort0 _ _ _ _).mono ?_; rintro e w' ⟨rfl, rfl⟩)
      go_ret
      exact ⟨_, _, rfl, HB2.out⟩
    · intro x c kl y yp w3 cnt3 hkey hlk
      exact absurd hlk (by simp [Maps.has])
end Go.Proofs.YthhnlkbjpahjeaaGreatDoor

end
