/- A disk: a crash's draws, whatever the numbers are. -/
/- A disk: the names as they were sure, with the first steps of names done again. -/
/- A disk: a file's open steps undone. -/
import Derived.Test.YthhnlkbjpahjeaaGreatDoorU21
section
namespace Go.Proofs.YthhnlkbjpahjeaaGreatDoor
open Go.RowKit Go.Maps
/-- The numbers that a crash draws from: none of the disk's blocks, and not the closure's own. -/
def Drw (t : Nat) (w : World) (ρ : Nat → Option Role) (ck : Nat) : Prop :=
  ck < t ∧ t ≤ w.heap.size ∧ ∃ (A : Option Addr) (n c : Nat), Blk w ck #[.slice A n c] 26 ∧ n ≤ c ∧ c ≤ 9223372036854775807 ∧ (n ≠ 0 → ∃ g o, A = some ⟨g, o, none⟩ ∧ g < t ∧ ρ g = none ∧ g ≠ ck ∧ ∀ j, j < n → ∃ x : Int, w.cell? ⟨g, o + j, none⟩ = some (.int .i64 x) ∧ x ≤ 9223372036854775807)
theorem Drw.keep {t : Nat} {w w' : World} {ρ : Nat → Option Role} {ck : Nat} {S : Nat → Prop} (h : Drw t w ρ ck) (hm : Mvs S w w') (hS : ∀ k, S k → k ≠ ck ∧ (k < t → ∃ r, ρ k = some r)) : Drw t w' ρ ck := by
  obtain ⟨ht, ht2, A, n, c, h1, h2, h3, h4⟩ := h
  refine ⟨ht, Nat.le_trans ht2 hm.size, A, n, c, hm.blk h1 (fun e => (hS ck e).1 rfl), h2, h3, fun hn => ?_⟩
  obtain ⟨g, o, rfl, hg, hr, hne, hx⟩ := h4 hn
  refine ⟨g, o, rfl, hg, hr, hne, fun j hj => ?_⟩
  obtain ⟨x, hx1, hx2⟩ := hx j hj
  refine ⟨x, ?_, hx2⟩
  rw [hm.cell (a := ⟨g, o + j, none⟩) (Nat.lt_of_lt_of_le hg ht2) (fun e => by obtain ⟨r, e⟩ := (hS g e).2 hg; rw [hr] at e; cases e)]
  exact hx1
set_option maxRecDepth 20000 in
set_option maxHeartbeats 2000000 in
theorem draw_some (w : World) (ck g o n c most : Nat) (x : Int) (hk : Blk w ck #[.slice (some ⟨g, o, none⟩) (n + 1) c] 26) (h0 : w.cell? ⟨g, o, none⟩ = some (.int .i64 x)) (hm : most ≤ 1000000) (m : Nat) (hx : max (0 : Int) x = m) (hx1 : m ≤ 9223372036854775807) :
    Calls Tryz.prog 58 #[.int .i64 most, pv ck] w fun e w' => e = .returned (.int .i64 ((m % (most + 1) : Nat))) ∧ w' = w.setCell ⟨ck, 0, none⟩ (if c = 1 then .slice (some ⟨g, o, none⟩) n 0 else .slice (some ⟨g, o + 1, none⟩) n (c - 1)) := by
  have hcl := hk.cell
  have hfz := hk.frozen
  have hy : ((n : Int) + 1 == 0) = false := by simp; omega
  have hz : ¬ (n : Int) + 1 = 0 := by omega
  clear hk
  unfold pv
  go_enter Tryz.func58, Tryz.ntmps58
  go_wp2
  all_goals (
    go_ret
    exact ⟨rfl, rfl⟩)
/-- A number is drawn. -/
theorem draw_any (w : World) (ρ : Nat → Option Role) (t ck most : Nat) (h : Drw t w ρ ck) (hm : most ≤ 1000000) :
    Calls Tryz.prog 58 #[.int .i64 most, pv ck] w fun e w' => ∃ k : Nat, k ≤ most ∧ e = .returned (.int .i64 k) ∧ Mvs (fun j => j = ck) w w' ∧ Drw t w' ρ ck := by
  obtain ⟨ht, ht2, A, n, c, h1, h2, h3, h4⟩ := h
  cases n with
  | zero =>
    refine (draw_nil w ck A c _ h1).mono ?_
    rintro e w' ⟨rfl, rfl⟩
    exact ⟨0, Nat.zero_le _, rfl, Mvs.refl _ _, ht, ht2, A, 0, c, h1, h2, h3, fun h => absurd rfl h⟩
  | succ n =>
    obtain ⟨g, o, rfl, hg, hr, hne, hx⟩ := h4 (by omega)
    obtain ⟨x, hx1, hx2⟩ := hx 0 (by omega)
    obtain ⟨m, hmx, hm1⟩ : ∃ m : Nat, max (0 : Int) x = m ∧ m ≤ 9223372036854775807 := ⟨(max 0 x).toNat, by omega, by omega⟩
    refine (draw_some w ck g o n c most x h1 hx1 hm m hmx hm1).mono ?_
    rintro e w' ⟨rfl, rfl⟩
    refine ⟨m % (most + 1), by have := Nat.mod_lt m (show 0 < most + 1 by omega); omega, rfl, (Mvs.refl (fun j => j = ck) w).setCell ⟨ck, 0, none⟩ _ (fun _ => rfl), ?_⟩
    have hm' := (Mvs.refl (fun j => j = ck) w).setCell ⟨ck, 0, none⟩ (if c = 1 then .slice (some ⟨g, o, none⟩) n 0 else .slice (some ⟨g, o + 1, none⟩) n (c - 1)) (fun _ => rfl)
    have hb := h1.set 0 (if c = 1 then .slice (some ⟨g, o, none⟩) n 0 else .slice (some ⟨g, o + 1, none⟩) n (c - 1))
    by_cases e : c = 1
    · rw [if_pos e] at hb hm' ⊢
      exact ⟨ht, Nat.le_trans ht2 hm'.size, _, n, 0, hb, by omega, by omega, fun hn => by omega⟩
    · rw [if_neg e] at hb hm' ⊢
      refine ⟨ht, Nat.le_trans ht2 hm'.size, _, n, c - 1, hb, by omega, by omega, fun _ => ⟨g, o + 1, rfl, hg, hr, hne, fun j hj => ?_⟩⟩
      obtain ⟨y, hy1, hy2⟩ := hx (j + 1) (by omega)
      refine ⟨y, ?_, hy2⟩
      rw [hm'.cell (a := ⟨g, o + 1 + j, none⟩) (Nat.lt_of_lt_of_le hg ht2) hne, ← hy1, Nat.add_assoc, Nat.add_comm 1 j]
end Go.Proofs.YthhnlkbjpahjeaaGreatDoor

end
section
namespace Go.Proofs.YthhnlkbjpahjeaaGreatDoor
open Go.RowKit Go.Maps
def NA.ap (D : DataW Unit) : NA → DataW Unit
  | .mk name f => D.put (.string name) (pd f)
  | .rm name => D.del (.string name)
def NA.name : NA → List UInt8
  | .mk name _ => name
  | .rm name => name
/-- Steps of names, done one behind the other. -/
def apN (D : DataW Unit) (l : List NA) : DataW Unit := l.foldl NA.ap D
theorem apN_snoc (D : DataW Unit) (l : List NA) (x : NA) : apN D (l ++ [x]) = x.ap (apN D l) := by
  unfold apN
  rw [List.foldl_append]
  rfl
theorem NsR.at {w : World} {ρ : Nat → Option Role} : ∀ {cs : List Value} {l : List NA}, NsR w ρ cs l → ∀ {i : Nat} (hi : i < l.length), ∃ c, cs[i]? = some c ∧ NaR w ρ c l[i]
  | c :: _, x :: r, ⟨h1, _⟩, 0, _ => ⟨c, rfl, h1⟩
  | _ :: cs, x :: r, ⟨_, h2⟩, i + 1, hi => by
    obtain ⟨c, e, h⟩ := NsR.at h2 (i := i) (by simpa using hi)
    exact ⟨c, by simpa using e, by simpa using h⟩
  | [], _ :: _, h, _, _ => h.elim
  | _, [], _, _, hi => absurd hi (Nat.not_lt_zero _)
/-- One step of names, done on a map. -/
theorem naClo (w : World) (ρ : Nat → Option Role) (bn n : Nat) (D : DataW Unit) (c : Value) (x : NA) (h : NaR w ρ c x) (hn : n ≤ 1000000) (hl : x.name.length ≤ 1000000) (hN : w.ownsMap Tryz.prog 9 ptrElem bn n D) :
    ∃ F ca, c = .func (.func F) #[] ca ∧ (∀ args w, (callFunc F args).run Tryz.prog w = .ok (.enter F args) w) ∧ Calls Tryz.prog F (#[.map (some bn)] ++ ca) w fun e w' => e = .returned (.tuple #[]) ∧ w'.ownsMap Tryz.prog 9 ptrElem bn (n + 1) (x.ap D) ∧ Mvs (fun k => k = bn) w w' := by
  cases x with
  | mk name f =>
    obtain ⟨cf, cn, rfl, h1, _, h3, _⟩ := h
    exact ⟨_, _, rfl, (fun _ _ => by simp [go_sem]), createClo w bn n D name f cf cn hn hl hN h1 h3⟩
  | rm name =>
    obtain ⟨cn, rfl, h3, _⟩ := h
    refine ⟨_, _, rfl, (fun _ _ => by simp [go_sem]), (removeClo w bn n D name cn hl hN h3).mono ?_⟩
    rintro e w' ⟨rfl, h4, h5⟩
    exact ⟨rfl, h4.mono (Nat.le_succ _), h5⟩
set_option maxRecDepth 20000 in
set_option maxHeartbeats 4000000 in
theorem restoreNames_any (w : World) (ρ : Nat → Option Role) (d bs N : Nat) (D : DataW Unit) (v0 v3 v4 v5 v7 v8 v9 v10 : Value) (ns : Nat) (vs : Value) (Gs : Option Nat) (cs : List Value) (nl : List NA) (o : Int) (hk : Blk w d #[v0, .map (some bs), vs, v3, v4, v5, .int .i64 o, v7, v8, v9, v10] 56) (hown : w.ownsMap Tryz.prog 9 ptrElem bs N D) (hrd : ρ d = some .disk) (hrs : ρ bs = some .sure) (hrow : Rw w 1 vs ns cs Gs) (hG : ∀ g, Gs = some g → ρ g = some .nsteps) (hnl : NsR w ρ cs nl)
    (hN : N ≤ 100000) (hns : ns ≤ 100000) (hln : ∀ x ∈ nl, x.name.length ≤ 1000000) (ho : (ns : Int) ≤ o) (ho1 : o ≤ 1000000000) (k : Nat) (hkn : k ≤ ns) :
    Calls Tryz.prog 31 #[pv d, .int .i64 k] w fun e w' => e = .returned (.tuple #[]) ∧ Mvs (fun j => j = d ∨ j = bs) w w' ∧ ∃ nb, w.heap.size ≤ nb ∧ nb < w'.heap.size ∧ Blk w' d #[.map (some bs), .map (some nb), .slice none 0 0, v3, v4, v5, .int .i64 (o - ns), v7, v8, v9, v10] 56 ∧ w'.ownsMap Tryz.prog 9 ptrElem nb (N + k) (apN D (nl.take k)) ∧ w'.ownsMap Tryz.prog 9 ptrElem bs (N + k) (apN D (nl.take k)) := by
  have hne : bs ≠ d := fun e => by rw [e, hrd] at hrs; cases hrs
  have hc := hk.cell
  have hf := hk.frozen
  have hcsn : cs.length = ns := by have := hrow.1; omega
  have hlen : nl.length = ns := by rw [← hnl.len, hcsn]
  obtain ⟨As, cc, rfl⟩ := hrow.form
  have hcc : ns ≤ cc ∧ cc ≤ 9223372036854775807 := by
    obtain ⟨A', c', hv, h1, h2⟩ : ∃ A' c', Value.slice As ns cc = .slice A' ns c' ∧ ns ≤ c' ∧ c' ≤ maxLen := by
      rcases hrow.2 with ⟨h, h0, _⟩ | ⟨g', o', c', _, k2, h1, h2, _⟩
      · exact ⟨none, 0, by rw [h, h0], by omega, Nat.zero_le _⟩
      · exact ⟨_, c', k2, by omega, h2⟩
    cases hv
    simp only [maxLen] at h2
    exact ⟨h1, h2⟩
  have hm1 : Mvs (fun j => j = d ∨ j = bs) w (w.setCell ⟨d, 0, none⟩ (.map (some bs))) := (Mvs.refl _ w).setCell ⟨d, 0, none⟩ _ (fun _ => .inl rfl)
  have hk1 := hide (hk.set 0 (.map (some bs)))
  have ho1' := hide ((hown.mvs ((Mvs.refl (fun j => j = d) w).setCell ⟨d, 0, none⟩ (.map (some bs)) (fun _ => rfl)) hne).mono (Nat.le_refl _))
  have HM1 := hide hm1
  have HR := hide hrow
  have HN := hide hnl
  have HG := hide hG
  have hkc : k ≤ cc := by omega
  have hsl : Hid (∀ i, i < k → ∃ g oo, As = some ⟨g, oo, none⟩ ∧ g < w.heap.size ∧ Gs = some g ∧ ∀ u, cs[i]? = some u → w.cell? ⟨g, oo + i, none⟩ = some u) := by
    intro i hi
    rcases hrow.2 with ⟨h, h0, _⟩ | ⟨g', o', c', e1, e2, _, _, h3, h4, _⟩
    · omega
    · cases e2
      exact ⟨g', o', rfl, h3, e1, fun u hu => h4 i u hu⟩
  clear hk hown hm1 hrow hnl hG
  unfold pv at *
  go_enter Tryz.func31, Tryz.ntmps31
  go_wp2
  go_loopw [5, 20] (fun _ u wr => ∃ i : Nat, i ≤ k ∧ u = .int .i64 i ∧ Hid (Mvs (fun j => j = d ∨ j = bs) w wr) ∧ Hid (Blk wr d #[.map (some bs), .map (some bs), .slice As ns cc, v3, v4, v5, .int .i64 o, v7, v8, v9, v10] 56) ∧ Hid (wr.ownsMap Tryz.prog 9 ptrElem bs (N + i) (apN D (nl.take i)))) (fun _ u _ => k - (intOf u).toNat)
  case atStart => exact ⟨0, Nat.zero_le _, rfl, HM1, hk1, ho1'⟩
  case round =>
    obtain ⟨i, hik, rfl, hM, hB, hO⟩ := hrel
    have hcB := hB.out.cell
    by_cases hlt : i < k
    · have hltz : (i : Int) < (k : Int) := by omega
      have hil : i < nl.length := by omega
      obtain ⟨c, hci, hna⟩ := HN.out.at hil
      obtain ⟨g, oo, rfl, hg, hGs, hcell⟩ := hsl.out i hlt
      have hgn : ¬ (g = d ∨ g = bs) := fun e => by
        have h1 := HG.out g hGs
        rcases e with e | e
        · rw [e, hrd] at h1; cases h1
        · rw [e, hrs] at h1; cases h1
      have hcap : ∀ j, ρ j = some .cap → ¬ (j = d ∨ j = bs) := fun j hj e => by
        rcases e with e | e
        · rw [e, hrd] at hj; cases hj
        · rw [e, hrs] at hj; cases hj
      have hcw := (hM.out.cell (a := ⟨g, oo + i, none⟩) hg hgn).trans (hcell c hci)
      have hnaw := hna.keep hM.out hcap (fun _ h => h)
      obtain ⟨F, ca, rfl, heg, hC⟩ := naClo wr ρ bs (N + i) _ c nl[i] hnaw (by omega) (hln _ (List.getElem_mem hil)) hO.out
      have hap : (nl[i]).ap (apN D (nl.take i)) = apN D (nl.take (i + 1)) := by
        rw [List.take_succ_eq_append_getElem hil, apN_snoc]
      rw [hap] at hC
      have HC := hide hC
      have hgw : g < wr.heap.size := Nat.lt_of_lt_of_le hg hM.out.size
      clear hC hna hnaw hcell hci hap hgn hcap hO
      go_wp2_with fail
      refine HC.out.mono ?_
      rintro e w' ⟨rfl, hO', hm'⟩
      have HO' := hide hO'
      have HM' := hide (hM.out.trans (hm'.mono fun _ _ e => .inr e))
      have HB' := hide (hm'.blk hB.out (fun e => hne e.symm))
      clear HC hO' hm' hcB hcw
      go_wp2_with fail
      go_round
      case rel => exact ⟨i + 1, by omega, by go_num, HM', HB', HO'⟩
      case measure => simp [intOf]; omega
    · have hltz : ¬ (i : Int) < (k : Int) := by omega
      obtain rfl : i = k := by omega
      have HS := hide (makeSure_raw wr d bs (N + i) _ _ _ _ _ _ _ _ _ As ns cc o hB.out hO.out ho ho1)
      unfold pv at HS
      clear hcB
      go_wp2_with (go_at_call 38; refine HS.out.mono ?_)
      rintro e w2 rfl hm2 hk2 ho2 hlt2
      have H2 := hide (And.intro hm2 (And.intro hk2 (And.intro ho2 hlt2)))
      clear hm2 hk2 ho2 hlt2 HS
      go_wp2
      go_end0
      obtain ⟨hm2, hk2, ho2, hlt2⟩ := H2.out
      exact ⟨rfl, hM.out.trans (hm2.mono fun _ _ e => .inl e), wr.heap.size, hM.out.size, hlt2, hk2, ho2, hO.out.mvs hm2 hne⟩
end Go.Proofs.YthhnlkbjpahjeaaGreatDoor

end
section
namespace Go.Proofs.YthhnlkbjpahjeaaGreatDoor
open Go.RowKit Go.Maps
/-- A step undone, but for the first bytes. -/
def SA.und (stay : Nat) (bs : List UInt8) : SA → List UInt8
  | .put size _ => bs.take (size + stay)
  | .cut gone => bs ++ gone
/-- .. can be undone. -/
def SA.can (stay : Nat) (bs : List UInt8) : SA → Prop
  | .put size _ => size + stay ≤ bs.length
  | .cut gone => bs.length + gone.length ≤ 100000000
theorem Rw.take {w : World} {v : Value} {n k : Nat} {cs : List Value} {G : Option Nat} (h : Rw w 1 v n cs G) (hk : k ≤ n) : ∃ A c, v = .slice A n c ∧ n ≤ c ∧ c ≤ 9223372036854775807 ∧ Rw w 1 (.slice A k c) k (cs.take k) G := by
  rcases h.2 with ⟨rfl, h0, hg⟩ | ⟨g', o', cap', hg, rfl, h1, h2, h3, h4, h5⟩
  · have hn : n = 0 := by omega
    subst hn
    have hk0 : k = 0 := by omega
    subst hk0
    subst hg
    exact ⟨none, 0, rfl, Nat.le_refl _, by omega, by rw [List.take_zero]; exact Rw.nil _ _⟩
  · subst hg
    have hc : cap' ≤ 9223372036854775807 := by simpa only [maxLen] using h2
    exact ⟨some ⟨g', o', none⟩, cap', rfl, by omega, hc, Rw.to h hk⟩
set_option maxRecDepth 20000 in
set_option maxHeartbeats 2000000 in
theorem put1_all (w : World) (k n c size stay : Nat) (A : Option Addr) (hk : Blk w k #[.int .i64 size] 3) (h1 : size + stay ≤ n) (h2 : n ≤ c) (h3 : c ≤ 9223372036854775807) :
    Calls Tryz.prog 110 #[.slice A n c, .int .i64 stay, pv k] w fun e w' => e = .returned (.slice A (size + stay) c) ∧ w' = w := by
  have hc := hk.cell
  clear hk
  unfold pv
  go_enter Tryz.func110, Tryz.ntmps110
  go_wp2
  go_ret
  exact ⟨rfl, rfl⟩
set_option maxRecDepth 20000 in
set_option maxHeartbeats 2000000 in
theorem cut1_any (w : World) (k : Nat) (bs gone : List UInt8) (v vg : Value) (G Gg : Option Nat) (stay : Nat) (hk : Blk w k #[vg] 46) (hr : Rw w 1 v bs.length (bs.map bv) G) (hg : Rw w 1 vg gone.length (gone.map bv) Gg) (hl : bs.length + gone.length ≤ 100000000) :
    Calls Tryz.prog 113 #[v, .int .i64 stay, pv k] w fun e w' => ∃ v' G', e = .returned v' ∧ Rw w' 1 v' (bs ++ gone).length ((bs ++ gone).map bv) G' ∧ Mvs (fun j => some j = G) w w' ∧ (G' = G ∨ ∃ g, G' = some g ∧ w.heap.size ≤ g) := by
  obtain ⟨i0, hi, hz0, hz1, hz2⟩ := info_parts byteInfo
  have hc := hk.cell
  have hbr := hide hg.br
  obtain ⟨A, c, rfl⟩ := hr.form
  obtain ⟨Ag, cg, rfl⟩ := hg.form
  have HR := hide hr
  clear hk hr hg
  unfold pv
  go_enter Tryz.func113, Tryz.ntmps113
  go_wp2_with (at_builtin; refine wpList_append_rw rfl _ _ 46 46 rfl 5 i0 (.int .u8 0) 1 1 Tryz.underlying46 hi hz0 hz1 hz2 rfl rfl HR.out _ gone.length (gone.map bv) rfl (BR.src hbr.out) (by simp only [maxLen]; omega) (by omega) ?_)
  intro v3 w3 G3 hr3 hm3 hg3
  have H3 := hide (And.intro hr3 (And.intro hm3 hg3))
  clear hr3 hm3 hg3 hi hz0 hz1 hz2
  go_wp2
  go_ret
  obtain ⟨hr3, hm3, hg3⟩ := H3.out
  refine ⟨_, G3, rfl, ?_, hm3, hg3.imp id fun e => ⟨_, e, Nat.le_refl _⟩⟩
  rw [List.length_append, List.map_append]
  exact hr3
/-- What an undoing leaves. -/
def Und (w : World) (bs : List UInt8) (G : Option Nat) (e : Ending) (w' : World) : Prop := ∃ v' G', e = .returned v' ∧ Rw w' 1 v' bs.length (bs.map bv) G' ∧ Mvs (fun j => some j = G) w w' ∧ (G' = G ∨ ∃ g, G' = some g ∧ w.heap.size ≤ g)
/-- An open step's own undoing. -/
theorem undClo (w : World) (ρ : Nat → Option Role) (c0 c1 c2 : Value) (sa : SA) (h : StepR w ρ c0 c1 c2 sa) (bs : List UInt8) (v : Value) (G : Option Nat) (hr : Rw w 1 v bs.length (bs.map bv) G) (stay : Nat) (hc : sa.can stay bs) :
    (∃ k, c2 = .func (.func 110) #[] #[pv k] ∧ Calls Tryz.prog 110 #[v, .int .i64 stay, pv k] w (Und w (sa.und stay bs) G)) ∨
    (∃ k, c2 = .func (.func 113) #[] #[pv k] ∧ Calls Tryz.prog 113 #[v, .int .i64 stay, pv k] w (Und w (sa.und stay bs) G)) := by
  cases sa with
  | put size len =>
    obtain ⟨_, _, k, rfl, hk, _⟩ := h
    have hc' : size + stay ≤ bs.length := hc
    obtain ⟨A, c, rfl, h1, h2, h3⟩ := hr.take hc'
    refine .inl ⟨k, rfl, (put1_all w k bs.length c size stay A hk hc' h1 h2).mono ?_⟩
    rintro e w' ⟨rfl, rfl⟩
    refine ⟨_, G, rfl, ?_, Mvs.refl _ _, .inl rfl⟩
    show Rw _ 1 _ (bs.take (size + stay)).length ((bs.take (size + stay)).map bv) G
    rw [List.length_take, Nat.min_eq_left hc', List.map_take]
    exact h3
  | cut gone =>
    obtain ⟨_, _, k, vg, Gg, rfl, hk, _, hg, _⟩ := h
    exact .inr ⟨k, rfl, cut1_any w k bs gone v vg G Gg stay hk hr hg hc⟩
end Go.Proofs.YthhnlkbjpahjeaaGreatDoor

end
