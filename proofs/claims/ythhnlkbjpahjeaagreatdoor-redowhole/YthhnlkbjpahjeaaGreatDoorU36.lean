/- A record that is cut short is none. -/
/- Open over the plain disk: done, or cut. -/
/- Rows of files in memory: two rows of texts that grow together. -/
import Derived.Test.YthhnlkbjpahjeaaGreatDoorU33
import Derived.Test.YthhnlkbjpahjeaaGreatDoorU35
import Derived.Test.YthhnlkbjpahjeaaGreatDoorU21
import Derived.Deep.RegionLaw
import Derived.Deep.RegionHeld3
section
namespace Go.Proofs.YthhnlkbjpahjeaaGreatDoor
open Go.RowKit
theorem getD_take (l : List UInt8) (i k : Nat) (h : i < k) : (l.take k).getD i 0 = l.getD i 0 := by
  rw [List.getD_eq_getElem?_getD, List.getD_eq_getElem?_getD, List.getElem?_take_of_lt h]
theorem numN_take (l : List UInt8) (k : Nat) (h : 4 ≤ k) : numN (l.take k) = numN l := by
  unfold numN
  rw [getD_take _ _ _ (by omega), getD_take _ _ _ (by omega), getD_take _ _ _ (by omega), getD_take _ _ _ (by omega)]
theorem whole_cut_rec (bs : List UInt8) (h : bs.length ≤ 400000) (k : Nat) (hk : k < bs.length + 8) : wholeN ((recB bs).take k) = none := by
  have hl : ((recB bs).take k).length = k := by rw [List.length_take, recB_length]; omega
  by_cases h8 : k < 8
  · unfold wholeN
    rw [hl, if_pos h8]
  · refine whole_no fun hh => ?_
    have := hh.2.1
    rw [hl, numN_take _ _ (by omega)] at this
    unfold recB at this
    rw [List.append_assoc, numN_four _ (by omega)] at this
    omega
end Go.Proofs.YthhnlkbjpahjeaaGreatDoor

end
section
namespace Go.Proofs.YthhnlkbjpahjeaaGreatDoor
open Go.RowKit Go.Maps Go.Sort
section
variable (w0 w : World) (l d : Nat) (dead : Bool) (ρ : Nat → Option Role) (s : St) (a : Nat → Addr) (Q1 : Nat → World → Prop) (Q2 : World → Prop)
set_option maxRecDepth 8000 in
set_option maxHeartbeats 2000000 in
theorem finish_nil (A : Option Addr) (c : Nat) : Calls Tryz.prog 35 #[pv l, .slice A 0 c] w fun e w' => e = .returned .nilIface ∧ w' = w := by
  unfold pv
  go_enter Tryz.func35, Tryz.ntmps35
  go_wp2
  go_ret
  exact ⟨rfl, rfl⟩
set_option maxRecDepth 8000 in
set_option maxHeartbeats 2000000 in
theorem open_any (hd : DK w0 w d ρ s) (hoff : s.off = false) (b : Nat) (fa : FA) (hat : s.D.atKey (.string redoN) .nil = pd b) (hφ : s.φ b = some fa) (hlen : fa.bytes.length ≤ 1000000) (hr : rightB redoN = true)
    (hf : ∀ l w1 v, LG w0 w1 l d false ρ s → Turn w w1 ρ ρ → BR w1 v fa.bytes → Frees ρ v fa.bytes → Calls Tryz.prog 35 #[pv l, v] w1 (Ans fun v w' => (v = .nilIface ∧ Q1 l w') ∨ (v = errV a 7 ∧ Q2 w'))) :
    Calls Tryz.prog 15 #[pv d] w fun e w' => (∃ l, e = .returned (.tuple #[pv l, .nilIface]) ∧ Q1 l w') ∨ (e = .returned (.tuple #[.pointer none, errV a 7]) ∧ Q2 w') := by
  have HR := hide (read_new w0 w d ρ s hd hoff redoN hr b fa hat hφ hlen)
  have HD := hide hd
  have hf := hide hf
  clear hd hat
  unfold pv redoN at *
  go_enter Tryz.func15, Tryz.ntmps15
  go_wp2_with fail
  refine HR.out.mono ?_
  rintro e w1 ⟨v, rfl, hT⟩
  have hv := hT.br
  have hb1 := hT.1
  have hfr : Frees ρ v fa.bytes := fun _ A n c e => HD.out.free (hT.above A n c e)
  have hb2 : Below w1.heap.size w1 (w1.alloc (.cells #[.pointer (some ⟨d, 0, none⟩), .bool false] 59)) := (Below.refl _ _).alloc (Nat.le_refl _) _
  have hd1 := HD.out.then hb1
  have L2 : LG w0 (w1.alloc (.cells #[.pointer (some ⟨d, 0, none⟩), .bool false] 59)) w1.heap.size d false ρ s := ⟨hd1.then hb2, Blk.new _ _ _, hd1.free (Nat.le_refl _), hd1.below.size⟩
  have HF := hide (hf.out w1.heap.size _ v L2 (Turn.of_below (hb1.trans (hb2.mono hb1.size))) (hv.below hb2) hfr)
  obtain ⟨A, c, rfl, _⟩ := BR.form hv
  clear hb1 hb2 hd1 hfr L2 hv HR hT
  go_wp2_with fail
  refine HF.out.mono ?_
  rintro e w3 ⟨_, rfl, (⟨rfl, hq⟩ | ⟨rfl, hq⟩)⟩
  · replace hq := hide hq
    clear HF
    go_wp2
    go_ret2
    exact .inl ⟨_, rfl, hq.out⟩
  · replace hq := hide hq
    clear HF
    unfold errV at *
    go_wp2
    go_ret2
    exact .inr ⟨rfl, hq.out⟩
end
section
variable {a : Nat → Addr} {w0 w : World} {d : Nat} {ρ : Nat → Option Role} {s : St} {p : PD} {Al : List Nm} {B : Nm → Nat} {k j K J : Nat} {cb : Bool}
variable {V : Nm → Option (List UInt8)} {xs : List OpA}
theorem OK.setQ (h : OK w0 w d ρ s p Al B k j) {n : Int} (h0 : 0 ≤ n) (h1 : n ≤ 1073741824) : OK w0 (w.setCell ⟨d, 10, Option.none⟩ (.int .i64 n)) d ρ { s with quota := n } p Al B k j :=
  ⟨(h.dk.setQ n).1, ⟨h.rel.isD, h.rel.isDs, h.rel.nm, h.rel.sn, h.rel.ns, h.rel.by_, h.rel.op⟩, h.bd.quota h0 h1, h.ow.imp fun _ ho => ⟨ho.len, ho.D, ho.Ds, ho.nl, ho.op⟩⟩
theorem OK.quota (h : OK w0 w d ρ s p Al B k j) {w' : World} {n : Int} (h0 : 0 ≤ n) (h1 : n ≤ 1073741824) (hd : DK w0 w' d ρ { s with quota := n }) : OK w0 w' d ρ { s with quota := n } p Al B k j :=
  ⟨hd, ⟨h.rel.isD, h.rel.isDs, h.rel.nm, h.rel.sn, h.rel.ns, h.rel.by_, h.rel.op⟩, h.bd.quota h0 h1, h.ow.imp fun _ ho => ⟨ho.len, ho.D, ho.Ds, ho.nl, ho.op⟩⟩
/-- What an Open leaves: all that was to be done, or cut. -/
def OpOut (a : Nat → Addr) (w0 ws : World) (ρs : Nat → Option Role) (d : Nat) (Al : List Nm) (B : Nm → Nat) (cb : Bool) (Pd Pc : PD → Prop) (K J : Nat) (q : Int) (e : Ending) (w' : World) : Prop :=
  (∃ l, e = .returned (.tuple #[pv l, .nilIface]) ∧ ∃ ρ' s' p', Pd p' ∧ LO w0 w' l d false ρ' s' p' Al B K J ∧ s'.off = false ∧ s'.quota = q ∧ Turn ws w' ρs ρ') ∨
    (e = .returned (.tuple #[.pointer none, errV a 7]) ∧ ∃ ρ' s' p', Pc p' ∧ OK w0 w' d ρ' s' p' Al B K J ∧ s'.off = true ∧ s'.quota = q ∧ cb = true ∧ Turn ws w' ρs ρ')
theorem rightRedoN : rightB redoN = true := by decide
theorem dblk {l : Nat} {dead : Bool} (h : LO w0 w l d dead ρ s p Al B k j) : ∃ v0 v1 v2 v3 v4 v5 v6 v7 v8 v9 v10, Blk w d #[v0, v1, v2, v3, v4, v5, v6, v7, v8, v9, v10] 56 := by
  obtain ⟨bn, bs, bc, vs, vl, Gs, Gl, cs, h⟩ := h.lg.dk
  exact ⟨_, _, _, _, _, _, _, _, _, _, _, h.blk⟩
/-- The log has nothing. -/
theorem open_none (h : OK w0 w d ρ s p Al B k j) (hoff : s.off = false) (hk : k ≤ K) (hj : j ≤ J) {W : Nm → Option (List UInt8)} (hC : Calm W redoN [] p) {Pd Pc : PD → Prop} (h1 : Pd p) :
    Calls Tryz.prog 15 #[pv d] w (OpOut a w0 w ρ d Al B cb Pd Pc K J s.quota) := by
  obtain ⟨r, hr, hn, hby⟩ := hC.nmr
  obtain ⟨hat, fa, hφ, hfb⟩ := h.at hn
  have h0 : fa.bytes = [] := by rw [← hfb, hby]
  refine (open_any w0 w d ρ s a (fun l w' => LO w0 w' l d false ρ s p Al B K J ∧ Turn w w' ρ ρ) (fun _ => False) h.dk hoff r fa hat hφ (by rw [h0]; simp) rightRedoN ?_).mono ?_
  · intro l w1 v hL hT hv _
    rw [h0] at hv
    obtain ⟨A, c, rfl, _⟩ := hv.form
    refine (finish_nil w1 l A c).mono ?_
    rintro e w' ⟨rfl, rfl⟩
    exact ⟨_, rfl, .inl ⟨rfl, ⟨hL, ⟨hL.dk, h.rel, h.bd.mono hk hj, h.ow⟩⟩, hT⟩⟩
  · rintro e w' (⟨l, rfl, hL⟩ | ⟨_, hf⟩)
    · exact .inl ⟨l, rfl, ρ, s, p, h1, hL.1, hoff, rfl, hL.2⟩
    · exact hf.elim
/-- The log has a piece of a record. -/
theorem open_piece (hE : Errs w0 a) (hl : Lim Al B) (h : OK w0 w d ρ s p Al B k j) (hoff : s.off = false) (ha : cb = false → s.armed < 0) (hk : k + 2 ≤ K) (hK : K ≤ 9000) (hj : j ≤ J) {rec : List UInt8} {m : Nat} (hm : m < rec.length) (hw : wholeN (rec.take m) = none) (hC : Calm V redoN (rec.take m) p) (hop : p.op = none) (hne : rec.take m ≠ []) {ops : List Ch} :
    Calls Tryz.prog 15 #[pv d] w (OpOut a w0 w ρ d Al B cb (fun p' => Calm V redoN [] p' ∧ p'.op = none) (Bcl V ops rec) K J s.quota) := by
  obtain ⟨r, hr, hn, hby⟩ := hC.nmr
  obtain ⟨hat, fa, hφ, hfb⟩ := h.at hn
  have h0 : fa.bytes = rec.take m := by rw [← hfb, hby]
  have hfl := (h.bd.fn r fa hφ).2.2
  have q0 := h.bd.q0
  have q1 := h.bd.q1
  refine (open_any w0 w d ρ s a (fun l w' => ∃ ρ' s' p', (Calm V redoN [] p' ∧ p'.op = none) ∧ LO w0 w' l d false ρ' s' p' Al B K J ∧ s'.off = false ∧ s'.quota = s.quota ∧ Turn w w' ρ ρ') (fun w' => ∃ ρ' s' p', Bcl V ops rec p' ∧ OK w0 w' d ρ' s' p' Al B K J ∧ s'.off = true ∧ s'.quota = s.quota ∧ cb = true ∧ Turn w w' ρ ρ') h.dk hoff r fa hat hφ (by omega) rightRedoN ?_).mono ?_
  · intro l w1 v hL hT hv hvf
    rw [h0] at hv hvf
    refine (finish_no w0 w1 l d false ρ s a (fun w2 => ∃ s2, LO w0 w2 l d false ρ s2 p Al B k j ∧ s2.off = false ∧ s2.quota = 1073741824 ∧ (cb = false → s2.armed < 0) ∧ Turn w w2 ρ ρ) (fun w' => ∃ ρ' s' p', Bcl V ops rec p' ∧ LO w0 w' l d false ρ' s' p' Al B K J ∧ s'.off = true ∧ cb = true ∧ Turn w w' ρ ρ') (fun w' => ∃ ρ' s' p', (Calm V redoN [] p' ∧ p'.op = none) ∧ LO w0 w' l d false ρ' s' p' Al B K J ∧ s'.off = false ∧ Turn w w' ρ ρ') hL q0 q1 (rec.take m) v hv hvf (by rw [← h0]; omega) hne hw ?_ ?_ ?_).mono ?_
    · intro w2 hL2 T2
      exact ⟨_, ⟨hL2, h.quota (by decide) (by decide) hL2.dk⟩, hoff, rfl, ha, hT.trans T2⟩
    · rintro g w3 w4 ⟨s2, L3, f3, q3, a3, T3⟩ hb hg hg4
      refine end_lo (Pc := Bcl V ops rec) hE hl (L3.then hb) f3 a3 q3 hk hK hj hC hop ?_ (.inl ⟨_, hC, .inl ⟨hop, m, hm, rfl⟩⟩) hg4 (L3.lg.dk.free hg) ?_
      · rintro p6 C6 ⟨r6, o6⟩
        exact .inl ⟨_, C6, .inr ⟨_, o6, fun c hc => by
          rcases hc with hc | ⟨i, hc⟩
          · exact ⟨m, (Option.some.inj hc).symm⟩
          · exact ⟨0, by simpa using hc⟩⟩⟩
      · rintro v w5 (⟨rfl, ρ5, s5, p5, C5, L5, T5, g5, q5, a5⟩ | ⟨rfl, ρ5, s5, p5, C5, L5, T5, g5, q5, a5⟩)
        · exact .inl ⟨rfl, ρ5, s5, p5, C5, L5, g5, (T3.trans (Turn.of_below hb)).trans T5⟩
        · exact .inr ⟨rfl, ρ5, s5, p5, C5, L5, g5, a5, (T3.trans (Turn.of_below hb)).trans T5⟩
    · rintro w5 (⟨ρ5, s5, p5, _, L5, _⟩ | ⟨ρ5, s5, p5, _, L5, _⟩)
      · exact dblk L5
      · exact dblk L5
    · rintro e w' ⟨v', rfl, w5, rfl, (⟨rfl, ρ5, s5, p5, C5, L5, g5, T5⟩ | ⟨rfl, ρ5, s5, p5, C5, L5, g5, c5, T5⟩)⟩
      · have hs := L5.lg.dk.setQ s.quota
        exact ⟨_, rfl, .inl ⟨rfl, ρ5, _, p5, C5, ⟨L5.lg.turn hs.1 hs.2, L5.ok.setQ q0 q1⟩, g5, rfl, T5.trans hs.2⟩⟩
      · have hs := L5.lg.dk.setQ s.quota
        exact ⟨_, rfl, .inr ⟨rfl, ρ5, _, p5, C5, L5.ok.setQ q0 q1, g5, rfl, c5, T5.trans hs.2⟩⟩
  · rintro e w' (⟨l, rfl, ρ', s', p', h1, h2, h3, h4⟩ | ⟨rfl, ρ', s', p', h1, h2, h3, h4, h5⟩)
    · exact .inl ⟨l, rfl, ρ', s', p', h1, h2, h3, h4⟩
    · exact .inr ⟨rfl, ρ', s', p', h1, h2, h3, h4, h5⟩
theorem chOf_erase (x : OpA) : chOf x.erase = chOf x := rfl
theorem map_chOf {ys zs : List OpA} (h : ys.map OpA.erase = zs.map OpA.erase) : ys.map chOf = zs.map chOf := by
  have e : ∀ l : List OpA, l.map chOf = (l.map OpA.erase).map chOf := fun l => by rw [List.map_map]; rfl
  rw [e ys, e zs, h]
/-- The log has a whole record. -/
theorem open_redo (hE : Errs w0 a) (hV : Env V (xs.map chOf) Al B) (hf : formB xs = true) (h : OK w0 w d ρ s p Al B k j) (hoff : s.off = false) (ha : cb = false → s.armed < 0) (hk : k + 4 * 16 + 10 ≤ K) (hK : K ≤ 9000) (hj : j + 16 ≤ J) (hJ : J ≤ 800) (hP : Part V (xs.map chOf) redoN (recB (opsB xs)) p) (hop : p.op = none) :
    Calls Tryz.prog 15 #[pv d] w (OpOut a w0 w ρ d Al B cb (fun p' => Calm (afterV V (xs.map chOf)) redoN [] p' ∧ p'.op = none) (Bcl V (xs.map chOf) (recB (opsB xs))) K J s.quota) := by
  obtain ⟨f1, f16, fg, fs⟩ := form_parts hf
  have hlx : (xs.map chOf).length ≤ 16 := by simpa using f16
  obtain ⟨r, hr, hby, _⟩ := hP.log
  have hn : p.nm redoN = some r := by rw [hP.nm_other hV.fits.log]; exact hr
  obtain ⟨hat, fa, hφ, hfb⟩ := h.at hn
  have h0 : fa.bytes = recB (opsB xs) := by rw [← hfb, hby]
  have hfl := (h.bd.fn r fa hφ).2.2
  have hbl : (opsB xs).length ≤ 400000 := by rw [opsB_length]; exact fs
  have hrne : recB (opsB xs) ≠ [] := fun e => by
    have := congrArg List.length e
    rw [recB_length] at this
    simp at this
  have hpay := rec_payload (opsB xs)
  have q0 := h.bd.q0
  have q1 := h.bd.q1
  refine (open_any w0 w d ρ s a (fun l w' => ∃ ρ' s' p', (Calm (afterV V (xs.map chOf)) redoN [] p' ∧ p'.op = none) ∧ LO w0 w' l d false ρ' s' p' Al B K J ∧ s'.off = false ∧ s'.quota = s.quota ∧ Turn w w' ρ ρ') (fun w' => ∃ ρ' s' p', Bcl V (xs.map chOf) (recB (opsB xs)) p' ∧ OK w0 w' d ρ' s' p' Al B K J ∧ s'.off = true ∧ s'.quota = s.quota ∧ cb = true ∧ Turn w w' ρ ρ') h.dk hoff r fa hat hφ (by omega) rightRedoN ?_).mono ?_
  · intro l w1 v hL hT hv hvf
    rw [h0] at hv hvf
    refine (finish_yes w0 w1 l d false ρ s a (fun w2 => ∃ ρ2 s2 p2, (Calm (afterV V (xs.map chOf)) redoN (recB (opsB xs)) p2 ∧ p2.op = none) ∧ LO w0 w2 l d false ρ2 s2 p2 Al B (K - 2) J ∧ s2.off = false ∧ s2.quota = 1073741824 ∧ (cb = false → s2.armed < 0) ∧ Turn w w2 ρ ρ2) (fun w' => ∃ ρ' s' p', Bcl V (xs.map chOf) (recB (opsB xs)) p' ∧ LO w0 w' l d false ρ' s' p' Al B K J ∧ s'.off = true ∧ cb = true ∧ Turn w w' ρ ρ') (fun w' => ∃ ρ' s' p', (Calm (afterV V (xs.map chOf)) redoN [] p' ∧ p'.op = none) ∧ LO w0 w' l d false ρ' s' p' Al B K J ∧ s'.off = false ∧ Turn w w' ρ ρ') hE hL q0 q1 (recB (opsB xs)) v hv hvf (by rw [← h0]; omega) hrne (opsB xs).length (whole_rec _ hbl) (xs.map OpA.erase) (by rw [hpay]; exact opsOf_opsB _ hf) (by
      rw [hpay]
      intro e
      have := congrArg List.length e
      rw [opsB_length] at this
      have := sizeOps_pos xs
      simp at *
      omega) (by rw [hpay]; exact hbl) ?_ ?_ ?_).mono ?_
    · intro w2 vo ys hL2 T2 hO hys
      have hfy : formB ys = true := by rw [← form_erase, hys, form_erase]; exact hf
      have hIs : IsL ys (xs.map chOf) := by
        rw [← map_chOf hys]
        exact isL_of (fun x hx => ((good_allN (form_parts hfy).2.2.1).1 x hx).1)
      have L2 : LO w0 w2 l d false ρ { s with quota := 1073741824 } p Al B k j := ⟨hL2, h.quota (by decide) (by decide) hL2.dk⟩
      refine (cdo_lo (K := K - 2) (J := J) (q := 1073741824) (cb := cb) hE hV (by decide) (by omega) hJ hIs L2 hoff ha rfl (by omega) (by omega) hP hop (.slice none 0 0) hO).mono ?_
      rintro e w' ⟨v', rfl, (⟨rfl, ρ3, s3, p3, C3, L3, T3, g3, q3, a3⟩ | ⟨rfl, ρ3, s3, p3, P3, L3, T3, g3, q3, a3⟩)⟩
      · exact ⟨_, rfl, .inl ⟨rfl, ρ3, s3, p3, C3, L3, g3, q3, a3, (hT.trans T2).trans T3⟩⟩
      · exact ⟨_, rfl, .inr ⟨rfl, ρ3, s3, p3, .inr (.inl P3), L3.mono (by omega) (Nat.le_refl _), g3, a3, (hT.trans T2).trans T3⟩⟩
    · rintro g w3 w4 ⟨ρ3, s3, p3, ⟨C3, o3⟩, L3, f3, q3, a3, T3⟩ hb hg hg4
      refine end_lo (Pc := Bcl V (xs.map chOf) (recB (opsB xs))) hE hV.lim (L3.then hb) f3 a3 q3 (by omega) hK (Nat.le_refl _) C3 o3 ?_ (.inr (.inl (C3.done o3 hV.fits))) hg4 (L3.lg.dk.free hg) ?_
      · rintro p6 C6 ⟨r6, o6⟩
        exact .inr (.inr ⟨_, C6, .inr ⟨_, o6, fun c hc => by
          rcases hc with hc | ⟨i, hc⟩
          · exact .inl (Option.some.inj hc).symm
          · exact .inr (by simpa using hc)⟩⟩)
      · rintro v w5 (⟨rfl, ρ5, s5, p5, C5, L5, T5, g5, q5, a5⟩ | ⟨rfl, ρ5, s5, p5, C5, L5, T5, g5, q5, a5⟩)
        · exact .inl ⟨rfl, ρ5, s5, p5, C5, L5, g5, (T3.trans (Turn.of_below hb)).trans T5⟩
        · exact .inr ⟨rfl, ρ5, s5, p5, C5, L5, g5, a5, (T3.trans (Turn.of_below hb)).trans T5⟩
    · rintro w5 (⟨ρ5, s5, p5, _, L5, _⟩ | ⟨ρ5, s5, p5, _, L5, _⟩)
      · exact dblk L5
      · exact dblk L5
    · rintro e w' ⟨v', rfl, w5, rfl, (⟨rfl, ρ5, s5, p5, C5, L5, g5, T5⟩ | ⟨rfl, ρ5, s5, p5, C5, L5, g5, c5, T5⟩)⟩
      · have hs := L5.lg.dk.setQ s.quota
        exact ⟨_, rfl, .inl ⟨rfl, ρ5, _, p5, C5, ⟨L5.lg.turn hs.1 hs.2, L5.ok.setQ q0 q1⟩, g5, rfl, T5.trans hs.2⟩⟩
      · have hs := L5.lg.dk.setQ s.quota
        exact ⟨_, rfl, .inr ⟨rfl, ρ5, _, p5, C5, L5.ok.setQ q0 q1, g5, rfl, c5, T5.trans hs.2⟩⟩
  · rintro e w' (⟨l, rfl, ρ', s', p', h1, h2, h3, h4⟩ | ⟨rfl, ρ', s', p', h1, h2, h3, h4, h5⟩)
    · exact .inl ⟨l, rfl, ρ', s', p', h1, h2, h3, h4⟩
    · exact .inr ⟨rfl, ρ', s', p', h1, h2, h3, h4, h5⟩
/-- Open behind a loss of power, wherever the change stood. -/
theorem open_lo (hE : Errs w0 a) (hV : Env V (xs.map chOf) Al B) (hf : formB xs = true) (h : OK w0 w d ρ s p Al B k j) (hoff : s.off = false) (ha : cb = false → s.armed < 0) (hk : k + 4 * 16 + 10 ≤ K) (hK : K ≤ 9000) (hj : j + 16 ≤ J) (hJ : J ≤ 800) (hc : Kcl V (xs.map chOf) (recB (opsB xs)) p) :
    Calls Tryz.prog 15 #[pv d] w (OpOut a w0 w ρ d Al B cb (fun p' => p'.op = none ∧ (Calm V redoN [] p' ∨ Calm (afterV V (xs.map chOf)) redoN [] p')) (Bcl V (xs.map chOf) (recB (opsB xs))) K J s.quota) := by
  obtain ⟨hop, ⟨m, hm, hC⟩ | hP | hC⟩ := hc
  · by_cases hne : (recB (opsB xs)).take m = []
    · rw [hne] at hC
      exact open_none h hoff (by omega) (by omega) hC ⟨hop, .inl hC⟩
    · have hbl : (opsB xs).length ≤ 400000 := by rw [opsB_length]; exact (form_parts hf).2.2.2
      refine (open_piece (J := J) (ops := xs.map chOf) hE hV.lim h hoff ha (by omega) hK (by omega) hm (whole_cut_rec _ hbl m (by rw [recB_length] at hm; exact hm)) hC hop hne).mono ?_
      rintro e w' (⟨l, rfl, ρ', s', p', h1, h2⟩ | h2)
      · exact .inl ⟨l, rfl, ρ', s', p', ⟨h1.2, .inl h1.1⟩, h2⟩
      · exact .inr h2
  · refine (open_redo hE hV hf h hoff ha hk hK hj hJ hP hop).mono ?_
    rintro e w' (⟨l, rfl, ρ', s', p', h1, h2⟩ | h2)
    · exact .inl ⟨l, rfl, ρ', s', p', ⟨h1.2, .inr h1.1⟩, h2⟩
    · exact .inr h2
  · exact open_none h hoff (by omega) (by omega) hC ⟨hop, .inr hC⟩
end
end Go.Proofs.YthhnlkbjpahjeaaGreatDoor

end
section
namespace Go.Proofs.YthhnlkbjpahjeaaGreatDoor
open Go.RowKit Go.Maps Go.Sort
/-- A row of files under way since w0: the cell as it was stored last, the rows as they stand. -/
structure FM (w0 w : World) (b : Nat) (vn vb v1 v2 : Value) (N1 N2 : Nat) (ns bs : List (List UInt8)) (G1 G2 : Option Nat) : Prop where
  bl : Mvs (fun k => k = b) w0 w
  blk : Blk w b #[vn, vb] 37
  rn : Rw w 1 v1 N1 (ns.map encStr) G1
  rb : Rw w 1 v2 N2 (bs.map encStr) G2
  g1 : ∀ g, G1 = some g → w0.heap.size ≤ g ∧ g ≠ b ∧ G2 ≠ some g
  g2 : ∀ g, G2 = some g → w0.heap.size ≤ g ∧ g ≠ b
section
variable {w0 w w' : World} {b : Nat} {vn vb v1 v2 : Value} {N1 N2 : Nat} {ns bs : List (List UInt8)} {G1 G2 : Option Nat}
theorem FM.then (h : FM w0 w b vn vb v1 v2 N1 N2 ns bs G1 G2) (hb : Below w.heap.size w w') : FM w0 w' b vn vb v1 v2 N1 N2 ns bs G1 G2 :=
  ⟨h.bl.then hb, h.blk.below hb h.blk.lt, h.rn.keep (Mvs.of_below (S := fun _ => False) hb) (fun _ _ c => c), h.rb.keep (Mvs.of_below (S := fun _ => False) hb) (fun _ _ c => c), h.g1, h.g2⟩
theorem FM.names (h : FM w0 w b vn vb v1 v2 N1 N2 ns bs G1 G2) {v' : Value} {G' : Option Nat} {x : List UInt8} (hr : Rw w' 1 v' (N1 + 1) (ns.map encStr ++ [encStr x]) G') (hm : Mvs (fun k => some k = G1) w w') (hg : G' = G1 ∨ G' = some w.heap.size) : FM w0 w' b vn vb v' v2 (N1 + 1) N2 (ns ++ [x]) bs G' G2 := by
  have hbw := h.bl.size
  refine ⟨h.bl.trans' hm (fun k hk e => by have := (h.g1 k e.symm).1; omega), hm.blk h.blk (fun e => (h.g1 b e.symm).2.1 rfl), ?_, h.rb.keep hm (fun g e c => (h.g1 g c.symm).2.2 e), ?_, h.g2⟩
  · rw [List.map_append]
    exact hr
  · intro g e
    rcases hg with rfl | rfl
    · exact h.g1 g e
    · cases e
      exact ⟨hbw, fun e => by have := h.blk.lt; omega, fun e => by have := h.rb.lt _ e; omega⟩
theorem FM.texts (h : FM w0 w b vn vb v1 v2 N1 N2 ns bs G1 G2) {v' : Value} {G' : Option Nat} {x : List UInt8} (hr : Rw w' 1 v' (N2 + 1) (bs.map encStr ++ [encStr x]) G') (hm : Mvs (fun k => some k = G2) w w') (hg : G' = G2 ∨ G' = some w.heap.size) : FM w0 w' b vn vb v1 v' N1 (N2 + 1) ns (bs ++ [x]) G1 G' := by
  have hbw := h.bl.size
  refine ⟨h.bl.trans' hm (fun k hk e => by have := (h.g2 k e.symm).1; omega), hm.blk h.blk (fun e => (h.g2 b e.symm).2 rfl), h.rn.keep hm (fun g e c => (h.g1 g e).2.2 c.symm), ?_, ?_, ?_⟩
  · rw [List.map_append]
    exact hr
  · intro g e
    obtain ⟨q1, q2, q3⟩ := h.g1 g e
    refine ⟨q1, q2, ?_⟩
    rcases hg with rfl | rfl
    · exact q3
    · intro e2
      cases e2
      have := h.rn.lt _ e
      omega
  · intro g e
    rcases hg with rfl | rfl
    · exact h.g2 g e
    · cases e
      exact ⟨hbw, fun e => by have := h.blk.lt; omega⟩
theorem FM.stored (h : FM w0 w b vn vb v1 v2 N1 N2 ns bs G1 G2) : FM w0 ((w.setCell ⟨b, 0, none⟩ v1).setCell ⟨b, 1, none⟩ v2) b v1 v2 v1 v2 N1 N2 ns bs G1 G2 := by
  have hm : Mvs (fun k => k = b) w ((w.setCell ⟨b, 0, none⟩ v1).setCell ⟨b, 1, none⟩ v2) := ((Mvs.refl (fun k => k = b) w).setCell ⟨b, 0, none⟩ v1 (fun _ => rfl)).setCell ⟨b, 1, none⟩ v2 (fun _ => rfl)
  exact ⟨h.bl.trans hm, (h.blk.set 0 v1).set 1 v2, h.rn.keep hm (fun g e c => (h.g1 g e).2.1 c), h.rb.keep hm (fun g e c => (h.g2 g e).2 c), h.g1, h.g2⟩
theorem FM.tr (h : FM w0 w b vn vb v1 v2 N1 N2 ns bs G1 G2) : TR w v1 ns ∧ TR w v2 bs := by
  have key : ∀ {v : Value} {n : Nat} {cs : List Value} {G : Option Nat}, Rw w 1 v n cs G → AR w v cs := by
    intro v n xs G hR
    have hl : xs.length = n := by rw [hR.1]; simp
    rcases hR.2 with ⟨rfl, h0, _⟩ | ⟨g, o, cap, _, rfl, h1, h2, h3, h4, _⟩
    · have : xs = [] := List.length_eq_zero_iff.1 (by omega)
      subst this
      exact ⟨none, 0, rfl, Nat.le_refl _, Nat.zero_le _, fun _ => rfl, fun h => absurd rfl h⟩
    · exact ⟨_, cap, by rw [hl], by omega, h2, (fun e => by cases e), fun _ => ⟨g, o, rfl, h3, h4⟩⟩
  exact ⟨key h.rn, key h.rb⟩
theorem FM.off (h : FM w0 w b vn vb v1 v2 N1 N2 ns bs G1 G2) : (∀ A n c, v1 = .slice (some A) n c → w0.heap.size ≤ A.block) ∧ ∀ A n c, v2 = .slice (some A) n c → w0.heap.size ≤ A.block := by
  constructor
  · rintro A n c rfl
    rcases h.rn.2 with ⟨e, _⟩ | ⟨g, o, cap, hG, hv, _⟩
    · cases e
    · cases hv
      exact (h.g1 _ hG).1
  · rintro A n c rfl
    rcases h.rb.2 with ⟨e, _⟩ | ⟨g, o, cap, hG, hv, _⟩
    · cases e
    · cases hv
      exact (h.g2 _ hG).1
theorem FM.new (hb : Mvs (fun k => k = b) w0 w) (hk : Blk w b #[.slice none 0 0, .slice none 0 0] 37) : FM w0 w b (.slice none 0 0) (.slice none 0 0) (.slice none 0 0) (.slice none 0 0) 0 0 [] [] none none :=
  ⟨hb, hk, Rw.nil _ _, Rw.nil _ _, (fun _ e => by cases e), (fun _ e => by cases e)⟩
theorem FM.len (h : FM w0 w b vn vb v1 v2 N1 N2 ns bs G1 G2) : N1 = ns.length ∧ N2 = bs.length := by
  have h1 := h.rn.1
  have h2 := h.rb.1
  simp at h1 h2
  exact ⟨h1.symm, h2.symm⟩
end
theorem FM.hold {w0 wr w2 : World} {b : Nat} {vn vb v1 v2 v : Value} {N1 N2 : Nat} {ns bs : List (List UInt8)} {G1 G2 : Option Nat} {z : List UInt8} (h : FM w0 wr b vn vb v1 v2 N1 N2 ns bs G1 G2) (ht : Bts wr w2 v z) :
    ∀ W, Mvs (fun k => some k = G1 ∨ some k = G2) w2 W → W.cell? ⟨b, 0, none⟩ = some vn ∧ W.cell? ⟨b, 1, none⟩ = some vb ∧ (convert 46 9 v).run Tryz.prog W = .ok (.string ⟨z.toArray⟩) W := by
  intro W hm
  have hb : Blk W b #[vn, vb] 37 := hm.blk (h.blk.below ht.1 h.blk.lt) (fun e => by
    rcases e with e | e
    · exact (h.g1 b e.symm).2.1 rfl
    · exact (h.g2 b e.symm).2 rfl)
  refine ⟨hb.cell 0, hb.cell 1, BR.convert (ht.br.keep hm (fun A n c e hk => ?_))⟩
  have h1 := ht.above A n c e
  rcases hk with hk | hk
  · have := h.rn.lt _ hk.symm
    omega
  · have := h.rb.lt _ hk.symm
    omega
theorem FM.lts {w0 w : World} {b : Nat} {vn vb v1 v2 : Value} {N1 N2 : Nat} {ns bs : List (List UInt8)} {G1 G2 : Option Nat} (h : FM w0 w b vn vb v1 v2 N1 N2 ns bs G1 G2) : ∀ g, G1 = some g ∨ G2 = some g → g < w.heap.size := by
  rintro g (e | e)
  · exact h.rn.lt _ e
  · exact h.rb.lt _ e
theorem strInfo : (Tryz.prog.info? 9).map (fun i => (i.zero, i.size, i.bytes)) = some (some (.string ByteArray.empty), 1, 16) := by kernel_rfl
theorem src_txt {w : World} {g : Nat} {x : List UInt8} (h : w.cell? ⟨g, 0, none⟩ = some (.string ⟨x.toArray⟩)) (hg : g < w.heap.size) : Src Tryz.prog 1 35 (.slice (some ⟨g, 0, none⟩) 1 1) 1 [encStr x] w := by
  have := AR.src (P := Tryz.prog) (cs := [encStr x]) Tryz.underlying35 ⟨some ⟨g, 0, none⟩, 1, rfl, Nat.le_refl _, by decide, (fun e => by cases e), fun _ => ⟨g, 0, rfl, hg, fun j u hj => by
    match j, hj with
    | 0, hj => cases hj; simpa [encStr] using h
    | j + 1, hj => simp at hj⟩⟩ (by intro u hu; rw [List.mem_singleton.1 hu]; rfl)
  exact this
end Go.Proofs.YthhnlkbjpahjeaaGreatDoor

end
