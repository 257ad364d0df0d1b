/- Package post: a renaming. -/
import Derived.Test.YtdbmaobjikjifaaGreatDoorRU35
set_option linter.unusedVariables false
set_option linter.unusedSimpArgs false
namespace Go.Proofs.YtdbmaobjikjifaaGreatDoorR
open Go.RowKit Go.Shelf
/-- Another row of boxes, in the same place. -/
def PA.withB (p : PA) (lb : List BL) : PA := { p with lb := lb }
theorem withB_cells (p : PA) (lb : List BL) : (p.withB lb).cells = p.cells := rfl
set_option maxRecDepth 20000 in
set_option maxHeartbeats 16000000 in
theorem prename_yes {w0 w : World} {X : Nat} {p : PA} (h : AS w0 w X p) (hl : p.lb.length ≤ 1000) (hbn : ∀ x ∈ p.st.boxes, x.name.length ≤ 1000000) (h2 : p.a.name.length ≤ 1000000) (h3 : p.a.dst.length ≤ 1000000) (hq : qRen p = 0) :
    Calls Tryz.prog 51 #[.pointer (some ⟨X, 0, none⟩)] w fun e w' => e = .returned .nilIface ∧ ∃ bs, FS w0 w' X ⟨bs, p.ls, p.lq.map QL.q, p.nv, p.ni⟩ p.us p.n ∧ bs.Perm (p.st.boxes.map (rnB p)) ∧ ∀ i j (hi : i < bs.length) (hj : j < bs.length), i < j → bxLt bs[j] bs[i] = false := by
  have H1 := hide (pplace_any h p.a.name (by omega))
  obtain ⟨Ab, cb, e1⟩ := h.rb.form
  have HB : Hid (∀ W, Below w.heap.size w W → W.cell? ⟨X, 0, none⟩ = some (.slice Ab p.lb.length cb)) := fun W hW => by rw [← e1]; exact (h.blk.below hW h.blk.lt).cell 0
  have k11 : w.cell? ⟨X, 11, none⟩ = some (.string ⟨p.a.name.toArray⟩) := h.blk.cell 11
  have k12 : w.cell? ⟨X, 12, none⟩ = some (.string ⟨p.a.dst.toArray⟩) := h.blk.cell 12
  have hst := fun (W : World) (hW : AS w0 W X p) => blC_rd hW.rb (fun x hx => msC_rd (hW.rm x hx))
  rw [e1] at hst
  have hbx : p.lb.map BL.b = p.st.boxes := rfl
  rw [hbx] at hst
  have HL : Hid (∀ W, Below w.heap.size w W → Calls Tryz.prog 83 #[.slice Ab p.lb.length cb, .func (.func 84) #[.pointer (some ⟨X, 0, none⟩)] #[]] W fun e w' => e = .returned (.bool (p.st.boxes.any (lngB p))) ∧ Below W.heap.size W w') := fun W hW => by
    have := pcontBox_any (hst W (h.below hW)) (by rw [boxes_len]; omega) (lngB p) 84 #[.pointer (some ⟨X, 0, none⟩)] #[] (enters_of Tryz.func84 (by kernel_rfl) rfl) (fun i hi v W2 hW2 hv => plong_any ((h.below hW).below hW2) hv (hbn _ (List.getElem_mem hi)) h2 h3)
    exact this
  have HH : Hid (∀ W, Below w.heap.size w W → Calls Tryz.prog 83 #[.slice Ab p.lb.length cb, .func (.func 85) #[.pointer (some ⟨X, 0, none⟩)] #[]] W fun e w' => e = .returned (.bool (p.st.boxes.any (hldB p))) ∧ Below W.heap.size W w') := fun W hW => by
    have := pcontBox_any (hst W (h.below hW)) (by rw [boxes_len]; omega) (hldB p) 85 #[.pointer (some ⟨X, 0, none⟩)] #[] (enters_of Tryz.func85 (by kernel_rfl) rfl) (fun i hi v W2 hW2 hv => pheld_any ((h.below hW).below hW2) hv (hbn _ (List.getElem_mem hi)) h2 h3 (by omega) hbn)
    exact this
  have HS0 := hide h
  have HE1 := hide e1
  have HBn := hide hbn
  unfold qRen at hq
  by_cases gn : p.a.name = inboxU ∨ p.a.dst = inboxU
  · rw [if_pos gn] at hq
    cases hq
  rw [if_neg gn] at hq
  have gn' : ¬ p.a.name = [73, 78, 66, 79, 88] := fun h => gn (Or.inl h)
  have gd' : ¬ p.a.dst = [73, 78, 66, 79, 88] := fun h => gn (Or.inr h)
  have gnb : (p.a.name == [73, 78, 66, 79, 88]) = false := beq_eq_false_iff_ne.2 gn'
  have gdb : (p.a.dst == [73, 78, 66, 79, 88]) = false := beq_eq_false_iff_ne.2 gd'
  cases hf : poFind p.st.boxes p.a.user p.a.name with
  | none =>
    rw [hf, if_pos rfl] at hq
    cases hq
  | some i0 =>
    rw [hf, if_neg (by simp)] at hq
    rw [hf] at H1
    change Hid (Calls _ _ _ _ fun e w' => e = .returned (.int .i64 (i0 : Int)) ∧ _) at H1
    have hi0 : (0 : Int) ≤ i0 := by omega
    have hi1 : ¬ (i0 : Int) < 0 := by omega
    have hpos : 0 < p.lb.length := by
      have := (List.findIdx?_eq_some_iff_getElem.1 hf).1
      rw [boxes_len] at this
      omega
    have hT3 : p.st.boxes.any (lngB p) = false := by
      cases e : p.st.boxes.any (lngB p) with
      | false => rfl
      | true => rw [e, if_pos rfl] at hq; cases hq
    rw [hT3, if_neg (by simp)] at hq
    have hT6 : p.st.boxes.any (hldB p) = false := by
      cases e : p.st.boxes.any (hldB p) with
      | false => rfl
      | true => rw [e, if_pos rfl] at hq; cases hq
    rw [hT3] at HL
    rw [hT6] at HH
    clear h hst e1 hbx hq hf gn hT3 hT6 hbn
    obtain ⟨nb, hnb⟩ : ∃ nb, Hid (p.lb.length = nb) := ⟨_, hide rfl⟩
    rw [hnb.out] at HB HL HH HE1 hpos hl
    go_enter Tryz.func51, Tryz.ntmps51
    go_wp2_with (first | (go_at_call 80; refine H1.out.mono ?_; rintro e w1 ⟨rfl, hb1⟩; have c0 := HB.out _ hb1; replace hb1 := hide hb1) | (go_at_call 83; refine (HH.out _ hb12.out).mono ?_; rintro e w3 ⟨rfl, hb3⟩; have hb13 := hide (hb12.out.trans (hb3.mono hb12.out.size)); have c03 := HB.out _ hb13.out; clear hb3) | (go_at_call 83; refine (HL.out _ hb1.out).mono ?_; rintro e w2 ⟨rfl, hb2⟩; have hb12 := hide (hb1.out.trans (hb2.mono hb1.out.size)); have c02 := HB.out _ hb12.out; clear hb2))
    have HS3 := hide (HS0.out.below hb13.out)
    clear c0 c02 c03 HB HL HH H1 hb1 hb12 hb13 k11 k12 gnb gdb gn' gd'
    obtain ⟨W3, HW3⟩ : ∃ W3, Hid (w3 = W3) := ⟨_, hide rfl⟩
    rw [HW3.out] at HS3 ⊢
    clear HW3
    go_loopw [3, 4, 5, 59] (fun _ _ _ v59 wr => ∃ k : Nat, v59 = .int .i64 k ∧ k ≤ nb ∧ Hid (AS w0 wr X (p.withB (rnK p k)))) (fun _ _ _ v59 _ => nb - (intOf v59).toNat)
    case atStart => exact ⟨0, rfl, Nat.zero_le _, by rw [rnK_zero]; exact HS3.out⟩
    case round =>
      obtain ⟨k, rfl, hk, HS⟩ := hrel
      clear HS3
      by_cases hlt : k < nb
      · have hltz : (k : Int) < (nb : Int) := by omega
        have hkl : k < p.lb.length := by rw [hnb.out]; exact hlt
        have hkr : k < (rnK p k).length := by rw [rnK_len p k (by omega)]; exact hkl
        obtain ⟨A', c', ev, _, hat⟩ := rw_at blC_len HS.out.rb
        have ev2 : Value.slice Ab nb cb = .slice A' (rnK p k).length c' := HE1.out.symm.trans ev
        simp only [Value.slice.injEq] at ev2
        obtain ⟨rfl, e2, rfl⟩ := ev2
        have HE2 : Hid ((rnK p k).length = nb) := e2.symm
        clear e2
        obtain ⟨g, o, rfl, hgb, hgl, hcap, hc⟩ := hat k hkr
        have hx : (rnK p k)[k] = p.lb[k] := rnK_at p k hkl
        have hx' : (p.withB (rnK p k)).lb[k]'hkr = p.lb[k] := hx
        have hbd := HBn.out p.lb[k].b (List.mem_map.2 ⟨_, List.getElem_mem hkl, rfl⟩)
        have hmr : RdE 4 MsgAt wr p.lb[k].v p.lb[k].b.msgs := msC_rd (HS.out.rm p.lb[k] (by rw [← hx]; exact List.getElem_mem hkr))
        have HNx := hide (rnK_next p k hkl)
        have k0 := (hc 0 (by omega)).1
        have k1 := (hc 1 (by omega)).1
        have k2 := (hc 2 (by omega)).1
        have k3 := (hc 3 (by omega)).1
        have k4 := (hc 4 (by omega)).1
        rw [hx'] at k0 k1 k2 k3 k4
        obtain ⟨x, hxe⟩ : ∃ x, Hid (p.lb[k] = x) := ⟨_, hide rfl⟩
        rw [hxe.out] at k0 k1 k2 k3 k4 hbd hmr HNx
        have r0 : wr.cell? ⟨g, o + k * 5, none⟩ = some (.int .i64 x.b.user) := k0
        have r1 : wr.cell? ⟨g, o + k * 5 + 1, none⟩ = some (.string ⟨x.b.name.toArray⟩) := k1
        have r2 : wr.cell? ⟨g, o + k * 5 + 2, none⟩ = some (.int .i64 x.b.valid) := k2
        have r3 : wr.cell? ⟨g, o + k * 5 + 3, none⟩ = some (.int .i64 x.b.next) := k3
        have r4 : wr.cell? ⟨g, o + k * 5 + 4, none⟩ = some x.v := k4
        clear k0 k1 k2 k3 k4 hat hc
        obtain ⟨Am, cm, hvx⟩ := hmr.form
        obtain ⟨lm, hlm⟩ : ∃ lm, Hid (x.b.msgs.length = lm) := ⟨_, hide rfl⟩
        rw [hlm.out] at hvx
        rw [hvx] at r4
        have HBV : Hid (BxV wr (.agg #[.int .i64 x.b.user, .string ⟨x.b.name.toArray⟩, .int .i64 x.b.valid, .int .i64 x.b.next, .slice Am lm cm]) x.b) := ⟨_, rfl, by rw [← hvx]; exact hmr⟩
        have AL : Below wr.heap.size wr (wr.alloc (.cells #[.int .i64 x.b.user, .string ⟨x.b.name.toArray⟩, .int .i64 x.b.valid, .int .i64 x.b.next, .slice Am lm cm] 45)) := (Below.refl wr.heap.size wr).alloc (Nat.le_refl _) _
        have HSa := hide (HS.out.below AL)
        have HK := hide (Blk.new wr #[.int .i64 x.b.user, .string ⟨x.b.name.toArray⟩, .int .i64 x.b.valid, .int .i64 x.b.next, .slice Am lm cm] 45)
        have y0 := HK.out.cell 0
        have y1 := HK.out.cell 1
        have y2 := HK.out.cell 2
        have y3 := HK.out.cell 3
        have y4 := HK.out.cell 4
        simp only [List.getElem?_toArray, List.getElem?_cons_zero, List.getElem?_cons_succ] at y0 y1 y2 y3 y4
        have HNw : Hid (Calls Tryz.prog 86 #[.pointer (some ⟨X, 0, none⟩), .agg #[.int .i64 x.b.user, .string ⟨x.b.name.toArray⟩, .int .i64 x.b.valid, .int .i64 x.b.next, .slice Am lm cm]] (wr.alloc (.cells #[.int .i64 x.b.user, .string ⟨x.b.name.toArray⟩, .int .i64 x.b.valid, .int .i64 x.b.next, .slice Am lm cm] 45)) fun e w' => e = .returned (.tuple #[.string ⟨((nwO p x.b).getD []).toArray⟩, .bool (nwO p x.b).isSome]) ∧ Below ((wr.alloc (.cells #[.int .i64 x.b.user, .string ⟨x.b.name.toArray⟩, .int .i64 x.b.valid, .int .i64 x.b.next, .slice Am lm cm] 45))).heap.size (wr.alloc (.cells #[.int .i64 x.b.user, .string ⟨x.b.name.toArray⟩, .int .i64 x.b.valid, .int .i64 x.b.next, .slice Am lm cm] 45)) w') := pnewName_any HSa.out (HBV.out.below AL) hbd h2 h3
        clear HBV AL hmr hbd HK
        cases hno : nwO p x.b with
        | none =>
          rw [hno] at HNw
          change Hid (Calls _ _ _ _ fun e w' => e = .returned (.tuple #[.string ⟨([] : List UInt8).toArray⟩, .bool false]) ∧ _) at HNw
          have HF : Hid (rnK p (k + 1) = rnK p k) := by
            show _ = _
            rw [HNx.out, rnL_none hno, ← hxe.out, ← hx, List.set_getElem_self]
          clear hx hx' hno HNx
          go_wp2_with (go_at_call 86; refine HNw.out.mono ?_; rintro e w4 ⟨rfl, hb4⟩; have HS4 := hide (HSa.out.below hb4); have v0 : w4.cell? ⟨X, 0, none⟩ = some p.vb := HS4.out.blk.cell 0; rw [HE1.out] at v0; clear hb4)
          go_roundw
          case rel => exact ⟨k + 1, by go_num, by omega, by rw [HF.out]; exact HS4.out⟩
          case measure => simp [intOf]; omega
        | some n =>
          rw [hno] at HNw
          change Hid (Calls _ _ _ _ fun e w' => e = .returned (.tuple #[.string ⟨n.toArray⟩, .bool true]) ∧ _) at HNw
          have HXb := hide (rnL_some hno)
          rw [HXb.out] at HNx
          have HGb := hide hgb
          have hxs : (p.withB (rnK p k)).lb[k]'hkr = x := by rw [hx', hxe.out]
          have hxs1 : (rnK p k)[k]'hkr = x := hxs
          clear hx hx' hno hgb
          go_upto_region 14 with (go_at_call 86; refine HNw.out.mono ?_; rintro e w4 ⟨rfl, hb4⟩; have HS4 := hide (HSa.out.below hb4); have v0 : w4.cell? ⟨X, 0, none⟩ = some p.vb := HS4.out.blk.cell 0; rw [HE1.out] at v0; clear hb4)
          obtain ⟨A3, c3, ev3, _, hat3⟩ := rw_at blC_len HS4.out.rb
          have ev4 : Value.slice (some ⟨g, o, none⟩) nb cb = .slice A3 (rnK p k).length c3 := HE1.out.symm.trans ev3
          simp only [Value.slice.injEq] at ev4
          obtain ⟨rfl, _, rfl⟩ := ev4
          obtain ⟨g', o', ea, _, hgl4, _, hc4⟩ := hat3 k hkr
          cases ea
          obtain ⟨z1, f1⟩ := hc4 1 (by omega)
          rw [hxs] at z1
          have z1' : w4.cell? ⟨g, o + k * 5 + 1, none⟩ = some (.string ⟨x.b.name.toArray⟩) := z1
          have HSn := hide (HS4.out.setB (g := g) (o := o) (c := cb) HGb.out (by
            show p.vb = .slice (some ⟨g, o, none⟩) (rnK p k).length cb
            rw [HE2.out]
            exact HE1.out) k 1 hkr (by omega) ({ x with b := { x.b with name := n } } : BL) (.string ⟨n.toArray⟩) (by rw [hxs]; rfl) (by rw [hxs]) (by rw [hxs]) (by rw [hxs]))
          clear hat3 hc4 z1 HSa HS
          go_wp2
          go_roundw
          case rel => exact ⟨k + 1, by go_num, by omega, by rw [HNx.out]; exact HSn.out⟩
          case measure => simp [intOf]; omega
      · obtain rfl : k = nb := by omega
        have hltz : ¬ (k : Int) < (k : Int) := by omega
        rw [← hnb.out, rnK_all] at HS
        obtain ⟨A', c', ev, _, hat⟩ := rw_at blC_len HS.out.rb
        obtain ⟨g, o, rfl, hgb, hgl, hcap, hc⟩ := hat 0 (by show 0 < (p.lb.map (rnL p)).length; rw [List.length_map, hnb.out]; exact hpos)
        have hln : (p.withB (p.lb.map (rnL p))).lb.length = k := by show (p.lb.map (rnL p)).length = k; rw [List.length_map, hnb.out]
        rw [hln] at ev
        have ev2 : p.vb = .slice (some ⟨g, o, none⟩) k c' := ev
        have HG : Hid (p.gb = some g) := hgb
        have hrb := HS.out.rb
        rw [ev, hgb] at hrb
        have HSo := hide (psortBox_any (lb := p.lb.map (rnL p)) (g := g) (o := o) (cap := c') (by
          have e : (p.lb.map (rnL p)).length = k := hln
          rw [e]
          have := hrb
          rw [hln] at this
          exact this) (fun x hx => by obtain ⟨A, c, e⟩ := (HS.out.rm x hx).form; exact ⟨_, _, _, e⟩) (by rw [List.length_map, hnb.out]; omega))
        rw [List.length_map, hnb.out] at HSo
        clear hat hc hrb hgb
        have q0 : wr.cell? ⟨X, 0, none⟩ = some (.slice (some ⟨g, o, none⟩) k c') := by rw [← ev2]; exact HS.out.blk.cell 0
        have hgX : ¬ X = g := fun e => (HS.out.own g (by rw [← HG.out]; simp [PA.blocks, PA.withB])).2 e.symm
        have HV2 := hide ev2
        clear ev ev2
        go_wp2_with (go_at_call 81; refine HSo.out.mono ?_; rintro e w5 ⟨rfl, hmv, lb2, hperm, hsort, hcells⟩; replace hperm := hide hperm; replace hsort := hide hsort; replace hcells := hide hcells; replace hmv := hide hmv)
        go_ret
        have hb5 := hmv.out.blk HS.out.blk hgX
        have hl2 : lb2.length = k := by rw [hperm.out.length_eq, List.length_map, hnb.out]
        have hgw := (HS.out.own g (by rw [← HG.out]; simp [PA.blocks, PA.withB])).1
        have f3 : Below w0.heap.size w0 w5 := HS.out.bel.trans (hmv.out.below (fun j hj e => by omega) HS.out.bel.size)
        have f1 : ∀ w2, Mvs (fun k => k < w0.heap.size) w5 w2 → StR w2 (.agg #[p.vb, p.vs, p.vq, .int .i64 p.nv, .int .i64 p.ni]) ⟨lb2.map BL.b, p.ls, p.lq.map QL.q, p.nv, p.ni⟩ ∧ RdE 1 IntAt w2 p.vu p.us := fun w2 hw2 => HS.out.sorted (lb2 := lb2) (g := g) (o := o) (n := k) (c := c') HG.out HV2.out ((hmv.out.mono (fun j _ e => Or.inl (by rw [e]; exact HG.out.symm))).trans' hw2 (fun j _ e => .inr (.inr e))) hl2 (fun x hx => hperm.out.mem_iff.1 hx) (fun i hi j hj => by
          rw [hw2.cell (a := ⟨g, o + i * 5 + j, none⟩) (Nat.lt_of_lt_of_le hgl hmv.out.size) (by show ¬ g < w0.heap.size; omega)]
          exact hcells.out i hi j hj) p.nv p.ni
        refine ⟨rfl, lb2.map BL.b, ⟨f3, HS.out.hX, hb5.lt, _, _, _, _, hb5.cell 0, hb5.cell 1, hb5.cell 2, hb5.cell 3, hb5.cell 4, hb5.cell 17, hb5.cell 18, f1⟩, ?_, fun i j hi hj hij => ?_⟩
        · have := hperm.out.map BL.b
          rwa [rnL_b] at this
        · rw [List.length_map] at hi hj
          rw [List.getElem_map, List.getElem_map]
          exact hsort.out i j hi hj hij
end Go.Proofs.YtdbmaobjikjifaaGreatDoorR
