/- words of package mime. -/
import Derived.Test.YtegplihhbdmnbaaGreatDoorU26
import Derived.Test.YtegplihhbdmnbaaGreatDoorU27
set_option linter.unusedSimpArgs false
set_option linter.unusedVariables false
namespace Go.Proofs.YtegplihhbdmnbaaGreatDoor
open Go.RowKit Go.Shelf
theorem wrap_big {x : Int} (h0 : 0 ≤ x) (h1 : x ≤ 9223372036854775807) : IntKind.i64.wrap x = x := by
  simp [IntKind.wrap, IntKind.signed, IntKind.bits]
  split <;> omega
/-- A part that can be told. -/
structure OkH (h : PH) : Prop where
  type : h.type.length ≤ 1000000
  sub : h.sub.length ≤ 1000000
  id : h.id.length ≤ 1000000
  desc : h.desc.length ≤ 1000000
  enc : h.enc.length ≤ 1000000
  params : h.params.length ≤ 1000000
  each : ∀ p ∈ h.params, p.name.length ≤ 1000000 ∧ p.value.length ≤ 1000000
  par : (parI h.params).length ≤ 100000000000000
  body : 0 ≤ h.body
  end' : h.body ≤ h.end' ∧ h.end' ≤ 9223372036854775807
  lines : 0 ≤ h.lines ∧ h.lines ≤ 9223372036854775807
/-- A part's cells stand in a block. -/
def PC (D : Nat) (h : PH) (vp : Value) (W : World) : Prop := D < W.heap.size ∧ W.cell? ⟨D, 0, none⟩ = some (.string ⟨h.type.toArray⟩) ∧ W.cell? ⟨D, 1, none⟩ = some (.string ⟨h.sub.toArray⟩) ∧ W.cell? ⟨D, 2, none⟩ = some vp ∧ W.cell? ⟨D, 3, none⟩ = some (.string ⟨h.id.toArray⟩) ∧ W.cell? ⟨D, 4, none⟩ = some (.string ⟨h.desc.toArray⟩) ∧ W.cell? ⟨D, 5, none⟩ = some (.string ⟨h.enc.toArray⟩) ∧ W.cell? ⟨D, 7, none⟩ = some (.int .i64 h.body) ∧ W.cell? ⟨D, 8, none⟩ = some (.int .i64 h.end') ∧ W.cell? ⟨D, 9, none⟩ = some (.int .i64 h.lines)
theorem PC.below {D : Nat} {h : PH} {vp : Value} {W W' : World} (k : PC D h vp W) (hb : Below W.heap.size W W') : PC D h vp W' := by
  obtain ⟨hd, t0, t1, t2, t3, t4, t5, t7, t8, t9⟩ := k
  exact ⟨Nat.lt_of_lt_of_le hd hb.size, (hb.cell (p := ⟨D, 0, none⟩) hd).trans t0, (hb.cell (p := ⟨D, 1, none⟩) hd).trans t1, (hb.cell (p := ⟨D, 2, none⟩) hd).trans t2, (hb.cell (p := ⟨D, 3, none⟩) hd).trans t3, (hb.cell (p := ⟨D, 4, none⟩) hd).trans t4, (hb.cell (p := ⟨D, 5, none⟩) hd).trans t5, (hb.cell (p := ⟨D, 7, none⟩) hd).trans t7, (hb.cell (p := ⟨D, 8, none⟩) hd).trans t8, (hb.cell (p := ⟨D, 9, none⟩) hd).trans t9⟩
theorem PC.new (w : World) (h : PH) (vp vk : Value) : PC w.heap.size h vp (w.alloc (.cells (phA h vp vk) 40)) := by
  have hk := Blk.new w (phA h vp vk) 40
  refine ⟨hk.lt, ?_, ?_, ?_, ?_, ?_, ?_, ?_, ?_, ?_⟩ <;> (rw [hk.cell]; rfl)
theorem PC.of_blk {D : Nat} {h : PH} {vp vk : Value} {w : World} (hk : Blk w D (phA h vp vk) 40) : PC D h vp w := by
  refine ⟨hk.lt, ?_, ?_, ?_, ?_, ?_, ?_, ?_, ?_, ?_⟩ <;> (rw [hk.cell]; rfl)
/-- The words of a part that every part has. -/
def leaf7 (h : PH) : List (List UInt8) := [quoI h.type, quoI h.sub, parI h.params, nilI h.id, nilI h.desc, quoI h.enc, Lib.decDigits (h.end' - h.body).toNat]
theorem new7 (w : World) (xs : List (List UInt8)) (hx : xs.length ≤ 1000) : RowOf strF 1 w.heap.size (w.alloc (.cells (xs.map fun x => Value.string ⟨x.toArray⟩).toArray 9)) (.slice (some ⟨w.heap.size, 0, none⟩) xs.length xs.length) xs := by
  refine ⟨some w.heap.size, ?_, fun g e => by cases e; exact Nat.le_refl _⟩
  rw [flat_str]
  have hk := Blk.new w (xs.map fun x => Value.string ⟨x.toArray⟩).toArray 9
  exact Rw.new (e := 9) _ [] (by rw [List.append_nil]; exact hk) (by simp) (by simp) (Nat.le_refl _) (by simp only [maxLen]; omega)
def WdsOut (h : PH) (w : World) (e : Ending) (w' : World) : Prop := Below w.heap.size w w' ∧ ∃ v, e = .returned v ∧ RowOf strF 1 w.heap.size w' v (leafW h)
set_option maxRecDepth 20000 in
set_option maxHeartbeats 4000000 in
theorem pwords_any (h : PH) (vp vk : Value) (w : World) (ht : TabM w) (ho : OkH h) (hr : ReadOf Pm.cs 2 w vp h.params) :
    Calls Tryz.prog 63 #[.agg (phA h vp vk)] w (WdsOut h w) := by
  have HTab := hide ht
  have hb0 : 0 ≤ h.body := ho.body
  have hb1 : h.body ≤ h.end' := ho.end'.1
  have hb2 : h.end' ≤ 9223372036854775807 := ho.end'.2
  have hl0 : 0 ≤ h.lines := ho.lines.1
  have hl1 : h.lines ≤ 9223372036854775807 := ho.lines.2
  have HPC := hide (PC.new w h vp vk)
  have HO := hide ho
  have HR := hide hr
  obtain ⟨Ap, cp, hvp⟩ : ∃ A c, vp = .slice A h.params.length c := by obtain ⟨A, c, e, _⟩ := hr; exact ⟨A, c, e⟩
  obtain ⟨np, hnp⟩ : ∃ n, h.params.length = n := ⟨_, rfl⟩
  rw [hnp] at hvp
  clear hnp
  subst hvp
  obtain ⟨i0, hi, hz0, hz1, hz2⟩ := info_parts strInfo
  have HL : Hid (leafW h = leaf7 h ++ if h.type = tText then [Lib.decDigits h.lines.toNat] else []) := rfl
  have hAl := hide ((Below.refl w.heap.size w).alloc (Nat.le_refl _) (.cells (phA h (.slice Ap np cp) vk) 40))
  clear ht ho hr
  have HQ1 := hide (fun W (hT : TabM W) => quote_any h.type W hT HO.out.type)
  have HQ2 := hide (fun W (hT : TabM W) => quote_any h.sub W hT HO.out.sub)
  have HQ3 := hide (fun W (hT : TabM W) hR => par_any h.params (.slice Ap np cp) W hT hR HO.out.params HO.out.each HO.out.par)
  have HQ4 := hide (fun W (hT : TabM W) => nil_any h.id W hT HO.out.id)
  have HQ5 := hide (fun W (hT : TabM W) => nil_any h.desc W hT HO.out.desc)
  have HQ6 := hide (fun W (hT : TabM W) => quote_any h.enc W hT HO.out.enc)
  have HQ7 := hide (fun W (hT : TabM W) => itoaM (h.end' - h.body) (by omega) (by omega) W hT)
  have HQ8 := hide (fun W (hT : TabM W) => itoaM h.lines (by omega) (by omega) W hT)
  have HL7 : Hid (leaf7 h = [quoI h.type, quoI h.sub, parI h.params, nilI h.id, nilI h.desc, quoI h.enc, Lib.decDigits (h.end' - h.body).toNat]) := rfl
  generalize leaf7 h = L7 at *
  obtain ⟨q1, e1⟩ : ∃ q, quoI h.type = q := ⟨_, rfl⟩
  obtain ⟨q2, e2⟩ : ∃ q, quoI h.sub = q := ⟨_, rfl⟩
  obtain ⟨q3, e3⟩ : ∃ q, parI h.params = q := ⟨_, rfl⟩
  obtain ⟨q4, e4⟩ : ∃ q, nilI h.id = q := ⟨_, rfl⟩
  obtain ⟨q5, e5⟩ : ∃ q, nilI h.desc = q := ⟨_, rfl⟩
  obtain ⟨q6, e6⟩ : ∃ q, quoI h.enc = q := ⟨_, rfl⟩
  obtain ⟨q7, e7⟩ : ∃ q, Lib.decDigits (h.end' - h.body).toNat = q := ⟨_, rfl⟩
  obtain ⟨q8, e8⟩ : ∃ q, Lib.decDigits h.lines.toNat = q := ⟨_, rfl⟩
  rw [e1] at HQ1 HL7
  rw [e2] at HQ2 HL7
  rw [e3] at HQ3 HL7
  rw [e4] at HQ4 HL7
  rw [e5] at HQ5 HL7
  rw [e6] at HQ6 HL7
  rw [e7] at HQ7 HL7
  rw [e8] at HQ8 HL
  clear e1 e2 e3 e4 e5 e6 e7 e8
  unfold phA at HPC hAl
  go_enter Tryz.func63, Tryz.ntmps63
  unfold phA
  go_wp2_with fail
  have hs0 : w.heap.size < (w.alloc (.cells #[.string ⟨h.type.toArray⟩, .string ⟨h.sub.toArray⟩, .slice Ap np cp, .string ⟨h.id.toArray⟩, .string ⟨h.desc.toArray⟩, .string ⟨h.enc.toArray⟩, .int .i64 h.at', .int .i64 h.body, .int .i64 h.end', .int .i64 h.lines, vk] 40)).heap.size := by rw [World.size_alloc]; omega
  obtain ⟨W1, hW1⟩ : ∃ W1, w.alloc (.cells #[.string ⟨h.type.toArray⟩, .string ⟨h.sub.toArray⟩, .slice Ap np cp, .string ⟨h.id.toArray⟩, .string ⟨h.desc.toArray⟩, .string ⟨h.enc.toArray⟩, .int .i64 h.at', .int .i64 h.body, .int .i64 h.end', .int .i64 h.lines, vk] 40) = W1 := ⟨_, rfl⟩
  rw [hW1] at HPC hAl hs0 ⊢
  clear hW1
  have g6 : IntKind.i64.wrap (h.end' - h.body) = h.end' - h.body := wrap_big (by omega) (by omega)
  refine regionL 25 (PC w.heap.size h (.slice Ap np cp)) (by kernel_rfl) ?_
  have HBd : Hid (Below w.heap.size w W1.drew) := ⟨hAl.out.os, hAl.out.tape, hAl.out.output, hAl.out.size, hAl.out.block⟩
  have HTd : Hid (PC w.heap.size h (.slice Ap np cp) W1.drew) := HPC.out
  have HT0 := HTd.out
  refine takeW (i := 0) (v := (.pointer (some ⟨w.heap.size, 0, none⟩))) rfl (by kernel_rfl) (by kernel_rfl) (by kernel_rfl) rfl (fun _ _ _ h => h) (fun _ => HT0) (Or.inl ⟨by rfl, fun W _ => by go_simp⟩) ?_
  simp only [Act.put, List.getElem_toArray, List.getElem_cons_succ, List.getElem_cons_zero, List.setIfInBounds_toArray, List.set_cons_zero, List.set_cons_succ]
  refine takeL (i := 1) (v := (.string ⟨h.type.toArray⟩)) rfl (by kernel_rfl) (by kernel_rfl) (by kernel_rfl) (by kernel_rfl) (by kernel_rfl) (fun _ _ _ h => h) HT0 (Or.inl ⟨by rfl, fun W hW => by obtain ⟨_, t0, t1, t2, t3, t4, t5, t7, t8, t9⟩ := hW; go_simp⟩) ?_
  simp only [Act.put, List.getElem_toArray, List.getElem_cons_succ, List.getElem_cons_zero, List.setIfInBounds_toArray, List.set_cons_zero, List.set_cons_succ]
  refine takeW (i := 3) (v := (.pointer (some ⟨w.heap.size, 1, none⟩))) rfl (by kernel_rfl) (by kernel_rfl) (by kernel_rfl) rfl (fun _ _ _ h => h) (fun _ => HT0) (Or.inl ⟨by rfl, fun W _ => by go_simp⟩) ?_
  simp only [Act.put, List.getElem_toArray, List.getElem_cons_succ, List.getElem_cons_zero, List.setIfInBounds_toArray, List.set_cons_zero, List.set_cons_succ]
  refine takeL (i := 4) (v := (.string ⟨h.sub.toArray⟩)) rfl (by kernel_rfl) (by kernel_rfl) (by kernel_rfl) (by kernel_rfl) (by kernel_rfl) (fun _ _ _ h => h) HT0 (Or.inl ⟨by rfl, fun W hW => by obtain ⟨_, t0, t1, t2, t3, t4, t5, t7, t8, t9⟩ := hW; go_simp⟩) ?_
  simp only [Act.put, List.getElem_toArray, List.getElem_cons_succ, List.getElem_cons_zero, List.setIfInBounds_toArray, List.set_cons_zero, List.set_cons_succ]
  refine takeW (i := 6) (v := (.pointer (some ⟨w.heap.size, 2, none⟩))) rfl (by kernel_rfl) (by kernel_rfl) (by kernel_rfl) rfl (fun _ _ _ h => h) (fun _ => HT0) (Or.inl ⟨by rfl, fun W _ => by go_simp⟩) ?_
  simp only [Act.put, List.getElem_toArray, List.getElem_cons_succ, List.getElem_cons_zero, List.setIfInBounds_toArray, List.set_cons_zero, List.set_cons_succ]
  refine takeL (i := 7) (v := (.slice Ap np cp)) rfl (by kernel_rfl) (by kernel_rfl) (by kernel_rfl) (by kernel_rfl) (by kernel_rfl) (fun _ _ _ h => h) HT0 (Or.inl ⟨by rfl, fun W hW => by obtain ⟨_, t0, t1, t2, t3, t4, t5, t7, t8, t9⟩ := hW; go_simp⟩) ?_
  simp only [Act.put, List.getElem_toArray, List.getElem_cons_succ, List.getElem_cons_zero, List.setIfInBounds_toArray, List.set_cons_zero, List.set_cons_succ]
  refine takeW (i := 9) (v := (.pointer (some ⟨w.heap.size, 3, none⟩))) rfl (by kernel_rfl) (by kernel_rfl) (by kernel_rfl) rfl (fun _ _ _ h => h) (fun _ => HT0) (Or.inl ⟨by rfl, fun W _ => by go_simp⟩) ?_
  simp only [Act.put, List.getElem_toArray, List.getElem_cons_succ, List.getElem_cons_zero, List.setIfInBounds_toArray, List.set_cons_zero, List.set_cons_succ]
  refine takeL (i := 10) (v := (.string ⟨h.id.toArray⟩)) rfl (by kernel_rfl) (by kernel_rfl) (by kernel_rfl) (by kernel_rfl) (by kernel_rfl) (fun _ _ _ h => h) HT0 (Or.inl ⟨by rfl, fun W hW => by obtain ⟨_, t0, t1, t2, t3, t4, t5, t7, t8, t9⟩ := hW; go_simp⟩) ?_
  simp only [Act.put, List.getElem_toArray, List.getElem_cons_succ, List.getElem_cons_zero, List.setIfInBounds_toArray, List.set_cons_zero, List.set_cons_succ]
  refine takeW (i := 12) (v := (.pointer (some ⟨w.heap.size, 4, none⟩))) rfl (by kernel_rfl) (by kernel_rfl) (by kernel_rfl) rfl (fun _ _ _ h => h) (fun _ => HT0) (Or.inl ⟨by rfl, fun W _ => by go_simp⟩) ?_
  simp only [Act.put, List.getElem_toArray, List.getElem_cons_succ, List.getElem_cons_zero, List.setIfInBounds_toArray, List.set_cons_zero, List.set_cons_succ]
  refine takeL (i := 13) (v := (.string ⟨h.desc.toArray⟩)) rfl (by kernel_rfl) (by kernel_rfl) (by kernel_rfl) (by kernel_rfl) (by kernel_rfl) (fun _ _ _ h => h) HT0 (Or.inl ⟨by rfl, fun W hW => by obtain ⟨_, t0, t1, t2, t3, t4, t5, t7, t8, t9⟩ := hW; go_simp⟩) ?_
  simp only [Act.put, List.getElem_toArray, List.getElem_cons_succ, List.getElem_cons_zero, List.setIfInBounds_toArray, List.set_cons_zero, List.set_cons_succ]
  refine takeW (i := 15) (v := (.pointer (some ⟨w.heap.size, 5, none⟩))) rfl (by kernel_rfl) (by kernel_rfl) (by kernel_rfl) rfl (fun _ _ _ h => h) (fun _ => HT0) (Or.inl ⟨by rfl, fun W _ => by go_simp⟩) ?_
  simp only [Act.put, List.getElem_toArray, List.getElem_cons_succ, List.getElem_cons_zero, List.setIfInBounds_toArray, List.set_cons_zero, List.set_cons_succ]
  refine takeL (i := 16) (v := (.string ⟨h.enc.toArray⟩)) rfl (by kernel_rfl) (by kernel_rfl) (by kernel_rfl) (by kernel_rfl) (by kernel_rfl) (fun _ _ _ h => h) HT0 (Or.inl ⟨by rfl, fun W hW => by obtain ⟨_, t0, t1, t2, t3, t4, t5, t7, t8, t9⟩ := hW; go_simp⟩) ?_
  simp only [Act.put, List.getElem_toArray, List.getElem_cons_succ, List.getElem_cons_zero, List.setIfInBounds_toArray, List.set_cons_zero, List.set_cons_succ]
  refine takeW (i := 18) (v := (.pointer (some ⟨w.heap.size, 8, none⟩))) rfl (by kernel_rfl) (by kernel_rfl) (by kernel_rfl) rfl (fun _ _ _ h => h) (fun _ => HT0) (Or.inl ⟨by rfl, fun W _ => by go_simp⟩) ?_
  simp only [Act.put, List.getElem_toArray, List.getElem_cons_succ, List.getElem_cons_zero, List.setIfInBounds_toArray, List.set_cons_zero, List.set_cons_succ]
  refine takeL (i := 19) (v := (.int .i64 h.end')) rfl (by kernel_rfl) (by kernel_rfl) (by kernel_rfl) (by kernel_rfl) (by kernel_rfl) (fun _ _ _ h => h) HT0 (Or.inl ⟨by rfl, fun W hW => by obtain ⟨_, t0, t1, t2, t3, t4, t5, t7, t8, t9⟩ := hW; go_simp⟩) ?_
  simp only [Act.put, List.getElem_toArray, List.getElem_cons_succ, List.getElem_cons_zero, List.setIfInBounds_toArray, List.set_cons_zero, List.set_cons_succ]
  refine takeW (i := 20) (v := (.pointer (some ⟨w.heap.size, 7, none⟩))) rfl (by kernel_rfl) (by kernel_rfl) (by kernel_rfl) rfl (fun _ _ _ h => h) (fun _ => HT0) (Or.inl ⟨by rfl, fun W _ => by go_simp⟩) ?_
  simp only [Act.put, List.getElem_toArray, List.getElem_cons_succ, List.getElem_cons_zero, List.setIfInBounds_toArray, List.set_cons_zero, List.set_cons_succ]
  refine takeL (i := 21) (v := (.int .i64 h.body)) rfl (by kernel_rfl) (by kernel_rfl) (by kernel_rfl) (by kernel_rfl) (by kernel_rfl) (fun _ _ _ h => h) HT0 (Or.inl ⟨by rfl, fun W hW => by obtain ⟨_, t0, t1, t2, t3, t4, t5, t7, t8, t9⟩ := hW; go_simp⟩) ?_
  simp only [Act.put, List.getElem_toArray, List.getElem_cons_succ, List.getElem_cons_zero, List.setIfInBounds_toArray, List.set_cons_zero, List.set_cons_succ]
  refine takeW (i := 22) (v := (.int .i64 (h.end' - h.body))) rfl (by kernel_rfl) (by kernel_rfl) (by kernel_rfl) rfl (fun _ _ _ h => h) (fun _ => HT0) (Or.inl ⟨by rfl, fun W _ => by go_simp⟩) ?_
  simp only [Act.put, List.getElem_toArray, List.getElem_cons_succ, List.getElem_cons_zero, List.setIfInBounds_toArray, List.set_cons_zero, List.set_cons_succ]
  refine readyL (rs := [2]) (by kernel_rfl) (by simp) ?_
  refine AllL.cons rfl (fun K hK => ?_) AllL.nil
  try simp only [List.getElem_toArray, List.getElem_cons_succ, List.getElem_cons_zero]
  go_simp
  refine (HQ1.out W1.drew (HTab.out.below HBd.out)).mono ?_
  rintro e wa ⟨rfl, hbx⟩
  have HTwa := hide (HTd.out.below hbx)
  have HBwa := hide (HBd.out.trans (hbx.mono HBd.out.size))
  clear hbx
  refine hK.out _ _ (fun _ => HTwa.out) (fun HTn => ?_)
  clear hK K HT0
  have HT0 := HTn (by kernel_rfl)
  clear HTn
  try simp only [Act.put, List.getElem_toArray, List.getElem_cons_succ, List.getElem_cons_zero, List.setIfInBounds_toArray, List.set_cons_zero, List.set_cons_succ]
  refine readyL (rs := [5]) (by kernel_rfl) (by simp) ?_
  refine AllL.cons rfl (fun K hK => ?_) AllL.nil
  try simp only [List.getElem_toArray, List.getElem_cons_succ, List.getElem_cons_zero]
  go_simp
  refine (HQ2.out wa (HTab.out.below HBwa.out)).mono ?_
  rintro e wb ⟨rfl, hbx⟩
  have HTwb := hide (HTwa.out.below hbx)
  have HBwb := hide (HBwa.out.trans (hbx.mono HBwa.out.size))
  clear hbx
  refine hK.out _ _ (fun _ => HTwb.out) (fun HTn => ?_)
  clear hK K HT0
  have HT0 := HTn (by kernel_rfl)
  clear HTn
  try simp only [Act.put, List.getElem_toArray, List.getElem_cons_succ, List.getElem_cons_zero, List.setIfInBounds_toArray, List.set_cons_zero, List.set_cons_succ]
  refine readyL (rs := [8]) (by kernel_rfl) (by simp) ?_
  refine AllL.cons rfl (fun K hK => ?_) AllL.nil
  try simp only [List.getElem_toArray, List.getElem_cons_succ, List.getElem_cons_zero]
  go_simp
  refine (HQ3.out wb (HTab.out.below HBwb.out) (HR.out.below HBwb.out)).mono ?_
  rintro e wc ⟨rfl, hbx⟩
  have HTwc := hide (HTwb.out.below hbx)
  have HBwc := hide (HBwb.out.trans (hbx.mono HBwb.out.size))
  clear hbx
  refine hK.out _ _ (fun _ => HTwc.out) (fun HTn => ?_)
  clear hK K HT0
  have HT0 := HTn (by kernel_rfl)
  clear HTn
  try simp only [Act.put, List.getElem_toArray, List.getElem_cons_succ, List.getElem_cons_zero, List.setIfInBounds_toArray, List.set_cons_zero, List.set_cons_succ]
  refine readyL (rs := [11]) (by kernel_rfl) (by simp) ?_
  refine AllL.cons rfl (fun K hK => ?_) AllL.nil
  try simp only [List.getElem_toArray, List.getElem_cons_succ, List.getElem_cons_zero]
  go_simp
  refine (HQ4.out wc (HTab.out.below HBwc.out)).mono ?_
  rintro e wd ⟨rfl, hbx⟩
  have HTwd := hide (HTwc.out.below hbx)
  have HBwd := hide (HBwc.out.trans (hbx.mono HBwc.out.size))
  clear hbx
  refine hK.out _ _ (fun _ => HTwd.out) (fun HTn => ?_)
  clear hK K HT0
  have HT0 := HTn (by kernel_rfl)
  clear HTn
  try simp only [Act.put, List.getElem_toArray, List.getElem_cons_succ, List.getElem_cons_zero, List.setIfInBounds_toArray, List.set_cons_zero, List.set_cons_succ]
  refine readyL (rs := [14]) (by kernel_rfl) (by simp) ?_
  refine AllL.cons rfl (fun K hK => ?_) AllL.nil
  try simp only [List.getElem_toArray, List.getElem_cons_succ, List.getElem_cons_zero]
  go_simp
  refine (HQ5.out wd (HTab.out.below HBwd.out)).mono ?_
  rintro e we ⟨rfl, hbx⟩
  have HTwe := hide (HTwd.out.below hbx)
  have HBwe := hide (HBwd.out.trans (hbx.mono HBwd.out.size))
  clear hbx
  refine hK.out _ _ (fun _ => HTwe.out) (fun HTn => ?_)
  clear hK K HT0
  have HT0 := HTn (by kernel_rfl)
  clear HTn
  try simp only [Act.put, List.getElem_toArray, List.getElem_cons_succ, List.getElem_cons_zero, List.setIfInBounds_toArray, List.set_cons_zero, List.set_cons_succ]
  refine readyL (rs := [17]) (by kernel_rfl) (by simp) ?_
  refine AllL.cons rfl (fun K hK => ?_) AllL.nil
  try simp only [List.getElem_toArray, List.getElem_cons_succ, List.getElem_cons_zero]
  go_simp
  refine (HQ6.out we (HTab.out.below HBwe.out)).mono ?_
  rintro e wf ⟨rfl, hbx⟩
  have HTwf := hide (HTwe.out.below hbx)
  have HBwf := hide (HBwe.out.trans (hbx.mono HBwe.out.size))
  clear hbx
  refine hK.out _ _ (fun _ => HTwf.out) (fun HTn => ?_)
  clear hK K HT0
  have HT0 := HTn (by kernel_rfl)
  clear HTn
  try simp only [Act.put, List.getElem_toArray, List.getElem_cons_succ, List.getElem_cons_zero, List.setIfInBounds_toArray, List.set_cons_zero, List.set_cons_succ]
  refine readyL (rs := [23]) (by kernel_rfl) (by simp) ?_
  refine AllL.cons rfl (fun K hK => ?_) AllL.nil
  try simp only [List.getElem_toArray, List.getElem_cons_succ, List.getElem_cons_zero]
  go_simp
  refine (HQ7.out wf (HTab.out.below HBwf.out)).mono ?_
  rintro e wg ⟨rfl, hbx⟩
  have HTwg := hide (HTwf.out.below hbx)
  have HBwg := hide (HBwf.out.trans (hbx.mono HBwf.out.size))
  clear hbx
  refine hK.out _ _ (fun _ => HTwg.out) (fun HTn => ?_)
  clear hK K HT0
  have HT0 := HTn (by kernel_rfl)
  clear HTn
  try simp only [Act.put, List.getElem_toArray, List.getElem_cons_succ, List.getElem_cons_zero, List.setIfInBounds_toArray, List.set_cons_zero, List.set_cons_succ]
  refine readyL (rs := [24]) (by kernel_rfl) (by simp) ?_
  refine AllL.cons rfl (fun K hK => ?_) AllL.nil
  try simp only [List.getElem_toArray, List.getElem_cons_succ, List.getElem_cons_zero]
  go_simp
  have hAl2 := (Below.refl wg.heap.size wg).alloc (Nat.le_refl _) (.cells #[.string ⟨q1.toArray⟩, .string ⟨q2.toArray⟩, .string ⟨q3.toArray⟩, .string ⟨q4.toArray⟩, .string ⟨q5.toArray⟩, .string ⟨q6.toArray⟩, .string ⟨q7.toArray⟩] 9)
  have HTwh := hide (HTwg.out.below hAl2)
  have HBwh := hide (HBwg.out.trans (hAl2.mono HBwg.out.size))
  have HRw : Hid (RowOf strF 1 wg.heap.size (wg.alloc (.cells #[.string ⟨q1.toArray⟩, .string ⟨q2.toArray⟩, .string ⟨q3.toArray⟩, .string ⟨q4.toArray⟩, .string ⟨q5.toArray⟩, .string ⟨q6.toArray⟩, .string ⟨q7.toArray⟩] 9)) (.slice (some ⟨wg.heap.size, 0, none⟩) 7 7) L7) := HL7.out ▸ new7 wg [q1, q2, q3, q4, q5, q6, q7] (by simp)
  clear hAl2
  refine hK.out _ _ (fun _ => HTwh.out) (fun HTn => ?_)
  clear hK K HT0
  have HT0 := HTn (by kernel_rfl)
  clear HTn
  try simp only [Act.put, List.getElem_toArray, List.getElem_cons_succ, List.getElem_cons_zero, List.setIfInBounds_toArray, List.set_cons_zero, List.set_cons_succ]
  refine readyL (rs := [25]) (by kernel_rfl) (by simp) ?_
  refine AllL.cons rfl (fun K hK => ?_) AllL.nil
  try simp only [List.getElem_toArray, List.getElem_cons_succ, List.getElem_cons_zero]
  go_simp
  refine hK.out _ _ (vac (by kernel_rfl)) (fun _ => ?_)
  clear hK K HT0
  try simp only [Act.put, List.getElem_toArray, List.getElem_cons_succ, List.getElem_cons_zero, List.setIfInBounds_toArray, List.set_cons_zero, List.set_cons_succ]
  refine doneL (by kernel_rfl) ?_ _
  have hwg := HBwg.out.size
  obtain ⟨W2, hW2⟩ : ∃ W2, wg.alloc (.cells #[.string ⟨q1.toArray⟩, .string ⟨q2.toArray⟩, .string ⟨q3.toArray⟩, .string ⟨q4.toArray⟩, .string ⟨q5.toArray⟩, .string ⟨q6.toArray⟩, .string ⟨q7.toArray⟩] 9) = W2 := ⟨_, rfl⟩
  rw [hW2] at HTwh HBwh HRw ⊢
  clear hW2 HPC hAl
  obtain ⟨_, t0, t1, t2, t3, t4, t5, t7, t8, t9⟩ := HTwh.out
  by_cases hT : h.type = tText
  · rw [if_pos hT] at HL
    rw [hT] at t0
    unfold tText at t0
    have HQ9 := hide (HQ8.out W2 (HTab.out.below HBwh.out))
    have hl7 : L7.length = 7 := by rw [HL7.out]; rfl
    obtain ⟨G, hRw, hG⟩ := HRw.out
    rw [hl7] at hRw
    have HRw2 := hide hRw
    have HG := hide hG
    clear hRw hG hT HRw
    have HL7l := hide hl7
    clear hl7
    clear HQ1 HQ2 HQ3 HQ4 HQ5 HQ6 HQ7 HQ8
    go_wp2_with (first
      | (go_at_call 84; refine HQ9.out.mono ?_; rintro e w3 ⟨rfl, hb3⟩; replace hb3 := hide hb3)
      | (at_builtin; refine wpList_append_rw rfl _ _ 24 24 rfl 9 i0 (.string ⟨#[]⟩) 1 16 Tryz.underlying24 hi hz0 hz1 hz2 rfl rfl (HRw2.out.keep (S := fun _ => False) ((Mvs.of_below hb3.out).alloc _) (fun _ _ c => c)) _ 1 _ rfl (src_one q8 Tryz.underlying24) (by simp only [maxLen]; omega) (by omega) ?_))
    intro v1 w1 G1 hr1 hm1 hg1
    obtain ⟨A1, c1, rfl⟩ := hr1.form
    have hs3 := hb3.out.size
    have hsw := HBwh.out.size
    have HR1 : Hid (RowOf strF 1 w.heap.size w1 (.slice A1 (7 + 1) c1) (L7 ++ [q8])) := RowOf.growN (fun g e => Nat.le_trans hwg (HG.out g e)) (by rw [HL7l.out]; exact hr1) hg1 (by omega)
    have HB1 := hide (below_mvs ((HBwh.out.trans (hb3.out.mono hsw)).alloc (by omega) _) hm1 (fun q hq e => by have := HG.out q e.symm; omega) (Nat.le_refl _))
    clear hr1 hm1 hg1
    go_wp2
    go_ret
    exact ⟨HB1.out, _, rfl, HL.out ▸ HR1.out⟩
  · rw [if_neg hT, List.append_nil] at HL
    have hT' : (h.type == tText) = false := beq_eq_false_iff_ne.2 hT
    unfold tText at hT'
    clear hT
    go_wp2
    go_ret
    exact ⟨HBwh.out, _, rfl, HL.out ▸ HRw.out.mono hwg⟩
end Go.Proofs.YtegplihhbdmnbaaGreatDoor
