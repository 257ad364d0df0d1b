/- Parts in memory; withoutKids of package mime. -/
import Derived.Test.YtegplihhbdmnbaaGreatDoorU22
namespace Go.Proofs.YtegplihhbdmnbaaGreatDoor
open Go.RowKit Go.Shelf
/-- A part's eleven cells. -/
def phA (h : PH) (vp vk : Value) : Array Value := #[.string ⟨h.type.toArray⟩, .string ⟨h.sub.toArray⟩, vp, .string ⟨h.id.toArray⟩, .string ⟨h.desc.toArray⟩, .string ⟨h.enc.toArray⟩, .int .i64 h.at', .int .i64 h.body, .int .i64 h.end', .int .i64 h.lines, vk]
theorem dropWhile_le (p : UInt8 → Bool) (l : List UInt8) : (l.dropWhile p).length ≤ l.length := by
  have := congrArg List.length (List.takeWhile_append_dropWhile (p := p) (l := l))
  rw [List.length_append] at this
  omega
theorem trimS_len (l cs : List UInt8) : (Lib.trimS l cs).length ≤ l.length := by
  unfold Lib.trimS Lib.trimLeftS Lib.trimRightS
  have h1 := dropWhile_le (cs.contains ·) (l.reverse.dropWhile (cs.contains ·)).reverse
  have h2 := dropWhile_le (cs.contains ·) l.reverse
  rw [List.length_reverse] at h1 h2
  omega
theorem valB_len (s : List UInt8) : (valB s).length ≤ s.length := by
  unfold valB
  have h1 := trimS_len ((splitS s).map txt).flatten [32, 9]
  have h2 := txts_len (splitS s)
  rw [splitS_flat] at h2
  omega
theorem fd_bd {s : List UInt8} {x : Fd} (h : x ∈ (hd (splitS s) 0).1) : x.name.length ≤ s.length ∧ x.value.length ≤ s.length := by
  have g := good_hd h
  have h1 := g.lo
  have h2 := g.hi
  have h3 := valB_len ((s.drop (x.from' + x.name.length + 1)).take (x.to - (x.from' + x.name.length + 1)))
  rw [g.val, List.length_take, List.length_drop] at h3
  omega
theorem fdsOf_len (s : List UInt8) : (fdsOf s).length ≤ 200 := by
  unfold fdsOf
  split
  · assumption
  · simp
theorem fdsOf_bd (s : List UInt8) : ∀ x ∈ fdsOf s, x.name.length ≤ s.length ∧ x.value.length ≤ s.length := by
  intro x hx
  unfold fdsOf at hx
  split at hx
  · exact fd_bd hx
  · cases hx
theorem typV_none {v : List UInt8} (h : typeO v = none) : typV v = (tText, tPlain, []) := by
  unfold typV
  rw [h]
  rfl
theorem typV_some {v : List UInt8} {x : List UInt8 × List UInt8 × List Pm} (h : typeO v = some x) : typV v = x := by
  unfold typV
  rw [h]
  rfl
theorem typeO_nil : typeO [] = none := rfl
/-- What Get answers of a name. -/
theorem getF (n : List UInt8) (hn : n.length ≤ 100) (v : Value) (fs : List Fd) (w : World) (hv : FA w v (fs.map Fd.fi)) (hl : fs.length ≤ 1000) (hx : ∀ x ∈ fs, x.name.length ≤ 1000000) :
    ∃ ok, Calls Tryz.prog 112 #[v, .string ⟨n.toArray⟩] w (fun e w' => e = .returned (.tuple #[.string ⟨(firstV n fs).toArray⟩, .bool ok]) ∧ Below w.heap.size w w') ∧ (ok = false → firstV n fs = []) := by
  refine ⟨!(valsOf n (fs.map Fd.fi)).isEmpty, get_any n v (fs.map Fd.fi) w hv (by simpa using hl) (by omega) (fun x hx' => by
    obtain ⟨f, hf, rfl⟩ := List.mem_map.1 hx'
    exact hx f hf), fun h => ?_⟩
  have h1 : (valsOf n (fs.map Fd.fi)).isEmpty = true := by simpa using h
  have h2 : valsOf n (fs.map Fd.fi) = [] := by simpa using h1
  unfold firstV
  rw [h2]
  rfl
theorem firstV_len {n : List UInt8} {fs : List Fd} {K : Nat} (hx : ∀ x ∈ fs, x.value.length ≤ K) : (firstV n fs).length ≤ K := by
  unfold firstV valsOf
  cases hh : (((fs.map Fd.fi).filter fun x => sameT x.name n).map FI.value).head? with
  | none => simp
  | some y =>
    obtain ⟨z, hz, rfl⟩ := List.mem_map.1 (List.mem_of_mem_head? hh)
    obtain ⟨f, hf, rfl⟩ := List.mem_map.1 (List.mem_filter.1 hz).1
    exact hx f hf
/-- Fields stand where a step turns other blocks. -/
theorem FA.mvs {S : Nat → Prop} {w w' : World} {v : Value} {xs : List FI} (h : FA w v xs) (hm : Mvs S w w') (hs : xs ≠ [] → ∀ (A : Addr) n c, v = .slice (some A) n c → ¬ S A.block) : FA w' v xs := by
  obtain ⟨A, c, rfl, h⟩ := h
  refine ⟨A, c, rfl, fun i hi => ?_⟩
  obtain ⟨g, o, rfl, hg, c0, c1, c2, c3⟩ := h i hi
  have hS : ¬ S g := hs (by intro e; rw [e] at hi; simp at hi) ⟨g, o, none⟩ _ _ rfl
  exact ⟨g, o, rfl, Nat.lt_of_lt_of_le hg hm.size, (hm.cell (a := ⟨g, _, none⟩) hg hS).trans c0, (hm.cell (a := ⟨g, _, none⟩) hg hS).trans c1, (hm.cell (a := ⟨g, _, none⟩) hg hS).trans c2, (hm.cell (a := ⟨g, _, none⟩) hg hS).trans c3⟩
theorem Fds.off {B : Nat} {w : World} {v : Value} {xs : List Fd} (h : Fds B w v xs) : xs.map Fd.fi ≠ [] → ∀ (A : Addr) n c, v = .slice (some A) n c → B ≤ A.block := by
  intro h0 A n c e
  have hpos : 0 < xs.length := by
    have := List.length_pos_iff.2 h0
    simpa using this
  obtain ⟨g, o, cap, e2, _, _, h1, _⟩ := h.read 0 hpos
  rw [e] at e2
  simp at e2
  rw [e2.1]
  exact h1
theorem FOut.uni {S : List UInt8} {ea : Addr} {w w' : World} {e : Ending} (h : FOut S ea w e w') : Below w.heap.size w w' ∧ ∃ vf er, e = .returned (.tuple #[vf, er]) ∧ FA w' vf ((fdsOf S).map Fd.fi) ∧ ((fdsOf S).map Fd.fi ≠ [] → ∀ (A : Addr) n c, vf = .slice (some A) n c → w.heap.size ≤ A.block) ∧ ∃ A n c, vf = .slice A n c := by
  obtain ⟨hb, (⟨h200, rfl⟩ | ⟨h200, v, rfl, hv⟩)⟩ := h
  · have e0 : fdsOf S = [] := by
      unfold fdsOf
      rw [if_neg (by omega)]
    refine ⟨hb, _, _, rfl, ?_, ?_, _, _, _, rfl⟩
    · rw [e0]
      exact FA.nil0 _
    · rw [e0]
      intro h
      exact absurd rfl h
  · have e0 : fdsOf S = (hd (splitS S) 0).1 := by
      unfold fdsOf
      rw [if_pos h200]
    refine ⟨hb, _, _, rfl, ?_, ?_, ?_⟩
    · rw [e0]
      exact hv.fa
    · rw [e0]
      exact hv.off
    · obtain ⟨A, c, rfl⟩ := hv.form
      exact ⟨_, _, _, rfl⟩
/-- What withoutKids answers. -/
def WKOut (m : List UInt8) (a b : Nat) (w : World) (e : Ending) (w' : World) : Prop := Below w.heap.size w w' ∧ ∃ vp, e = .returned (.agg (phA (baseP m a b) vp (.slice none 0 0))) ∧ RowOf Pm.cs 2 w.heap.size w' vp (baseP m a b).params
theorem wkYes {m : List UInt8} {a b : Nat} {w w' : World} {vp : Value} {T U VI VD VE : List UInt8} {PS : List Pm} {bd ln : Int} (hb : Below w.heap.size w w') (hr : RowOf Pm.cs 2 w.heap.size w' vp PS)
    (ht : (baseP m a b).type = T ∧ (baseP m a b).sub = U ∧ (baseP m a b).params = PS) (hi : (baseP m a b).id = VI ∧ (baseP m a b).desc = VD ∧ (baseP m a b).enc = VE) (hn : (baseP m a b).body = bd ∧ (baseP m a b).lines = ln) :
    WKOut m a b w (.returned (.agg #[.string ⟨T.toArray⟩, .string ⟨U.toArray⟩, vp, .string ⟨VI.toArray⟩, .string ⟨VD.toArray⟩, .string ⟨VE.toArray⟩, .int .i64 (a : Nat), .int .i64 bd, .int .i64 (b : Nat), .int .i64 ln, .slice none 0 0])) w' := by
  obtain ⟨rfl, rfl, rfl⟩ := ht
  obtain ⟨rfl, rfl, rfl⟩ := hi
  obtain ⟨rfl, rfl⟩ := hn
  exact ⟨hb, vp, rfl, hr⟩
set_option linter.unusedSimpArgs false in
set_option linter.unusedVariables false in
set_option maxRecDepth 20000 in
set_option maxHeartbeats 2000000 in
theorem wk_any (m : List UInt8) (a b : Nat) (w : World) (ea ef : Addr) (hE : EF w ea) (hF : EFm w ef) (hab : a ≤ b) (hbm : b ≤ m.length) (hm : m.length ≤ 1000000) :
    Calls Tryz.prog 80 #[.string ⟨m.toArray⟩, .agg #[.int .i64 (a : Nat), .int .i64 (b : Nat)]] w (WKOut m a b w) := by
  have hsm := size_lit m
  have hab' : (a : Int) ≤ b := by omega
  have hbm' : (b : Int) ≤ m.length := by omega
  have e1 : (⟨m.toArray⟩ : ByteArray).extract a b = ⟨(seg m a b).toArray⟩ := ext_mid m a b
  obtain ⟨S, hS⟩ : ∃ S, seg m a b = S := ⟨_, rfl⟩
  have HS := hide hS
  have hSl : S.length = b - a := by rw [← hS]; exact seg_len m a b hbm
  rw [hS] at e1
  clear hS
  have HBo := hide (fun w => body_any S w (by omega))
  have hN := bodyN_le m a b hab hbm
  have HN0 : Hid (bodyN m a b = a + bodyL (splitS S) 0) := by
    show _ = _
    unfold bodyN
    rw [HS.out]
  obtain ⟨y, hy⟩ : ∃ y, bodyL (splitS S) 0 = y := ⟨_, rfl⟩
  rw [hy] at HBo HN0
  have hyS : y ≤ S.length := by have := HN0.out; omega
  have e2 : (⟨S.toArray⟩ : ByteArray).extract y S.length = ⟨(S.drop y).toArray⟩ := ext_drop S y
  have HSeg : Hid (S.drop y = seg m (bodyN m a b) b) := by
    show _ = _
    rw [← HS.out, HN0.out]
    unfold seg
    rw [List.drop_take, List.drop_drop]
    congr 1
    omega
  have HCo := hide (fun w => count_any (S.drop y) w (by rw [List.length_drop]; omega))
  have HPN : Hid ((baseP m a b).body = ((a : Int) + y) ∧ (baseP m a b).lines = (((splitS (S.drop y)).length : Nat) : Int)) := by
    constructor
    · show ((bodyN m a b : Nat) : Int) = _
      rw [HN0.out]
      omega
    · rw [HSeg.out]
      rfl
  have HFi := hide (fun w (h : EF w ea) => fields_any S w ea (fun _ => h) (by omega))
  have HFb : Hid (∀ x ∈ fdsOf S, x.name.length ≤ 1000000 ∧ x.value.length ≤ 1000000) := fun x hx => by
    have := fdsOf_bd S x hx
    omega
  obtain ⟨lns, hlns⟩ : ∃ lns : Int, (((splitS (S.drop y)).length : Nat) : Int) = lns := ⟨_, rfl⟩
  rw [hlns] at HCo HPN
  have hzS := size_lit S
  have hyS' : (y : Int) ≤ S.length := by omega
  have hay : IntKind.i64.wrap ((a : Int) + y) = (a : Int) + y := wrap_nat (by omega) (by omega)
  obtain ⟨R, hR⟩ : ∃ R, S.drop y = R := ⟨_, rfl⟩
  rw [hR] at e2 HCo
  have hSm : S.length ≤ 1000000 := by omega
  clear hSl hN
  have HEr := hide hE
  have HEf := hide hF
  have HZ : Hid (Blk (((w.alloc (.cells #[.int .i64 (a : Nat), .int .i64 (b : Nat)] 98)).alloc (.cells #[.string ⟨#[]⟩, .string ⟨#[]⟩, .slice none 0 0, .string ⟨#[]⟩, .string ⟨#[]⟩, .string ⟨#[]⟩, .int .i64 0, .int .i64 0, .int .i64 0, .int .i64 0, .slice none 0 0] 40))) (w.heap.size + 1) #[.string ⟨#[]⟩, .string ⟨#[]⟩, .slice none 0 0, .string ⟨#[]⟩, .string ⟨#[]⟩, .string ⟨#[]⟩, .int .i64 0, .int .i64 0, .int .i64 0, .int .i64 0, .slice none 0 0] 40) := Blk.new1 w _ _ _
  have HPl : Hid (Blk (((w.alloc (.cells #[.int .i64 (a : Nat), .int .i64 (b : Nat)] 98)).alloc (.cells #[.string ⟨#[]⟩, .string ⟨#[]⟩, .slice none 0 0, .string ⟨#[]⟩, .string ⟨#[]⟩, .string ⟨#[]⟩, .int .i64 0, .int .i64 0, .int .i64 0, .int .i64 0, .slice none 0 0] 40))) w.heap.size #[.int .i64 (a : Nat), .int .i64 (b : Nat)] 98) := (Blk.new w _ _).alloc _
  clear hlns hR hy hE hF
  go_enter Tryz.func80, Tryz.ntmps80
  go_wp2_with (first
    | (go_at_call 109; refine callsRetM (HBo.out _) ?_))
  obtain ⟨W2, hW2⟩ : ∃ W2, ((w.alloc (.cells #[.int .i64 (a : Nat), .int .i64 (b : Nat)] 98)).alloc (.cells #[.string ⟨#[]⟩, .string ⟨#[]⟩, .slice none 0 0, .string ⟨#[]⟩, .string ⟨#[]⟩, .string ⟨#[]⟩, .int .i64 0, .int .i64 0, .int .i64 0, .int .i64 0, .slice none 0 0] 40)) = W2 := ⟨_, rfl⟩
  have hz2 : W2.heap.size = w.heap.size + 1 + 1 := by rw [← hW2]; simp
  have HB2 : Hid (Below w.heap.size w W2) := by rw [← hW2]; exact ((Below.refl _ _).alloc (Nat.le_refl _) _).alloc (by simp) _
  rw [hW2] at HZ HPl ⊢
  clear hW2
  apply split_goalM
  · intro key
    refine regionL 14 (fun W => W.cell? ⟨w.heap.size, 0, none⟩ = some (.int .i64 (a : Nat)) ∧ W.cell? ⟨w.heap.size, 1, none⟩ = some (.int .i64 (b : Nat))) (by kernel_rfl) ?_
    have HT0 : W2.drew.cell? ⟨w.heap.size, 0, none⟩ = some (.int .i64 (a : Nat)) ∧ W2.drew.cell? ⟨w.heap.size, 1, none⟩ = some (.int .i64 (b : Nat)) := ⟨HPl.out.cell 0, HPl.out.cell 1⟩
    have HTA : Hid ((W2.drew.alloc (.cells #[.string ⟨#[]⟩, .string ⟨#[]⟩, .slice none 0 0, .string ⟨#[]⟩, .string ⟨#[]⟩, .string ⟨#[]⟩, .int .i64 0, .int .i64 0, .int .i64 0, .int .i64 0, .slice none 0 0] 40)).cell? ⟨w.heap.size, 0, none⟩ = some (.int .i64 (a : Nat)) ∧ (W2.drew.alloc (.cells #[.string ⟨#[]⟩, .string ⟨#[]⟩, .slice none 0 0, .string ⟨#[]⟩, .string ⟨#[]⟩, .string ⟨#[]⟩, .int .i64 0, .int .i64 0, .int .i64 0, .int .i64 0, .slice none 0 0] 40)).cell? ⟨w.heap.size, 1, none⟩ = some (.int .i64 (b : Nat))) := ⟨(Blk.alloc (HPl.out.drewN 1) _).cell 0, (Blk.alloc (HPl.out.drewN 1) _).cell 1⟩
    refine takeW (i := 0) (v := (.pointer (some ⟨w.heap.size, 0, none⟩))) rfl (by kernel_rfl) (by kernel_rfl) (by kernel_rfl) rfl (fun _ _ _ h => h) (fun _ => HT0) (Or.inl ⟨by rfl, fun W _ => by go_simp⟩) ?_
    simp only [Act.put, List.getElem_toArray, List.getElem_cons_succ, List.getElem_cons_zero, List.setIfInBounds_toArray, List.set_cons_zero, List.set_cons_succ]
    refine takeL (i := 1) (v := (.int .i64 (a : Nat))) rfl (by kernel_rfl) (by kernel_rfl) (by kernel_rfl) (by kernel_rfl) (by kernel_rfl) (fun _ _ _ h => h) HT0 (Or.inl ⟨by rfl, fun W hW => by obtain ⟨t0, t1⟩ := hW; go_simp⟩) ?_
    simp only [Act.put, List.getElem_toArray, List.getElem_cons_succ, List.getElem_cons_zero, List.setIfInBounds_toArray, List.set_cons_zero, List.set_cons_succ]
    refine takeW (i := 2) (v := (.pointer (some ⟨w.heap.size, 0, none⟩))) rfl (by kernel_rfl) (by kernel_rfl) (by kernel_rfl) rfl (fun _ _ _ h => h) (fun _ => HT0) (Or.inl ⟨by rfl, fun W _ => by go_simp⟩) ?_
    simp only [Act.put, List.getElem_toArray, List.getElem_cons_succ, List.getElem_cons_zero, List.setIfInBounds_toArray, List.set_cons_zero, List.set_cons_succ]
    refine takeL (i := 3) (v := (.int .i64 (a : Nat))) rfl (by kernel_rfl) (by kernel_rfl) (by kernel_rfl) (by kernel_rfl) (by kernel_rfl) (fun _ _ _ h => h) HT0 (Or.inl ⟨by rfl, fun W hW => by obtain ⟨t0, t1⟩ := hW; go_simp⟩) ?_
    simp only [Act.put, List.getElem_toArray, List.getElem_cons_succ, List.getElem_cons_zero, List.setIfInBounds_toArray, List.set_cons_zero, List.set_cons_succ]
    refine takeW (i := 4) (v := (.int .i64 (y : Nat))) rfl (by kernel_rfl) (by kernel_rfl) (by kernel_rfl) rfl (fun _ _ _ h => h) (fun _ => HT0) (Or.inl ⟨by rfl, fun W _ => by go_simp⟩) ?_
    simp only [Act.put, List.getElem_toArray, List.getElem_cons_succ, List.getElem_cons_zero, List.setIfInBounds_toArray, List.set_cons_zero, List.set_cons_succ]
    refine takeW (i := 5) (v := (.int .i64 ((a : Int) + y))) rfl (by kernel_rfl) (by kernel_rfl) (by kernel_rfl) rfl (fun _ _ _ h => h) (fun _ => HT0) (Or.inl ⟨by rfl, fun W _ => by go_simp⟩) ?_
    simp only [Act.put, List.getElem_toArray, List.getElem_cons_succ, List.getElem_cons_zero, List.setIfInBounds_toArray, List.set_cons_zero, List.set_cons_succ]
    refine takeW (i := 6) (v := (.pointer (some ⟨w.heap.size, 1, none⟩))) rfl (by kernel_rfl) (by kernel_rfl) (by kernel_rfl) rfl (fun _ _ _ h => h) (fun _ => HT0) (Or.inl ⟨by rfl, fun W _ => by go_simp⟩) ?_
    simp only [Act.put, List.getElem_toArray, List.getElem_cons_succ, List.getElem_cons_zero, List.setIfInBounds_toArray, List.set_cons_zero, List.set_cons_succ]
    refine takeL (i := 7) (v := (.int .i64 (b : Nat))) rfl (by kernel_rfl) (by kernel_rfl) (by kernel_rfl) (by kernel_rfl) (by kernel_rfl) (fun _ _ _ h => h) HT0 (Or.inl ⟨by rfl, fun W hW => by obtain ⟨t0, t1⟩ := hW; go_simp⟩) ?_
    simp only [Act.put, List.getElem_toArray, List.getElem_cons_succ, List.getElem_cons_zero, List.setIfInBounds_toArray, List.set_cons_zero, List.set_cons_succ]
    refine takeW (i := 8) (v := (.string ⟨S.toArray⟩)) rfl (by kernel_rfl) (by kernel_rfl) (by kernel_rfl) rfl (fun _ _ _ h => h) (fun _ => HT0) (Or.inl ⟨by rfl, fun W _ => by go_simp⟩) ?_
    simp only [Act.put, List.getElem_toArray, List.getElem_cons_succ, List.getElem_cons_zero, List.setIfInBounds_toArray, List.set_cons_zero, List.set_cons_succ]
    refine takeW (i := 9) (v := (.int .i64 (y : Nat))) rfl (by kernel_rfl) (by kernel_rfl) (by kernel_rfl) rfl (fun _ _ _ h => h) (fun _ => HT0) (Or.inl ⟨by rfl, fun W _ => by go_simp⟩) ?_
    simp only [Act.put, List.getElem_toArray, List.getElem_cons_succ, List.getElem_cons_zero, List.setIfInBounds_toArray, List.set_cons_zero, List.set_cons_succ]
    refine takeW (i := 10) (v := (.string ⟨R.toArray⟩)) rfl (by kernel_rfl) (by kernel_rfl) (by kernel_rfl) rfl (fun _ _ _ h => h) (fun _ => HT0) (Or.inl ⟨by rfl, fun W _ => by go_simp⟩) ?_
    simp only [Act.put, List.getElem_toArray, List.getElem_cons_succ, List.getElem_cons_zero, List.setIfInBounds_toArray, List.set_cons_zero, List.set_cons_succ]
    refine readyL (rs := [11, 13]) (by kernel_rfl) (by simp) ?_
    refine AllL.cons rfl (fun K hK => ?_) (AllL.cons rfl (fun K hK => ?_) AllL.nil)
    · try simp only [List.getElem_toArray, List.getElem_cons_succ, List.getElem_cons_zero]
      go_simp
      refine callsRetM (HCo.out _) ?_
      refine hK.out _ _ (fun _ => HT0) (fun _ => ?_)
      clear hK K
      try simp only [Act.put, List.getElem_toArray, List.getElem_cons_succ, List.getElem_cons_zero, List.setIfInBounds_toArray, List.set_cons_zero, List.set_cons_succ]
      refine takeW (i := 12) (v := (.agg #[.string ⟨#[116, 101, 120, 116]⟩, .string ⟨#[112, 108, 97, 105, 110]⟩, .slice none 0 0, .string ⟨#[]⟩, .string ⟨#[]⟩, .string ⟨#[]⟩, .int .i64 (a : Nat), .int .i64 ((a : Int) + y), .int .i64 (b : Nat), .int .i64 lns, .slice none 0 0])) rfl (by kernel_rfl) (by kernel_rfl) (by kernel_rfl) rfl (fun _ _ _ h => h) (fun _ => HT0) (Or.inl ⟨by rfl, fun W _ => by go_simp⟩) ?_
      simp only [Act.put, List.getElem_toArray, List.getElem_cons_succ, List.getElem_cons_zero, List.setIfInBounds_toArray, List.set_cons_zero, List.set_cons_succ]
      refine readyL (rs := [13]) (by kernel_rfl) (by simp) ?_
      refine AllL.cons rfl (fun K hK => ?_) AllL.nil
      try simp only [List.getElem_toArray, List.getElem_cons_succ, List.getElem_cons_zero]
      go_simp
      refine hK.out _ _ (fun _ => HTA.out) (fun _ => ?_)
      clear hK K HT0
      have HT0 := HTA.out
      try simp only [Act.put, List.getElem_toArray, List.getElem_cons_succ, List.getElem_cons_zero, List.setIfInBounds_toArray, List.set_cons_zero, List.set_cons_succ]
      refine readyL (rs := [14]) (by kernel_rfl) (by simp) ?_
      refine AllL.cons rfl (fun K hK => ?_) AllL.nil
      try simp only [List.getElem_toArray, List.getElem_cons_succ, List.getElem_cons_zero]
      go_simp
      refine hK.out _ _ (vac (by kernel_rfl)) (fun _ => ?_)
      clear hK K
      try simp only [Act.put, List.getElem_toArray, List.getElem_cons_succ, List.getElem_cons_zero, List.setIfInBounds_toArray, List.set_cons_zero, List.set_cons_succ]
      exact doneL (by kernel_rfl) key _
    · try simp only [List.getElem_toArray, List.getElem_cons_succ, List.getElem_cons_zero]
      go_simp
      refine hK.out _ _ (fun _ => HTA.out) (fun _ => ?_)
      clear hK K HT0
      have HT0 := HTA.out
      try simp only [Act.put, List.getElem_toArray, List.getElem_cons_succ, List.getElem_cons_zero, List.setIfInBounds_toArray, List.set_cons_zero, List.set_cons_succ]
      refine readyL (rs := [11]) (by kernel_rfl) (by simp) ?_
      refine AllL.cons rfl (fun K hK => ?_) AllL.nil
      try simp only [List.getElem_toArray, List.getElem_cons_succ, List.getElem_cons_zero]
      go_simp
      refine callsRetM (HCo.out _) ?_
      refine hK.out _ _ (fun _ => HT0) (fun _ => ?_)
      clear hK K
      try simp only [Act.put, List.getElem_toArray, List.getElem_cons_succ, List.getElem_cons_zero, List.setIfInBounds_toArray, List.set_cons_zero, List.set_cons_succ]
      refine takeW (i := 12) (v := (.agg #[.string ⟨#[116, 101, 120, 116]⟩, .string ⟨#[112, 108, 97, 105, 110]⟩, .slice none 0 0, .string ⟨#[]⟩, .string ⟨#[]⟩, .string ⟨#[]⟩, .int .i64 (a : Nat), .int .i64 ((a : Int) + y), .int .i64 (b : Nat), .int .i64 lns, .slice none 0 0])) rfl (by kernel_rfl) (by kernel_rfl) (by kernel_rfl) rfl (fun _ _ _ h => h) (fun _ => HT0) (Or.inl ⟨by rfl, fun W _ => by go_simp⟩) ?_
      simp only [Act.put, List.getElem_toArray, List.getElem_cons_succ, List.getElem_cons_zero, List.setIfInBounds_toArray, List.set_cons_zero, List.set_cons_succ]
      refine readyL (rs := [14]) (by kernel_rfl) (by simp) ?_
      refine AllL.cons rfl (fun K hK => ?_) AllL.nil
      try simp only [List.getElem_toArray, List.getElem_cons_succ, List.getElem_cons_zero]
      go_simp
      refine hK.out _ _ (vac (by kernel_rfl)) (fun _ => ?_)
      clear hK K
      try simp only [Act.put, List.getElem_toArray, List.getElem_cons_succ, List.getElem_cons_zero, List.setIfInBounds_toArray, List.set_cons_zero, List.set_cons_succ]
      exact doneL (by kernel_rfl) key _
  obtain ⟨W3, hW3⟩ : ∃ W3, (W2.alloc (.cells #[.string ⟨#[116, 101, 120, 116]⟩, .string ⟨#[112, 108, 97, 105, 110]⟩, .slice none 0 0, .string ⟨#[]⟩, .string ⟨#[]⟩, .string ⟨#[]⟩, .int .i64 (a : Nat), .int .i64 ((a : Int) + y), .int .i64 (b : Nat), .int .i64 lns, .slice none 0 0] 40)).drew = W3 := ⟨_, rfl⟩
  have HPB3 : Hid (Blk W3 (w.heap.size + 1 + 1) #[.string ⟨#[116, 101, 120, 116]⟩, .string ⟨#[112, 108, 97, 105, 110]⟩, .slice none 0 0, .string ⟨#[]⟩, .string ⟨#[]⟩, .string ⟨#[]⟩, .int .i64 (a : Nat), .int .i64 ((a : Int) + y), .int .i64 (b : Nat), .int .i64 lns, .slice none 0 0] 40) := by
    rw [← hW3, ← hz2]
    exact (Blk.new W2 _ _).drewN 1
  have HRC3 : Hid (Blk W3 (w.heap.size + 1) #[.string ⟨#[]⟩, .string ⟨#[]⟩, .slice none 0 0, .string ⟨#[]⟩, .string ⟨#[]⟩, .string ⟨#[]⟩, .int .i64 0, .int .i64 0, .int .i64 0, .int .i64 0, .slice none 0 0] 40) := by
    rw [← hW3]
    exact (HZ.out.alloc _).drewN 1
  have HB3 : Hid (Below w.heap.size w W3) := by
    rw [← hW3]
    exact (HB2.out.alloc HB2.out.size _).drew
  rw [hW3]
  generalize ((a : Int) + y) = bdy at *
  clear hW3 HZ HPl HB2 hz2 hay
  have hs3 := HB3.out.size
  have l3 := HPB3.out.lt
  go_wp2_with fail
  refine (HFi.out _ (HEr.out.below HB3.out)).mono ?_
  intro e w4 ho
  obtain ⟨hb4, vf, er, rfl, hfa, hoff, hform⟩ := FOut.uni ho
  have HB4 := hide (HB3.out.trans (hb4.mono hs3))
  have HPB4 := hide (HPB3.out.below hb4 HPB3.out.lt)
  have HRC4 := hide (HRC3.out.below hb4 HRC3.out.lt)
  have HFf := hide hform
  have HFg : Hid ((fdsOf S).map Fd.fi ≠ [] → ∀ (A : Addr) n c, vf = .slice (some A) n c → ¬ (A.block = w.heap.size + 1 + 1)) := fun h0 A n c e => by
    have := hoff h0 A n c e
    omega
  have HFA4 := hide hfa
  obtain ⟨ok, hgT, hno⟩ := getF nCT (by decide) vf (fdsOf S) w4 hfa (by have := fdsOf_len S; omega) (fun x hx => (HFb.out x hx).1)
  have HGT := hide hgT
  have HNo := hide hno
  have hfl : (firstV nCT (fdsOf S)).length ≤ 1000000 := firstV_len (fun x hx => (HFb.out x hx).2)
  have HTV : Hid ((baseP m a b).type = (typV (firstV nCT (fdsOf S))).1 ∧ (baseP m a b).sub = (typV (firstV nCT (fdsOf S))).2.1 ∧ (baseP m a b).params = (typV (firstV nCT (fdsOf S))).2.2) := by
    rw [← HS.out]
    exact ⟨rfl, rfl, rfl⟩
  obtain ⟨CT, hCT⟩ : ∃ CT, firstV nCT (fdsOf S) = CT := ⟨_, rfl⟩
  rw [hCT] at HGT HNo hfl HTV
  unfold nCT at HGT
  clear ho hb4 hfa hoff hform hgT hno hCT HFi HPB3 HRC3 HB3
  go_wp2_with fail
  refine HGT.out.mono ?_
  rintro e w5 ⟨rfl, hb5⟩
  have HB5 := hide (HB4.out.trans (hb5.mono HB4.out.size))
  have HPB5 := hide (HPB4.out.below hb5 HPB4.out.lt)
  have HRC5 := hide (HRC4.out.below hb5 HRC4.out.lt)
  have HFA5 := hide (HFA4.out.below hb5)
  have hs5 : w.heap.size + 3 ≤ w5.heap.size := by have := HPB5.out.lt; omega
  clear hb5
  obtain ⟨Ap, np, cq, hA, hnp, hcq⟩ : ∃ (A : Option Addr) (n c : Nat), A = none ∧ n = 0 ∧ c = 0 := ⟨_, _, _, rfl, rfl, rfl⟩
  cases ok with
  | false =>
    have h0 : CT = [] := HNo.out rfl
    subst h0
    have HTy : Hid ((baseP m a b).type = tText ∧ (baseP m a b).sub = tPlain ∧ (baseP m a b).params = []) := by
      have := HTV.out
      rw [typV_none typeO_nil] at this
      exact this
    obtain ⟨T, hT⟩ : ∃ T, tText = T := ⟨_, rfl⟩
    obtain ⟨U, hU⟩ : ∃ U, tPlain = U := ⟨_, rfl⟩
    obtain ⟨PS, hPS⟩ : ∃ PS : List Pm, [] = PS := ⟨_, rfl⟩
    rw [hT, hU, hPS] at HTy
    have HPB : Hid (Blk w5 (w.heap.size + 1 + 1) #[.string ⟨T.toArray⟩, .string ⟨U.toArray⟩, .slice Ap np cq, .string ⟨#[]⟩, .string ⟨#[]⟩, .string ⟨#[]⟩, .int .i64 (a : Nat), .int .i64 bdy, .int .i64 (b : Nat), .int .i64 lns, .slice none 0 0] 40) := by
      rw [← hT, ← hU, hA, hnp, hcq]
      exact HPB5.out
    have HRow : Hid (RowOf Pm.cs 2 (w.heap.size + 3) w5 (.slice Ap np cq) PS) := by
      rw [← hPS, hA, hnp, hcq]
      exact RowOf.nil _ _ _ _
    have HRC := HRC5
    have HBc := HB5
    have HFA := HFA5
    rename World => wc
    clear hT hU hPS hA hnp hcq HTV HNo

    obtain ⟨okI, hgI, _⟩ := getF nCI (by decide) vf (fdsOf S) wc HFA.out (by have := fdsOf_len S; omega) (fun x hx => (HFb.out x hx).1)
    have HGI := hide hgI
    clear hgI
    have HEn := hide (fun w (hv : FA w vf ((fdsOf S).map Fd.fi)) => encoding_any vf (fdsOf S) w hv (by have := fdsOf_len S; omega) HFb.out)
    have HGD : Hid (∀ w, FA w vf ((fdsOf S).map Fd.fi) → ∃ ok, Calls Tryz.prog 112 #[vf, .string ⟨nCD.toArray⟩] w (fun e w' => e = .returned (.tuple #[.string ⟨(firstV nCD (fdsOf S)).toArray⟩, .bool ok]) ∧ Below w.heap.size w w')) := fun w hv => by
      obtain ⟨ok, h1, _⟩ := getF nCD (by decide) vf (fdsOf S) w hv (by have := fdsOf_len S; omega) (fun x hx => (HFb.out x hx).1)
      exact ⟨ok, h1⟩
    have HPH1 : Hid ((baseP m a b).id = firstV nCI (fdsOf S) ∧ (baseP m a b).desc = firstV nCD (fdsOf S) ∧ (baseP m a b).enc = encV (firstV nCE (fdsOf S))) := by
      rw [← HS.out]
      exact ⟨rfl, rfl, rfl⟩
    generalize firstV nCI (fdsOf S) = VI at *
    generalize firstV nCD (fdsOf S) = VD at *
    generalize encV (firstV nCE (fdsOf S)) = VE at *
    unfold nCI at HGI
    unfold nCD at HGD
    have hszc := HBc.out.size
    go_wp2_with fail
    refine HGI.out.mono ?_
    rintro e wI ⟨rfl, hbI⟩
    have h1 := HPB.out.below hbI HPB.out.lt
    have cI := h1.cell
    have fI := h1.frozen
    have lI := h1.lt
    have HPI := hide (h1.set 3 (.string ⟨VI.toArray⟩))
    have HRI := hide ((HRC.out.below hbI HRC.out.lt).set_other ⟨w.heap.size + 1 + 1, 3, none⟩ (.string ⟨VI.toArray⟩) (by dsimp only; omega))
    have HBI := hide ((HBc.out.trans (hbI.mono hszc)).setCell (p := ⟨w.heap.size + 1 + 1, 3, none⟩) (by dsimp only; omega) (.string ⟨VI.toArray⟩))
    have HMI := hide ((Mvs.of_below (S := fun k => k = w.heap.size + 1 + 1) hbI).setCell ⟨w.heap.size + 1 + 1, 3, none⟩ (.string ⟨VI.toArray⟩) (fun _ => rfl))
    have HFI := hide (FA.mvs HFA.out HMI.out (fun h0 A n c e => HFg.out h0 A n c e))
    clear h1 hbI
    go_wp2_with fail
    obtain ⟨okD, hgD⟩ := HGD.out _ HFI.out
    refine hgD.mono ?_
    rintro e wD ⟨rfl, hbD⟩
    have h2 := HPI.out.below hbD HPI.out.lt
    have cD := h2.cell
    have fD := h2.frozen
    have lD := h2.lt
    have HPD := hide (h2.set 4 (.string ⟨VD.toArray⟩))
    have HRD := hide ((HRI.out.below hbD HRI.out.lt).set_other ⟨w.heap.size + 1 + 1, 4, none⟩ (.string ⟨VD.toArray⟩) (by dsimp only; omega))
    have HBD := hide ((HBI.out.trans (hbD.mono HBI.out.size)).setCell (p := ⟨w.heap.size + 1 + 1, 4, none⟩) (by dsimp only; omega) (.string ⟨VD.toArray⟩))
    have HMD := hide ((Mvs.of_below (S := fun k => k = w.heap.size + 1 + 1) hbD).setCell ⟨w.heap.size + 1 + 1, 4, none⟩ (.string ⟨VD.toArray⟩) (fun _ => rfl))
    have HFD := hide (FA.mvs HFI.out HMD.out (fun h0 A n c e => HFg.out h0 A n c e))
    clear h2 hbD hgD cI fI
    go_wp2_with fail
    refine (HEn.out _ HFD.out).mono ?_
    rintro e wE ⟨rfl, hbE⟩
    have h3 := HPD.out.below hbE HPD.out.lt
    have cE := h3.cell
    have fE := h3.frozen
    have lE := h3.lt
    have HPE := hide (h3.set 5 (.string ⟨VE.toArray⟩))
    have HRE := hide ((HRD.out.below hbE HRD.out.lt).set_other ⟨w.heap.size + 1 + 1, 5, none⟩ (.string ⟨VE.toArray⟩) (by dsimp only; omega))
    have HBE := hide ((HBD.out.trans (hbE.mono HBD.out.size)).setCell (p := ⟨w.heap.size + 1 + 1, 5, none⟩) (by dsimp only; omega) (.string ⟨VE.toArray⟩))
    have HME := hide (((HMI.out.trans HMD.out).trans (Mvs.of_below hbE)).setCell ⟨w.heap.size + 1 + 1, 5, none⟩ (.string ⟨VE.toArray⟩) (fun _ => rfl))
    have dE := HPE.out.cell
    have gE := HRE.out.cell
    have kE := HRE.out.frozen
    have jE := HRE.out.lt
    clear h3 hbE cD fD
    go_wp2
    have h9 := (((((((((((HRE.out.set 0 (.string ⟨T.toArray⟩)).set 1 (.string ⟨U.toArray⟩)).set 2 (.slice Ap np cq)).set 3 (.string ⟨VI.toArray⟩)).set 4 (.string ⟨VD.toArray⟩)).set 5 (.string ⟨VE.toArray⟩)).set 6 (.int .i64 (a : Nat))).set 7 (.int .i64 bdy)).set 8 (.int .i64 (b : Nat))).set 9 (.int .i64 lns)).set 10 (.slice none 0 0)).cell
    refine bodyPost_ret (v := .agg #[.string ⟨T.toArray⟩, .string ⟨U.toArray⟩, .slice Ap np cq, .string ⟨VI.toArray⟩, .string ⟨VD.toArray⟩, .string ⟨VE.toArray⟩, .int .i64 (a : Nat), .int .i64 bdy, .int .i64 (b : Nat), .int .i64 lns, .slice none 0 0]) (by simp [results, Tryz.results80, go_sem, h9]) rfl ?_
    refine wkYes (PS := PS) ?_ ?_ HTy.out HPH1.out HPN.out
    · repeat (refine Below.setCell (p := ⟨w.heap.size + 1, _, none⟩) ?_ (by dsimp only; omega) _)
      exact HBE.out
    · refine (HRow.out.keep (S := fun k => k < w.heap.size + 3) ((HME.out.mono (fun i _ h => by omega)).trans ?_) (fun k hk => by omega)).mono (by omega)
      repeat (refine Mvs.setCell ?_ ⟨w.heap.size + 1, _, none⟩ _ (fun _ => by dsimp only; omega))
      exact Mvs.refl _ _
  | true =>
    have HTp := hide (fun w h => type_any CT w ef h hfl)
    go_wp2_with fail
    refine (HTp.out _ (HEf.out.below HB5.out)).mono ?_
    intro e w6 ho
    obtain ⟨hb6, ho⟩ := ho
    have HB6 := hide (HB5.out.trans (hb6.mono HB5.out.size))
    have HPB6 := hide (HPB5.out.below hb6 HPB5.out.lt)
    have HRC6 := hide (HRC5.out.below hb6 HRC5.out.lt)
    have HFA6 := hide (HFA5.out.below hb6)
    clear hb6
    cases ht : typeO CT with
    | none =>
      rw [ht] at ho
      subst ho
      have HTy : Hid ((baseP m a b).type = tText ∧ (baseP m a b).sub = tPlain ∧ (baseP m a b).params = []) := by
        have := HTV.out
        rw [typV_none ht] at this
        exact this
      obtain ⟨T, hT⟩ : ∃ T, tText = T := ⟨_, rfl⟩
      obtain ⟨U, hU⟩ : ∃ U, tPlain = U := ⟨_, rfl⟩
      obtain ⟨PS, hPS⟩ : ∃ PS : List Pm, [] = PS := ⟨_, rfl⟩
      rw [hT, hU, hPS] at HTy
      have HPB : Hid (Blk w6 (w.heap.size + 1 + 1) #[.string ⟨T.toArray⟩, .string ⟨U.toArray⟩, .slice Ap np cq, .string ⟨#[]⟩, .string ⟨#[]⟩, .string ⟨#[]⟩, .int .i64 (a : Nat), .int .i64 bdy, .int .i64 (b : Nat), .int .i64 lns, .slice none 0 0] 40) := by
        rw [← hT, ← hU, hA, hnp, hcq]
        exact HPB6.out
      have HRow : Hid (RowOf Pm.cs 2 (w.heap.size + 3) w6 (.slice Ap np cq) PS) := by
        rw [← hPS, hA, hnp, hcq]
        exact RowOf.nil _ _ _ _
      have HRC := HRC6
      have HBc := HB6
      have HFA := HFA6
      clear hT hU hPS hA hnp hcq HTV HNo ht
      rename World => wc

      obtain ⟨okI, hgI, _⟩ := getF nCI (by decide) vf (fdsOf S) wc HFA.out (by have := fdsOf_len S; omega) (fun x hx => (HFb.out x hx).1)
      have HGI := hide hgI
      clear hgI
      have HEn := hide (fun w (hv : FA w vf ((fdsOf S).map Fd.fi)) => encoding_any vf (fdsOf S) w hv (by have := fdsOf_len S; omega) HFb.out)
      have HGD : Hid (∀ w, FA w vf ((fdsOf S).map Fd.fi) → ∃ ok, Calls Tryz.prog 112 #[vf, .string ⟨nCD.toArray⟩] w (fun e w' => e = .returned (.tuple #[.string ⟨(firstV nCD (fdsOf S)).toArray⟩, .bool ok]) ∧ Below w.heap.size w w')) := fun w hv => by
        obtain ⟨ok, h1, _⟩ := getF nCD (by decide) vf (fdsOf S) w hv (by have := fdsOf_len S; omega) (fun x hx => (HFb.out x hx).1)
        exact ⟨ok, h1⟩
      have HPH1 : Hid ((baseP m a b).id = firstV nCI (fdsOf S) ∧ (baseP m a b).desc = firstV nCD (fdsOf S) ∧ (baseP m a b).enc = encV (firstV nCE (fdsOf S))) := by
        rw [← HS.out]
        exact ⟨rfl, rfl, rfl⟩
      generalize firstV nCI (fdsOf S) = VI at *
      generalize firstV nCD (fdsOf S) = VD at *
      generalize encV (firstV nCE (fdsOf S)) = VE at *
      unfold nCI at HGI
      unfold nCD at HGD
      have hszc := HBc.out.size
      go_wp2_with fail
      refine HGI.out.mono ?_
      rintro e wI ⟨rfl, hbI⟩
      have h1 := HPB.out.below hbI HPB.out.lt
      have cI := h1.cell
      have fI := h1.frozen
      have lI := h1.lt
      have HPI := hide (h1.set 3 (.string ⟨VI.toArray⟩))
      have HRI := hide ((HRC.out.below hbI HRC.out.lt).set_other ⟨w.heap.size + 1 + 1, 3, none⟩ (.string ⟨VI.toArray⟩) (by dsimp only; omega))
      have HBI := hide ((HBc.out.trans (hbI.mono hszc)).setCell (p := ⟨w.heap.size + 1 + 1, 3, none⟩) (by dsimp only; omega) (.string ⟨VI.toArray⟩))
      have HMI := hide ((Mvs.of_below (S := fun k => k = w.heap.size + 1 + 1) hbI).setCell ⟨w.heap.size + 1 + 1, 3, none⟩ (.string ⟨VI.toArray⟩) (fun _ => rfl))
      have HFI := hide (FA.mvs HFA.out HMI.out (fun h0 A n c e => HFg.out h0 A n c e))
      clear h1 hbI
      go_wp2_with fail
      obtain ⟨okD, hgD⟩ := HGD.out _ HFI.out
      refine hgD.mono ?_
      rintro e wD ⟨rfl, hbD⟩
      have h2 := HPI.out.below hbD HPI.out.lt
      have cD := h2.cell
      have fD := h2.frozen
      have lD := h2.lt
      have HPD := hide (h2.set 4 (.string ⟨VD.toArray⟩))
      have HRD := hide ((HRI.out.below hbD HRI.out.lt).set_other ⟨w.heap.size + 1 + 1, 4, none⟩ (.string ⟨VD.toArray⟩) (by dsimp only; omega))
      have HBD := hide ((HBI.out.trans (hbD.mono HBI.out.size)).setCell (p := ⟨w.heap.size + 1 + 1, 4, none⟩) (by dsimp only; omega) (.string ⟨VD.toArray⟩))
      have HMD := hide ((Mvs.of_below (S := fun k => k = w.heap.size + 1 + 1) hbD).setCell ⟨w.heap.size + 1 + 1, 4, none⟩ (.string ⟨VD.toArray⟩) (fun _ => rfl))
      have HFD := hide (FA.mvs HFI.out HMD.out (fun h0 A n c e => HFg.out h0 A n c e))
      clear h2 hbD hgD cI fI
      go_wp2_with fail
      refine (HEn.out _ HFD.out).mono ?_
      rintro e wE ⟨rfl, hbE⟩
      have h3 := HPD.out.below hbE HPD.out.lt
      have cE := h3.cell
      have fE := h3.frozen
      have lE := h3.lt
      have HPE := hide (h3.set 5 (.string ⟨VE.toArray⟩))
      have HRE := hide ((HRD.out.below hbE HRD.out.lt).set_other ⟨w.heap.size + 1 + 1, 5, none⟩ (.string ⟨VE.toArray⟩) (by dsimp only; omega))
      have HBE := hide ((HBD.out.trans (hbE.mono HBD.out.size)).setCell (p := ⟨w.heap.size + 1 + 1, 5, none⟩) (by dsimp only; omega) (.string ⟨VE.toArray⟩))
      have HME := hide (((HMI.out.trans HMD.out).trans (Mvs.of_below hbE)).setCell ⟨w.heap.size + 1 + 1, 5, none⟩ (.string ⟨VE.toArray⟩) (fun _ => rfl))
      have dE := HPE.out.cell
      have gE := HRE.out.cell
      have kE := HRE.out.frozen
      have jE := HRE.out.lt
      clear h3 hbE cD fD
      go_wp2
      have h9 := (((((((((((HRE.out.set 0 (.string ⟨T.toArray⟩)).set 1 (.string ⟨U.toArray⟩)).set 2 (.slice Ap np cq)).set 3 (.string ⟨VI.toArray⟩)).set 4 (.string ⟨VD.toArray⟩)).set 5 (.string ⟨VE.toArray⟩)).set 6 (.int .i64 (a : Nat))).set 7 (.int .i64 bdy)).set 8 (.int .i64 (b : Nat))).set 9 (.int .i64 lns)).set 10 (.slice none 0 0)).cell
      refine bodyPost_ret (v := .agg #[.string ⟨T.toArray⟩, .string ⟨U.toArray⟩, .slice Ap np cq, .string ⟨VI.toArray⟩, .string ⟨VD.toArray⟩, .string ⟨VE.toArray⟩, .int .i64 (a : Nat), .int .i64 bdy, .int .i64 (b : Nat), .int .i64 lns, .slice none 0 0]) (by simp [results, Tryz.results80, go_sem, h9]) rfl ?_
      refine wkYes (PS := PS) ?_ ?_ HTy.out HPH1.out HPN.out
      · repeat (refine Below.setCell (p := ⟨w.heap.size + 1, _, none⟩) ?_ (by dsimp only; omega) _)
        exact HBE.out
      · refine (HRow.out.keep (S := fun k => k < w.heap.size + 3) ((HME.out.mono (fun i _ h => by omega)).trans ?_) (fun k hk => by omega)).mono (by omega)
        repeat (refine Mvs.setCell ?_ ⟨w.heap.size + 1, _, none⟩ _ (fun _ => by dsimp only; omega))
        exact Mvs.refl _ _
    | some x =>
      obtain ⟨T, U, PS⟩ := x
      rw [ht] at ho
      obtain ⟨vq, rfl, hrow⟩ := ho
      have HTy : Hid ((baseP m a b).type = T ∧ (baseP m a b).sub = U ∧ (baseP m a b).params = PS) := by
        have := HTV.out
        rw [typV_some ht] at this
        exact this
      clear hA hnp hcq Ap np cq
      obtain ⟨Ap, cq, rfl⟩ := hrow.form
      obtain ⟨np, hnp⟩ : ∃ np, PS.length = np := ⟨_, rfl⟩
      rw [hnp] at hrow ⊢
      clear hnp
      have c6 := HPB6.out.cell
      have f6 := HPB6.out.frozen
      have l6 := HPB6.out.lt
      have HPB := hide (((HPB6.out.set 0 (.string ⟨T.toArray⟩)).set 1 (.string ⟨U.toArray⟩)).set 2 (.slice Ap np cq))
      have HRC := hide (((HRC6.out.set_other ⟨w.heap.size + 1 + 1, 0, none⟩ (.string ⟨T.toArray⟩) (by dsimp only; omega)).set_other ⟨w.heap.size + 1 + 1, 1, none⟩ (.string ⟨U.toArray⟩) (by dsimp only; omega)).set_other ⟨w.heap.size + 1 + 1, 2, none⟩ (.slice Ap np cq) (by dsimp only; omega))
      have HBc := hide (((HB6.out.setCell (p := ⟨w.heap.size + 1 + 1, 0, none⟩) (by dsimp only; omega) (.string ⟨T.toArray⟩)).setCell (p := ⟨w.heap.size + 1 + 1, 1, none⟩) (by dsimp only; omega) (.string ⟨U.toArray⟩)).setCell (p := ⟨w.heap.size + 1 + 1, 2, none⟩) (by dsimp only; omega) (.slice Ap np cq))
      have hmm := (((Mvs.refl (fun k => k = w.heap.size + 1 + 1) w6).setCell ⟨w.heap.size + 1 + 1, 0, none⟩ (.string ⟨T.toArray⟩) (fun _ => rfl)).setCell ⟨w.heap.size + 1 + 1, 1, none⟩ (.string ⟨U.toArray⟩) (fun _ => rfl)).setCell ⟨w.heap.size + 1 + 1, 2, none⟩ (.slice Ap np cq) (fun _ => rfl)
      have HFA := hide (FA.mvs HFA6.out hmm (fun h0 A n c e => HFg.out h0 A n c e))
      have HRow := hide ((hrow.mono hs5).keep hmm (fun k hk => by omega))
      clear hrow hmm HTV HNo ht
      go_wp2_with fail
      clear c6 f6 l6
      generalize (((w6.setCell ⟨w.heap.size + 1 + 1, 0, none⟩ (.string ⟨T.toArray⟩)).setCell ⟨w.heap.size + 1 + 1, 1, none⟩ (.string ⟨U.toArray⟩)).setCell ⟨w.heap.size + 1 + 1, 2, none⟩ (.slice Ap np cq)) = wc at *

      obtain ⟨okI, hgI, _⟩ := getF nCI (by decide) vf (fdsOf S) wc HFA.out (by have := fdsOf_len S; omega) (fun x hx => (HFb.out x hx).1)
      have HGI := hide hgI
      clear hgI
      have HEn := hide (fun w (hv : FA w vf ((fdsOf S).map Fd.fi)) => encoding_any vf (fdsOf S) w hv (by have := fdsOf_len S; omega) HFb.out)
      have HGD : Hid (∀ w, FA w vf ((fdsOf S).map Fd.fi) → ∃ ok, Calls Tryz.prog 112 #[vf, .string ⟨nCD.toArray⟩] w (fun e w' => e = .returned (.tuple #[.string ⟨(firstV nCD (fdsOf S)).toArray⟩, .bool ok]) ∧ Below w.heap.size w w')) := fun w hv => by
        obtain ⟨ok, h1, _⟩ := getF nCD (by decide) vf (fdsOf S) w hv (by have := fdsOf_len S; omega) (fun x hx => (HFb.out x hx).1)
        exact ⟨ok, h1⟩
      have HPH1 : Hid ((baseP m a b).id = firstV nCI (fdsOf S) ∧ (baseP m a b).desc = firstV nCD (fdsOf S) ∧ (baseP m a b).enc = encV (firstV nCE (fdsOf S))) := by
        rw [← HS.out]
        exact ⟨rfl, rfl, rfl⟩
      generalize firstV nCI (fdsOf S) = VI at *
      generalize firstV nCD (fdsOf S) = VD at *
      generalize encV (firstV nCE (fdsOf S)) = VE at *
      unfold nCI at HGI
      unfold nCD at HGD
      have hszc := HBc.out.size
      go_wp2_with fail
      refine HGI.out.mono ?_
      rintro e wI ⟨rfl, hbI⟩
      have h1 := HPB.out.below hbI HPB.out.lt
      have cI := h1.cell
      have fI := h1.frozen
      have lI := h1.lt
      have HPI := hide (h1.set 3 (.string ⟨VI.toArray⟩))
      have HRI := hide ((HRC.out.below hbI HRC.out.lt).set_other ⟨w.heap.size + 1 + 1, 3, none⟩ (.string ⟨VI.toArray⟩) (by dsimp only; omega))
      have HBI := hide ((HBc.out.trans (hbI.mono hszc)).setCell (p := ⟨w.heap.size + 1 + 1, 3, none⟩) (by dsimp only; omega) (.string ⟨VI.toArray⟩))
      have HMI := hide ((Mvs.of_below (S := fun k => k = w.heap.size + 1 + 1) hbI).setCell ⟨w.heap.size + 1 + 1, 3, none⟩ (.string ⟨VI.toArray⟩) (fun _ => rfl))
      have HFI := hide (FA.mvs HFA.out HMI.out (fun h0 A n c e => HFg.out h0 A n c e))
      clear h1 hbI
      go_wp2_with fail
      obtain ⟨okD, hgD⟩ := HGD.out _ HFI.out
      refine hgD.mono ?_
      rintro e wD ⟨rfl, hbD⟩
      have h2 := HPI.out.below hbD HPI.out.lt
      have cD := h2.cell
      have fD := h2.frozen
      have lD := h2.lt
      have HPD := hide (h2.set 4 (.string ⟨VD.toArray⟩))
      have HRD := hide ((HRI.out.below hbD HRI.out.lt).set_other ⟨w.heap.size + 1 + 1, 4, none⟩ (.string ⟨VD.toArray⟩) (by dsimp only; omega))
      have HBD := hide ((HBI.out.trans (hbD.mono HBI.out.size)).setCell (p := ⟨w.heap.size + 1 + 1, 4, none⟩) (by dsimp only; omega) (.string ⟨VD.toArray⟩))
      have HMD := hide ((Mvs.of_below (S := fun k => k = w.heap.size + 1 + 1) hbD).setCell ⟨w.heap.size + 1 + 1, 4, none⟩ (.string ⟨VD.toArray⟩) (fun _ => rfl))
      have HFD := hide (FA.mvs HFI.out HMD.out (fun h0 A n c e => HFg.out h0 A n c e))
      clear h2 hbD hgD cI fI
      go_wp2_with fail
      refine (HEn.out _ HFD.out).mono ?_
      rintro e wE ⟨rfl, hbE⟩
      have h3 := HPD.out.below hbE HPD.out.lt
      have cE := h3.cell
      have fE := h3.frozen
      have lE := h3.lt
      have HPE := hide (h3.set 5 (.string ⟨VE.toArray⟩))
      have HRE := hide ((HRD.out.below hbE HRD.out.lt).set_other ⟨w.heap.size + 1 + 1, 5, none⟩ (.string ⟨VE.toArray⟩) (by dsimp only; omega))
      have HBE := hide ((HBD.out.trans (hbE.mono HBD.out.size)).setCell (p := ⟨w.heap.size + 1 + 1, 5, none⟩) (by dsimp only; omega) (.string ⟨VE.toArray⟩))
      have HME := hide (((HMI.out.trans HMD.out).trans (Mvs.of_below hbE)).setCell ⟨w.heap.size + 1 + 1, 5, none⟩ (.string ⟨VE.toArray⟩) (fun _ => rfl))
      have dE := HPE.out.cell
      have gE := HRE.out.cell
      have kE := HRE.out.frozen
      have jE := HRE.out.lt
      clear h3 hbE cD fD
      go_wp2
      have h9 := (((((((((((HRE.out.set 0 (.string ⟨T.toArray⟩)).set 1 (.string ⟨U.toArray⟩)).set 2 (.slice Ap np cq)).set 3 (.string ⟨VI.toArray⟩)).set 4 (.string ⟨VD.toArray⟩)).set 5 (.string ⟨VE.toArray⟩)).set 6 (.int .i64 (a : Nat))).set 7 (.int .i64 bdy)).set 8 (.int .i64 (b : Nat))).set 9 (.int .i64 lns)).set 10 (.slice none 0 0)).cell
      refine bodyPost_ret (v := .agg #[.string ⟨T.toArray⟩, .string ⟨U.toArray⟩, .slice Ap np cq, .string ⟨VI.toArray⟩, .string ⟨VD.toArray⟩, .string ⟨VE.toArray⟩, .int .i64 (a : Nat), .int .i64 bdy, .int .i64 (b : Nat), .int .i64 lns, .slice none 0 0]) (by simp [results, Tryz.results80, go_sem, h9]) rfl ?_
      refine wkYes (PS := PS) ?_ ?_ HTy.out HPH1.out HPN.out
      · repeat (refine Below.setCell (p := ⟨w.heap.size + 1, _, none⟩) ?_ (by dsimp only; omega) _)
        exact HBE.out
      · refine (HRow.out.keep (S := fun k => k < w.heap.size + 3) ((HME.out.mono (fun i _ h => by omega)).trans ?_) (fun k hk => by omega)).mono (by omega)
        repeat (refine Mvs.setCell ?_ ⟨w.heap.size + 1, _, none⟩ _ (fun _ => by dsimp only; omega))
        exact Mvs.refl _ _
end Go.Proofs.YtegplihhbdmnbaaGreatDoor
