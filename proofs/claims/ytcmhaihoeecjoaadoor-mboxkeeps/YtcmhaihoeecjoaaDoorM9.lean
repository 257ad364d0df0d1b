/- Compact of package mbox, with the keeper that MboxKeeps hands over. -/
import Derived.Test.YtcmhaihoeecjoaaDoorM8
namespace Go.Proofs.YtcmhaihoeecjoaaDoor
open Go.RowKit Go.Shelf
/-- Those of the first k that are kept. -/
def keptN {α : Type} (l : List α) (ks : List Bool) : Nat → List α
  | 0 => []
  | k + 1 => keptN l ks k ++ if keepB ks k then (l[k]?).toList else []
theorem keptN_yes {α : Type} {l : List α} {ks : List Bool} {k : Nat} (hk : k < l.length) (h : keepB ks k = true) : keptN l ks (k + 1) = keptN l ks k ++ [l[k]] := by
  rw [keptN, if_pos h, List.getElem?_eq_getElem hk]
  rfl
theorem keptN_no {α : Type} {l : List α} {ks : List Bool} {k : Nat} (h : keepB ks k = false) : keptN l ks (k + 1) = keptN l ks k := by
  rw [keptN, if_neg (by rw [h]; simp), List.append_nil]
theorem keptN_map {α β : Type} (f : α → β) (l : List α) (ks : List Bool) : ∀ k, (keptN l ks k).map f = keptN (l.map f) ks k
  | 0 => rfl
  | k + 1 => by
    rw [keptN, keptN, List.map_append, keptN_map f l ks k, List.getElem?_map]
    congr 1
    split
    · cases l[k]? <;> rfl
    · rfl
theorem keptN_len {α : Type} (l : List α) (ks : List Bool) : ∀ k, (keptN l ks k).length ≤ k
  | 0 => Nat.le_refl _
  | k + 1 => by
    rw [keptN, List.length_append]
    have := keptN_len l ks k
    split
    · cases l[k]? <;> simp <;> omega
    · simp; omega
theorem keptN_mem {α : Type} (l : List α) (ks : List Bool) : ∀ k, ∀ x ∈ keptN l ks k, x ∈ l
  | 0, x, h => by cases h
  | k + 1, x, h => by
    rw [keptN] at h
    rcases List.mem_append.1 h with h | h
    · exact keptN_mem l ks k x h
    · split at h
      · cases hk : l[k]? with
        | none => rw [hk] at h; cases h
        | some y =>
          rw [hk] at h
          obtain rfl := List.mem_singleton.1 h
          exact List.mem_of_getElem? hk
      · cases h
theorem Mvs.thenBelow {S : Nat → Prop} {x y z : World} (h : Mvs S x y) (k : Below x.heap.size y z) : Mvs S x z :=
  ⟨k.os.trans h.os, k.tape.trans h.tape, k.output.trans h.output, Nat.le_trans h.size k.size, fun i hi hb => (k.block i hi).trans (h.block i hi hb)⟩
set_option maxRecDepth 8000 in
set_option maxHeartbeats 1000000 in
theorem compact_any (es : List (List UInt8 × List UInt8)) (a b : Nat) (kv : Value) (ks : List Bool) (w : World) (hee : ∀ e ∈ es, Term e.1 ∧ sepB e.1 = true) (hl : ∀ e ∈ es, e.1.length ≤ 307 ∧ e.2.length ≤ 2000) (hel : es.length ≤ 30) (h : KC w a b 0 kv ks) :
    Calls Tryd.prog 12 #[.string ⟨(rowsT es).toArray⟩, keeperV a b] w fun e w' => e = .returned (.tuple #[.string ⟨(rowsT (keptN es ks es.length)).toArray⟩, .nilIface]) ∧ Mvs (fun k => k = a) w w' ∧ Blk w' a #[.int .i64 (es.length : Nat)] 3 := by
  have hfl := rowsT_bound es hl
  have HS := hide (rows_scan hee)
  have HH := hide (rows_head hee)
  have HI := hide (rows_in hee)
  have HLS : Hid ((spans 0 (rowsG es)).length = es.length) := by
    show _ = _
    rw [spans_len]
    simp [rowsG]
  have HSC := hide (scan_any (rowsT es) w (fun _ => ⟨0, 0, none⟩) (by omega) (fun h => by rw [HS.out] at h; cases h))
  have HB : Hid (∀ k, k ≤ es.length → (rowsT (keptN es ks k)).length ≤ 200000) := by
    intro k hk
    have := rowsT_bound (keptN es ks k) (fun e he => hl e (keptN_mem es ks k e he))
    have := keptN_len es ks k
    omega
  obtain ⟨F, hF⟩ : ∃ F, rowsT es = F := ⟨_, rfl⟩
  obtain ⟨xs, hxs⟩ : ∃ xs, spans 0 (rowsG es) = xs := ⟨_, rfl⟩
  rw [hF] at HS HH HI HSC hfl ⊢
  rw [hxs] at HS HH HI HLS
  have HKC := hide h
  have la := h.asked.lt
  have lb := h.box.lt
  clear hF hxs hee hl h
  go_enter Tryd.func12, Tryd.ntmps12
  go_wp2_with (first
    | (go_at_call 11; refine HSC.out.mono ?_; rintro e w2 ⟨hb2, hm⟩; rw [HS.out] at hm; obtain ⟨v2, rfl, hsp⟩ := hm
       obtain ⟨A2, c2, rfl⟩ : ∃ A2 c2, v2 = .slice A2 xs.length c2 := by
         obtain ⟨G, hr, _⟩ := hsp
         exact hr.form
       rw [HLS.out] at hsp ⊢
       replace hb2 := hide hb2
       replace hsp := hide hsp))
  have hs2 := hb2.out.size
  go_loopw [21] (fun i wr => ∃ k : Nat, k ≤ es.length ∧ i = .int .i64 k ∧ Hid (Mvs (fun k => k = a) w2 wr) ∧ Hid (Blk wr a #[.int .i64 (k : Nat)] 3) ∧ Hid (Lib.IsBuilderF 55 5 w2.heap.size w2.heap.size (Lib.byteCells (rowsT (keptN es ks k))) wr)) (fun i _ => es.length - (intOf i).toNat)
  case atStart =>
    refine ⟨0, Nat.zero_le _, rfl, (Mvs.refl _ _).alloc _, (HKC.out.asked.below hb2.out (by omega)).alloc _, ?_⟩
    exact .inl ⟨Nat.le_refl _, .slice none 0 0, Blk.new _ _ _, World.ownsRowF_nil _ _ _ _, by simp [Value.ownBlock]⟩
  case round =>
    obtain ⟨k, hk, rfl, HM, HA, HBu⟩ := hrel
    have hsz := HM.out.size
    by_cases hlt : k < es.length
    · have hltx : k < xs.length := by rw [HLS.out]; exact hlt
      have hapart : ks ≠ [] → ∀ A n c, kv = .slice (some A) n c → A.block ≠ a := HKC.out.apart
      have hKC : KC wr a b k kv ks := by
        refine ⟨HA.out, HM.out.blk (HKC.out.box.below hb2.out (by omega)) ?_, (HKC.out.row.below hb2.out).keep' HM.out (fun hc => hapart (fun e => hc (by rw [e]; rfl))), hapart⟩
        rintro rfl
        have h1 := HKC.out.asked
        have h2 := HKC.out.box
        unfold Blk at h1 h2
        rw [h1] at h2
        simp at h2
      obtain ⟨g2, o2, cap2, ev2, r1, r2, r3, r4, r5, r6, r7, _⟩ := (hsp.out.keep HM.out (fun k hk => by omega)).read k hltx
      obtain ⟨rfl, rfl⟩ : A2 = some ⟨g2, o2, none⟩ ∧ c2 = cap2 := by simp only [Value.slice.injEq] at ev2; exact ⟨ev2.1, ev2.2.2⟩
      rw [HLS.out] at r1
      obtain ⟨t1, t2, t3⟩ := HI.out _ (List.getElem_mem hltx)
      have hcut : cutH F xs[k] = es[k].1 ++ encL es[k].2 := by
        have h1 := congrArg (fun l => l[k]?) HH.out
        simpa only [List.getElem?_map, List.getElem?_eq_getElem hltx, List.getElem?_eq_getElem hlt, Option.map_some, Option.some.injEq] using h1
      obtain ⟨p, hp⟩ : ∃ p, xs[k] = p := ⟨_, rfl⟩
      rw [hp] at r5 r6 r7 t1 t2 t3 hcut
      have hsl := fun w => slice_str F p.h p.e (by omega) t3 w
      rw [show (F.drop p.h).take (p.e - p.h) = es[k].1 ++ encL es[k].2 from hcut] at hsl
      have hlt' : (k : Int) < es.length := by omega
      have HSo := hide (so_any a b k kv ks (wr.alloc (.cells #[.int .i64 p.h, .int .i64 p.b, .int .i64 p.e] 23)) ⟨hKC.asked.alloc _, hKC.box.alloc _, hKC.row.below ((Below.refl _ _).alloc (Nat.le_refl _) _), hKC.apart⟩ (by omega))
      have hnb := HB.out (k + 1) (by omega)
      have hnb0 := HB.out k (by omega)
      clear ev2 hp hcut t1 t2 t3 hapart
      cases hkb : keepB ks k with
      | false =>
        rw [hkb] at HSo
        have HN := hide (keptN_no (l := es) hkb)
        clear hkb
        go_wp2_with (first
          | (go_at_call 21; refine HSo.out.mono ?_; rintro e w4 ⟨rfl, hm4, ha4⟩; replace hm4 := hide hm4; replace ha4 := hide ha4))
        go_roundw
        case rel =>
          refine ⟨k + 1, by omega, by go_num, ?_, ?_, ?_⟩
          · exact HM.out.trans (((Mvs.refl _ _).alloc _).trans' hm4.out (fun _ _ c => c))
          · exact ha4.out
          · rw [HN.out]
            refine isBuilder_mvs (HBu.out.alloc _) hm4.out (by omega) ?_
            rintro q rfl c fz hq
            have := hKC.asked.alloc (.cells #[.int .i64 p.h, .int .i64 p.b, .int .i64 p.e] 23)
            unfold Blk at this
            rw [this] at hq
            simp at hq
        case measure => simp [intOf]; omega
      | true =>
        rw [hkb] at HSo
        have HN := hide (keptN_yes hlt hkb)
        clear hkb
        have HX : Hid (rowsT (keptN es ks (k + 1)) = rowsT (keptN es ks k) ++ (es[k].1 ++ encL es[k].2)) := by
          show _ = _
          rw [HN.out, rowsT_snoc]
        have hxl : (rowsT (keptN es ks k)).length + (es[k].1 ++ encL es[k].2).length ≤ 200000 := by
          rw [HX.out, List.length_append] at hnb
          exact hnb
        generalize es[k].1 ++ encL es[k].2 = y at *
        go_wp2_with (first
          | (go_at_call 21; refine HSo.out.mono ?_; rintro e w4 ⟨rfl, hm4, ha4⟩
             have hsp4 : Blk w4 wr.heap.size #[.int .i64 p.h, .int .i64 p.b, .int .i64 p.e] 23 := hm4.blk (Blk.new _ _ _) (by omega)
             have hcs := hsp4.cell
             have hlts := hsp4.lt
             have hBu4 : Lib.IsBuilderF 55 5 w2.heap.size w2.heap.size (Lib.byteCells (rowsT (keptN es ks k))) w4 := by
               refine isBuilder_mvs (HBu.out.alloc _) hm4 (by omega) ?_
               rintro q rfl c fz hq
               have := hKC.asked.alloc (.cells #[.int .i64 p.h, .int .i64 p.b, .int .i64 p.e] 23)
               unfold Blk at this
               rw [this] at hq
               simp at hq
             have HW := hide (Tryd.Builder_WriteString_k w2.heap.size w2.heap.size _ ⟨y.toArray⟩ w4 hBu4 (by rw [Lib.byteCells_length, size_lit]; omega) (by omega))
             replace hm4 := hide hm4; replace ha4 := hide ha4; clear hBu4 hsp4)
          | (go_at_call 22; refine HW.out.mono ?_; rintro e w5 ⟨rfl, hbl5, hb5, ho5⟩; replace hbl5 := hide hbl5; replace hb5 := hide hb5; clear ho5))
        go_roundw
        case rel =>
          refine ⟨k + 1, by omega, by go_num, ?_, ?_, ?_⟩
          · exact (HM.out.trans (((Mvs.refl _ _).alloc _).trans' hm4.out (fun _ _ c => c))).thenBelow hb5.out
          · exact (hb5.out.block a (by omega)).trans ha4.out
          · rw [HX.out, ← byteCells_app]
            exact .inr hbl5.out
        case measure => simp [intOf]; omega
    · obtain rfl : k = es.length := by omega
      have HT := hide (Tryd.Builder_String_any_k w2.heap.size w2.heap.size _ wr HBu.out (by omega))
      have hnb := HB.out es.length (Nat.le_refl _)
      go_wp2_with (first
        | (go_at_call 23; refine HT.out.mono ?_; rintro e w4 ⟨rfl, hbl4, hb4, ho4⟩; replace hb4 := hide hb4; clear hbl4 ho4))
      go_ret2
      have hm5 := HM.out.thenBelow hb4.out
      refine ⟨rfl, (Mvs.of_below hb2.out).trans hm5, ?_⟩
      exact (hb4.out.block a (by omega)).trans HA.out
end Go.Proofs.YtcmhaihoeecjoaaDoor
