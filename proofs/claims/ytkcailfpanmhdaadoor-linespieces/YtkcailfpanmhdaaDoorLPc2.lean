/- The law LinesPieces. -/
import Derived.Test.YtkcailfpanmhdaaDoorLPc1
import Derived.Test.YtkcailfpanmhdaaDoorArgs
import Derived.Test.YtkcailfpanmhdaaDoorLSplit
namespace Go.Proofs.YtkcailfpanmhdaaDoor
open Go.RowKit

section
variable {St : Nat → Prop} {w0 wr : World} {b : Nat} {G Gr : Option Nat} {r p r' : List UInt8} {v : Value} {xs : List Ln}
theorem LS.putted {w1 : World} {G' : Option Nat} {news : List UInt8} (h : LS St w0 wr b G r v xs Gr) (hk : RD w1 b G' (r ++ news) 0) (hm : Mvs (own b G) wr w1) (hg : G' = G ∨ G' = some wr.heap.size) : LS St w0 w1 b G' (r ++ news) v xs Gr := by
  refine ⟨hk, h.row.keep hm (fun g hg => (h.rowSt g hg).2), fun k hk c => ?_, fun k hk => ⟨(h.rowSt k hk).1, fun c => ?_⟩, h.mv.trans' hm (fun k _ c => h.rdSt k c), h.stLt⟩
  · rcases own_put hg hk with hk | rfl
    · exact h.rdSt k hk c
    · have := h.stLt _ c
      have := h.mv.size
      omega
  · rcases own_put hg c with c | rfl
    · exact (h.rowSt k hk).2 c
    · have := h.row.lt _ hk
      omega
theorem LS.none_call (h : LS St w0 wr b G r v xs Gr) (hc : cut10 r = none) : Calls Tryd.prog 12 #[.pointer (some ⟨b, 0, none⟩)] wr fun e w' => e = .returned (.tuple #[.agg #[.string ⟨#[]⟩, .bool false], .bool false]) ∧ ∃ G', LS St w0 w' b G' r v xs Gr := by
  refine (line_none wr b G r h.rd hc).mono ?_
  rintro e w' ⟨rfl, hl⟩
  exact ⟨rfl, h.lined hl⟩
theorem LS.some_call (h : LS St w0 wr b G r v xs Gr) (hc : cut10 r = some (p, r')) : Calls Tryd.prog 12 #[.pointer (some ⟨b, 0, none⟩)] wr fun e w' => e = .returned (.tuple #[.agg #[.string ⟨(lineP p).1.toArray⟩, .bool (lineP p).2], .bool true]) ∧ ∃ G', LS St w0 w' b G' r' v xs Gr := by
  refine (line_some wr b G r p r' h.rd hc).mono ?_
  rw [lineT_eq]
  rintro e w' ⟨rfl, hl⟩
  exact ⟨rfl, h.lined hl⟩
end
theorem intInfo : (Tryd.prog.info? 3).map (fun i => (i.zero, i.size, i.bytes)) = some (some (.int .i64 0), 1, 8) := by kernel_rfl
theorem iv_oneCell (zs : List Int) : ∀ u ∈ zs.map (Value.int .i64), u.oneCell' = true := by
  intro u hu
  obtain ⟨b, _, rfl⟩ := List.mem_map.1 hu
  rfl
theorem below_ls {St : Nat → Prop} {w w0 wr : World} {b : Nat} {G Gr : Option Nat} {r : List UInt8} {v : Value} {xs : List Ln} {B : Nat} (h : LS St w0 wr b G r v xs Gr) (hb : Below B w w0) (hs : ∀ k, k < B → St k) : Below B w wr :=
  ⟨h.mv.os.trans hb.os, h.mv.tape.trans hb.tape, h.mv.output.trans hb.output, Nat.le_trans hb.size h.mv.size, fun k hk => (h.mv.block k (h.stLt k (hs k hk)) (fun c => c (hs k hk))).trans (hb.block k hk)⟩
theorem src_int1 {w : World} (n : Int) {c : Nat} : Src Tryd.prog 1 48 (.slice (some ⟨w.heap.size, 0, none⟩) 1 c) 1 [.int .i64 n] (w.alloc (.cells #[.int .i64 n] 3)) := by
  refine Src.ofSlice _ Tryd.underlying48 ⟨w.heap.size, 0, none⟩ 1 c [.int .i64 n] rfl (fun j u hu => ?_) (iv_oneCell [n])
  rw [Go.WideShapes.add_plain, Nat.zero_add, (Blk.new w _ _).cell, ← hu]
  rw [← List.getElem?_toArray]
theorem end_of (n : Int) (L a : Nat) (h : a ≤ L) (hL : L ≤ 20000) : ∃ e : Nat, wrap64 ((a : Int) + wrap64 ((IntKind.u64.wrap n).tmod ((L : Int) - a + 1))) = e ∧ a ≤ e ∧ e ≤ L := by
  have h0 : IntKind.u64.wrap n = n % 18446744073709551616 := by simp [IntKind.wrap, IntKind.signed, IntKind.bits]
  rw [h0]
  have h1 : 0 ≤ n % 18446744073709551616 := Int.emod_nonneg _ (by decide)
  rw [Int.tmod_eq_emod_of_nonneg h1]
  have h2 : 0 ≤ n % 18446744073709551616 % ((L : Int) - a + 1) := Int.emod_nonneg _ (by omega)
  have h3 : n % 18446744073709551616 % ((L : Int) - a + 1) < (L : Int) - a + 1 := Int.emod_lt_of_pos _ (by omega)
  generalize n % 18446744073709551616 % ((L : Int) - a + 1) = q at h2 h3
  refine ⟨a + q.toNat, ?_, by omega, by omega⟩
  unfold wrap64
  omega
theorem take_mid (bs : List UInt8) (a e : Nat) (h : a ≤ e) : bs.take a ++ (bs.drop a).take (e - a) = bs.take e := by
  have h2 : e = a + (e - a) := by omega
  conv => rhs; rw [h2, List.take_add]
def lenOf : Value → Nat | .slice _ n _ => n | _ => 0
/-- A stretch of the bytes that came in. -/
theorem mid_src {w : World} {A : Option Addr} {bs : List UInt8} {cap i k : Nat} (h : AR w (.slice A bs.length cap) (bs.map bv)) (hik : i ≤ k) (hk : k ≤ bs.length) :
    (cap = i → Src Tryd.prog 1 27 (.slice A (k - i) 0) ((bs.drop i).take (k - i)).length (((bs.drop i).take (k - i)).map bv) w) ∧
    (¬ cap = i → Src Tryd.prog 1 27 (.slice (Option.map (fun x => x.add i) A) (k - i) (cap - i)) ((bs.drop i).take (k - i)).length (((bs.drop i).take (k - i)).map bv) w) := by
  have hlen : ((bs.drop i).take (k - i)).length = k - i := by simp; omega
  have hcap : bs.length ≤ cap ∧ (A = none → cap = 0) := by
    obtain ⟨A', c', hv, h1, h2, h3, _⟩ := h
    simp only [Value.slice.injEq] at hv
    obtain ⟨rfl, _, rfl⟩ := hv
    exact ⟨by simpa using h1, h3⟩
  rw [hlen, List.map_take, List.map_drop]
  cases A with
  | none =>
    have h0 := hcap.2 rfl
    have : k - i = 0 := by omega
    rw [this, List.take_zero]
    exact ⟨fun _ => Src.ofNil w Tryd.underlying27 0, fun _ => Src.ofNil w Tryd.underlying27 _⟩
  | some a =>
    refine ⟨fun hc => ?_, fun hc => ?_⟩
    · have := AR.mid (P := Tryd.prog) Tryd.underlying27 h (bv_oneCell bs) hik (by simpa using hk) a (fun h => by omega)
      rw [hc, Nat.sub_self] at this
      exact this
    · exact AR.mid (P := Tryd.prog) Tryd.underlying27 h (bv_oneCell bs) hik (by simpa using hk) (a.add i) (fun _ => rfl)
/-- Where a row of lines lies that isn't empty. -/
theorem Rw.lines {w : World} {A : Option Addr} {c : Nat} {xs : List Ln} {G : Option Nat} (h : Rw w 2 (.slice A xs.length c) xs.length (lnCs xs) G) (h0 : xs ≠ []) :
    ∃ g o, A = some ⟨g, o, none⟩ ∧ g < w.heap.size ∧ xs.length ≤ c ∧ ∀ i (hi : i < xs.length), w.cell? ⟨g, o + i * 2, none⟩ = some (.string ⟨(xs[i]).1.toArray⟩) ∧ w.cell? ⟨g, o + i * 2 + 1, none⟩ = some (.bool (xs[i]).2) := by
  rcases h.2 with ⟨_, hl, _⟩ | ⟨g, o, cap, rfl, hv, h1, h2, h3, h4, h5⟩
  · exact absurd (List.length_eq_zero_iff.1 hl) h0
  · cases hv
    exact ⟨g, o, rfl, h3, h1, fun i hi => ⟨h4 _ _ (lnCs_at0 xs i hi), by rw [Nat.add_assoc]; exact h4 _ _ (lnCs_at1 xs i hi)⟩⟩
/-- A new row of lines without a line. -/
theorem row_none (w : World) (o : Obj) : Rw ((w.alloc (.cells #[] 36)).alloc o) 2 (.slice (some ⟨w.heap.size, 0, none⟩) 0 0) 0 (lnCs []) (some w.heap.size) :=
  Rw.new (e := 36) [] [] (Blk.alloc (Blk.new _ _ _) _) rfl rfl (Nat.le_refl _) (Nat.zero_le _)
theorem row_none1 (w : World) (o : Obj) : Rw ((w.alloc o).alloc (.cells #[] 36)) 2 (.slice (some ⟨w.heap.size + 1, 0, none⟩) 0 0) 0 (lnCs []) (some (w.heap.size + 1)) :=
  Rw.new (e := 36) [] [] (Blk.new1 _ _ _ _) rfl rfl (Nat.le_refl _) (Nat.zero_le _)

set_option maxRecDepth 20000 in
set_option maxHeartbeats 8000000 in
theorem pieces_walk (bs : List UInt8) (zs : List Int) (v1 v2 : Value) (w : World) (h1 : AR w v1 (bs.map bv)) (h2 : AR w v2 (zs.map (Value.int .i64))) :
    Calls Tryd.prog 4 #[v1, v2] w fun e w' => e = .returned (.bool true) ∧ Below w.heap.size w w' := by
  have hA1 := h1
  have hA2 := h2
  obtain ⟨A1, c1, rfl, hl1, hm1, hn1, hr1⟩ := h1
  obtain ⟨A2, c2, rfl, hl2, hm2, hn2, hr2⟩ := h2
  clear hr1 hr2
  simp only [List.length_map] at *
  replace hA1 := hide hA1
  replace hA2 := hide hA2
  by_cases hb : bs.length ≤ 20000 ∧ zs.length ≤ 200
  · obtain ⟨hb1, hb2⟩ := hb
    have hb1' : ¬ (20000 : Int) < bs.length := by omega
    have hb2' : ¬ (200 : Int) < zs.length := by omega
    go_enter Tryd.func4, Tryd.ntmps4
    go_wp2_with (go_at_call 7; refine (alive_yes _).mono ?_; rintro e w1 ⟨rfl, hbw1⟩; replace hbw1 := hide hbw1)
    refine (new_any _).mono ?_
    rintro e w2 ⟨rfl, hbw2, hk2⟩
    replace hbw2 := hide hbw2
    replace hk2 := hide hk2
    go_wp2_with fail
    refine (new_any _).mono ?_
    rintro e w3 ⟨rfl, hbw3, hk3⟩
    replace hbw3 := hide hbw3
    replace hk3 := hide hk3
    go_wp2_with fail
    have hs3 := hide ((hA1.out.below (w' := w3) ((hbw1.out.trans (hbw2.out.mono hbw1.out.size)).trans (hbw3.out.mono (Nat.le_trans hbw1.out.size hbw2.out.size)))).src Tryd.underlying27 (bv_oneCell bs))
    have hs3' : Hid (Src Tryd.prog 1 27 (.slice A1 bs.length c1) bs.length (bs.map bv) w3) := by
      have := hs3.out
      rw [List.length_map] at this
      exact this
    refine (put_any _ _ _ _ _ (hk2.out.keep (S := fun _ => False) (Mvs.of_below hbw3.out) (fun _ _ c => c)) _ bs hs3'.out (by simp; omega)).mono ?_
    rintro e w4 ⟨rfl, G4, hk4, hm4, hg4⟩
    have hlx : w1.heap.size < w2.heap.size := hk2.out.lt _ (.inl rfl)
    have hly : w2.heap.size < w3.heap.size := hk3.out.lt _ (.inl rfl)
    have hy4 := hide (hk3.out.keep hm4 (by
      rintro k (rfl | hk) (e | e)
      · omega
      · cases e
      · cases hk
      · cases e))
    have hbw4 := hide (below_mvs ((hbw1.out.trans (hbw2.out.mono hbw1.out.size)).trans (hbw3.out.mono (Nat.le_trans hbw1.out.size hbw2.out.size))) hm4 (by
      have := hbw1.out.size
      rintro k hk (e | e)
      · omega
      · cases e) (Nat.le_refl _))
    have hsz4 := hide hm4.size
    replace hk4 := hide hk4
    replace hg4 := hide hg4
    clear hs3 hs3' hm4 hk2 hk3 hbw3
    go_wp2_with fail
    obtain ⟨St, hSt⟩ : ∃ St : Nat → Prop, Hid (∀ k, St k ↔ (k < w.heap.size ∨ k = w2.heap.size ∨ k = w4.heap.size + 1)) := ⟨_, fun _ => Iff.rfl⟩
    have hLS : Hid (LS St ((w4.alloc (.cells #[] 36)).alloc (.cells #[] 36)) ((w4.alloc (.cells #[] 36)).alloc (.cells #[] 36)) w1.heap.size G4 bs (.slice (some ⟨w4.heap.size, 0, none⟩) 0 0) [] (some w4.heap.size)) := by
      have e1 := hbw1.out.size
      have e2 := hbw2.out.size
      have e4 := hsz4.out
      refine ⟨hk4.out.keep (S := fun _ => False) (((Mvs.refl _ _).alloc _).alloc _) (fun _ _ c => c), row_none _ _, fun k hk c => ?_, fun k hk => ⟨fun c => ?_, fun c => ?_⟩, Mvs.refl _ _, fun k c => ?_⟩
      · have hlt := hk4.out.lt k hk
        rcases (hSt.out k).1 c with c | c | c
        · rcases own_put hg4.out hk with (rfl | hk) | rfl
          · omega
          · cases hk
          · omega
        · rcases own_put hg4.out hk with (rfl | hk) | rfl
          · omega
          · cases hk
          · omega
        · omega
      · cases hk
        rcases (hSt.out _).1 c with c | c | c <;> omega
      · cases hk
        have := hk4.out.lt _ c
        omega
      · simp
        rcases (hSt.out k).1 c with c | c | c <;> omega
    have hY5 := hide (hy4.out.keep (S := fun _ => False) (((Mvs.refl _ _).alloc (.cells #[] 36)).alloc (.cells #[] 36)) (fun _ _ c => c))
    have hC5 := hide (row_none1 w4 (.cells #[] 36))
    have hB5 := hide ((hbw4.out.alloc hbw4.out.size (.cells #[] 36)).alloc (by have := hbw4.out.size; simp; omega) (.cells #[] 36))
    generalize hW5 : (w4.alloc (.cells #[] 36)).alloc (.cells #[] 36) = w5 at hLS hY5 hC5 hB5 ⊢
    clear hW5 hy4 hbw4 hk4 hg4 hbw2
    obtain ⟨i0, hi, hz0, hz1, hz2⟩ := info_parts lnInfo
    go_loopw [7, 38] (fun v c wr => ∃ (i : Nat) (xs : List Ln) (r : List UInt8) (G Gr : Option Nat), c = .int .i64 i ∧ i ≤ bs.length + 1 ∧ Hid (LS St w5 wr w1.heap.size G r v xs Gr) ∧ Hid (Told bs xs r) ∧ Hid (cut10 r = none ∨ xs.length = i)) (fun _ c _ => bs.length + 1 - (intOf c).toNat)
    case atStart => exact ⟨0, [], bs, _, _, rfl, by omega, hLS, .nil _, .inr rfl⟩
    case round =>
      obtain ⟨i, xs, r, G, Gr, rfl, hib, HL, HT, HC⟩ := hrel
      obtain ⟨Ar, cr, rfl⟩ := HL.out.row.form
      have hlen := hide HT.out.len
      by_cases hlt : i < bs.length + 1
      · have hlt' : (i : Int) < (bs.length : Int) + 1 := by omega
        cases hcut : cut10 r with
        | none =>
          go_wp2_with fail
          refine (HL.out.none_call hcut).mono ?_
          rintro e wa ⟨rfl, Ga, hLa⟩
          replace hLa := hide hLa
          go_wp2
          go_roundw
          case rel => exact ⟨i + 1, xs, r, Ga, Gr, by go_num, by omega, hLa.out.alloc _, HT, .inl hcut⟩
          case measure => simp [intOf]; omega
        | some pr =>
          obtain ⟨p, r'⟩ := pr
          go_wp2_with fail
          refine (HL.out.some_call hcut).mono ?_
          rintro e wa ⟨rfl, Ga, hLa⟩
          replace hLa := hide hLa
          go_wp2_with (at_builtin; refine wpList_append_rw rfl _ _ 49 49 rfl 36 i0 (.agg #[.string ⟨#[]⟩, .bool false]) 2 24 Tryd.underlying49 hi hz0 hz1 hz2 rfl rfl ((hLa.out.alloc _).alloc _).row _ 1 (lnC (lineP p)) rfl (src_line1 (lineP p)) ?h63 ?hby ?_)
          case h63 => simp only [maxLen]; have := hlen.out; omega
          case hby => have := hlen.out; omega
          intro v3 wb G3 hr3 hm3 hg3
          obtain ⟨A3, c3, rfl⟩ := hr3.form
          have hLb := hide (((hLa.out.alloc _).alloc _).grown hr3 hm3 (by simpa using hg3))
          clear hr3 hm3 hg3
          go_wp2
          go_roundw
          case rel => exact ⟨i + 1, _, r', Ga, G3, by go_num, by omega, hLb, HT.out.snoc hcut, .inr (by
            have := HC.out.resolve_left (by rw [hcut]; simp)
            simp [this])⟩
          case measure => simp [intOf]; omega
      · have hnt : ¬ (i : Int) < (bs.length : Int) + 1 := by omega
        have hnone : Hid (cut10 r = none) := by
          rcases HC.out with h | h
          · exact h
          · have := hlen.out
            omega
        obtain ⟨j0, hj, hy0, hy1, hy2⟩ := info_parts intInfo
        have hR0 := hide (Rw.new (w := wr.alloc (.cells #[] 3)) (sz := 1) (n := 0) (e := 3) (g := wr.heap.size) (cap := 0) [] [] (Blk.new _ _ _) rfl rfl (Nat.le_refl _) (Nat.zero_le _))
        have hsrc := hide ((hA2.out.below (w' := wr.alloc (.cells #[] 3)) ((below_ls HL.out hB5.out (fun k hk => (hSt.out k).2 (.inl hk))).alloc (Nat.le_trans hB5.out.size HL.out.mv.size) _)).src Tryd.underlying48 (iv_oneCell zs))
        have hsrc' : Hid (Src Tryd.prog 1 48 (.slice A2 zs.length c2) zs.length (zs.map (Value.int .i64)) (wr.alloc (.cells #[] 3))) := by
          have := hsrc.out
          rw [List.length_map] at this
          exact this
        clear hsrc hi hz0 hz1 hz2 HC
        go_wp2_with (at_builtin; refine wpList_append_rw rfl _ _ 48 48 rfl 3 j0 (.int .i64 0) 1 8 Tryd.underlying48 hj hy0 hy1 hy2 rfl rfl hR0.out _ zs.length (zs.map (Value.int .i64)) rfl hsrc'.out (by simp only [maxLen]; omega) (by omega) ?_)
        intro v6 w6 G6 hr6 hm6 hg6
        obtain ⟨A6, c6, rfl⟩ := hr6.form
        have hr6' : Hid (Rw w6 1 (.slice A6 zs.length c6) zs.length (zs.map (Value.int .i64)) G6) := by
          exact hr6
        have hb6 : Hid (Below wr.heap.size wr w6) := below_mvs ((Below.refl _ _).alloc (Nat.le_refl _) _) hm6 (fun k hk e => by cases e; omega) (Nat.le_refl _)
        have hg6' : Hid (∀ g, G6 = some g → wr.heap.size ≤ g) := by
          rintro g rfl
          rcases hg6 with h | h
          · cases h; exact Nat.le_refl _
          · cases h; simp
        clear hr6 hm6 hg6 hsrc' hR0
        go_wp2_with (at_builtin; refine wpList_append_rw rfl _ _ 48 48 rfl 3 j0 (.int .i64 0) 1 8 Tryd.underlying48 hj hy0 hy1 hy2 rfl rfl (hr6'.out.keep (S := fun _ => False) ((Mvs.refl _ _).alloc _) (fun _ _ c => c)) _ 1 [.int .i64 bs.length] rfl (src_int1 bs.length) (by simp only [maxLen]; omega) (by omega) ?_)
        intro v7 w7 G7 hr7 hm7 hg7
        obtain ⟨A7, c7, rfl⟩ := hr7.form
        have hb7 : Hid (Below wr.heap.size wr w7) := below_mvs (hb6.out.alloc hb6.out.size _) hm7 (fun k hk e => by have := hg6'.out k e.symm; omega) (Nat.le_refl _)
        have hg7' : Hid (∀ g, G7 = some g → wr.heap.size ≤ g) := by
          have := hb6.out.size
          rintro g rfl
          rcases hg7 with h | h
          · exact hg6'.out g h.symm
          · cases h; omega
        have hr7' := hide hr7
        clear hr7 hm7 hg7 hr6' hb6 hg6' hj hy0 hy1 hy2
        go_wp2_with fail
        obtain ⟨g7, o7, cap7, hG7, hv7, hc7, _, hlt7, hcell7, _⟩ : ∃ g o cap, G7 = some g ∧ Value.slice A7 (zs.length + 1) c7 = .slice (some ⟨g, o, none⟩) (zs.length + 1) cap ∧ zs.length + 1 ≤ cap ∧ cap ≤ maxLen ∧ g < w7.heap.size ∧ (∀ j u, (zs.map (Value.int .i64) ++ [.int .i64 bs.length])[j]? = some u → w7.cell? ⟨g, o + j, none⟩ = some u) ∧ True := by
          rcases hr7'.out.2 with ⟨h, _⟩ | ⟨g, o, cap, h1, h2, h3, h4, h5, h6, _⟩
          · cases h
          · exact ⟨g, o, cap, h1, h2, h3, h4, h5, h6, trivial⟩
        simp only [Value.slice.injEq] at hv7
        obtain ⟨rfl, _, rfl⟩ := hv7
        subst hG7
        replace hcell7 := hide hcell7
        have hwr7 := hide hb7.out.size
        have hLX := hide HL.out
        obtain ⟨St2, hSt2⟩ : ∃ St2 : Nat → Prop, Hid (∀ k, St2 k ↔ (k < w.heap.size ∨ own w1.heap.size G k ∨ Gr = some k ∨ k = g7)) := ⟨_, fun _ => Iff.rfl⟩
        have hLY : Hid (LS St2 w7 w7 w2.heap.size none [] (.slice (some ⟨w4.heap.size + 1, 0, none⟩) 0 0) [] (some (w4.heap.size + 1))) := by
          have e5 := hB5.out.size
          have e7 := hb7.out.size
          have hSy : St w2.heap.size := (hSt.out _).2 (.inr (.inl rfl))
          have hSc : St (w4.heap.size + 1) := (hSt.out _).2 (.inr (.inr rfl))
          have ly := hLX.out.stLt _ hSy
          have lc := hLX.out.stLt _ hSc
          have em := hLX.out.mv.size
          have hyr : RD wr w2.heap.size none [] 0 := hY5.out.keep hLX.out.mv (by
            rintro k (rfl | hk) c
            · exact c hSy
            · cases hk)
          have hcr : Rw wr 2 (.slice (some ⟨w4.heap.size + 1, 0, none⟩) 0 0) 0 (lnCs []) (some (w4.heap.size + 1)) := hC5.out.keep hLX.out.mv (fun g hg c => by cases hg; exact c hSc)
          have e1 := hbw1.out.size
          refine ⟨hyr.keep (S := fun _ => False) (Mvs.of_below hb7.out) (fun _ _ c => c), hcr.keep (S := fun _ => False) (Mvs.of_below hb7.out) (fun _ _ c => c), ?_, ?_, Mvs.refl _ _, ?_⟩
          · rintro k (rfl | hk) c
            · rcases (hSt2.out _).1 c with c | c | c | c
              · omega
              · exact hLX.out.rdSt _ c hSy
              · exact (hLX.out.rowSt _ c).1 hSy
              · have := hg7'.out _ rfl
                omega
            · cases hk
          · rintro k hk
            cases hk
            refine ⟨fun c => ?_, fun c => ?_⟩
            · rcases (hSt2.out _).1 c with c | c | c | c
              · have := hsz4.out
                omega
              · exact hLX.out.rdSt _ c hSc
              · exact (hLX.out.rowSt _ c).1 hSc
              · have := hg7'.out _ rfl
                omega
            · rcases c with c | c
              · have := hsz4.out
                omega
              · cases c
          · intro k c
            rcases (hSt2.out _).1 c with c | c | c | c
            · omega
            · have := hLX.out.rd.lt _ c
              omega
            · have := hLX.out.row.lt _ c
              omega
            · omega
        clear hr7' hC5 hY5 HL
        go_loopw [8, 11, 59] (fun v a c wq => ∃ (j at' : Nat) (ys : List Ln) (r2 : List UInt8) (Gy Gc : Option Nat), a = .int .i64 at' ∧ c = .int .i64 j ∧ j ≤ zs.length + 1 ∧ at' ≤ bs.length ∧ Hid (LS St2 w7 wq w2.heap.size Gy r2 v ys Gc) ∧ Hid (Told (bs.take at') ys r2) ∧ Hid (cut10 r2 = none) ∧ Hid (j = zs.length + 1 → at' = bs.length)) (fun _ _ c _ => zs.length + 1 - (intOf c).toNat)
        case atStart => exact ⟨0, 0, [], [], none, _, rfl, rfl, by omega, by omega, hLY, Told.nil [], rfl, fun h => by omega⟩
        case round =>
          obtain ⟨j, at', ys, r2, Gy, Gc, rfl, rfl, hj, hat, HY, HT2, HN2, HJ⟩ := hrel
          obtain ⟨Ay, cy, rfl⟩ := HY.out.row.form
          by_cases hjl : j < zs.length + 1
          · have hjl' : (j : Int) < (zs.length : Int) + 1 := by omega
            obtain ⟨n, hn⟩ : ∃ n : Int, (zs.map (Value.int .i64) ++ [.int .i64 bs.length])[j]? = some (.int .i64 n) ∧ (j = zs.length → n = bs.length) := by
              rcases Nat.lt_or_ge j zs.length with h | h
              · exact ⟨zs[j], by rw [List.getElem?_append_left (by simpa using h)]; simp [List.getElem?_eq_getElem h], fun e => by omega⟩
              · obtain rfl : j = zs.length := by omega
                exact ⟨bs.length, by rw [List.getElem?_append_right (by simp)]; simp, fun _ => rfl⟩
            have hcn : wr.cell? ⟨g7, o7 + j, none⟩ = some (.int .i64 n) := (HY.out.mv.cell (a := ⟨g7, o7 + j, none⟩) hlt7 (fun c => c ((hSt2.out _).2 (.inr (.inr (.inr rfl)))))).trans (hcell7.out j _ hn.1)
            replace hn := hide hn
            obtain ⟨en, hend, hen1, hen2⟩ : ∃ en : Nat, (if n = bs.length then (bs.length : Int) else wrap64 ((at' : Int) + wrap64 ((IntKind.u64.wrap n).tmod ((bs.length : Int) - at' + 1)))) = en ∧ at' ≤ en ∧ en ≤ bs.length := by
              by_cases h : n = bs.length
              · exact ⟨bs.length, by rw [if_pos h], hat, Nat.le_refl _⟩
              · obtain ⟨e, he, h1, h2⟩ := end_of n bs.length at' hat hb1
                exact ⟨e, by rw [if_neg h]; exact he, h1, h2⟩
            have hms := mid_src (hA1.out.below (below_ls HY.out ((below_ls hLX.out hB5.out (fun k hk => (hSt.out k).2 (.inl hk))).trans (hb7.out.mono (Nat.le_trans hB5.out.size hLX.out.mv.size))) (fun k hk => (hSt2.out k).2 (.inl hk)))) hen1 hen2
            have HMS := hide hms
            have HEND := hide hend
            clear hms hend
            have hen1' : (at' : Int) ≤ en := by omega
            have hen2' : (en : Int) ≤ bs.length := by omega
            have hen3' : (en : Int) ≤ c1 := by omega
            have HEN := hide (And.intro hen1 hen2)
            by_cases hnb : n = bs.length
            · have hE : en = bs.length := by
                have := HEND.out
                rw [if_pos hnb] at this
                omega
              subst hE
              subst hnb
              by_cases hcat : c1 = at'
              · subst hcat
                have e0 : bs.length - c1 = 0 := by omega
                have hsrc := hide (HMS.out.1 rfl)
                rw [e0] at hsrc
                have HMID := hide (take_mid bs c1 bs.length HEN.out.1)
                rw [e0] at HMID
                clear e0
                go_wp2_with fail
                refine (put_any _ _ _ _ _ HY.out.rd _ _ hsrc.out (by
                  have := HT2.out.len
                  simp only [List.length_take, List.length_drop] at this ⊢
                  omega)).mono ?_
                rintro e wa ⟨rfl, Ga, hka, hma, hga⟩
                have hLa := hide (HY.out.putted hka hma hga)
                have HTa := hide (HT2.out.append ((bs.drop c1).take 0))
                rw [HMID.out] at HTa
                clear hka hma hga hsrc HY HT2 HN2 hcn
                obtain ⟨i0, hi, hz0, hz1, hz2⟩ := info_parts lnInfo
                go_wp2_with fail
                go_loopw [8] (fun v wq => ∃ (ys' : List Ln) (r' : List UInt8) (G' Gc' : Option Nat), Hid (LS St2 w7 wq w2.heap.size G' r' v ys' Gc') ∧ Hid (Told (bs.take bs.length) ys' r')) (fun v _ => bs.length + 1 - lenOf v)
                case atStart => exact ⟨_, _, _, _, hLa, HTa⟩
                case round =>
                  obtain ⟨ys', r', G', Gc', HQ, HTq⟩ := hrel
                  obtain ⟨Aq, cq, rfl⟩ := HQ.out.row.form
                  have hql := hide HTq.out.len
                  cases hcut : cut10 r' with
                  | none =>
                    go_wp2_with fail
                    refine (HQ.out.none_call hcut).mono ?_
                    rintro e wb ⟨rfl, Gb, hLb⟩
                    replace hLb := hide hLb
                    go_wp2
                    go_roundw
                    case rel => exact ⟨j + 1, bs.length, ys', r', Gb, Gc', rfl, by go_num, by omega, HEN.out.2, hLb.out.alloc _, HTq, hcut, fun _ => rfl⟩
                    case measure => simp [intOf]; omega
                  | some pr =>
                    obtain ⟨p, r''⟩ := pr
                    go_wp2_with fail
                    refine (HQ.out.some_call hcut).mono ?_
                    rintro e wb ⟨rfl, Gb, hLb⟩
                    replace hLb := hide hLb
                    go_wp2_with (at_builtin; refine wpList_append_rw rfl _ _ 49 49 rfl 36 i0 (.agg #[.string ⟨#[]⟩, .bool false]) 2 24 Tryd.underlying49 hi hz0 hz1 hz2 rfl rfl ((hLb.out.alloc _).alloc _).row _ 1 (lnC (lineP p)) rfl (src_line1 (lineP p)) ?h63 ?hby ?_)
                    case h63 => simp only [maxLen]; have := hql.out; simp only [List.length_take] at this; omega
                    case hby => have := hql.out; simp only [List.length_take] at this; omega
                    intro v3 wd G3 hr3 hm3 hg3
                    obtain ⟨A3, c3, rfl⟩ := hr3.form
                    have hLd := hide (((hLb.out.alloc _).alloc _).grown hr3 hm3 (by simpa using hg3))
                    clear hr3 hm3 hg3
                    go_wp2
                    go_roundw
                    case rel => exact ⟨_, r'', Gb, G3, hLd, HTq.out.snoc hcut⟩
                    case measure => have := hql.out; simp only [List.length_take] at this; simp [lenOf]; omega
              · have hsrc := hide (HMS.out.2 hcat)
                go_wp2_with fail
                refine (put_any _ _ _ _ _ HY.out.rd _ _ hsrc.out (by
                  have := HT2.out.len
                  simp only [List.length_take, List.length_drop] at this ⊢
                  omega)).mono ?_
                rintro e wa ⟨rfl, Ga, hka, hma, hga⟩
                have hLa := hide (HY.out.putted hka hma hga)
                have HTa := hide (HT2.out.append ((bs.drop at').take (bs.length - at')))
                rw [take_mid bs at' bs.length HEN.out.1] at HTa
                clear hka hma hga hsrc HY HT2 HN2 hcn
                obtain ⟨i0, hi, hz0, hz1, hz2⟩ := info_parts lnInfo
                go_wp2_with fail
                go_loopw [8] (fun v wq => ∃ (ys' : List Ln) (r' : List UInt8) (G' Gc' : Option Nat), Hid (LS St2 w7 wq w2.heap.size G' r' v ys' Gc') ∧ Hid (Told (bs.take bs.length) ys' r')) (fun v _ => bs.length + 1 - lenOf v)
                case atStart => exact ⟨_, _, _, _, hLa, HTa⟩
                case round =>
                  obtain ⟨ys', r', G', Gc', HQ, HTq⟩ := hrel
                  obtain ⟨Aq, cq, rfl⟩ := HQ.out.row.form
                  have hql := hide HTq.out.len
                  cases hcut : cut10 r' with
                  | none =>
                    go_wp2_with fail
                    refine (HQ.out.none_call hcut).mono ?_
                    rintro e wb ⟨rfl, Gb, hLb⟩
                    replace hLb := hide hLb
                    go_wp2
                    go_roundw
                    case rel => exact ⟨j + 1, bs.length, ys', r', Gb, Gc', rfl, by go_num, by omega, HEN.out.2, hLb.out.alloc _, HTq, hcut, fun _ => rfl⟩
                    case measure => simp [intOf]; omega
                  | some pr =>
                    obtain ⟨p, r''⟩ := pr
                    go_wp2_with fail
                    refine (HQ.out.some_call hcut).mono ?_
                    rintro e wb ⟨rfl, Gb, hLb⟩
                    replace hLb := hide hLb
                    go_wp2_with (at_builtin; refine wpList_append_rw rfl _ _ 49 49 rfl 36 i0 (.agg #[.string ⟨#[]⟩, .bool false]) 2 24 Tryd.underlying49 hi hz0 hz1 hz2 rfl rfl ((hLb.out.alloc _).alloc _).row _ 1 (lnC (lineP p)) rfl (src_line1 (lineP p)) ?h63 ?hby ?_)
                    case h63 => simp only [maxLen]; have := hql.out; simp only [List.length_take] at this; omega
                    case hby => have := hql.out; simp only [List.length_take] at this; omega
                    intro v3 wd G3 hr3 hm3 hg3
                    obtain ⟨A3, c3, rfl⟩ := hr3.form
                    have hLd := hide (((hLb.out.alloc _).alloc _).grown hr3 hm3 (by simpa using hg3))
                    clear hr3 hm3 hg3
                    go_wp2
                    go_roundw
                    case rel => exact ⟨_, r'', Gb, G3, hLd, HTq.out.snoc hcut⟩
                    case measure => have := hql.out; simp only [List.length_take] at this; simp [lenOf]; omega
            · have hE : wrap64 ((at' : Int) + wrap64 ((IntKind.u64.wrap n).tmod ((bs.length : Int) - at' + 1))) = en := by
                have := HEND.out
                rw [if_neg hnb] at this
                exact this
              by_cases hcat : c1 = at'
              · subst hcat
                have hec : c1 = en := by omega
                subst hec
                have e0 : c1 - c1 = 0 := by omega
                have hsrc := hide (HMS.out.1 rfl)
                rw [e0] at hsrc
                have HMID := hide (take_mid bs c1 c1 HEN.out.1)
                rw [e0] at HMID
                clear e0
                go_wp2_with fail
                refine (put_any _ _ _ _ _ HY.out.rd _ _ hsrc.out (by
                  have := HT2.out.len
                  simp only [List.length_take, List.length_drop] at this ⊢
                  omega)).mono ?_
                rintro e wa ⟨rfl, Ga, hka, hma, hga⟩
                have hLa := hide (HY.out.putted hka hma hga)
                have HTa := hide (HT2.out.append ((bs.drop c1).take 0))
                rw [HMID.out] at HTa
                clear hka hma hga hsrc HY HT2 HN2 hcn
                obtain ⟨i0, hi, hz0, hz1, hz2⟩ := info_parts lnInfo
                go_wp2_with fail
                go_loopw [8] (fun v wq => ∃ (ys' : List Ln) (r' : List UInt8) (G' Gc' : Option Nat), Hid (LS St2 w7 wq w2.heap.size G' r' v ys' Gc') ∧ Hid (Told (bs.take c1) ys' r')) (fun v _ => bs.length + 1 - lenOf v)
                case atStart => exact ⟨_, _, _, _, hLa, HTa⟩
                case round =>
                  obtain ⟨ys', r', G', Gc', HQ, HTq⟩ := hrel
                  obtain ⟨Aq, cq, rfl⟩ := HQ.out.row.form
                  have hql := hide HTq.out.len
                  cases hcut : cut10 r' with
                  | none =>
                    go_wp2_with fail
                    refine (HQ.out.none_call hcut).mono ?_
                    rintro e wb ⟨rfl, Gb, hLb⟩
                    replace hLb := hide hLb
                    go_wp2
                    go_roundw
                    case rel => exact ⟨j + 1, c1, ys', r', Gb, Gc', rfl, by go_num, by omega, HEN.out.2, hLb.out.alloc _, HTq, hcut, fun h => absurd (hn.out.2 (by omega)) hnb⟩
                    case measure => simp [intOf]; omega
                  | some pr =>
                    obtain ⟨p, r''⟩ := pr
                    go_wp2_with fail
                    refine (HQ.out.some_call hcut).mono ?_
                    rintro e wb ⟨rfl, Gb, hLb⟩
                    replace hLb := hide hLb
                    go_wp2_with (at_builtin; refine wpList_append_rw rfl _ _ 49 49 rfl 36 i0 (.agg #[.string ⟨#[]⟩, .bool false]) 2 24 Tryd.underlying49 hi hz0 hz1 hz2 rfl rfl ((hLb.out.alloc _).alloc _).row _ 1 (lnC (lineP p)) rfl (src_line1 (lineP p)) ?h63 ?hby ?_)
                    case h63 => simp only [maxLen]; have := hql.out; simp only [List.length_take] at this; omega
                    case hby => have := hql.out; simp only [List.length_take] at this; omega
                    intro v3 wd G3 hr3 hm3 hg3
                    obtain ⟨A3, c3, rfl⟩ := hr3.form
                    have hLd := hide (((hLb.out.alloc _).alloc _).grown hr3 hm3 (by simpa using hg3))
                    clear hr3 hm3 hg3
                    go_wp2
                    go_roundw
                    case rel => exact ⟨_, r'', Gb, G3, hLd, HTq.out.snoc hcut⟩
                    case measure => have := hql.out; simp only [List.length_take] at this; simp [lenOf]; omega
              · have hsrc := hide (HMS.out.2 hcat)
                go_wp2_with fail
                refine (put_any _ _ _ _ _ HY.out.rd _ _ hsrc.out (by
                  have := HT2.out.len
                  simp only [List.length_take, List.length_drop] at this ⊢
                  omega)).mono ?_
                rintro e wa ⟨rfl, Ga, hka, hma, hga⟩
                have hLa := hide (HY.out.putted hka hma hga)
                have HTa := hide (HT2.out.append ((bs.drop at').take (en - at')))
                rw [take_mid bs at' en HEN.out.1] at HTa
                clear hka hma hga hsrc HY HT2 HN2 hcn
                obtain ⟨i0, hi, hz0, hz1, hz2⟩ := info_parts lnInfo
                go_wp2_with fail
                go_loopw [8] (fun v wq => ∃ (ys' : List Ln) (r' : List UInt8) (G' Gc' : Option Nat), Hid (LS St2 w7 wq w2.heap.size G' r' v ys' Gc') ∧ Hid (Told (bs.take en) ys' r')) (fun v _ => bs.length + 1 - lenOf v)
                case atStart => exact ⟨_, _, _, _, hLa, HTa⟩
                case round =>
                  obtain ⟨ys', r', G', Gc', HQ, HTq⟩ := hrel
                  obtain ⟨Aq, cq, rfl⟩ := HQ.out.row.form
                  have hql := hide HTq.out.len
                  cases hcut : cut10 r' with
                  | none =>
                    go_wp2_with fail
                    refine (HQ.out.none_call hcut).mono ?_
                    rintro e wb ⟨rfl, Gb, hLb⟩
                    replace hLb := hide hLb
                    go_wp2
                    go_roundw
                    case rel => exact ⟨j + 1, en, ys', r', Gb, Gc', rfl, by go_num, by omega, HEN.out.2, hLb.out.alloc _, HTq, hcut, fun h => absurd (hn.out.2 (by omega)) hnb⟩
                    case measure => simp [intOf]; omega
                  | some pr =>
                    obtain ⟨p, r''⟩ := pr
                    go_wp2_with fail
                    refine (HQ.out.some_call hcut).mono ?_
                    rintro e wb ⟨rfl, Gb, hLb⟩
                    replace hLb := hide hLb
                    go_wp2_with (at_builtin; refine wpList_append_rw rfl _ _ 49 49 rfl 36 i0 (.agg #[.string ⟨#[]⟩, .bool false]) 2 24 Tryd.underlying49 hi hz0 hz1 hz2 rfl rfl ((hLb.out.alloc _).alloc _).row _ 1 (lnC (lineP p)) rfl (src_line1 (lineP p)) ?h63 ?hby ?_)
                    case h63 => simp only [maxLen]; have := hql.out; simp only [List.length_take] at this; omega
                    case hby => have := hql.out; simp only [List.length_take] at this; omega
                    intro v3 wd G3 hr3 hm3 hg3
                    obtain ⟨A3, c3, rfl⟩ := hr3.form
                    have hLd := hide (((hLb.out.alloc _).alloc _).grown hr3 hm3 (by simpa using hg3))
                    clear hr3 hm3 hg3
                    go_wp2
                    go_roundw
                    case rel => exact ⟨_, r'', Gb, G3, hLd, HTq.out.snoc hcut⟩
                    case measure => have := hql.out; simp only [List.length_take] at this; simp [lenOf]; omega
          · have hnj : ¬ (j : Int) < (zs.length : Int) + 1 := by omega
            obtain rfl : at' = bs.length := HJ.out (by omega)
            have HT3 := HT2.out
            rw [List.take_length] at HT3
            obtain ⟨hxy, hrr⟩ := HT.out.one hnone.out HT3 HN2.out
            have hX := hide ((hLX.out.rd.keep (S := fun _ => False) (Mvs.of_below hb7.out) (fun _ _ c => c)).keep HY.out.mv (fun k hk c => c ((hSt2.out k).2 (.inr (.inl hk)))))
            have hRa := hide ((hLX.out.row.keep (S := fun _ => False) (Mvs.of_below hb7.out) (fun _ _ c => c)).keep HY.out.mv (fun k hk c => c ((hSt2.out k).2 (.inr (.inr (.inl hk))))))
            have hRc := hide HY.out.row
            have hYd := hide HY.out.rd
            have hBw := hide (below_ls HY.out ((below_ls hLX.out hB5.out (fun k hk => (hSt.out k).2 (.inl hk))).trans (hb7.out.mono (Nat.le_trans hB5.out.size hLX.out.mv.size))) (fun k hk => (hSt2.out k).2 (.inl hk)))
            subst hxy hrr
            clear HT3 HT2 HN2 HJ HT
            go_wp2_with fail
            refine (left_any _ _ _ _ _ hX.out).mono ?_
            rintro e wl1 ⟨rfl, rfl⟩
            go_wp2_with fail
            refine (left_any _ _ _ _ _ hYd.out).mono ?_
            rintro e wl2 ⟨rfl, rfl⟩
            go_wp2_with fail
            by_cases hx0 : xs = []
            · subst hx0
              go_loopw [114] (fun c wq => c = .int .i64 0 ∧ Hid (Below w.heap.size w wq)) (fun _ _ => 0)
              case atStart => exact ⟨rfl, hBw⟩
              case round =>
                obtain ⟨rfl, HB⟩ := hrel
                go_wp2
                go_ret
                exact ⟨rfl, HB.out⟩
            · obtain ⟨ga, oa, rfl, la, ca, pa⟩ := hRa.out.lines hx0
              obtain ⟨gc, oc, rfl, lc, cc, pc⟩ := hRc.out.lines hx0
              replace pa := hide pa
              replace pc := hide pc
              have hxl : Hid (xs.length ≤ 20000) := by
                have := hlen.out
                show _ ≤ _
                omega
              have hx2 : xs.length ≤ 20000 := hxl.out
              go_loopw [114] (fun c wq => ∃ k : Nat, k ≤ xs.length ∧ c = .int .i64 k ∧ Hid (Below wl2.heap.size wl2 wq)) (fun c _ => xs.length - (intOf c).toNat)
              case atStart => exact ⟨0, Nat.zero_le _, rfl, Below.refl _ _⟩
              case round =>
                obtain ⟨k, hkx, rfl, HB⟩ := hrel
                by_cases hkl : k < xs.length
                · have hkl' : (k : Int) < xs.length := by omega
                  have a0 := (HB.out.cell (p := ⟨ga, oa + k * 2, none⟩) la).trans (pa.out k hkl).1
                  have a1 := (HB.out.cell (p := ⟨ga, oa + k * 2 + 1, none⟩) la).trans (pa.out k hkl).2
                  have b0 := (HB.out.cell (p := ⟨gc, oc + k * 2, none⟩) lc).trans (pc.out k hkl).1
                  have b1 := (HB.out.cell (p := ⟨gc, oc + k * 2 + 1, none⟩) lc).trans (pc.out k hkl).2
                  go_wp2_with fail
                  go_quiet (fail)
                  go_wp2
                  go_roundw
                  case rel => exact ⟨k + 1, by omega, by go_num, HB.out.trans ((below_drewN _ _).mono HB.out.size)⟩
                  case measure => simp [intOf]; omega
                · have hnk : ¬ (k : Int) < xs.length := by omega
                  go_wp2
                  go_ret
                  exact ⟨rfl, hBw.out.trans (HB.out.mono hBw.out.size)⟩
  · have hb3 : (20000 : Int) < bs.length ∨ (200 : Int) < zs.length := by omega
    go_enter Tryd.func4, Tryd.ntmps4
    go_wp2_with (go_at_call 7; refine (alive_yes _).mono ?_; rintro e w1 ⟨rfl, hbw1⟩; replace hbw1 := hide hbw1)
    all_goals go_ret
    all_goals exact ⟨rfl, hbw1.out⟩
end Go.Proofs.YtkcailfpanmhdaaDoor
