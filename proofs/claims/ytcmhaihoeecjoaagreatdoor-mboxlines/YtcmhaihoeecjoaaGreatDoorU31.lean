/- The document's digits: a number in so many places, made byte by byte in front. -/
/- The clock of a date, by the document. -/
import Derived.Test.YtcmhaihoeecjoaaGreatDoorProg
import Derived.Test.YtcmhaihoeecjoaaGreatDoorU01
import Derived.Test.YtcmhaihoeecjoaaGreatDoorU10
import Derived.Laws.IdiomStrings
import Derived.Lib.Itoa
import Derived.Test.YtcmhaihoeecjoaaGreatDoorU12
import Derived.Test.YtcmhaihoeecjoaaGreatDoorU30
section
namespace Go.Proofs.YtcmhaihoeecjoaaGreatDoor.Da
open Go.RowKit

/-- A byte as a cell holds it. -/
def bv (b : UInt8) : Value := .int .u8 (b.toNat : Int)
theorem row_cells {w : World} {base : Nat} {e : TypeId} {v : Value} {n : Nat} {ds : List UInt8} (h : w.ownsRow base e 1 v n (ds.map bv)) (hn : n = ds.length) (hp : 0 < n) :
    ∃ g cap, v = .slice (some ⟨g, 0, none⟩) ds.length cap ∧ ∀ j (hj : j < ds.length), w.cell? ⟨g, j, none⟩ = some (.int .u8 (ds[j].toNat : Int)) := by
  rcases h.2 with ⟨_, h0⟩ | ⟨g, cap, cur, rfl, _, hg, hnc, _, hsz, htk⟩
  · omega
  · subst hn
    refine ⟨g, cap, rfl, fun j hj => ?_⟩
    have := h.cellAt j (by simpa using hj)
    rw [this]
    simp [bv, List.getElem?_eq_getElem hj]

theorem byteInfo : (Tryz.prog.info? 5).map (fun i => (i.zero, i.size, i.bytes)) = some (some (.int .u8 0), 1, 1) := by kernel_rfl

def lenOf : Value → Nat | .slice _ n _ => n | _ => 0

/-- What a loop of digits keeps: b holds the bytes ds. -/
def Row (w wr : World) (b : Value) (ds : List UInt8) : Prop :=
  Below w.heap.size w wr ∧ ∃ g cap, b = .slice (some ⟨g, 0, none⟩) ds.length cap ∧ g < wr.heap.size ∧ ∀ j (hj : j < ds.length), wr.cell? ⟨g, j, none⟩ = some (.int .u8 (ds[j].toNat : Int))

/-- Behind an append of b's bytes to a new one of one byte. -/
theorem Row.next {w wr w1 : World} {b v : Value} {ds : List UInt8} {c : UInt8} {base : Nat} (h : Row w wr b ds)
    (hown : w1.ownsRow base 5 1 v (1 + ds.length) ([bv c] ++ ds.map bv)) (hg : (wr.alloc (.cells #[bv c] 5)).grownBy w1 (some wr.heap.size)) : Row w w1 v (c :: ds) := by
  have hown' : w1.ownsRow base 5 1 v (1 + ds.length) ((c :: ds).map bv) := hown
  obtain ⟨g, cap, hv, hc⟩ := row_cells hown' (by simp; omega) (by omega)
  refine ⟨?_, g, cap, hv, ?_, hc⟩
  · exact ((h.1.alloc h.1.size _).grown hg (by have := h.1.size; simp; omega) (fun k hk => by cases hk; exact h.1.size))
  · have := hown'.lt g (by rw [hv]; rfl)
    exact this.2
theorem Row.news {wr : World} {ds : List UInt8} {g : Nat} (hc : ∀ j (hj : j < ds.length), wr.cell? ⟨g, j, none⟩ = some (.int .u8 (ds[j].toNat : Int))) (hg : g < wr.heap.size) (o : Obj) :
    ∀ j u, (ds.map bv)[j]? = some u → (wr.alloc o).cell? ((⟨g, 0, none⟩ : Addr).add j) = some u := by
  intro j u hu
  have hj : j < ds.length := by
    have := (List.getElem?_eq_some_iff.1 hu).1
    simpa using this
  have e : (⟨g, 0, none⟩ : Addr).add j = ⟨g, j, none⟩ := by unfold Addr.add; split <;> simp_all
  rw [e, World.cell?_alloc_lt _ _ ⟨g, j, none⟩ hg, hc j hj]
  simp [List.getElem?_eq_getElem hj, bv] at hu
  rw [hu]

theorem bv_oneCell (ds : List UInt8) : ∀ u ∈ ds.map bv, u.oneCell' = true := by
  intro u hu
  obtain ⟨b, _, rfl⟩ := List.mem_map.1 hu
  rfl

theorem bv_dig (k : Nat) : bv (UInt8.ofNat (48 + k % 10)) = .int .u8 (48 + (k : Int) % 10) := by
  unfold bv
  have h : (UInt8.ofNat (48 + k % 10)).toNat = 48 + k % 10 := by
    rw [UInt8.toNat_ofNat']
    omega
  rw [h]
  congr 1
theorem digsTo_go (f k : Nat) (ds : List UInt8) (h : 0 < k ∨ ds = []) : digsTo (f + 1) k ds = digsTo f (k / 10) (UInt8.ofNat (48 + k % 10) :: ds) := by
  rw [digsTo, if_neg]
  rintro ⟨rfl, h2⟩
  rcases h with h | h
  · omega
  · exact h2 h
theorem digsTo_end (f : Nat) (ds : List UInt8) (h : ds ≠ []) : digsTo f 0 ds = ds := by
  cases f with
  | zero => rfl
  | succ f => rw [digsTo, if_pos ⟨rfl, h⟩]
theorem pow_step (k f : Nat) (h : k < 10 ^ (f - 2)) (hf : 3 ≤ f) : k / 10 < 10 ^ (f - 1 - 2) := by
  obtain ⟨g, rfl⟩ : ∃ g, f = g + 3 := ⟨f - 3, by omega⟩
  have e : g + 3 - 2 = g + 1 := by omega
  have e2 : g + 3 - 1 - 2 = g := by omega
  rw [e, Nat.pow_succ] at h
  rw [e2]
  exact Nat.div_lt_of_lt_mul (by rw [Nat.mul_comm]; exact h)

set_option maxRecDepth 20000 in
set_option maxHeartbeats 1000000 in
theorem digits_any (n p : Nat) (c : UInt8) (w : World) (hn : n < 10000) (hp : p ≤ 4) :
    Calls Tryz.prog 46 #[.int .i64 n, .int .i64 p, .int .u8 (c.toNat : Int)] w fun e w' => e = .returned (.string ⟨(padTo 5 p c (digsTo 6 n [])).toArray⟩) ∧ Below w.heap.size w w' := by
  obtain ⟨i0, hi, hz0, hz1, hz2⟩ := info_parts byteInfo
  go_enter Tryz.func46, Tryz.ntmps46
  go_wp2
  go_loopw [0, 7] (fun s v wr => ∃ (k f : Nat) (ds : List UInt8), k < 10 ^ (f - 2) ∧ ds.length + f = 6 ∧ s = .int .i64 k ∧ Hid (Row w wr v ds) ∧ Hid (digsTo f k ds = digsTo 6 n [])) (fun s v _ => 2 * (intOf s).toNat + (1 - lenOf v))
  case atStart =>
    exact ⟨n, 6, [], by omega, rfl, rfl, ⟨(Below.refl _ _).alloc (Nat.le_refl _) _, w.heap.size, 0, rfl, by simp, fun j hj => absurd hj (by simp)⟩, rfl⟩
  case round =>
    obtain ⟨k, f, ds, hk, hf, rfl, HR, HD⟩ := hrel
    obtain ⟨_, g, cap, rfl, hg, _⟩ := HR.out
    have hk4 : k < 10000 := Nat.lt_of_lt_of_le hk (Nat.le_trans (Nat.pow_le_pow_right (by omega) (show f - 2 ≤ 4 by omega)) (by omega))
    have HK : Hid (k < 10 ^ (f - 2)) := hk
    have HF : Hid (ds.length + f = 6) := hf
    have hl6 : (ds.length : Int) ≤ 6 := by omega
    clear hk hf
    obtain ⟨_, g', cap', e', _, hcg'⟩ := HR.out
    have hcg : ∀ j (hj : j < ds.length), wr.cell? ⟨g, j, none⟩ = some (.int .u8 (ds[j].toNat : Int)) := by
      simp only [Value.slice.injEq, Option.some.injEq, Addr.mk.injEq, and_true, true_and] at e'
      obtain ⟨rfl, rfl⟩ := e'
      exact hcg'
    have HCG : Hid (∀ j (hj : j < ds.length), wr.cell? ⟨g, j, none⟩ = some (.int .u8 (ds[j].toNat : Int))) := hcg
    clear e' hcg' hcg
    by_cases hpos : 0 < k
    · have hp2 : (0 : Int) < k := by omega
      have hf3 : 3 ≤ f := by
        rcases Nat.lt_or_ge f 3 with h | h
        · have := HK.out
          rw [show f - 2 = 0 by omega] at this
          omega
        · exact h
      go_wp2_with (at_builtin; refine wpList_append_own _ rfl _ _ 56 rfl w.heap.size 5 i0 (.int .u8 0) 1 1 Tryz.underlying56 hi hz0 hz1 hz2 rfl (by decide) _ _ _ rfl (World.ownsRow_lit wr #[.int .u8 (48 + (k : Int) % 10)] 1 ?o1 ?o2 ?o3) ⟨g, 0, none⟩ ds.length cap (ds.map bv) rfl ?c0 ?c1 ?c2 ?c3 ?c4 ?c5 ?_)
      case o1 => exact HR.out.1.size
      case o2 => unfold maxLen; omega
      case o3 => rfl
      case c0 => simp
      case c1 => exact Row.news HCG.out hg _
      case c2 => exact bv_oneCell ds
      case c3 => unfold maxLen; omega
      case c4 => omega
      case c5 => have := HR.out.1.size; simp; omega
      intro v' w1 hown hgrow _
      have HR1 : Hid (Row w w1 v' (UInt8.ofNat (48 + k % 10) :: ds)) := HR.out.next (by rw [bv_dig]; exact hown) (by rw [bv_dig]; exact hgrow)
      clear hown hgrow
      go_wp2
      go_roundw
      case rel => exact ⟨k / 10, f - 1, _, pow_step k f HK.out hf3, by have := HF.out; simp; omega, by go_num, HR1, by
        have := digsTo_go (f - 1) k ds (Or.inl hpos)
        rw [show f - 1 + 1 = f by omega] at this
        rw [← this]; exact HD.out⟩
      case measure => simp [intOf, lenOf]; omega
    · obtain rfl : k = 0 := by omega
      by_cases hds : ds = []
      · subst hds
        go_wp2_with (at_builtin; refine wpList_append_own _ rfl _ _ 56 rfl w.heap.size 5 i0 (.int .u8 0) 1 1 Tryz.underlying56 hi hz0 hz1 hz2 rfl (by decide) _ _ _ rfl (World.ownsRow_lit wr #[.int .u8 48] 1 ?o1 ?o2 ?o3) ⟨g, 0, none⟩ 0 cap ([] : List Value) rfl ?c0 ?c1 ?c2 ?c3 ?c4 ?c5 ?_)
        case o1 => exact HR.out.1.size
        case o2 => unfold maxLen; omega
        case o3 => rfl
        case c0 => simp
        case c1 => exact fun j u hj => by simp at hj
        case c2 => exact fun u hu => absurd hu (by simp)
        case c3 => unfold maxLen; omega
        case c4 => omega
        case c5 => have := HR.out.1.size; simp; omega
        intro v' w1 hown hgrow _
        have HR1 : Hid (Row w w1 v' (UInt8.ofNat (48 + 0 % 10) :: [])) := HR.out.next (by exact hown) (by exact hgrow)
        clear hown hgrow
        go_wp2
        go_roundw
        case rel => exact ⟨0, f - 1, _, Nat.pos_of_ne_zero (by simp), by have := HF.out; simp at this ⊢; omega, by go_num, HR1, by
          have := HF.out
          simp at this
          subst this
          rw [← HD.out]
          exact (digsTo_go 5 0 [] (Or.inr rfl)).symm⟩
        case measure =>
          obtain ⟨_, g1, cap1, rfl, _⟩ := HR1.out
          simp [intOf, lenOf]
      · have hlen : ((ds.length : Int) == 0) = false := by
          have : ds.length ≠ 0 := fun h => hds (List.length_eq_zero_iff.1 h)
          rw [beq_eq_false_iff_ne]
          omega
        have HD2 : Hid (ds = digsTo 6 n []) := (digsTo_end f ds hds).symm.trans HD.out
        go_wp2
        go_loopw [7] (fun v wr => ∃ (f2 : Nat) (ds2 : List UInt8), 5 ≤ f2 + ds2.length ∧ ds2.length ≤ 6 ∧ Hid (Row w wr v ds2) ∧ Hid (padTo f2 p c ds2 = padTo 5 p c (digsTo 6 n []))) (fun v _ => p - lenOf v)
        case atStart => exact ⟨5, ds, by omega, by omega, HR, congrArg (padTo 5 p c) HD2.out⟩
        case round =>
          obtain ⟨f2, ds2, hf2, hl2, HS, HP⟩ := hrel
          obtain ⟨_, g2, cap2, rfl, hg2, hcg2⟩ := HS.out
          have HCG2 : Hid (∀ j (hj : j < ds2.length), wr.cell? ⟨g2, j, none⟩ = some (.int .u8 (ds2[j].toNat : Int))) := hcg2
          clear hcg2
          by_cases hlt : ds2.length < p
          · skip
            go_wp2_with (at_builtin; refine wpList_append_own _ rfl _ _ 56 rfl w.heap.size 5 i0 (.int .u8 0) 1 1 Tryz.underlying56 hi hz0 hz1 hz2 rfl (by decide) _ _ _ rfl (World.ownsRow_lit wr #[.int .u8 (c.toNat : Int)] 1 ?o1 ?o2 ?o3) ⟨g2, 0, none⟩ ds2.length cap2 (ds2.map bv) rfl ?c0 ?c1 ?c2 ?c3 ?c4 ?c5 ?_)
            case o1 => exact HS.out.1.size
            case o2 => unfold maxLen; omega
            case o3 => rfl
            case c0 => simp
            case c1 => exact Row.news HCG2.out hg2 _
            case c2 => exact bv_oneCell ds2
            case c3 => unfold maxLen; omega
            case c4 => omega
            case c5 => have := HS.out.1.size; simp; omega
            intro v' w1 hown hgrow _
            have HR1 : Hid (Row w w1 v' (c :: ds2)) := HS.out.next (by exact hown) (by exact hgrow)
            clear hown hgrow
            go_wp2
            go_roundw
            case rel =>
              have HX : Hid (padTo (f2 - 1) p c (c :: ds2) = padTo 5 p c (digsTo 6 n [])) := by
                show padTo (f2 - 1) p c (c :: ds2) = _
                rw [← HP.out]
                obtain ⟨f3, rfl⟩ : ∃ f3, f2 = f3 + 1 := ⟨f2 - 1, by omega⟩
                rw [padTo, if_pos hlt]
                rfl
              repeat apply Exists.intro
              exact ⟨⟨f2 - 1, c :: ds2, by simp; omega, by simp; omega, HR1, HX⟩, rfl⟩
            case measure =>
              obtain ⟨_, g1, cap1, rfl, _⟩ := HR1.out
              simp [lenOf]; omega
          · have hcv := run_convert_bytes_back (P := Tryz.prog) wr 56 9 5 ⟨g2, 0, none⟩ cap2 ds2 Tryz.underlying56 Tryz.underlying5 Tryz.underlying9 (fun j hj => by
              have e : (⟨g2, 0, none⟩ : Addr).add j = ⟨g2, j, none⟩ := by unfold Addr.add; split <;> simp_all
              rw [e]; exact HCG2.out j hj)
            have HP2 : Hid (ds2 = padTo 5 p c (digsTo 6 n [])) := by
              show ds2 = _
              rw [← HP.out]
              cases f2 with
              | zero => rfl
              | succ f2 => rw [padTo, if_neg hlt]
            go_wp2
            go_ret
            exact ⟨by rw [← HP2.out]; rfl, HS.out.1⟩
end Go.Proofs.YtcmhaihoeecjoaaGreatDoor.Da

end
section
namespace Go.Proofs.YtcmhaihoeecjoaaGreatDoor.Da
open Go.RowKit

theorem rtwo_zero (n : Nat) (hn : n < 100) (w : World) :
    Calls Tryz.prog 46 #[.int .i64 n, .int .i64 2, .int .u8 48] w fun e w' => e = .returned (.string ⟨(two n 48).toArray⟩) ∧ Below w.heap.size w w' := digits_any n 2 48 w (by omega) (by omega)
theorem rtwo_blank (n : Nat) (hn : n < 100) (w : World) :
    Calls Tryz.prog 46 #[.int .i64 n, .int .i64 2, .int .u8 32] w fun e w' => e = .returned (.string ⟨(two n 32).toArray⟩) ∧ Below w.heap.size w w' := digits_any n 2 32 w (by omega) (by omega)
theorem rday_one (n : Nat) (hn : n < 100) (w : World) :
    Calls Tryz.prog 46 #[.int .i64 n, .int .i64 1, .int .u8 48] w fun e w' => e = .returned (.string ⟨(day1 n).toArray⟩) ∧ Below w.heap.size w w' := digits_any n 1 48 w (by omega) (by omega)
theorem ryear (n : Nat) (hn : n < 10000) (w : World) :
    Calls Tryz.prog 46 #[.int .i64 n, .int .i64 4, .int .u8 48] w fun e w' => e = .returned (.string ⟨(year n).toArray⟩) ∧ Below w.heap.size w w' := digits_any n 4 48 w hn (by omega)

set_option maxHeartbeats 1000000 in
theorem rclock_any (y m d h mi s wk : Nat) (w : World) (h1 : h < 100) (h2 : mi < 100) (h3 : s < 100) :
    Calls Tryz.prog 47 #[.agg #[.int .i64 (y : Nat), .int .i64 (m : Nat), .int .i64 (d : Nat), .int .i64 (h : Nat), .int .i64 (mi : Nat), .int .i64 (s : Nat), .int .i64 (wk : Nat)]] w fun e w' => e = .returned (.string ⟨(clk h mi s).toArray⟩) ∧ Below w.heap.size w w' := by
  have hn := ext_some (w.alloc (.cells #[.int .i64 (y : Nat), .int .i64 (m : Nat), .int .i64 (d : Nat), .int .i64 (h : Nat), .int .i64 (mi : Nat), .int .i64 (s : Nat), .int .i64 (wk : Nat)] 81))
  have hc := ext_cell (w.alloc (.cells #[.int .i64 (y : Nat), .int .i64 (m : Nat), .int .i64 (d : Nat), .int .i64 (h : Nat), .int .i64 (mi : Nat), .int .i64 (s : Nat), .int .i64 (wk : Nat)] 81))
  have hcat := ByteArray.mk_append_mk
  have l1 := two_len h 48
  have l2 := two_len mi 48
  have l3 := two_len s 48
  go_enter Tryz.func47, Tryz.ntmps47
  go_wp2
  refine wp_region_ext (by kernel_rfl) (by kernel_rfl) ?_
  repeat (go_big_quiet_step ((go_at_call 46; exact ext_call (rtwo_zero _ (by omega) _))))
  refine wpQuiet_nil ?_
  rintro w1 ⟨⟨_, hb1⟩, rfl⟩
  go_wp2
  go_ret
  exact ⟨ret_str (by simp [clk]), ((Below.refl _ _).alloc (Nat.le_refl _) _).trans (hb1.mono (by simp))⟩
end Go.Proofs.YtcmhaihoeecjoaaGreatDoor.Da

end
