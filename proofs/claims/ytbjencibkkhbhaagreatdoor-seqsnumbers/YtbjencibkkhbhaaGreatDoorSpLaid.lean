/- What a row's list gives of the variables that package seqs reads. -/
import Derived.Test.YtbjencibkkhbhaaGreatDoorRows
import Derived.Test.YtbjencibkkhbhaaGreatDoorSp
import Derived.Stop.LaidErr
import Derived.LaidByTextLater
import Derived.Lib.LaidTab
namespace Go.Proofs.YtbjencibkkhbhaaGreatDoor
open Go.RowKit
theorem cells_of_strsQ {H : Type} {enc : TypeId × Value → H} {P : Program} {w : World} {base : Nat} {sp : Nat → Bool} {held : Bool} {fuel : Nat} {t e : TypeId} {n : Nat} {cs : List Value} {ts : List (List UInt8)} {p : List MemPlace}
    (ht : P.underlying t = some (.array n e)) (he : P.underlying e = some .string) (hce : P.cellsOf e = 1) (hct : P.cellsOf t = n)
    (h : DataW.trod enc P w base sp held fuel t cs = some (.agg (ts.map fun s => .lit (.string s)), p)) : cs = ts.map fun s => Value.string ⟨s.toArray⟩ := by
  cases fuel with
  | zero => simp [DataW.trod] at h
  | succ fuel =>
    simp only [DataW.trod, ht, hce, hct, Nat.mul_one] at h
    split at h
    · rename_i hl
      obtain ⟨xs, hm, hx⟩ := Option.map_eq_some_iff.1 h
      have hxs : xs.map (·.1) = ts.map fun s => (DataW.lit (.string s) : DataW H) := by
        have := congrArg Prod.fst hx
        simpa using this
      have hxl : xs.length = n := by simpa using Lib.mapM_length hm
      have hzl : ts.length = n := by
        have := congrArg List.length hxs
        simp at this
        omega
      apply List.ext_getElem?
      intro i
      by_cases hi : i < n
      · obtain ⟨b, hb, hf⟩ := Lib.mapM_at hm i i (by simp [hi])
        obtain ⟨s, hc, rfl, _⟩ := DataW.trod_string he hf
        have h1 : cs[i]? = some (.string s) := by
          have := congrArg (·[0]?) hc
          simpa [List.getElem?_take, List.getElem?_drop] using this
        have h2 : (xs.map (·.1))[i]? = some (DataW.lit (.string s.data.toList) : DataW H) := by simp [hb]
        rw [hxs] at h2
        simp only [List.getElem?_map, Option.map_eq_some_iff, DataW.lit.injEq, Lit.string.injEq] at h2
        obtain ⟨s', hs', e1⟩ := h2
        subst e1
        simp [h1, hs']
      · rw [List.getElem?_eq_none (by omega), List.getElem?_eq_none (by simp; omega)]
    · cases h
theorem cell_ltQ {w : World} {b o : Nat} {v : Value} (h : w.cell? ⟨b, o, none⟩ = some v) : b < w.heap.size := by
  unfold World.cell? at h
  split at h
  · rename_i hb
    exact (Array.getElem?_eq_some_iff.1 hb).1
  · cases h
theorem namesGlobal : Tryz.prog.globalNamed "postbag/seqs.names" = some 13 := by kernel_rfl
theorem namesType : (Tryz.prog.globals[13]?).map (·.type) = some 74 := by kernel_rfl
theorem namesCells : Tryz.prog.cellsOf 74 = 5 := by kernel_rfl
theorem strCellsQ : Tryz.prog.cellsOf 9 = 1 := by kernel_rfl
theorem names_data : (Rows.laid_postbag_seqs_names : DataW Unit) = .agg (flN.map fun s => .lit (.string s)) := rfl
theorem nms_of_laid {W : World} {r : List (String × DataW Unit)} (h : laidMet Tryz.prog (("postbag/seqs.names", Rows.laid_postbag_seqs_names) :: r) W) : Nms W := by
  obtain ⟨ps, ⟨g', t', cs, fuel, p, q, hg', ht', hvar, hd, _, _⟩, _⟩ := h
  obtain rfl := Option.some.inj (namesGlobal.symm.trans hg')
  obtain rfl := Option.some.inj (namesType.symm.trans ht')
  rw [names_data] at hd
  have e := cells_of_strsQ Tryz.underlying74 Tryz.underlying9 strCellsQ namesCells hd
  have hc : ∀ i, i < 5 → W.cell? ⟨13, i, none⟩ = some (.string ⟨(flN.getD i []).toArray⟩) := fun i hi => by
    have := World.var?_cell namesGlobal hvar i
    rw [this, ← Array.getElem?_toList, e]
    have hl : i < flN.length := hi
    simp [List.getElem?_eq_getElem hl, List.getD_eq_getElem?_getD]
  exact ⟨hc, cell_ltQ (hc 0 (by decide))⟩
theorem tabTypeQ : (Tryz.prog.globals[19]?).map (·.type) = some 164 := by kernel_rfl
theorem tabCellsQ : Tryz.prog.cellsOf 164 = 20 := by kernel_rfl
theorem u64CellsQ : Tryz.prog.cellsOf 132 = 1 := by kernel_rfl
theorem tab_of_laidQ {W : World} {r : List (String × DataW Unit)} (h : laidMet Tryz.prog (("internal/strconv.uint64pow10", Rows.laid_internal_strconv_uint64pow10) :: r) W) : TabQ W := by
  have ht : Lib.TabIs Tryz.prog W "internal/strconv.uint64pow10" .u64 Lib.pow10Tab := Lib.tabIs_of_head (rest := r) tabGlobalQ tabTypeQ Tryz.underlying164 Tryz.underlying132 u64CellsQ tabCellsQ h
  have hv : W.var? Tryz.prog "internal/strconv.uint64pow10" = some (Lib.pow10Tab.map fun z => Value.int .u64 z).toArray := ht
  have hc := World.var?_cell tabGlobalQ hv 0
  exact ⟨ht, cell_ltQ (v := .int .u64 1) (by rw [hc]; rfl)⟩
theorem errStarQ : "*" ++ "errors.errorString" = "*errors.errorString" := by decide
theorem errRowQ (u : TypeId) (h : Tryz.prog.typeName? 3 u = some "*errors.errorString") : u = 151 :=
  typeName_ptr_named (nm := "errors.errorString") (by rw [errStarQ]; kernel_rfl) (by kernel_rfl) (by decide) u (by rw [errStarQ]; exact h)
theorem errCellsQ : Tryz.prog.cellsOf 153 = 1 := by kernel_rfl
theorem laid_headQ {n : String} {text : List UInt8} {r : List (String × DataW Unit)} {W : World} {g : Nat} (h : laidMet Tryz.prog ((n, .iface "*errors.errorString" (.ptr (.agg [.lit (.string text)]))) :: r) W)
    (hg : Tryz.prog.globalNamed n = some g) (ht : (Tryz.prog.globals[g]?).map (·.type) = some 25) :
    ∃ (a : Addr), W.cell? ⟨g, 0, none⟩ = some (.iface 151 (.pointer (some a))) ∧ g < W.heap.size := by
  obtain ⟨a, s, hv, _⟩ := laid_sentinel h hg ht Tryz.underlying25 errRowQ Tryz.underlying151 Tryz.underlying153 rfl rfl Tryz.underlying9 errCellsQ strCellsQ
  have hc := World.var?_cell hg hv 0
  have hc' : W.cell? ⟨g, 0, none⟩ = some (.iface 151 (.pointer (some a))) := by rw [hc]; rfl
  exact ⟨a, hc', cell_ltQ hc'⟩
def textFormQ : List UInt8 := match (Rows.laid_postbag_api_ErrForm : DataW Unit) with | .iface _ (.ptr (.agg [.lit (.string t)])) => t | _ => []
def textSyRangeQ : List UInt8 := match (Rows.laid_strconv_ErrRange : DataW Unit) with | .iface _ (.ptr (.agg [.lit (.string t)])) => t | _ => []
def textSySyntaxQ : List UInt8 := match (Rows.laid_strconv_ErrSyntax : DataW Unit) with | .iface _ (.ptr (.agg [.lit (.string t)])) => t | _ => []
theorem sye_of_laidQ {W : World} {r : List (String × DataW Unit)} (h : laidMet Tryz.prog (("strconv.ErrRange", Rows.laid_strconv_ErrRange) :: ("strconv.ErrSyntax", Rows.laid_strconv_ErrSyntax) :: r) W) : SyE W := by
  obtain ⟨a, h1, h2⟩ := laid_headQ (text := textSyRangeQ) (g := 15) h (by kernel_rfl) (by kernel_rfl)
  replace h := laidMet.tail h
  obtain ⟨b, k1, k2⟩ := laid_headQ (text := textSySyntaxQ) (g := 14) h (by kernel_rfl) (by kernel_rfl)
  exact ⟨⟨_, k1, .inr ⟨_, _, rfl⟩⟩, _, h1, .inr ⟨_, _, rfl⟩⟩
theorem ef_of_laidQ {W : World} {r : List (String × DataW Unit)} (h : laidMet Tryz.prog (("postbag/api.ErrForm", Rows.laid_postbag_api_ErrForm) :: r) W) : ∃ a, EFq W a := by
  obtain ⟨a, h1, h2⟩ := laid_headQ (text := textFormQ) (g := 0) h (by kernel_rfl) (by kernel_rfl)
  exact ⟨a, h1, h2⟩
/-- Behind the errors: the library's two, the names. -/
theorem rest_of_laidQ {W : World} {r : List (String × DataW Unit)} (h : laidMet Tryz.prog (("strconv.ErrRange", Rows.laid_strconv_ErrRange) :: ("strconv.ErrSyntax", Rows.laid_strconv_ErrSyntax) :: ("postbag/seqs.names", Rows.laid_postbag_seqs_names) :: r) W) : SyE W ∧ Nms W :=
  ⟨sye_of_laidQ h, nms_of_laid (laidMet.tail (laidMet.tail h))⟩
theorem sp1_of_laid {W : World} {x0 x1 x3 : String × DataW Unit} {r : List (String × DataW Unit)} (h : laidMet Tryz.prog (x0 :: x1 :: ("internal/strconv.uint64pow10", Rows.laid_internal_strconv_uint64pow10) :: x3 :: ("postbag/api.ErrForm", Rows.laid_postbag_api_ErrForm) :: ("strconv.ErrRange", Rows.laid_strconv_ErrRange) :: ("strconv.ErrSyntax", Rows.laid_strconv_ErrSyntax) :: ("postbag/seqs.names", Rows.laid_postbag_seqs_names) :: r) W) : ∃ ea : Nat → Addr, SpE W (ea 1) := by
  have h2 := laidMet.tail (laidMet.tail h)
  have h4 := laidMet.tail (laidMet.tail h2)
  obtain ⟨a, ha⟩ := ef_of_laidQ h4
  obtain ⟨k1, k2⟩ := rest_of_laidQ (laidMet.tail h4)
  exact ⟨fun _ => a, ha, k1, tab_of_laidQ h2, k2⟩
end Go.Proofs.YtbjencibkkhbhaaGreatDoor
