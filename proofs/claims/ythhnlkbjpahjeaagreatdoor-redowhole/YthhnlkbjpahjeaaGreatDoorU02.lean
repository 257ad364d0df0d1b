/- A slice that came in, of cells of one kind: what is read of it. -/
/- Rows of bytes: what they are made of, what is read of them, pieces of them, copies. -/
/- errors.Is over two errors of the make of errors.New: true of one pointer, false of two. -/
import Derived.Test.YthhnlkbjpahjeaaGreatDoorU01
import Derived.Test.YthhnlkbjpahjeaaGreatDoorProg
import Derived.OpenShut
import Derived.Carry
import Derived.WideShapes
import Derived.Laws.IdiomStrings
import Derived.OwnWalk
import Derived.Shelf.Bytes.SlSmallAll
import Derived.WalkKit
import Derived.WalkLawsBesides
import Derived.LaidEql
import Derived.Stop.Asserts
import Derived.RowKitTokens
section
namespace Go.Proofs.YthhnlkbjpahjeaaGreatDoor
open Go.RowKit

/-- The slice v reads as cs. -/
def AR (w : World) (v : Value) (cs : List Value) : Prop := ∃ A cap, v = .slice A cs.length cap ∧ cs.length ≤ cap ∧ cap ≤ maxLen ∧ (A = none → cap = 0) ∧
  (cs ≠ [] → ∃ g o, A = some ⟨g, o, none⟩ ∧ g < w.heap.size ∧ ∀ j u, cs[j]? = some u → w.cell? ⟨g, o + j, none⟩ = some u)
section
variable {w w' : World} {v : Value} {cs : List Value}
theorem AR.keep {S : Nat → Prop} (h : AR w v cs) (hm : Mvs S w w') (hS : ∀ A n c, v = .slice (some A) n c → ¬ S A.block) : AR w' v cs := by
  obtain ⟨A, cap, rfl, h1, h2, h3, h4⟩ := h
  refine ⟨A, cap, rfl, h1, h2, h3, fun hc => ?_⟩
  obtain ⟨g, o, rfl, hg, h5⟩ := h4 hc
  refine ⟨g, o, rfl, Nat.lt_of_lt_of_le hg hm.size, fun j u hu => ?_⟩
  rw [hm.cell (a := ⟨g, o + j, none⟩) hg (hS ⟨g, o, none⟩ _ _ rfl)]
  exact h5 j u hu
theorem AR.below (h : AR w v cs) (hb : Below w.heap.size w w') : AR w' v cs := h.keep (S := fun _ => False) (Mvs.of_below hb) (fun _ _ _ _ c => c)
theorem AR.src {P : Program} {t e : TypeId} (ht : P.underlying t = some (.slice e)) (h : AR w v cs) (h1 : ∀ u ∈ cs, u.oneCell' = true) : Src P 1 t v cs.length cs w := by
  obtain ⟨A, cap, rfl, hl, hm, hn, h4⟩ := h
  by_cases hc : cs = []
  · subst hc
    cases A with
    | none => exact Src.ofNil w ht cap
    | some a => exact Src.ofSlice w ht a 0 cap [] rfl (fun j u hu => by cases hu) h1
  · obtain ⟨g, o, rfl, hg, h5⟩ := h4 hc
    exact Src.ofSlice w ht ⟨g, o, none⟩ cs.length cap cs (by simp) (fun j u hu => by rw [Go.WideShapes.add_plain]; exact h5 j u hu) h1
/-- A stretch of it. -/
theorem AR.mid {P : Program} {t e : TypeId} (ht : P.underlying t = some (.slice e)) {a : Addr} {n cap i k : Nat} (h : AR w (.slice (some a) n cap) cs) (h1 : ∀ u ∈ cs, u.oneCell' = true) (hik : i ≤ k) (hk : k ≤ cs.length) (d : Addr) (hd : i < cap → d = a.add i) :
    Src P 1 t (.slice (some d) (k - i) (cap - i)) (k - i) ((cs.drop i).take (k - i)) w := by
  obtain ⟨A, cap', hv, hl, hm, hn, h4⟩ := h
  simp only [Value.slice.injEq] at hv
  obtain ⟨rfl, rfl, rfl⟩ := hv
  refine Src.ofSlice w ht d (k - i) (cap - i) _ (by simp; omega) (fun j u hu => ?_) (fun u hu => h1 u (List.mem_of_mem_drop (List.mem_of_mem_take hu)))
  have hj := (List.getElem?_eq_some_iff.1 hu).1
  simp only [List.length_take, List.length_drop] at hj
  rw [List.getElem?_take_of_lt (by omega), List.getElem?_drop] at hu
  have hc : cs ≠ [] := fun e => by rw [e] at hk; simp at hk; omega
  obtain ⟨g, o, hA, hg, h5⟩ := h4 hc
  cases hA
  rw [hd (by omega), Go.WideShapes.add_plain, Go.WideShapes.add_plain, Nat.add_assoc]
  exact h5 _ u hu
end
section
variable {H : Type} {enc : TypeId × Value → H}
/-- A slice of numbers, opened. -/
theorem open_row_ints {P : Program} {t e : TypeId} {k : IntKind} (ht : P.underlying t = some (.slice e)) (he : P.underlying e = some (.int k)) (hc : P.cellsOf e = 1) {W : World} {base : Nat} {v : Value} {d : DataW H} {p : List MemPlace}
    (hval : Value.okWide P W .any base t v) (h : DataW.Trod enc P W 0 (fun _ => true) true t v d p) (hlt : ∀ x ∈ p, x.block < W.heap.size) : ∃ zs : List Int, AR W v (zs.map (Value.int k)) ∧ ∀ z ∈ zs, (Lit.int k z).wf = true := by
  obtain ⟨a1, len, cap, rfl⟩ := Go.WideShapes.okWide_slice ht hval
  obtain ⟨fuel, hf⟩ := h
  rcases Go.ChangeShapes.open_ints ht he hc hf with ⟨hcs, hx⟩ | ⟨a, len', cap', zs, hcs, _, hl, hm, hz, hx, hcell, hwz⟩
  · simp [Value.cells] at hcs
    obtain ⟨rfl, rfl, rfl⟩ := hcs
    exact ⟨[], ⟨none, 0, rfl, Nat.le_refl _, Nat.zero_le _, fun _ => rfl, fun h => absurd rfl h⟩, fun _ h => by cases h⟩
  · simp [Value.cells] at hcs
    obtain ⟨rfl, rfl, rfl⟩ := hcs
    simp only [Prod.mk.injEq] at hx
    obtain ⟨rfl, rfl⟩ := hx
    simp only [if_true] at hz
    have hlen : ((zs.take len).map (Value.int k)).length = len := by simp; omega
    refine ⟨zs.take len, ⟨some a, cap, by rw [hlen], by omega, hm, (fun h => by simp at h), fun hne => ?_⟩, fun z hz' => hwz z (List.mem_of_mem_take hz')⟩
    have hpos : 0 < len := by
      rcases Nat.eq_zero_or_pos len with h0 | h0
      · subst h0; simp at hne
      · exact h0
    obtain ⟨ab, ao, spot⟩ := a
    have hspot : spot = none := by simpa [Addr.add] using World.cell?_spot (hcell 0 (by omega))
    subst hspot
    refine ⟨ab, ao, rfl, hlt (.cell ab ao) (MemPlace.mem_row.2 ⟨0, by omega, by simp⟩), fun j u hu => ?_⟩
    have hj := (List.getElem?_eq_some_iff.1 hu).1
    rw [hlen] at hj
    have := hcell j (by omega)
    rw [Go.WideShapes.add_plain] at this
    rw [this, ← hu]
    simp [List.getElem?_take_of_lt hj, List.getD_eq_getElem?_getD, List.getElem?_eq_getElem (show j < zs.length by omega)]
end
end Go.Proofs.YthhnlkbjpahjeaaGreatDoor

end
section
namespace Go.Proofs.YthhnlkbjpahjeaaGreatDoor
open Go.RowKit

theorem hide {p : Prop} (h : p) : Hid p := h
/-- A byte as a cell holds it. -/
def bv (b : UInt8) : Value := .int .u8 (b.toNat : Int)
theorem byteInfo : (Tryz.prog.info? 5).map (fun i => (i.zero, i.size, i.bytes)) = some (some (.int .u8 0), 1, 1) := by kernel_rfl
theorem info_parts {i : Option TypeInfo} {z : Value} {n m : Nat} (h : i.map (fun i => (i.zero, i.size, i.bytes)) = some (some z, n, m)) : ∃ i0, i = some i0 ∧ i0.zero = some z ∧ i0.size = n ∧ i0.bytes = m := by
  obtain ⟨i0, hi, h⟩ := Option.map_eq_some_iff.1 h
  simp only [Prod.mk.injEq] at h
  exact ⟨i0, hi, h⟩
theorem bv_oneCell (ds : List UInt8) : ∀ u ∈ ds.map bv, u.oneCell' = true := by
  intro u hu
  obtain ⟨b, _, rfl⟩ := List.mem_map.1 hu
  rfl
theorem below_mvs {B : Nat} {w x y : World} {S : Nat → Prop} (h : Below B w x) (hm : Mvs S x y) (hs : ∀ k, k < B → ¬ S k) (hB : B ≤ w.heap.size) : Below B w y := h.trans (hm.below hs (Nat.le_trans hB h.size))
theorem below_drewN (w : World) (n : Nat) : Below w.heap.size w (w.drewN n) := ⟨rfl, rfl, rfl, Nat.le_refl _, fun _ _ => rfl⟩
theorem bytes_of {zs : List Int} (h : ∀ z ∈ zs, (Lit.int .u8 z).wf = true) : ∃ bs : List UInt8, zs.map (Value.int .u8) = bs.map bv := by
  refine ⟨zs.map fun z => UInt8.ofNat z.toNat, ?_⟩
  rw [List.map_map]
  apply List.map_congr_left
  intro z hz
  have := h z hz
  simp [Lit.wf, IntKind.min, IntKind.max, IntKind.signed, IntKind.bits] at this
  show Value.int .u8 z = .int .u8 _
  congr 1
  have : (UInt8.ofNat z.toNat).toNat = z.toNat := by
    rw [UInt8.toNat_ofNat']
    omega
  rw [this]
  omega

/-- The slice v reads as the bytes bs. -/
abbrev BR (w : World) (v : Value) (bs : List UInt8) : Prop := AR w v (bs.map bv)
section
variable {w w' : World} {v : Value} {bs : List UInt8}
theorem BR.form (h : BR w v bs) : ∃ A c, v = .slice A bs.length c ∧ bs.length ≤ c ∧ c ≤ maxLen ∧ (A = none → c = 0) := by
  obtain ⟨A, c, h1, h2, h3, h4, _⟩ := h
  rw [List.length_map] at h1 h2
  exact ⟨A, c, h1, h2, h3, h4⟩
theorem BR.at {A : Option Addr} {c : Nat} (h : BR w (.slice A bs.length c) bs) (h0 : bs ≠ []) : ∃ g o, A = some ⟨g, o, none⟩ ∧ g < w.heap.size ∧ bs.length ≤ c ∧ ∀ i (hi : i < bs.length), w.cell? ⟨g, o + i, none⟩ = some (.int .u8 (bs[i].toNat : Int)) := by
  obtain ⟨A', c', hv, h2, h3, h4, h5⟩ := h
  simp only [Value.slice.injEq] at hv
  obtain ⟨rfl, _, rfl⟩ := hv
  obtain ⟨g, o, rfl, hg, h6⟩ := h5 (by simpa using h0)
  exact ⟨g, o, rfl, hg, by simpa using h2, fun i hi => h6 i _ (by simp [List.getElem?_eq_getElem hi, bv])⟩
theorem BR.src (h : BR w v bs) : Src Tryz.prog 1 46 v bs.length (bs.map bv) w := by
  have := AR.src (P := Tryz.prog) Tryz.underlying46 h (bv_oneCell bs)
  rwa [List.length_map] at this
theorem BR.convert (h : BR w v bs) : (convert 46 9 v).run Tryz.prog w = .ok (.string ⟨bs.toArray⟩) w := by
  obtain ⟨A, cap, rfl, h1, h2, h3, h4⟩ := h
  rw [List.length_map]
  by_cases hb : bs = []
  · subst hb
    exact run_convert_bytes_zero w 46 5 Tryz.underlying46 Tryz.underlying5 A cap 9 Tryz.underlying9
  · obtain ⟨g, o, rfl, hg, h5⟩ := h4 (by simpa using hb)
    exact run_convert_bytes_back (P := Tryz.prog) w 46 9 5 ⟨g, o, none⟩ cap bs Tryz.underlying46 Tryz.underlying5 Tryz.underlying9 (fun j hj => by
      rw [Go.WideShapes.add_plain]
      exact h5 j (bv bs[j]) (by simp [List.getElem?_eq_getElem hj]))
theorem BR.below (h : BR w v bs) (hb : Below w.heap.size w w') : BR w' v bs := AR.below h hb
/-- A row of one's own is read as it stands. -/
theorem Rw.br {G : Option Nat} (h : Rw w 1 v bs.length (bs.map bv) G) : BR w v bs := by
  rcases h.2 with ⟨rfl, h0, _⟩ | ⟨g, o, cap, rfl, rfl, h1, h2, h3, h4, h5⟩
  · have : bs = [] := List.length_eq_zero_iff.1 h0
    subst this
    exact ⟨none, 0, rfl, Nat.le_refl _, Nat.zero_le _, fun _ => rfl, fun h => absurd rfl h⟩
  · exact ⟨some ⟨g, o, none⟩, cap, by rw [List.length_map], by simpa using h1, h2, (fun h => by cases h), fun _ => ⟨g, o, rfl, h3, h4⟩⟩
/-- s[i:k]. -/
theorem BR.mid {A : Option Addr} {c i k : Nat} (h : BR w (.slice A bs.length c) bs) (hik : i ≤ k) (hk : k ≤ bs.length) :
    (c = i → BR w (.slice A (k - i) 0) ((bs.drop i).take (k - i))) ∧ (¬ c = i → BR w (.slice (Option.map (fun x => x.add i) A) (k - i) (c - i)) ((bs.drop i).take (k - i))) := by
  obtain ⟨A', c', hv, h2, h3, h4, h5⟩ := h
  simp only [Value.slice.injEq] at hv
  obtain ⟨rfl, _, rfl⟩ := hv
  rw [List.length_map] at h2
  have hl : (((bs.drop i).take (k - i)).map bv).length = k - i := by simp; omega
  refine ⟨fun e => ?_, fun e => ?_⟩
  · have h0 : k - i = 0 := by omega
    refine ⟨A, 0, by rw [hl], by omega, by omega, fun _ => rfl, fun hne => ?_⟩
    rw [h0] at hne
    simp at hne
  · refine ⟨A.map (fun x => x.add i), c - i, by rw [hl], by omega, by omega, fun hA => ?_, fun hne => ?_⟩
    · have : A = none := by simpa using hA
      have := h4 this
      omega
    · have hb : bs.map bv ≠ [] := by
        intro e
        have : bs = [] := by simpa using e
        subst this
        simp at hne
      obtain ⟨g, o, rfl, hg, h6⟩ := h5 hb
      refine ⟨g, o + i, by simp [Go.WideShapes.add_plain], hg, fun j u hu => ?_⟩
      have hj := (List.getElem?_eq_some_iff.1 hu).1
      rw [hl] at hj
      rw [List.map_take, List.map_drop, List.getElem?_take_of_lt hj, List.getElem?_drop] at hu
      rw [Nat.add_assoc]
      exact h6 _ u hu
end
/-- A literal of bytes, made just now. -/
theorem src_lit {w : World} {C : Array Value} {fr : Nat × Nat} (bs : List UInt8) {n c : Nat} (hC : C = (bs.map bv).toArray) (hn : n = bs.length) : Src Tryz.prog 1 46 (.slice (some ⟨w.heap.size, 0, none⟩) n c) bs.length (bs.map bv) (w.alloc (.cells C 5 fr)) := by
  subst hC hn
  refine Src.ofSlice _ Tryz.underlying46 ⟨w.heap.size, 0, none⟩ bs.length c (bs.map bv) (by simp) (fun j u hu => ?_) (bv_oneCell bs)
  rw [Go.WideShapes.add_plain, Nat.zero_add, World.cell?_alloc_mark, List.getElem?_toArray, hu]
/-- The bytes bs, in a row of this call's own. -/
def Bts (w wr : World) (v : Value) (bs : List UInt8) : Prop := Below w.heap.size w wr ∧ ∃ G, Rw wr 1 v bs.length (bs.map bv) G ∧ ∀ g, G = some g → w.heap.size ≤ g
section
variable {w wr w1 : World} {v : Value} {bs : List UInt8}
theorem Bts.br (h : Bts w wr v bs) : BR wr v bs := by
  obtain ⟨_, G, hr, _⟩ := h
  exact hr.br
theorem Bts.new (w : World) {fr : Nat × Nat} (bs : List UInt8) {C : Array Value} (hC : C = (bs.map bv).toArray) (hfr : fr = (0, 0)) (hm : bs.length ≤ 1000000) : Bts w (w.alloc (.cells C 5 fr)) (.slice (some ⟨w.heap.size, 0, none⟩) bs.length bs.length) bs := by
  subst hC hfr
  refine ⟨(Below.refl _ _).alloc (Nat.le_refl _) _, some w.heap.size, Rw.new (e := 5) (bs.map bv) [] ?_ (by simp) (by simp) (Nat.le_refl _) (by simp only [maxLen]; omega), fun g hg => by cases hg; exact Nat.le_refl _⟩
  rw [List.append_nil]
  exact Blk.new _ _ _
theorem Bts.grow {v1 : Value} {news : List UInt8} {G G1 : Option Nat} {m : Nat} {cs : List Value} (hb : Below w.heap.size w wr) (hg : ∀ g, G = some g → w.heap.size ≤ g) (hm0 : m = news.length) (hcs : cs = news.map bv)
    (hr : Rw w1 1 v1 (bs.length + m) (bs.map bv ++ cs) G1) (hm : Mvs (fun k => some k = G) wr w1) (hG : G1 = G ∨ G1 = some wr.heap.size) : Bts w w1 v1 (bs ++ news) := by
  subst hm0 hcs
  refine ⟨below_mvs hb hm (fun k hk e => by have := hg k e.symm; omega) (Nat.le_refl _), G1, ?_, ?_⟩
  · rw [List.length_append, List.map_append]
    exact hr
  · rintro g rfl
    rcases hG with h | h
    · exact hg g h.symm
    · cases h
      exact hb.size
theorem Bts.weaken (h : Bts wr w1 v bs) (hb : Below w.heap.size w wr) : Bts w w1 v bs := by
  obtain ⟨h1, G, hr, hg⟩ := h
  exact ⟨hb.trans (h1.mono hb.size), G, hr, fun g e => Nat.le_trans hb.size (hg g e)⟩
theorem Bts.then (h : Bts w wr v bs) (hb : Below wr.heap.size wr w1) : Bts w w1 v bs := by
  obtain ⟨h1, G, hr, hg⟩ := h
  exact ⟨h1.trans (hb.mono h1.size), G, hr.keep (S := fun _ => False) (Mvs.of_below hb) (fun _ _ c => c), hg⟩
end
section
variable {w wr : World} {v : Value} {bs : List UInt8}
theorem Bts.parts (h : Bts w wr v bs) : ∃ G A c, v = .slice A bs.length c ∧ Hid (Rw wr 1 (.slice A bs.length c) bs.length (bs.map bv) G) ∧ Hid (Below w.heap.size w wr) ∧ Hid (∀ g, G = some g → w.heap.size ≤ g) := by
  obtain ⟨hb, G, hr, hg⟩ := h
  obtain ⟨A, c, rfl⟩ := hr.form
  exact ⟨G, A, c, rfl, hr, hb, hg⟩
end
/-- Bytes put behind none, in a row made just now. -/
theorem Bts.first {w w2 w3 : World} {v : Value} {xs : List UInt8} {G : Option Nat} (hb : Below w.heap.size w w2) (hr : Rw w3 1 v xs.length (xs.map bv) G) (hm : Mvs (fun k => k = w2.heap.size) (w2.alloc (.cells #[] 5)) w3) (hg : G = some w2.heap.size ∨ G = some (w2.heap.size + 1)) : Bts w w3 v xs := by
  refine ⟨below_mvs (hb.alloc hb.size _) hm (fun k hk e => by have := hb.size; omega) (Nat.le_refl _), G, hr, ?_⟩
  have := hb.size
  rintro g rfl
  rcases hg with h | h
  · cases h
    exact this
  · cases h
    omega
theorem bts_none (w : World) : Bts w (w.alloc (.cells #[] 5)) (.slice (some ⟨w.heap.size, 0, none⟩) 0 0) [] := Bts.new w [] rfl rfl (by simp)
end Go.Proofs.YthhnlkbjpahjeaaGreatDoor

end
section
namespace Go.Proofs.YthhnlkbjpahjeaaGreatDoor
open Go.RowKit Go.Extern.Stop Go.Stop Go.Extern

theorem isTypeOf (v : Value) (w : World) : (Extern.ReflectliteType.typeOf #[.iface 191 v]).run Tryz.prog w = .ok (.iface 127 (.agg #[.pointer (some ⟨13, 191, none⟩)])) w := by kernel_rfl
theorem isComparable : ∃ ext, find Tryz.f175 = some ext ∧ ∀ w, (ext #[.agg #[.pointer (some ⟨13, 191, none⟩)]]).run Tryz.prog w = .ok (.bool true) w :=
  ⟨(find Tryz.f175).get (by kernel_rfl), (Option.some_get _).symm, fun _ => by kernel_rfl⟩
theorem isMethodComparable (v : Value) (w : World) : (Go.method 326 127 v "Comparable").run Tryz.prog w = .ok (175, v) w := by kernel_rfl
theorem isComp : (Tryz.prog.info? 191).map (·.comparable) = some true := by kernel_rfl
theorem isSize : (Tryz.prog.info? 215).map (·.size) = some 1 := by kernel_rfl
theorem noIsE (v : Value) (xT : TypeId) (w : World) : (Instr.typeAssert (.iface 191 v) xT 129 true).run Tryz.prog w = .ok (.tuple #[.nilIface, .bool false]) w := run_typeAssert_lacksB Tryz.underlying129 (by kernel_rfl) (by kernel_rfl) v xT w
theorem noUnwrapE (v : Value) (xT : TypeId) (w : World) : (Instr.typeAssert (.iface 191 v) xT 132 true).run Tryz.prog w = .ok (.tuple #[.nilIface, .bool false]) w := run_typeAssert_lacksB Tryz.underlying132 (by kernel_rfl) (by kernel_rfl) v xT w
theorem noUnwrapsE (v : Value) (xT : TypeId) (w : World) : (Instr.typeAssert (.iface 191 v) xT 133 true).run Tryz.prog w = .ok (.tuple #[.nilIface, .bool false]) w := run_typeAssert_lacksB Tryz.underlying133 (by kernel_rfl) (by kernel_rfl) v xT w

set_option maxRecDepth 10000 in
set_option maxHeartbeats 1000000 in
theorem is_same (a : Addr) (w : World) :
    Calls Tryz.prog 28 #[.iface 191 (.pointer (some a)), .iface 191 (.pointer (some a))] w fun e w' => e = .returned (.bool true) ∧ w' = w := by
  obtain ⟨i, hi, hcmp⟩ := Option.map_eq_some_iff.1 isComp
  obtain ⟨j, hj, hjs⟩ := Option.map_eq_some_iff.1 isSize
  have h8 := @run_callFunc_extern Tryz.prog 53 _ Extern.ReflectliteType.typeOf Tryz.func53 (by kernel_rfl) (by kernel_rfl) (by kernel_rfl) (by kernel_rfl)
  obtain ⟨ext, hext, cT⟩ := isComparable
  have h32 := @run_callFunc_extern Tryz.prog 175 _ ext Tryz.func175 (by kernel_rfl) (by kernel_rfl) (by kernel_rfl) hext
  clear hext
  have tT := isTypeOf
  have mR := isMethodComparable
  have heq := run_eql_iface_ptr_same (P := Tryz.prog) w a Tryz.underlying29 Tryz.underlying191 hi hcmp hj
  go_enter Tryz.func28, Tryz.ntmps28
  go_wp2
  refine wp_loop_rounds 1 ?_
  rw [rounds_succ]
  go_wp2
  go_ret
  exact ⟨rfl, rfl⟩

set_option maxRecDepth 10000 in
set_option maxHeartbeats 1000000 in
theorem is_other (a b : Addr) (ca cb : Array Value) (ta tb : TypeId) (w : World) (hne : a ≠ b) (ha : w.heap[a.block]? = some (.cells ca ta (0, 0))) (hb : w.heap[b.block]? = some (.cells cb tb (0, 0))) :
    Calls Tryz.prog 28 #[.iface 191 (.pointer (some a)), .iface 191 (.pointer (some b))] w fun e w' => e = .returned (.bool false) ∧ w' = w := by
  obtain ⟨i, hi, hcmp⟩ := Option.map_eq_some_iff.1 isComp
  obtain ⟨j, hj, hjs⟩ := Option.map_eq_some_iff.1 isSize
  have h8 := @run_callFunc_extern Tryz.prog 53 _ Extern.ReflectliteType.typeOf Tryz.func53 (by kernel_rfl) (by kernel_rfl) (by kernel_rfl) (by kernel_rfl)
  obtain ⟨ext, hext, cT⟩ := isComparable
  have h32 := @run_callFunc_extern Tryz.prog 175 _ ext Tryz.func175 (by kernel_rfl) (by kernel_rfl) (by kernel_rfl) hext
  clear hext
  have tT := isTypeOf
  have mR := isMethodComparable
  have nE := noIsE
  have uE := noUnwrapE
  have vE := noUnwrapsE
  have heq := run_eql_iface_ptr_other (P := Tryz.prog) w Tryz.underlying29 Tryz.underlying191 hi hcmp hj (by rw [hjs]; decide) hne ha hb
  go_enter Tryz.func28, Tryz.ntmps28
  go_wp2
  refine wp_loop_rounds 1 ?_
  rw [rounds_succ]
  go_wp2
  go_ret
  exact ⟨rfl, rfl⟩
end Go.Proofs.YthhnlkbjpahjeaaGreatDoor

end
