/- The document's Big, with its value. -/
/- The document's words of a content type's text. -/
import Derived.Test.YtegplihhbdmnbaaGreatDoorU41
import Derived.Test.YtegplihhbdmnbaaGreatDoorU12
import Derived.Test.YtegplihhbdmnbaaGreatDoorU02
import Derived.Test.YtegplihhbdmnbaaGreatDoorU19
import Derived.Shelf.Bytes.SlSmallAll
section
set_option linter.unusedSimpArgs false
set_option linter.unusedVariables false
namespace Go.Proofs.YtegplihhbdmnbaaGreatDoor
open Go.RowKit Go.Shelf
def BigVOut (t : Bool) (w : World) (e : Ending) (w' : World) : Prop := e = .returned (.bool t) ∧ Below w.heap.size w w'
set_option maxRecDepth 20000 in
set_option maxHeartbeats 1000000 in
theorem bigV_any {n : Nat} (p : Part) (v : Value) (w : World) (hp : PA n (fun g => 0 ≤ g) w v p) (hc : CntU p) : Calls Tryz.prog 11 #[v, .int .i64 0] w (BigVOut (decide (2000 < szP 0 0 p)) w) := by
  obtain ⟨Ap, cp, Ak, ck, rfl⟩ := hp.form
  obtain ⟨n1, hn1⟩ : ∃ n, p.h.params.length = n := ⟨_, rfl⟩
  obtain ⟨n2, hn2⟩ : ∃ n, p.kids.length = n := ⟨_, rfl⟩
  obtain ⟨H, hH⟩ : ∃ H, p.h = H := ⟨_, rfl⟩
  rw [hn1, hn2, hH] at hp ⊢
  have hA := (Below.refl w.heap.size w).alloc (Nat.le_refl _) (.cells (phA H (.slice Ap n1 cp) (.slice Ak n2 ck)) 40)
  have hz : (w.alloc (.cells (phA H (.slice Ap n1 cp) (.slice Ak n2 ck)) 40)).heap.size = w.heap.size + 1 := World.size_alloc _ _
  have hK := Blk.new w (phA H (.slice Ap n1 cp) (.slice Ak n2 ck)) 40
  obtain ⟨W1, hW1⟩ : ∃ W1, w.alloc (.cells (phA H (.slice Ap n1 cp) (.slice Ak n2 ck)) 40) = W1 := ⟨_, rfl⟩
  rw [hW1] at hA hz hK
  have hA2 := hA.alloc hA.size (.cells #[.int .i64 0] 3)
  have hB := Blk.new W1 #[.int .i64 0] 3
  have hK2 := hK.alloc (.cells #[.int .i64 0] 3)
  have HC := hide (sizeV_any n p _ W1.heap.size 0 0 _ ((hp.mono (S' := fun g => g ≠ W1.heap.size) (fun g hg _ => by omega)).below hA2) hc (by omega) (by omega) hB)
  obtain ⟨r, hr⟩ : ∃ r, szP 0 0 p = r := ⟨_, rfl⟩
  rw [hr] at HC ⊢
  clear hr
  obtain ⟨d0, d1, d2, d3, d4, d5, d6, d7, d8, d9, d10⟩ := blk11 hK2
  have HA2 := hide hA2
  have HZ := hide hz
  unfold phA at hW1 HC
  clear hp hc hn1 hn2 hH hA hK hA2 hB hK2 hz
  go_enter Tryz.func11, Tryz.ntmps11
  unfold phA
  go_wp2_with fail
  refine HC.out.mono ?_
  rintro e w3 ⟨z, rfl, rfl, hb3, hm3⟩
  have HB3 := hide (HA2.out.trans (hm3.below (B := w.heap.size) (fun k hk e => by have := HZ.out; omega) HA2.out.size))
  clear hb3 hm3
  go_wp2
  go_ret
  refine ⟨?_, HB3.out⟩
  show Ending.returned (Value.bool _) = Ending.returned (Value.bool _)
  congr 2
  rw [Bool.eq_iff_iff]
  simp only [decide_eq_true_eq]
  omega
end Go.Proofs.YtegplihhbdmnbaaGreatDoor

end
section
namespace Go.Proofs.YtegplihhbdmnbaaGreatDoor
open Go.RowKit Go.Shelf
theorem sp_cases (c : UInt8) : (specL.contains c = true ∧ (c = 40 ∨ c = 41 ∨ c = 60 ∨ c = 62 ∨ c = 64 ∨ c = 44 ∨ c = 59 ∨ c = 58 ∨ c = 92 ∨ c = 34 ∨ c = 47 ∨ c = 91 ∨ c = 93 ∨ c = 63 ∨ c = 61)) ∨ (specL.contains c = false ∧ ((c.toNat : Int) == 40) = false ∧ ((c.toNat : Int) == 41) = false ∧ ((c.toNat : Int) == 60) = false ∧ ((c.toNat : Int) == 62) = false ∧ ((c.toNat : Int) == 64) = false ∧ ((c.toNat : Int) == 44) = false ∧ ((c.toNat : Int) == 59) = false ∧ ((c.toNat : Int) == 58) = false ∧ ((c.toNat : Int) == 92) = false ∧ ((c.toNat : Int) == 34) = false ∧ ((c.toNat : Int) == 47) = false ∧ ((c.toNat : Int) == 91) = false ∧ ((c.toNat : Int) == 93) = false ∧ ((c.toNat : Int) == 63) = false ∧ ((c.toNat : Int) == 61) = false) := by
  unfold specL
  cases h : ([40, 41, 60, 62, 64, 44, 59, 58, 92, 34, 47, 91, 93, 63, 61] : List UInt8).contains c with
  | true =>
    left
    refine ⟨rfl, ?_⟩
    simpa using h
  | false =>
    right
    refine ⟨rfl, ?_⟩
    simp only [List.contains_eq_mem, List.mem_cons, List.not_mem_nil, or_false, decide_eq_false_iff_not, not_or] at h
    have key : ∀ (d : UInt8) (k : Int), d.toNat = k → ¬ c = d → ((c.toNat : Int) == k) = false := by
      intro d k hk hne
      rw [beq_eq_false_iff_ne]
      intro e
      exact hne (UInt8.toNat_inj.1 (by omega))
    obtain ⟨q0, q1, q2, q3, q4, q5, q6, q7, q8, q9, q10, q11, q12, q13, q14⟩ := h
    exact ⟨key 40 _ rfl q0, key 41 _ rfl q1, key 60 _ rfl q2, key 62 _ rfl q3, key 64 _ rfl q4, key 44 _ rfl q5, key 59 _ rfl q6, key 58 _ rfl q7, key 92 _ rfl q8, key 34 _ rfl q9, key 47 _ rfl q10, key 91 _ rfl q11, key 93 _ rfl q12, key 63 _ rfl q13, key 61 _ rfl q14⟩
theorem callsRet {P : Program} {f : FuncId} {args : Array Value} {w : World} {v : Value} {R : Ending → World → Prop} (h : Calls P f args w fun e w' => e = .returned v ∧ w' = w) (hr : R (.returned v) w) : Calls P f args w R :=
  h.mono fun e w' ⟨h1, h2⟩ => by subst h1; subst h2; exact hr
def Wd.cs (p : Wd) : List Value := [.int .i64 (p.kind : Nat), .string ⟨p.text.toArray⟩]
theorem wd_len (p : Wd) : p.cs.length = 2 := rfl
/-- A byte as a cell holds it. -/
def bvM (b : UInt8) : Value := .int .u8 (b.toNat : Int)
theorem src_by {w : World} (x : UInt8) {k : Nat} : Src Tryz.prog 1 70 (.slice (some ⟨w.heap.size, 0, none⟩) 1 k) 1 [bvM x] (w.alloc (.cells #[.int .u8 (x.toNat : Int)] 5)) := by
  refine Src.ofSlice _ Tryz.underlying70 ⟨w.heap.size, 0, none⟩ 1 k _ (by simp) (fun j u hu => ?_) (by simp [Value.oneCell', bvM])
  rw [Go.WideShapes.add_plain, Nat.zero_add, World.cell?_alloc_mark]
  rw [← hu, ← List.getElem?_toArray]
  rfl
theorem byInfo : (Tryz.prog.info? 5).map (fun i => (i.zero, i.size, i.bytes)) = some (some (.int .u8 0), 1, 1) := by kernel_rfl
theorem convertM {w : World} {v : Value} {bs : List UInt8} {G : Option Nat} (h : Rw w 1 v bs.length (bs.map bvM) G) : (convert 70 9 v).run Tryz.prog w = .ok (.string ⟨bs.toArray⟩) w := by
  rcases h.2 with ⟨rfl, h0, _⟩ | ⟨g, o, cap, _, rfl, _, _, _, h4, _⟩
  · have : bs = [] := List.length_eq_zero_iff.1 h0
    subst this
    exact run_convert_bytes_zero w 70 5 Tryz.underlying70 Tryz.underlying5 none 0 9 Tryz.underlying9
  · exact run_convert_bytes_back (P := Tryz.prog) w 70 9 5 ⟨g, o, none⟩ cap bs Tryz.underlying70 Tryz.underlying5 Tryz.underlying9 (fun j hj => by
      rw [Go.WideShapes.add_plain]
      exact h4 j _ (by rw [List.getElem?_map, List.getElem?_eq_getElem hj]; rfl))
/-- What words answers. -/
def WdOut (l : List UInt8) (w : World) (e : Ending) (w' : World) : Prop := Below w.heap.size w w' ∧ match wds l with
  | some ws => ∃ v, e = .returned (.tuple #[v, .bool true]) ∧ RowOf Wd.cs 2 w.heap.size w' v ws
  | none => e = .returned (.tuple #[.slice none 0 0, .bool false])
theorem wdNo {l : List UInt8} {w w' : World} (h : wds l = none) (hb : Below w.heap.size w w') : WdOut l w (.returned (.tuple #[.slice none 0 0, .bool false])) w' := by
  unfold WdOut
  rw [h]
  exact ⟨hb, rfl⟩
theorem wdYes {l : List UInt8} {w w' : World} {v : Value} {ws : List Wd} (h : wds l = some ws) (hb : Below w.heap.size w w') (hr : RowOf Wd.cs 2 w.heap.size w' v ws) : WdOut l w (.returned (.tuple #[v, .bool true])) w' := by
  unfold WdOut
  rw [h]
  exact ⟨hb, v, rfl, hr⟩
theorem wds_shift {r : List UInt8} {ws : List Wd} {x : Wd} {WS : Option (List Wd)} (h : ((wds r).map (x :: ·)).map (ws ++ ·) = WS) : (wds r).map ((ws ++ [x]) ++ ·) = WS := by
  rw [← h]
  cases wds r with
  | none => rfl
  | some l => simp
theorem quo_shift {r : List UInt8} {ts : List UInt8} {c : UInt8} {Q : Option (List UInt8 × List UInt8)} (h : ((quoS false r).map fun x => (c :: x.1, x.2)).map (fun x => (ts ++ x.1, x.2)) = Q) : (quoS false r).map (fun x => ((ts ++ [c]) ++ x.1, x.2)) = Q := by
  rw [← h]
  cases quoS false r with
  | none => rfl
  | some x => simp
theorem atB (l : List UInt8) (i : Nat) (hi : i < l.length) : ∃ c, l[i] = c ∧ l.drop i = c :: l.drop (i + 1) ∧ ∀ h : i < (⟨l.toArray⟩ : ByteArray).size, (⟨l.toArray⟩ : ByteArray)[i]'h = c := ⟨_, rfl, List.drop_eq_getElem_cons hi, fun _ => rfl⟩
theorem takeW_step {l : List UInt8} {i k : Nat} {c : UInt8} (hd : l.drop k = c :: l.drop (k + 1)) (hc : tokB c = true) (h : (k - i) + ((l.drop k).takeWhile tokB).length = ((l.drop i).takeWhile tokB).length) (hik : i ≤ k) : (k + 1 - i) + ((l.drop (k + 1)).takeWhile tokB).length = ((l.drop i).takeWhile tokB).length := by
  rw [hd, List.takeWhile_cons_of_pos hc, List.length_cons] at h
  omega
theorem twSplit {t d r : List UInt8} (h : t ++ d = r) : r.take t.length = t ∧ r.drop t.length = d := by
  subst h
  simp
theorem takeW_end {l : List UInt8} {i k : Nat} (h : (k - i) = ((l.drop i).takeWhile tokB).length) (hik : i ≤ k) : (l.drop i).take (k - i) = (l.drop i).takeWhile tokB ∧ l.drop k = (l.drop i).dropWhile tokB := by
  have happ := List.takeWhile_append_dropWhile (p := tokB) (l := l.drop i)
  have e : l.drop k = (l.drop i).drop (k - i) := by rw [List.drop_drop]; congr 1; omega
  rw [e, h]
  exact twSplit happ

end Go.Proofs.YtegplihhbdmnbaaGreatDoor

end
