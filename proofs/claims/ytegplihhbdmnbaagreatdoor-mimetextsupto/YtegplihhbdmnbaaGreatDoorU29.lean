/- write of package mime. -/
import Derived.Test.YtegplihhbdmnbaaGreatDoorU28
set_option linter.unusedSimpArgs false
set_option linter.unusedVariables false
namespace Go.Proofs.YtegplihhbdmnbaaGreatDoor
open Go.RowKit Go.Shelf
/-- A part all of which can be told. -/
inductive OkP : Part → Prop
  | mk (h : PH) (ks : List Part) : OkH h → (∀ k ∈ ks, OkP k) → OkP (.mk h ks)
theorem OkP.h {h : PH} {ks : List Part} (k : OkP (.mk h ks)) : OkH h := by
  cases k with
  | mk _ _ a _ => exact a
theorem OkP.kids {h : PH} {ks : List Part} (k : OkP (.mk h ks)) : ∀ x ∈ ks, OkP x := by
  cases k with
  | mk _ _ _ b => exact b
theorem TabM.belowB {B : Nat} {w w' : World} (h : TabM w) (hG : 18 < B) (hb : Below B w w') : TabM w' :=
  ⟨var?_below hb tabGlobalM hG h.1, Nat.lt_of_lt_of_le h.2 hb.size⟩
theorem PA.belowB {B n : Nat} {w w' : World} {v : Value} {p : Part} (h : PA n (fun g => g < B) w v p) (hb : Below B w w') : PA n (fun g => g < B) w' v p :=
  h.keep (T := fun g => B ≤ g) ⟨hb.os, hb.tape, hb.output, hb.size, fun k _ hs => hb.block k (by omega)⟩ (fun g h1 h2 => by omega)
theorem others_below {b : Nat} {w w' : World} (hb : Below w.heap.size w w') : Lib.OthersKept 5 (some b) w w' := fun k o hk _ _ => by
  rw [hb.block k (Array.getElem?_eq_some_iff.1 hk).1]
  exact hk
theorem others_blk {b D : Nat} {w w' : World} {vs : Array Value} (h : Lib.OthersKept 5 (some b) w w') (hk : Blk w D vs 40) (hb : D ≠ b) : Blk w' D vs 40 := h D _ hk (by simpa using hb) (by simp)
theorem blk11 {W : World} {D : Nat} {h : PH} {vp vk : Value} (hk : Blk W D (phA h vp vk) 40) : W.cell? ⟨D, 0, none⟩ = some (.string ⟨h.type.toArray⟩) ∧ W.cell? ⟨D, 1, none⟩ = some (.string ⟨h.sub.toArray⟩) ∧ W.cell? ⟨D, 2, none⟩ = some (vp) ∧ W.cell? ⟨D, 3, none⟩ = some (.string ⟨h.id.toArray⟩) ∧ W.cell? ⟨D, 4, none⟩ = some (.string ⟨h.desc.toArray⟩) ∧ W.cell? ⟨D, 5, none⟩ = some (.string ⟨h.enc.toArray⟩) ∧ W.cell? ⟨D, 6, none⟩ = some (.int .i64 h.at') ∧ W.cell? ⟨D, 7, none⟩ = some (.int .i64 h.body) ∧ W.cell? ⟨D, 8, none⟩ = some (.int .i64 h.end') ∧ W.cell? ⟨D, 9, none⟩ = some (.int .i64 h.lines) ∧ W.cell? ⟨D, 10, none⟩ = some (vk) := by
  refine ⟨?_, ?_, ?_, ?_, ?_, ?_, ?_, ?_, ?_, ?_, ?_⟩ <;> (rw [hk.cell]; rfl)
theorem row11 {W : World} {g o : Nat} {h : PH} {vp vk : Value} (hc : ∀ j, j < 11 → W.cell? ⟨g, o + j, none⟩ = (phA h vp vk)[j]?) : W.cell? ⟨g, o, none⟩ = some (.string ⟨h.type.toArray⟩) ∧ W.cell? ⟨g, o + 1, none⟩ = some (.string ⟨h.sub.toArray⟩) ∧ W.cell? ⟨g, o + 2, none⟩ = some (vp) ∧ W.cell? ⟨g, o + 3, none⟩ = some (.string ⟨h.id.toArray⟩) ∧ W.cell? ⟨g, o + 4, none⟩ = some (.string ⟨h.desc.toArray⟩) ∧ W.cell? ⟨g, o + 5, none⟩ = some (.string ⟨h.enc.toArray⟩) ∧ W.cell? ⟨g, o + 6, none⟩ = some (.int .i64 h.at') ∧ W.cell? ⟨g, o + 7, none⟩ = some (.int .i64 h.body) ∧ W.cell? ⟨g, o + 8, none⟩ = some (.int .i64 h.end') ∧ W.cell? ⟨g, o + 9, none⟩ = some (.int .i64 h.lines) ∧ W.cell? ⟨g, o + 10, none⟩ = some (vk) :=
  ⟨hc 0 (by omega), hc 1 (by omega), hc 2 (by omega), hc 3 (by omega), hc 4 (by omega), hc 5 (by omega), hc 6 (by omega), hc 7 (by omega), hc 8 (by omega), hc 9 (by omega), hc 10 (by omega)⟩
theorem isBuilder_below {B b : Nat} {bs : List Value} {w w' : World} (h : Lib.IsBuilderF 72 5 B b bs w) (hb : Below w.heap.size w w') : Lib.IsBuilderF 72 5 B b bs w' :=
  isBuilder_mvs h (Mvs.of_below (S := fun _ => False) hb) (fun c => c) (fun _ c => c.elim)
theorem isBuilder_lt {B b : Nat} {bs : List Value} {w : World} (h : Lib.IsBuilderF 72 5 B b bs w) : b < w.heap.size := by
  rcases h with ⟨_, _, hb, _⟩ | ⟨_, _, hb, _⟩ <;> exact (Array.getElem?_eq_some_iff.1 hb).1
/-- The builder's state. -/
structure WB (B b : Nat) (ys : List UInt8) (w0 w : World) : Prop where
  is : Lib.IsBuilderF 72 5 B b (Lib.byteCells ys) w
  bel : Below B w0 w
  oth : Lib.OthersKept 5 (some b) w0 w
  siz : B ≤ w.heap.size
theorem WB.then {B b : Nat} {ys : List UInt8} {w0 w w' : World} (h : WB B b ys w0 w) (hb : Below w.heap.size w w') : WB B b ys w0 w' :=
  ⟨isBuilder_below h.is hb, h.bel.trans (hb.mono h.siz), h.oth.trans (others_below hb), Nat.le_trans h.siz hb.size⟩
theorem WB.wrote {B b : Nat} {ys zs : List UInt8} {w0 w w' : World} (h : WB B b ys w0 w) (hw : Lib.BuilderAtF 72 5 B b (.pointer (some ⟨b, 0, none⟩)) (Lib.byteCells zs) w' ∧ Below B w w' ∧ Lib.OthersKept 5 (some b) w w') : WB B b zs w0 w' :=
  ⟨.inr hw.1, h.bel.trans hw.2.1, h.oth.trans hw.2.2, Nat.le_trans h.siz hw.2.1.size⟩
theorem WB.trans {B b : Nat} {ys zs : List UInt8} {w0 w w' : World} (h : WB B b ys w0 w) (k : WB B b zs w w') : WB B b zs w0 w' :=
  ⟨k.is, h.bel.trans k.bel, h.oth.trans k.oth, k.siz⟩
theorem WB.byte {B b : Nat} {ys : List UInt8} {w0 w : World} (h : WB B b ys w0 w) (c : UInt8) (hl : ys.length ≤ 100000000000000) :
    Calls Tryz.prog 59 #[.pointer (some ⟨b, 0, none⟩), .int .u8 (c.toNat : Int)] w fun e w' => e = .returned .nilIface ∧ WB B b (ys ++ [c]) w0 w' := by
  refine (Tryz.Builder_WriteByte_k B b _ (c.toNat : Int) w h.is (by rw [Lib.byteCells_length]; omega) h.siz).mono ?_
  rintro e w' ⟨rfl, hw⟩
  have : Lib.byteCells ys ++ [.int .u8 (c.toNat : Int)] = Lib.byteCells (ys ++ [c]) := by simp [Lib.byteCells]
  rw [this] at hw
  exact ⟨rfl, h.wrote hw⟩
theorem WB.text {B b : Nat} {ys : List UInt8} {w0 w : World} (h : WB B b ys w0 w) (x : List UInt8) (hl : ys.length + x.length ≤ 100000000000000) :
    Calls Tryz.prog 60 #[.pointer (some ⟨b, 0, none⟩), .string ⟨x.toArray⟩] w fun e w' => e = .returned (.tuple #[.int .i64 (x.length : Int), .nilIface]) ∧ WB B b (ys ++ x) w0 w' := by
  have hz := size_lit x
  refine (Tryz.Builder_WriteString_k B b _ ⟨x.toArray⟩ w h.is (by rw [Lib.byteCells_length, hz]; omega) h.siz).mono ?_
  rintro e w' ⟨rfl, hw⟩
  rw [show Lib.strCells ⟨x.toArray⟩ = Lib.byteCells x from rfl, byteCells_app] at hw
  exact ⟨by rw [hz], h.wrote hw⟩
def WCall (n B b : Nat) : Prop := ∀ (p : Part) (v : Value) (ys : List UInt8) (w0 w : World), PA n (fun g => g < B) w v p → OkP p → TabM w → WB B b ys w0 w → ys.length + (textP p).length ≤ 100000000000000 →
  Calls Tryz.prog 33 #[.pointer (some ⟨b, 0, none⟩), v] w fun e w' => e = .returned (.tuple #[]) ∧ WB B b (ys ++ textP p) w0 w'
theorem text_leaf (h : PH) (ys : List UInt8) : ys ++ textP (.mk h []) = ((ys ++ [40]) ++ Lib.join (leafW h) [32]) ++ [41] := by
  rw [textP]
  simp
theorem text_many (h : PH) (k : Part) (ks : List Part) (ys : List UInt8) : ys ++ textP (.mk h (k :: ks)) = (((ys ++ [40]) ++ textL (k :: ks)) ++ (32 :: quoI h.sub)) ++ [41] := by
  rw [textP]
  simp
theorem leafW_ne (h : PH) : leafW h ≠ [] := by
  unfold leafW
  simp
theorem leafW_len (h : PH) : (leafW h).length ≤ 8 := by
  unfold leafW
  split <;> simp
set_option maxRecDepth 20000 in
set_option maxHeartbeats 4000000 in
theorem write_leaf (n B b : Nat) (hG : 18 < B) (h : PH) (vp : Value) (A : Option Addr) (c : Nat) (ys : List UInt8) (w0 w : World) (hr : ReadS (fun g => g < B) Pm.cs 2 w vp h.params) (ho : OkH h) (ht : TabM w) (hb : WB B b ys w0 w) (hl : ys.length + (textP (.mk h [])).length ≤ 100000000000000) :
    Calls Tryz.prog 33 #[.pointer (some ⟨b, 0, none⟩), .agg (phA h vp (.slice A 0 c))] w fun e w' => e = .returned (.tuple #[]) ∧ WB B b (ys ++ textP (.mk h [])) w0 w' := by
  have hX := text_leaf h ys
  have hXl := congrArg List.length hX
  simp only [List.length_append, List.length_cons, List.length_nil] at hXl
  have hl1 : ys.length ≤ 99999999999999 := by omega
  have hl2 : (ys ++ [40]).length + (Lib.join (leafW h) [32]).length ≤ 99999999999999 := by simp; omega
  have hl3 : ((ys ++ [40]) ++ Lib.join (leafW h) [32]).length ≤ 99999999999999 := by simp; omega
  have hj : (Lib.join (leafW h) [32]).length ≤ 140737488355328 := by omega
  have HX := hide hX
  clear hX hXl
  have hbl := isBuilder_lt hb.is
  have HW1 := hide (hb.then ((Below.refl w.heap.size w).alloc (Nat.le_refl _) (.cells (phA h vp (.slice A 0 c)) 40)))
  have HK1 := hide (Blk.new w (phA h vp (.slice A 0 c)) 40)
  have HB1 : Hid (Below B w (w.alloc (.cells (phA h vp (.slice A 0 c)) 40))) := (((Below.refl w.heap.size w).alloc (Nat.le_refl _) (.cells (phA h vp (.slice A 0 c)) 40))).mono hb.siz
  obtain ⟨Ap, cp, hvp⟩ : ∃ A c, vp = .slice A h.params.length c := by obtain ⟨A, c, e, _⟩ := hr; exact ⟨A, c, e⟩
  obtain ⟨np, hnp⟩ : ∃ n, h.params.length = n := ⟨_, rfl⟩
  rw [hnp] at hvp
  clear hnp
  subst hvp
  have HR := hide hr
  have HO := hide ho
  have HTab := hide ht
  have HC1 : Hid (Calls Tryz.prog 59 #[.pointer (some ⟨b, 0, none⟩), .int .u8 40] (w.alloc (.cells (phA h (.slice Ap np cp) (.slice A 0 c)) 40)) fun e w' => e = .returned .nilIface ∧ WB B b (ys ++ [40]) (w.alloc (.cells (phA h (.slice Ap np cp) (.slice A 0 c)) 40)) w') := (WB.mk HW1.out.is (Below.refl _ _) (Lib.OthersKept.refl _ _ _) HW1.out.siz).byte 40 (by omega)
  have HD : Hid (w.heap.size ≠ b) := by show _ ≠ _; omega
  have HWd : Hid (∀ W, Below B w W → Calls Tryz.prog 63 #[.agg (phA h (.slice Ap np cp) (.slice A 0 c))] W (WdsOut h W)) := fun W hW => pwords_any h _ _ W (ht.belowB hG hW) ho (hr.keep (T := fun g => B ≤ g) ⟨hW.os, hW.tape, hW.output, hW.size, fun k _ hs => hW.block k (by omega)⟩ (fun g h1 h2 => by omega)).reads
  have HJo : Hid (∀ (W : World) (v : Value) (k : Nat), RowOf strF 1 k W v (leafW h) → Calls Tryz.prog 62 #[v, .string ⟨#[32]⟩] W fun e w' => e = .returned (.string ⟨(Lib.join (leafW h) [32]).toArray⟩) ∧ Below W.heap.size W w') := fun W v k hr => join_row W hr (leafW_ne h) (by have := leafW_len h; omega) hj
  clear hr ho ht hl hb hj
  generalize textP (.mk h []) = TX at *
  generalize Lib.join (leafW h) [32] = J at *
  have HCs : Hid (∀ W, WB B b (ys ++ [40]) (w.alloc (.cells (phA h (.slice Ap np cp) (.slice A 0 c)) 40)) W → Calls Tryz.prog 60 #[.pointer (some ⟨b, 0, none⟩), .string ⟨J.toArray⟩] W fun e w' => e = .returned (.tuple #[.int .i64 (J.length : Int), .nilIface]) ∧ WB B b ((ys ++ [40]) ++ J) (w.alloc (.cells (phA h (.slice Ap np cp) (.slice A 0 c)) 40)) w') := fun W hW => hW.text J (by omega)
  have HC2 : Hid (∀ W, WB B b ((ys ++ [40]) ++ J) (w.alloc (.cells (phA h (.slice Ap np cp) (.slice A 0 c)) 40)) W → Calls Tryz.prog 59 #[.pointer (some ⟨b, 0, none⟩), .int .u8 41] W fun e w' => e = .returned .nilIface ∧ WB B b (((ys ++ [40]) ++ J) ++ [41]) (w.alloc (.cells (phA h (.slice Ap np cp) (.slice A 0 c)) 40)) w') := fun W hW => hW.byte 41 (by omega)
  have HOt : Hid (∀ W, Lib.OthersKept 5 (some b) (w.alloc (.cells (phA h (.slice Ap np cp) (.slice A 0 c)) 40)) W → Blk W w.heap.size (phA h (.slice Ap np cp) (.slice A 0 c)) 40) := fun W hW => others_blk hW HK1.out HD.out
  unfold phA at HC1 HWd
  go_enter Tryz.func33, Tryz.ntmps33
  unfold phA
  go_wp2_with fail
  refine HC1.out.mono ?_
  rintro e w2 ⟨rfl, hw2⟩
  obtain ⟨c0, c1, c2, c3, c4, c5, c6, c7, c8, c9, c10⟩ := blk11 (HOt.out w2 hw2.oth)
  have HW2 := hide hw2
  clear hw2 HC1
  go_wp2_with fail
  refine (HWd.out _ (HB1.out.trans HW2.out.bel)).mono ?_
  rintro e w3 ⟨hb3, v3, rfl, hr3⟩
  have HR3 := hide hr3
  have HW3 := hide (HW2.out.then hb3)
  clear hr3 hb3 c0 c1 c2 c3 c4 c5 c6 c7 c8 c9 c10 HWd
  go_wp2_with fail
  refine (HJo.out _ _ _ HR3.out).mono ?_
  rintro e w4 ⟨rfl, hb4⟩
  have HW4 := hide (HW3.out.then hb4)
  clear hb4 HR3
  go_wp2_with fail
  refine (HCs.out _ HW4.out).mono ?_
  rintro e w5 ⟨rfl, hw5⟩
  have HW5 := hide hw5
  clear hw5
  go_wp2_with fail
  refine (HC2.out _ HW5.out).mono ?_
  rintro e w6 ⟨rfl, hw6⟩
  have HW6 := hide hw6
  clear hw6
  go_wp2
  go_end0
  exact ⟨rfl, HX.out ▸ HW1.out.trans HW6.out⟩
theorem textL_ge : ∀ (ks : List Part), ks.length ≤ (textL ks).length
  | [] => by simp [textL]
  | .mk h r :: ks => by
    have := textL_ge ks
    rw [textL, List.length_append, List.length_cons]
    have h1 : 1 ≤ (textP (.mk h r)).length := by
      rw [textP]
      split <;> simp
    omega
theorem textL_take (ks : List Part) (i : Nat) (hi : i < ks.length) : textL (ks.take (i + 1)) = textL (ks.take i) ++ textP ks[i] := by
  rw [List.take_succ_eq_append_getElem hi, textL_app]
  simp [textL]
theorem textL_le (ks : List Part) (i : Nat) (hi : i < ks.length) : (textL (ks.take i)).length + (textP ks[i]).length ≤ (textL ks).length := by
  have h1 : textL ks = textL (ks.take (i + 1)) ++ textL (ks.drop (i + 1)) := by rw [← textL_app, List.take_append_drop]
  rw [h1, textL_take ks i hi, List.length_append, List.length_append]
  omega
set_option maxRecDepth 20000 in
set_option maxHeartbeats 4000000 in
theorem write_many (n B b : Nat) (hG : 18 < B) (IH : WCall n B b) (h : PH) (vp : Value) (A : Option Addr) (c : Nat) (ks : List Part) (hne : ks ≠ []) (ys : List UInt8) (w0 w : World)
    (hk : ∀ i (hi : i < ks.length), ∃ g o vs, A = some ⟨g, o, none⟩ ∧ g < B ∧ g < w.heap.size ∧ vs.size = 11 ∧ (∀ j, j < 11 → w.cell? ⟨g, o + i * 11 + j, none⟩ = vs[j]?) ∧ PA n (fun g => g < B) w (.agg vs) ks[i])
    (hvp : ∃ A n c, vp = .slice A n c) (ho : OkP (.mk h ks)) (ht : TabM w) (hb : WB B b ys w0 w) (hl : ys.length + (textP (.mk h ks)).length ≤ 100000000000000) :
    Calls Tryz.prog 33 #[.pointer (some ⟨b, 0, none⟩), .agg (phA h vp (.slice A ks.length c))] w fun e w' => e = .returned (.tuple #[]) ∧ WB B b (ys ++ textP (.mk h ks)) w0 w' := by
  obtain ⟨Ap, np, cp, rfl⟩ := hvp
  have hX : ys ++ textP (.mk h ks) = (((ys ++ [40]) ++ textL ks) ++ (32 :: quoI h.sub)) ++ [41] := by
    cases ks with
    | nil => exact absurd rfl hne
    | cons k r => exact text_many h k r ys
  have hXl := congrArg List.length hX
  simp only [List.length_append, List.length_cons, List.length_nil] at hXl
  have hl1 : ys.length ≤ 99999999999999 := by omega
  have hl2 : ys.length + (textL ks).length + (quoI h.sub).length + 3 ≤ 100000000000000 := by omega
  have hmb : ks.length ≤ 100000000000000 := by have := textL_ge ks; omega
  have HX := hide hX
  clear hX hXl hl
  have hbl := isBuilder_lt hb.is
  have HW1 := hide (hb.then ((Below.refl w.heap.size w).alloc (Nat.le_refl _) (.cells (phA h (.slice Ap np cp) (.slice A ks.length c)) 40)))
  have HK1 := hide (Blk.new w (phA h (.slice Ap np cp) (.slice A ks.length c)) 40)
  have HB1 : Hid (Below B w (w.alloc (.cells (phA h (.slice Ap np cp) (.slice A ks.length c)) 40))) := (((Below.refl w.heap.size w).alloc (Nat.le_refl _) (.cells (phA h (.slice Ap np cp) (.slice A ks.length c)) 40))).mono hb.siz
  have h0 : 0 < ks.length := List.length_pos_iff.2 hne
  obtain ⟨m, hm⟩ : ∃ m, ks.length = m := ⟨_, rfl⟩
  have HM := hide hm
  have hD : w.heap.size ≠ b := by omega
  obtain ⟨W1, hW1⟩ : ∃ W1, w.alloc (.cells (phA h (.slice Ap np cp) (.slice A m c)) 40) = W1 := ⟨_, rfl⟩
  rw [hm] at HW1 HK1 HB1 h0 hmb ⊢
  rw [hW1] at HW1 HK1 HB1
  have HC1 : Hid (Calls Tryz.prog 59 #[.pointer (some ⟨b, 0, none⟩), .int .u8 40] W1 fun e w' => e = .returned .nilIface ∧ WB B b (ys ++ [40]) W1 w') := (WB.mk HW1.out.is (Below.refl _ _) (Lib.OthersKept.refl _ _ _) HW1.out.siz).byte 40 (by omega)
  have HQ : Hid (∀ W, Below B w W → Calls Tryz.prog 61 #[.string ⟨h.sub.toArray⟩] W fun e w' => e = .returned (.string ⟨(quoI h.sub).toArray⟩) ∧ Below W.heap.size W w') := fun W hW => quote_any h.sub W (ht.belowB hG hW) ho.h.sub
  have HOt : Hid (∀ W, Lib.OthersKept 5 (some b) W1 W → Blk W w.heap.size (phA h (.slice Ap np cp) (.slice A m c)) 40) := fun W hW => others_blk hW HK1.out hD
  have HKd := hide hk
  have HOk := hide ho.kids
  have HTab := hide ht
  have HIH := hide IH
  clear hk ho ht hb IH
  unfold phA at hW1
  go_enter Tryz.func33, Tryz.ntmps33
  unfold phA
  go_wp2_with fail
  refine HC1.out.mono ?_
  rintro e w2 ⟨rfl, hw2⟩
  obtain ⟨c0, c1, c2, c3, c4, c5, c6, c7, c8, c9, c10⟩ := blk11 (HOt.out w2 hw2.oth)
  have HW2 : Hid (WB B b ((ys ++ [40]) ++ textL (ks.take 0)) W1 w2) := by
    show WB _ _ _ _ _
    simpa [textL] using hw2
  clear hw2 HC1 hW1 hm
  have hm0 : (m : Int) > 0 := by omega
  go_wp2_with fail
  clear c0 c1 c2 c3 c4 c5 c6 c7 c8 c9 c10
  obtain ⟨Y, hY⟩ : ∃ Y, ys ++ [40] = Y := ⟨_, rfl⟩
  have hYl : Y.length = ys.length + 1 := by rw [← hY]; simp
  rw [hY] at HW2 HX
  have HYl : Hid (Y.length + (textL ks).length + (quoI h.sub).length + 2 ≤ 100000000000000) := by show _ ≤ _; omega
  clear hY hYl hl1 hl2
  go_loopw [15] (fun v wx => ∃ i : Nat, v = .int .i64 i ∧ i ≤ m ∧ Hid (WB B b (Y ++ textL (ks.take i)) W1 wx)) (fun v _ => m - (intOf v).toNat)
  case atStart => exact ⟨0, rfl, Nat.zero_le _, HW2⟩
  case round =>
    obtain ⟨i, rfl, him, HW⟩ := hrel
    clear HW2
    by_cases hlt : i < m
    · have hlt' : (i : Int) < m := by omega
      have hip : i < ks.length := by rw [HM.out]; exact hlt
      obtain ⟨g, o, vs, rfl, hgB, hgw, hvs, hcs, hpa⟩ := HKd.out i hip
      have HOk1 := hide (HOk.out _ (List.getElem_mem hip))
      have HTl := hide (textL_take ks i hip)
      have HTb := hide (textL_le ks i hip)
      generalize ks[i] = kid at *
      obtain ⟨A1, k1, A2, k2, hvs2⟩ := hpa.form
      injection hvs2 with hvs2
      subst hvs2
      obtain ⟨n1, hn1⟩ : ∃ n, kid.h.params.length = n := ⟨_, rfl⟩
      obtain ⟨n2, hn2⟩ : ∃ n, kid.kids.length = n := ⟨_, rfl⟩
      rw [hn1, hn2] at hcs hpa
      obtain ⟨H, hH⟩ : ∃ H, kid.h = H := ⟨_, rfl⟩
      rw [hH] at hcs hpa
      have HBw := hide (HB1.out.trans HW.out.bel)
      obtain ⟨c0, c1, c2, c3, c4, c5, c6, c7, c8, c9, c10⟩ := row11 (fun j hj => (HBw.out.cell (p := ⟨g, o + i * 11 + j, none⟩) hgB).trans (hcs j hj))
      have hAl := (Below.refl wr.heap.size wr).alloc (Nat.le_refl _) (.cells (phA H (.slice A1 n1 k1) (.slice A2 n2 k2)) 40)
      have HWa := hide (HW.out.then hAl)
      have HBa := hide (HB1.out.trans HWa.out.bel)
      have HCw := hide (HIH.out kid _ _ W1 _ (hpa.belowB HBa.out) HOk1.out (HTab.out.belowB hG HBa.out) HWa.out (by have := HYl.out; have := HTb.out; rw [List.length_append]; omega))
      have HTl2 : Hid ((Y ++ textL (ks.take i)) ++ textP kid = Y ++ textL (ks.take (i + 1))) := by
        show _ = _
        rw [HTl.out, List.append_assoc]
      rw [HTl2.out] at HCw
      unfold phA at HCw
      clear hcs hpa hvs HTl HTb HTl2 HOk1 hn1 hn2 hH hAl HWa HBa HKd HBw
      go_wp2_with fail
      refine HCw.out.mono ?_
      rintro e w5 ⟨rfl, hw5⟩
      have HW5 := hide hw5
      clear hw5 c0 c1 c2 c3 c4 c5 c6 c7 c8 c9 c10 HCw
      go_wp2
      go_roundw
      case rel => exact ⟨i + 1, by go_num, by omega, HW5⟩
      case measure => simp [intOf]; omega
    · obtain rfl : i = m := by omega
      rw [List.take_of_length_le (by rw [HM.out]; exact Nat.le_refl _)] at HW
      obtain ⟨c0, c1, c2, c3, c4, c5, c6, c7, c8, c9, c10⟩ := blk11 (HOt.out wr HW.out.oth)
      have hql : (quoI h.sub).length ≤ 100000000000000 := by have := HYl.out; omega
      have HQ2 := hide (HQ.out wr (HB1.out.trans HW.out.bel))
      obtain ⟨q, hq⟩ : ∃ q, quoI h.sub = q := ⟨_, rfl⟩
      rw [hq] at HQ2 HX HYl hql
      have hz := size_lit q
      have hcat : (⟨#[32]⟩ : ByteArray) ++ ⟨q.toArray⟩ = ⟨(32 :: q).toArray⟩ := cat_lit [32] q
      obtain ⟨q2, hq2⟩ : ∃ q2, 32 :: q = q2 := ⟨_, rfl⟩
      have hq2l : q2.length ≤ q.length + 1 := by rw [← hq2]; simp
      rw [hq2] at hcat HX
      have HCs : Hid (∀ W, WB B b (Y ++ textL ks) W1 W → Calls Tryz.prog 60 #[.pointer (some ⟨b, 0, none⟩), .string ⟨q2.toArray⟩] W fun e w' => e = .returned (.tuple #[.int .i64 (q2.length : Int), .nilIface]) ∧ WB B b ((Y ++ textL ks) ++ q2) W1 w') := fun W hW => hW.text q2 (by have := HYl.out; rw [List.length_append]; omega)
      have HC2 : Hid (∀ W, WB B b ((Y ++ textL ks) ++ q2) W1 W → Calls Tryz.prog 59 #[.pointer (some ⟨b, 0, none⟩), .int .u8 41] W fun e w' => e = .returned .nilIface ∧ WB B b (((Y ++ textL ks) ++ q2) ++ [41]) W1 w') := fun W hW => hW.byte 41 (by have := HYl.out; rw [List.length_append, List.length_append]; omega)
      clear hq hq2 HQ HKd HIH
      go_wp2_with fail
      refine HQ2.out.mono ?_
      rintro e w4 ⟨rfl, hb4⟩
      have HW4 := hide (HW.out.then hb4)
      clear hb4 c0 c1 c2 c3 c4 c5 c6 c7 c8 c9 c10
      go_wp2_with fail
      refine (HCs.out _ HW4.out).mono ?_
      rintro e w5 ⟨rfl, hw5⟩
      have HW5 := hide hw5
      clear hw5
      go_wp2_with fail
      refine (HC2.out _ HW5.out).mono ?_
      rintro e w6 ⟨rfl, hw6⟩
      have HW6 := hide hw6
      clear hw6
      go_wp2
      go_end0
      exact ⟨rfl, HX.out ▸ HW1.out.trans HW6.out⟩
theorem write_any (B b : Nat) (hG : 18 < B) : ∀ n, WCall n B b
  | 0 => fun p v ys w0 w hp _ _ _ _ => hp.elim
  | n + 1 => fun p v ys w0 w hp ho ht hb hl => by
    cases p with
    | mk h ks =>
      obtain ⟨vp, A, c, rfl, hr, hk⟩ := hp
      by_cases hne : ks = []
      · subst hne
        exact write_leaf n B b hG h vp A c ys w0 w hr ho.h ht hb hl
      · obtain ⟨Ap, cp, e⟩ := hr.form
        exact write_many n B b hG (write_any B b hG n) h vp A c ks hne ys w0 w hk ⟨Ap, _, cp, e⟩ ho ht hb hl
end Go.Proofs.YtegplihhbdmnbaaGreatDoor
