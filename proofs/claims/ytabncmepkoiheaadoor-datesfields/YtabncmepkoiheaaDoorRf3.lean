/- The document's ParseDay: which texts, and which moment. -/
import Derived.Test.YtabncmepkoiheaaDoorRf2
import Derived.Test.YtabncmepkoiheaaDoorDShape
namespace Go.Proofs.YtabncmepkoiheaaDoor
open Go.RowKit
theorem likeB_app : ∀ (s p s2 p2 : List UInt8), s.length = p.length → likeB (s ++ s2) (p ++ p2) = (likeB s p && likeB s2 p2)
  | [], [], _, _, _ => by simp [likeB]
  | c :: s, q :: p, s2, p2, h => by
    have := likeB_app s p s2 p2 (by simpa using h)
    show likeB (c :: (s ++ s2)) (q :: (p ++ p2)) = _
    rw [likeB, likeB, this, Bool.and_assoc]
  | [], _ :: _, _, _, h => by simp at h
  | _ :: _, [], _, _, h => by simp at h
theorem likeB_digs : ∀ (k : Nat) (s : List UInt8), likeB s (List.replicate k 48) = true ↔ s.length = k ∧ Digs s
  | 0, [] => by simp [likeB, Digs]
  | 0, _ :: _ => by simp [likeB]
  | k + 1, [] => by simp [likeB, List.replicate_succ]
  | k + 1, c :: s => by
    have ih := likeB_digs k s
    rw [List.replicate_succ, likeB, if_pos (by decide), Bool.and_eq_true, ih]
    simp [Digs]
    constructor
    · rintro ⟨h1, h2, h3⟩
      exact ⟨h2, h1, h3⟩
    · rintro ⟨h1, h2, h3⟩
      exact ⟨h2, h1, h3⟩
theorem likeB_one (c q : UInt8) (hq : q.toNat ≠ 48) : likeB [c] [q] = true ↔ c = q := by
  simp [likeB, hq]
  exact ⟨fun h => UInt8.toNat_inj.1 h, fun h => by rw [h]⟩
theorem like_calls {s q : List UInt8} {b : Bool} (hs : s.length ≤ 900) (hb : likeB s q = b) (w : World) : Calls Tryd.prog 24 #[.string ⟨s.toArray⟩, .string ⟨q.toArray⟩] w fun e w' => e = .returned (.bool b) ∧ Below w.heap.size w w' := by
  subst hb
  exact like_any s q w hs
theorem place_calls {s : List UInt8} {z : Int} (hz : findEq monB s 12 0 = z) (w : World) : Calls Tryd.prog 25 #[.string ⟨s.toArray⟩, .string ⟨#[74, 97, 110, 70, 101, 98, 77, 97, 114, 65, 112, 114, 77, 97, 121, 74, 117, 110, 74, 117, 108, 65, 117, 103, 83, 101, 112, 79, 99, 116, 78, 111, 118, 68, 101, 99]⟩] w fun e w' => e = .returned (.int .i64 z) ∧ w' = w := by
  subst hz
  exact place_any monB s 12 rfl (by decide) w
theorem ext_mid' (l : List UInt8) (a b : Nat) : (⟨l.toArray⟩ : ByteArray).extract a b = ⟨((l.drop a).take (b - a)).toArray⟩ := by
  apply ByteArray.ext
  simp [ByteArray.data_extract, List.extract_eq_take_drop]
theorem piece (l p m r : List UInt8) (a b : Nat) (hl : l = p ++ (m ++ r)) (ha : p.length = a) (hb : m.length = b - a) : (⟨l.toArray⟩ : ByteArray).extract a b = ⟨m.toArray⟩ := by
  rw [ext_mid', hl, List.drop_append, List.drop_of_length_le (by omega), ha, Nat.sub_self, List.drop_zero, List.nil_append, List.take_append_of_le_length (by omega), List.take_of_length_le (by omega)]
theorem byte_lit (l p r : List UInt8) (x : UInt8) (a : Nat) (hl : l = p ++ x :: r) (ha : p.length = a) : ∀ h : a < (⟨l.toArray⟩ : ByteArray).size, (⟨l.toArray⟩ : ByteArray)[a]'h = x := by
  intro h
  subst hl ha
  show (p ++ x :: r)[p.length] = x
  simp
theorem madeV_form (y m d h mi s z : Int) : ∃ T N : Int, madeV y m d h mi s z = .tuple #[.int .i64 T, .int .i64 N] := by
  unfold madeV
  split
  · exact ⟨_, _, rfl⟩
  · exact ⟨_, _, rfl⟩
set_option maxHeartbeats 1000000 in
theorem rday_len (s : List UInt8) (w : World) (h10 : s.length ≠ 10) (h11 : s.length ≠ 11) : Calls Tryd.prog 11 #[.string ⟨s.toArray⟩] w fun e w' => e = .returned (.tuple #[.int .i64 0, .int .i64 2]) ∧ Below w.heap.size w w' := by
  have b1 : ((s.length : Int) == 11) = false := beq_eq_false_iff_ne.2 (by omega)
  have b2 : ((s.length : Int) != 10) = true := bne_iff_ne.2 (by omega)
  have hn := ext_some w
  have hc := ext_cell w
  go_enter Tryd.func11, Tryd.ntmps11
  go_wp2
  refine wp_region_ext (by kernel_rfl) (by kernel_rfl) ?_
  repeat (go_big_quiet_step (fail))
  refine wpQuiet_nil ?_
  rintro w1 ⟨⟨_, hb1⟩, rfl⟩
  replace hb1 := hide hb1
  go_wp2
  go_ret2
  exact ⟨rfl, hb1.out⟩
set_option maxRecDepth 20000 in
set_option maxHeartbeats 2000000 in
theorem rday_b1 (s a m y : List UInt8) (x e0 : UInt8) (hs : s = a ++ x :: (m ++ e0 :: y)) (ha : a.length = 1) (hm : m.length = 3) (hy : y.length = 4) (w : World) (h1 : likeB a [48] = false) : Calls Tryd.prog 11 #[.string ⟨s.toArray⟩] w fun e w' => e = .returned (.tuple #[.int .i64 0, .int .i64 2]) ∧ Below w.heap.size w w' := by
  have hL : s.length = 10 := by rw [hs]; simp [ha, hm, hy]
  have e1 : (⟨s.toArray⟩ : ByteArray).extract 0 1 = ⟨a.toArray⟩ := piece s [] a (x :: (m ++ e0 :: y)) 0 1 hs rfl (by omega)
  have ex : ∀ h : 1 < (⟨s.toArray⟩ : ByteArray).size, (⟨s.toArray⟩ : ByteArray)[1]'h = x := byte_lit s a _ x 1 hs ha
  have e2 : (⟨s.toArray⟩ : ByteArray).extract 2 5 = ⟨m.toArray⟩ := piece s (a ++ [x]) m (e0 :: y) 2 5 (by rw [hs]; simp) (by simp [ha]) (by omega)
  have e3 : (⟨s.toArray⟩ : ByteArray).extract 5 10 = ⟨(e0 :: y).toArray⟩ := piece s (a ++ x :: m) (e0 :: y) [] 5 10 (by rw [hs]; simp) (by simp [ha, hm]) (by simp [hy])
  have e4 : (⟨s.toArray⟩ : ByteArray).extract 6 10 = ⟨y.toArray⟩ := piece s (a ++ x :: (m ++ [e0])) y [] 6 10 (by rw [hs]; simp) (by simp [ha, hm]) (by simp [hy])
  have ez : (⟨#[48, 48]⟩ : ByteArray).extract 0 1 = ⟨#[48]⟩ := by rfl
  have H1 := hide (like_calls (by omega) h1)
  generalize e0 :: y = e at *
  have hn := ext_some w
  have hc := ext_cell w
  clear hs
  go_enter Tryd.func11, Tryd.ntmps11
  go_wp2
  refine wp_region_ext (by kernel_rfl) (by kernel_rfl) ?_
  repeat (go_big_quiet_step ((first | (go_at_call_of 24 (Value.string { data := List.toArray a }); exact ext_call (H1.out _)))))
  refine wpQuiet_nil ?_
  rintro w1 ⟨⟨_, hb1⟩, rfl⟩
  replace hb1 := hide hb1
  go_wp2
  go_ret2
  exact ⟨rfl, hb1.out⟩
set_option maxRecDepth 20000 in
set_option maxHeartbeats 2000000 in
theorem rday_c1 (s a m y : List UInt8) (x e0 : UInt8) (hs : s = a ++ x :: (m ++ e0 :: y)) (ha : a.length = 1) (hm : m.length = 3) (hy : y.length = 4) (w : World) (h1 : likeB a [48] = true) (hx : x ≠ 45) : Calls Tryd.prog 11 #[.string ⟨s.toArray⟩] w fun e w' => e = .returned (.tuple #[.int .i64 0, .int .i64 2]) ∧ Below w.heap.size w w' := by
  have hL : s.length = 10 := by rw [hs]; simp [ha, hm, hy]
  have e1 : (⟨s.toArray⟩ : ByteArray).extract 0 1 = ⟨a.toArray⟩ := piece s [] a (x :: (m ++ e0 :: y)) 0 1 hs rfl (by omega)
  have ex : ∀ h : 1 < (⟨s.toArray⟩ : ByteArray).size, (⟨s.toArray⟩ : ByteArray)[1]'h = x := byte_lit s a _ x 1 hs ha
  have e2 : (⟨s.toArray⟩ : ByteArray).extract 2 5 = ⟨m.toArray⟩ := piece s (a ++ [x]) m (e0 :: y) 2 5 (by rw [hs]; simp) (by simp [ha]) (by omega)
  have e3 : (⟨s.toArray⟩ : ByteArray).extract 5 10 = ⟨(e0 :: y).toArray⟩ := piece s (a ++ x :: m) (e0 :: y) [] 5 10 (by rw [hs]; simp) (by simp [ha, hm]) (by simp [hy])
  have e4 : (⟨s.toArray⟩ : ByteArray).extract 6 10 = ⟨y.toArray⟩ := piece s (a ++ x :: (m ++ [e0])) y [] 6 10 (by rw [hs]; simp) (by simp [ha, hm]) (by simp [hy])
  have ez : (⟨#[48, 48]⟩ : ByteArray).extract 0 1 = ⟨#[48]⟩ := by rfl
  have H1 := hide (like_calls (by omega) h1)
  have hxx : ((x.toNat : Int) != 45) = true := bne_iff_ne.2 (fun h => hx (UInt8.toNat_inj.1 (show x.toNat = 45 by omega)))
  generalize e0 :: y = e at *
  have hn := ext_some w
  have hc := ext_cell w
  clear hs
  go_enter Tryd.func11, Tryd.ntmps11
  go_wp2
  refine wp_region_ext (by kernel_rfl) (by kernel_rfl) ?_
  repeat (go_big_quiet_step ((first | (go_at_call_of 24 (Value.string { data := List.toArray a }); exact ext_call (H1.out _)))))
  refine wpQuiet_nil ?_
  rintro w1 ⟨⟨_, hb1⟩, rfl⟩
  replace hb1 := hide hb1
  go_wp2
  go_ret2
  exact ⟨rfl, hb1.out⟩
set_option maxRecDepth 20000 in
set_option maxHeartbeats 2000000 in
theorem rday_d1 (s a m y : List UInt8) (x e0 : UInt8) (hs : s = a ++ x :: (m ++ e0 :: y)) (ha : a.length = 1) (hm : m.length = 3) (hy : y.length = 4) (w : World) (h1 : likeB a [48] = true) (hx : x = 45) (hp : findEq monB m 12 0 = -1) : Calls Tryd.prog 11 #[.string ⟨s.toArray⟩] w fun e w' => e = .returned (.tuple #[.int .i64 0, .int .i64 2]) ∧ Below w.heap.size w w' := by
  have hL : s.length = 10 := by rw [hs]; simp [ha, hm, hy]
  have e1 : (⟨s.toArray⟩ : ByteArray).extract 0 1 = ⟨a.toArray⟩ := piece s [] a (x :: (m ++ e0 :: y)) 0 1 hs rfl (by omega)
  have ex : ∀ h : 1 < (⟨s.toArray⟩ : ByteArray).size, (⟨s.toArray⟩ : ByteArray)[1]'h = x := byte_lit s a _ x 1 hs ha
  have e2 : (⟨s.toArray⟩ : ByteArray).extract 2 5 = ⟨m.toArray⟩ := piece s (a ++ [x]) m (e0 :: y) 2 5 (by rw [hs]; simp) (by simp [ha]) (by omega)
  have e3 : (⟨s.toArray⟩ : ByteArray).extract 5 10 = ⟨(e0 :: y).toArray⟩ := piece s (a ++ x :: m) (e0 :: y) [] 5 10 (by rw [hs]; simp) (by simp [ha, hm]) (by simp [hy])
  have e4 : (⟨s.toArray⟩ : ByteArray).extract 6 10 = ⟨y.toArray⟩ := piece s (a ++ x :: (m ++ [e0])) y [] 6 10 (by rw [hs]; simp) (by simp [ha, hm]) (by simp [hy])
  have ez : (⟨#[48, 48]⟩ : ByteArray).extract 0 1 = ⟨#[48]⟩ := by rfl
  have H1 := hide (like_calls (by omega) h1)
  have hxx : ((x.toNat : Int) != 45) = false := by rw [hx]; rfl
  have HP := hide (place_calls hp)
  generalize e0 :: y = e at *
  have hn := ext_some w
  have hc := ext_cell w
  clear hs
  go_enter Tryd.func11, Tryd.ntmps11
  go_wp2
  refine wp_region_ext (by kernel_rfl) (by kernel_rfl) ?_
  repeat (go_big_quiet_step ((first | (go_at_call_of 24 (Value.string { data := List.toArray a }); exact ext_call (H1.out _)) | (go_at_call 25; exact ext_same (HP.out _)))))
  refine wpQuiet_nil ?_
  rintro w1 ⟨⟨_, hb1⟩, rfl⟩
  replace hb1 := hide hb1
  go_wp2
  go_ret2
  exact ⟨rfl, hb1.out⟩
set_option maxRecDepth 20000 in
set_option maxHeartbeats 2000000 in
theorem rday_e1 (s a m y : List UInt8) (x e0 : UInt8) (hs : s = a ++ x :: (m ++ e0 :: y)) (ha : a.length = 1) (hm : m.length = 3) (hy : y.length = 4) (w : World) (h1 : likeB a [48] = true) (hx : x = 45) (j : Nat) (hp : findEq monB m 12 0 = j) (h2 : likeB (e0 :: y) [45, 48, 48, 48, 48] = false) : Calls Tryd.prog 11 #[.string ⟨s.toArray⟩] w fun e w' => e = .returned (.tuple #[.int .i64 0, .int .i64 2]) ∧ Below w.heap.size w w' := by
  have hL : s.length = 10 := by rw [hs]; simp [ha, hm, hy]
  have e1 : (⟨s.toArray⟩ : ByteArray).extract 0 1 = ⟨a.toArray⟩ := piece s [] a (x :: (m ++ e0 :: y)) 0 1 hs rfl (by omega)
  have ex : ∀ h : 1 < (⟨s.toArray⟩ : ByteArray).size, (⟨s.toArray⟩ : ByteArray)[1]'h = x := byte_lit s a _ x 1 hs ha
  have e2 : (⟨s.toArray⟩ : ByteArray).extract 2 5 = ⟨m.toArray⟩ := piece s (a ++ [x]) m (e0 :: y) 2 5 (by rw [hs]; simp) (by simp [ha]) (by omega)
  have e3 : (⟨s.toArray⟩ : ByteArray).extract 5 10 = ⟨(e0 :: y).toArray⟩ := piece s (a ++ x :: m) (e0 :: y) [] 5 10 (by rw [hs]; simp) (by simp [ha, hm]) (by simp [hy])
  have e4 : (⟨s.toArray⟩ : ByteArray).extract 6 10 = ⟨y.toArray⟩ := piece s (a ++ x :: (m ++ [e0])) y [] 6 10 (by rw [hs]; simp) (by simp [ha, hm]) (by simp [hy])
  have ez : (⟨#[48, 48]⟩ : ByteArray).extract 0 1 = ⟨#[48]⟩ := by rfl
  have H1 := hide (like_calls (by omega) h1)
  have hxx : ((x.toNat : Int) != 45) = false := by rw [hx]; rfl
  have HP := hide (place_calls hp)
  have hj0 : decide ((j : Int) < 0) = false := by simp
  have H2 := hide (like_calls (by simp; omega) h2)
  generalize e0 :: y = e at *
  have hn := ext_some w
  have hc := ext_cell w
  clear hs
  go_enter Tryd.func11, Tryd.ntmps11
  go_wp2
  refine wp_region_ext (by kernel_rfl) (by kernel_rfl) ?_
  repeat (go_big_quiet_step ((first | (go_at_call_of 24 (Value.string { data := List.toArray a }); exact ext_call (H1.out _)) | (go_at_call 25; exact ext_same (HP.out _)) | (go_at_call_of 24 (Value.string { data := List.toArray e }); exact ext_call (H2.out _)))))
  refine wpQuiet_nil ?_
  rintro w1 ⟨⟨_, hb1⟩, rfl⟩
  replace hb1 := hide hb1
  go_wp2
  go_ret2
  exact ⟨rfl, hb1.out⟩
set_option maxRecDepth 20000 in
set_option maxHeartbeats 2000000 in
theorem rday_f1 (s a m y : List UInt8) (x e0 : UInt8) (hs : s = a ++ x :: (m ++ e0 :: y)) (ha : a.length = 1) (hm : m.length = 3) (hy : y.length = 4) (w : World) (h1 : likeB a [48] = true) (hx : x = 45) (j : Nat) (hj : j < 12) (hp : findEq monB m 12 0 = j) (h2 : likeB (e0 :: y) [45, 48, 48, 48, 48] = true) (da : Digs a) (dy : Digs y) : Calls Tryd.prog 11 #[.string ⟨s.toArray⟩] w fun e w' => e = .returned (madeV (valL y 0) ((j : Int) + 1) (valL a 0) 0 0 0 0) ∧ Below w.heap.size w w' := by
  have hL : s.length = 10 := by rw [hs]; simp [ha, hm, hy]
  have e1 : (⟨s.toArray⟩ : ByteArray).extract 0 1 = ⟨a.toArray⟩ := piece s [] a (x :: (m ++ e0 :: y)) 0 1 hs rfl (by omega)
  have ex : ∀ h : 1 < (⟨s.toArray⟩ : ByteArray).size, (⟨s.toArray⟩ : ByteArray)[1]'h = x := byte_lit s a _ x 1 hs ha
  have e2 : (⟨s.toArray⟩ : ByteArray).extract 2 5 = ⟨m.toArray⟩ := piece s (a ++ [x]) m (e0 :: y) 2 5 (by rw [hs]; simp) (by simp [ha]) (by omega)
  have e3 : (⟨s.toArray⟩ : ByteArray).extract 5 10 = ⟨(e0 :: y).toArray⟩ := piece s (a ++ x :: m) (e0 :: y) [] 5 10 (by rw [hs]; simp) (by simp [ha, hm]) (by simp [hy])
  have e4 : (⟨s.toArray⟩ : ByteArray).extract 6 10 = ⟨y.toArray⟩ := piece s (a ++ x :: (m ++ [e0])) y [] 6 10 (by rw [hs]; simp) (by simp [ha, hm]) (by simp [hy])
  have ez : (⟨#[48, 48]⟩ : ByteArray).extract 0 1 = ⟨#[48]⟩ := by rfl
  have H1 := hide (like_calls (by omega) h1)
  have hxx : ((x.toNat : Int) != 45) = false := by rw [hx]; rfl
  have HP := hide (place_calls hp)
  have hj0 : decide ((j : Int) < 0) = false := by simp
  have H2 := hide (like_calls (by simp; omega) h2)
  have HA := hide (fun w => value_any a w (by omega) da)
  have HY := hide (fun w => value_any y w (by omega) dy)
  have HM := hide (fun w => made_any (valL y 0) ((j : Int) + 1) (valL a 0) 0 0 0 0 0 w (by omega))
  obtain ⟨T, N, hTN⟩ := madeV_form (valL y 0) ((j : Int) + 1) (valL a 0) 0 0 0 0
  rw [hTN] at HM ⊢
  have hj12 : (j : Int) < 12 := by omega
  generalize (valL y 0 : Int) = Y at *
  generalize (valL a 0 : Int) = A at *
  clear da dy hTN hp h1 h2 hx
  generalize e0 :: y = e at *
  have hn := ext_some w
  have hc := ext_cell w
  clear hs
  go_enter Tryd.func11, Tryd.ntmps11
  go_wp2
  refine wp_region_ext (by kernel_rfl) (by kernel_rfl) ?_
  repeat (go_big_quiet_step ((first | (go_at_call_of 24 (Value.string { data := List.toArray a }); exact ext_call (H1.out _)) | (go_at_call 25; exact ext_same (HP.out _)) | (go_at_call_of 24 (Value.string { data := List.toArray e }); exact ext_call (H2.out _)))))
  refine wpQuiet_nil ?_
  rintro w1 ⟨⟨_, hb1⟩, rfl⟩
  replace hb1 := hide hb1
  go_wp2
  have hn1 := ext_some w1
  have hc1 := ext_cell w1
  refine wp_region_ext (by kernel_rfl) (by kernel_rfl) ?_
  repeat (go_big_quiet_step ((first | (go_at_call_of 28 (Value.string { data := List.toArray a }); exact ext_same (HA.out _)) | (go_at_call 25; exact ext_same (HP.out _)) | (go_at_call_of 28 (Value.string { data := List.toArray y }); exact ext_same (HY.out _)) | (go_at_call 27; exact ext_call (HM.out _)))))
  refine wpQuiet_nil ?_
  rintro w2 ⟨⟨_, hb2⟩, rfl⟩
  replace hb2 := hide hb2
  go_wp2
  go_ret2
  exact ⟨rfl, hb1.out.trans (hb2.out.mono hb1.out.size)⟩
set_option maxRecDepth 20000 in
set_option maxHeartbeats 2000000 in
theorem rday_b2 (s a m y : List UInt8) (x e0 : UInt8) (hs : s = a ++ x :: (m ++ e0 :: y)) (ha : a.length = 2) (hm : m.length = 3) (hy : y.length = 4) (w : World) (h1 : likeB a [48, 48] = false) : Calls Tryd.prog 11 #[.string ⟨s.toArray⟩] w fun e w' => e = .returned (.tuple #[.int .i64 0, .int .i64 2]) ∧ Below w.heap.size w w' := by
  have hL : s.length = 11 := by rw [hs]; simp [ha, hm, hy]
  have e1 : (⟨s.toArray⟩ : ByteArray).extract 0 2 = ⟨a.toArray⟩ := piece s [] a (x :: (m ++ e0 :: y)) 0 2 hs rfl (by omega)
  have ex : ∀ h : 2 < (⟨s.toArray⟩ : ByteArray).size, (⟨s.toArray⟩ : ByteArray)[2]'h = x := byte_lit s a _ x 2 hs ha
  have e2 : (⟨s.toArray⟩ : ByteArray).extract 3 6 = ⟨m.toArray⟩ := piece s (a ++ [x]) m (e0 :: y) 3 6 (by rw [hs]; simp) (by simp [ha]) (by omega)
  have e3 : (⟨s.toArray⟩ : ByteArray).extract 6 11 = ⟨(e0 :: y).toArray⟩ := piece s (a ++ x :: m) (e0 :: y) [] 6 11 (by rw [hs]; simp) (by simp [ha, hm]) (by simp [hy])
  have e4 : (⟨s.toArray⟩ : ByteArray).extract 7 11 = ⟨y.toArray⟩ := piece s (a ++ x :: (m ++ [e0])) y [] 7 11 (by rw [hs]; simp) (by simp [ha, hm]) (by simp [hy])
  have ez : (⟨#[48, 48]⟩ : ByteArray).extract 0 2 = ⟨#[48, 48]⟩ := by rfl
  have H1 := hide (like_calls (by omega) h1)
  generalize e0 :: y = e at *
  have hn := ext_some w
  have hc := ext_cell w
  clear hs
  go_enter Tryd.func11, Tryd.ntmps11
  go_wp2
  refine wp_region_ext (by kernel_rfl) (by kernel_rfl) ?_
  repeat (go_big_quiet_step ((first | (go_at_call_of 24 (Value.string { data := List.toArray a }); exact ext_call (H1.out _)))))
  refine wpQuiet_nil ?_
  rintro w1 ⟨⟨_, hb1⟩, rfl⟩
  replace hb1 := hide hb1
  go_wp2
  go_ret2
  exact ⟨rfl, hb1.out⟩
set_option maxRecDepth 20000 in
set_option maxHeartbeats 2000000 in
theorem rday_c2 (s a m y : List UInt8) (x e0 : UInt8) (hs : s = a ++ x :: (m ++ e0 :: y)) (ha : a.length = 2) (hm : m.length = 3) (hy : y.length = 4) (w : World) (h1 : likeB a [48, 48] = true) (hx : x ≠ 45) : Calls Tryd.prog 11 #[.string ⟨s.toArray⟩] w fun e w' => e = .returned (.tuple #[.int .i64 0, .int .i64 2]) ∧ Below w.heap.size w w' := by
  have hL : s.length = 11 := by rw [hs]; simp [ha, hm, hy]
  have e1 : (⟨s.toArray⟩ : ByteArray).extract 0 2 = ⟨a.toArray⟩ := piece s [] a (x :: (m ++ e0 :: y)) 0 2 hs rfl (by omega)
  have ex : ∀ h : 2 < (⟨s.toArray⟩ : ByteArray).size, (⟨s.toArray⟩ : ByteArray)[2]'h = x := byte_lit s a _ x 2 hs ha
  have e2 : (⟨s.toArray⟩ : ByteArray).extract 3 6 = ⟨m.toArray⟩ := piece s (a ++ [x]) m (e0 :: y) 3 6 (by rw [hs]; simp) (by simp [ha]) (by omega)
  have e3 : (⟨s.toArray⟩ : ByteArray).extract 6 11 = ⟨(e0 :: y).toArray⟩ := piece s (a ++ x :: m) (e0 :: y) [] 6 11 (by rw [hs]; simp) (by simp [ha, hm]) (by simp [hy])
  have e4 : (⟨s.toArray⟩ : ByteArray).extract 7 11 = ⟨y.toArray⟩ := piece s (a ++ x :: (m ++ [e0])) y [] 7 11 (by rw [hs]; simp) (by simp [ha, hm]) (by simp [hy])
  have ez : (⟨#[48, 48]⟩ : ByteArray).extract 0 2 = ⟨#[48, 48]⟩ := by rfl
  have H1 := hide (like_calls (by omega) h1)
  have hxx : ((x.toNat : Int) != 45) = true := bne_iff_ne.2 (fun h => hx (UInt8.toNat_inj.1 (show x.toNat = 45 by omega)))
  generalize e0 :: y = e at *
  have hn := ext_some w
  have hc := ext_cell w
  clear hs
  go_enter Tryd.func11, Tryd.ntmps11
  go_wp2
  refine wp_region_ext (by kernel_rfl) (by kernel_rfl) ?_
  repeat (go_big_quiet_step ((first | (go_at_call_of 24 (Value.string { data := List.toArray a }); exact ext_call (H1.out _)))))
  refine wpQuiet_nil ?_
  rintro w1 ⟨⟨_, hb1⟩, rfl⟩
  replace hb1 := hide hb1
  go_wp2
  go_ret2
  exact ⟨rfl, hb1.out⟩
set_option maxRecDepth 20000 in
set_option maxHeartbeats 2000000 in
theorem rday_d2 (s a m y : List UInt8) (x e0 : UInt8) (hs : s = a ++ x :: (m ++ e0 :: y)) (ha : a.length = 2) (hm : m.length = 3) (hy : y.length = 4) (w : World) (h1 : likeB a [48, 48] = true) (hx : x = 45) (hp : findEq monB m 12 0 = -1) : Calls Tryd.prog 11 #[.string ⟨s.toArray⟩] w fun e w' => e = .returned (.tuple #[.int .i64 0, .int .i64 2]) ∧ Below w.heap.size w w' := by
  have hL : s.length = 11 := by rw [hs]; simp [ha, hm, hy]
  have e1 : (⟨s.toArray⟩ : ByteArray).extract 0 2 = ⟨a.toArray⟩ := piece s [] a (x :: (m ++ e0 :: y)) 0 2 hs rfl (by omega)
  have ex : ∀ h : 2 < (⟨s.toArray⟩ : ByteArray).size, (⟨s.toArray⟩ : ByteArray)[2]'h = x := byte_lit s a _ x 2 hs ha
  have e2 : (⟨s.toArray⟩ : ByteArray).extract 3 6 = ⟨m.toArray⟩ := piece s (a ++ [x]) m (e0 :: y) 3 6 (by rw [hs]; simp) (by simp [ha]) (by omega)
  have e3 : (⟨s.toArray⟩ : ByteArray).extract 6 11 = ⟨(e0 :: y).toArray⟩ := piece s (a ++ x :: m) (e0 :: y) [] 6 11 (by rw [hs]; simp) (by simp [ha, hm]) (by simp [hy])
  have e4 : (⟨s.toArray⟩ : ByteArray).extract 7 11 = ⟨y.toArray⟩ := piece s (a ++ x :: (m ++ [e0])) y [] 7 11 (by rw [hs]; simp) (by simp [ha, hm]) (by simp [hy])
  have ez : (⟨#[48, 48]⟩ : ByteArray).extract 0 2 = ⟨#[48, 48]⟩ := by rfl
  have H1 := hide (like_calls (by omega) h1)
  have hxx : ((x.toNat : Int) != 45) = false := by rw [hx]; rfl
  have HP := hide (place_calls hp)
  generalize e0 :: y = e at *
  have hn := ext_some w
  have hc := ext_cell w
  clear hs
  go_enter Tryd.func11, Tryd.ntmps11
  go_wp2
  refine wp_region_ext (by kernel_rfl) (by kernel_rfl) ?_
  repeat (go_big_quiet_step ((first | (go_at_call_of 24 (Value.string { data := List.toArray a }); exact ext_call (H1.out _)) | (go_at_call 25; exact ext_same (HP.out _)))))
  refine wpQuiet_nil ?_
  rintro w1 ⟨⟨_, hb1⟩, rfl⟩
  replace hb1 := hide hb1
  go_wp2
  go_ret2
  exact ⟨rfl, hb1.out⟩
set_option maxRecDepth 20000 in
set_option maxHeartbeats 2000000 in
theorem rday_e2 (s a m y : List UInt8) (x e0 : UInt8) (hs : s = a ++ x :: (m ++ e0 :: y)) (ha : a.length = 2) (hm : m.length = 3) (hy : y.length = 4) (w : World) (h1 : likeB a [48, 48] = true) (hx : x = 45) (j : Nat) (hp : findEq monB m 12 0 = j) (h2 : likeB (e0 :: y) [45, 48, 48, 48, 48] = false) : Calls Tryd.prog 11 #[.string ⟨s.toArray⟩] w fun e w' => e = .returned (.tuple #[.int .i64 0, .int .i64 2]) ∧ Below w.heap.size w w' := by
  have hL : s.length = 11 := by rw [hs]; simp [ha, hm, hy]
  have e1 : (⟨s.toArray⟩ : ByteArray).extract 0 2 = ⟨a.toArray⟩ := piece s [] a (x :: (m ++ e0 :: y)) 0 2 hs rfl (by omega)
  have ex : ∀ h : 2 < (⟨s.toArray⟩ : ByteArray).size, (⟨s.toArray⟩ : ByteArray)[2]'h = x := byte_lit s a _ x 2 hs ha
  have e2 : (⟨s.toArray⟩ : ByteArray).extract 3 6 = ⟨m.toArray⟩ := piece s (a ++ [x]) m (e0 :: y) 3 6 (by rw [hs]; simp) (by simp [ha]) (by omega)
  have e3 : (⟨s.toArray⟩ : ByteArray).extract 6 11 = ⟨(e0 :: y).toArray⟩ := piece s (a ++ x :: m) (e0 :: y) [] 6 11 (by rw [hs]; simp) (by simp [ha, hm]) (by simp [hy])
  have e4 : (⟨s.toArray⟩ : ByteArray).extract 7 11 = ⟨y.toArray⟩ := piece s (a ++ x :: (m ++ [e0])) y [] 7 11 (by rw [hs]; simp) (by simp [ha, hm]) (by simp [hy])
  have ez : (⟨#[48, 48]⟩ : ByteArray).extract 0 2 = ⟨#[48, 48]⟩ := by rfl
  have H1 := hide (like_calls (by omega) h1)
  have hxx : ((x.toNat : Int) != 45) = false := by rw [hx]; rfl
  have HP := hide (place_calls hp)
  have hj0 : decide ((j : Int) < 0) = false := by simp
  have H2 := hide (like_calls (by simp; omega) h2)
  generalize e0 :: y = e at *
  have hn := ext_some w
  have hc := ext_cell w
  clear hs
  go_enter Tryd.func11, Tryd.ntmps11
  go_wp2
  refine wp_region_ext (by kernel_rfl) (by kernel_rfl) ?_
  repeat (go_big_quiet_step ((first | (go_at_call_of 24 (Value.string { data := List.toArray a }); exact ext_call (H1.out _)) | (go_at_call 25; exact ext_same (HP.out _)) | (go_at_call_of 24 (Value.string { data := List.toArray e }); exact ext_call (H2.out _)))))
  refine wpQuiet_nil ?_
  rintro w1 ⟨⟨_, hb1⟩, rfl⟩
  replace hb1 := hide hb1
  go_wp2
  go_ret2
  exact ⟨rfl, hb1.out⟩
set_option maxRecDepth 20000 in
set_option maxHeartbeats 2000000 in
theorem rday_f2 (s a m y : List UInt8) (x e0 : UInt8) (hs : s = a ++ x :: (m ++ e0 :: y)) (ha : a.length = 2) (hm : m.length = 3) (hy : y.length = 4) (w : World) (h1 : likeB a [48, 48] = true) (hx : x = 45) (j : Nat) (hj : j < 12) (hp : findEq monB m 12 0 = j) (h2 : likeB (e0 :: y) [45, 48, 48, 48, 48] = true) (da : Digs a) (dy : Digs y) : Calls Tryd.prog 11 #[.string ⟨s.toArray⟩] w fun e w' => e = .returned (madeV (valL y 0) ((j : Int) + 1) (valL a 0) 0 0 0 0) ∧ Below w.heap.size w w' := by
  have hL : s.length = 11 := by rw [hs]; simp [ha, hm, hy]
  have e1 : (⟨s.toArray⟩ : ByteArray).extract 0 2 = ⟨a.toArray⟩ := piece s [] a (x :: (m ++ e0 :: y)) 0 2 hs rfl (by omega)
  have ex : ∀ h : 2 < (⟨s.toArray⟩ : ByteArray).size, (⟨s.toArray⟩ : ByteArray)[2]'h = x := byte_lit s a _ x 2 hs ha
  have e2 : (⟨s.toArray⟩ : ByteArray).extract 3 6 = ⟨m.toArray⟩ := piece s (a ++ [x]) m (e0 :: y) 3 6 (by rw [hs]; simp) (by simp [ha]) (by omega)
  have e3 : (⟨s.toArray⟩ : ByteArray).extract 6 11 = ⟨(e0 :: y).toArray⟩ := piece s (a ++ x :: m) (e0 :: y) [] 6 11 (by rw [hs]; simp) (by simp [ha, hm]) (by simp [hy])
  have e4 : (⟨s.toArray⟩ : ByteArray).extract 7 11 = ⟨y.toArray⟩ := piece s (a ++ x :: (m ++ [e0])) y [] 7 11 (by rw [hs]; simp) (by simp [ha, hm]) (by simp [hy])
  have ez : (⟨#[48, 48]⟩ : ByteArray).extract 0 2 = ⟨#[48, 48]⟩ := by rfl
  have H1 := hide (like_calls (by omega) h1)
  have hxx : ((x.toNat : Int) != 45) = false := by rw [hx]; rfl
  have HP := hide (place_calls hp)
  have hj0 : decide ((j : Int) < 0) = false := by simp
  have H2 := hide (like_calls (by simp; omega) h2)
  have HA := hide (fun w => value_any a w (by omega) da)
  have HY := hide (fun w => value_any y w (by omega) dy)
  have HM := hide (fun w => made_any (valL y 0) ((j : Int) + 1) (valL a 0) 0 0 0 0 0 w (by omega))
  obtain ⟨T, N, hTN⟩ := madeV_form (valL y 0) ((j : Int) + 1) (valL a 0) 0 0 0 0
  rw [hTN] at HM ⊢
  have hj12 : (j : Int) < 12 := by omega
  generalize (valL y 0 : Int) = Y at *
  generalize (valL a 0 : Int) = A at *
  clear da dy hTN hp h1 h2 hx
  generalize e0 :: y = e at *
  have hn := ext_some w
  have hc := ext_cell w
  clear hs
  go_enter Tryd.func11, Tryd.ntmps11
  go_wp2
  refine wp_region_ext (by kernel_rfl) (by kernel_rfl) ?_
  repeat (go_big_quiet_step ((first | (go_at_call_of 24 (Value.string { data := List.toArray a }); exact ext_call (H1.out _)) | (go_at_call 25; exact ext_same (HP.out _)) | (go_at_call_of 24 (Value.string { data := List.toArray e }); exact ext_call (H2.out _)))))
  refine wpQuiet_nil ?_
  rintro w1 ⟨⟨_, hb1⟩, rfl⟩
  replace hb1 := hide hb1
  go_wp2
  have hn1 := ext_some w1
  have hc1 := ext_cell w1
  refine wp_region_ext (by kernel_rfl) (by kernel_rfl) ?_
  repeat (go_big_quiet_step ((first | (go_at_call_of 28 (Value.string { data := List.toArray a }); exact ext_same (HA.out _)) | (go_at_call 25; exact ext_same (HP.out _)) | (go_at_call_of 28 (Value.string { data := List.toArray y }); exact ext_same (HY.out _)) | (go_at_call 27; exact ext_call (HM.out _)))))
  refine wpQuiet_nil ?_
  rintro w2 ⟨⟨_, hb2⟩, rfl⟩
  replace hb2 := hide hb2
  go_wp2
  go_ret2
  exact ⟨rfl, hb1.out.trans (hb2.out.mono hb1.out.size)⟩
end Go.Proofs.YtabncmepkoiheaaDoor
