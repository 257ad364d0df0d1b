/- The document's ParseInternal, all ways. -/
import Derived.Test.YtabncmepkoiheaaDoorRf5
namespace Go.Proofs.YtabncmepkoiheaaDoor
open Go.RowKit
set_option maxHeartbeats 1000000 in
theorem rint_len (s : List UInt8) (w : World) (h26 : s.length ≠ 26) : Calls Tryd.prog 8 #[.string ⟨s.toArray⟩] w fun e w' => e = .returned (.tuple #[.int .i64 0, .int .i64 2]) ∧ Below w.heap.size w w' := by
  have b1 : ((s.length : Int) != 26) = true := bne_iff_ne.2 (by omega)
  go_enter Tryd.func8, Tryd.ntmps8
  go_wp2
  go_ret2
  exact ⟨rfl, Below.refl _ _⟩
theorem zok_range {s : List UInt8} {z : Int} (h : ZOK s z) : -90000 ≤ z ∧ z ≤ 90000 := by
  obtain ⟨g, zh, zm, hz, h1, h2, rfl⟩ := h
  unfold sgn
  split <;> omega
set_option maxRecDepth 20000 in
set_option maxHeartbeats 2000000 in
theorem rint_a1 (s dd m q z : List UInt8) (c0 c1 x : UInt8) (hs : s = dd ++ x :: (m ++ (q ++ z))) (hd : dd = [c0, c1]) (hm : m.length = 3) (hq : q.length = 15) (hz : z.length = 5) (p : Int) (hp : findEq monB m 12 0 = p) (Z : Int) (ok : Bool) (HZ : Hid (∀ w, Calls Tryd.prog 26 #[.string ⟨z.toArray⟩] w fun e w' => e = .returned (.tuple #[.int .i64 Z, .bool ok]) ∧ Below w.heap.size w w')) (w : World) (h1 : likeB dd [32, 48] = true) (hpn : p < 0) : Calls Tryd.prog 8 #[.string ⟨s.toArray⟩] w fun e w' => e = .returned (.tuple #[.int .i64 0, .int .i64 2]) ∧ Below w.heap.size w w' := by
  have hdl : dd.length = 2 := by rw [hd]; rfl
  have hL : s.length = 26 := by rw [hs]; simp [hdl, hm, hq, hz]
  have e1 : (⟨s.toArray⟩ : ByteArray).extract 0 2 = ⟨dd.toArray⟩ := piece s [] dd (x :: (m ++ (q ++ z))) 0 2 hs rfl (by omega)
  have ex0 : ∀ h : 0 < (⟨s.toArray⟩ : ByteArray).size, (⟨s.toArray⟩ : ByteArray)[0]'h = c0 := byte_lit s [] (c1 :: x :: (m ++ (q ++ z))) c0 0 (by rw [hs, hd]; rfl) rfl
  have ex2 : ∀ h : 2 < (⟨s.toArray⟩ : ByteArray).size, (⟨s.toArray⟩ : ByteArray)[2]'h = x := byte_lit s dd _ x 2 hs hdl
  have e2 : (⟨s.toArray⟩ : ByteArray).extract 3 6 = ⟨m.toArray⟩ := piece s (dd ++ [x]) m (q ++ z) 3 6 (by rw [hs]; simp) (by simp [hdl]) (by omega)
  have e3 : (⟨s.toArray⟩ : ByteArray).extract 6 21 = ⟨q.toArray⟩ := piece s (dd ++ x :: m) q z 6 21 (by rw [hs]; simp) (by simp [hdl, hm]) (by omega)
  have e4 : (⟨s.toArray⟩ : ByteArray).extract 21 26 = ⟨z.toArray⟩ := piece s (dd ++ x :: (m ++ q)) z [] 21 26 (by rw [hs]; simp) (by simp [hdl, hm, hq]) (by omega)
  have HP := hide (place_calls hp)
  have H1 := hide (like_calls (by omega) h1)
  clear hs hd hp h1
  go_enter Tryd.func8, Tryd.ntmps8
  go_wp2_with (first
    | (go_at_call_of 24 (Value.string { data := #[32, 48] }); refine (H1.out _).mono ?_; rintro e w1 ⟨rfl, hb1⟩; replace hb1 := hide hb1)
    | (go_at_call 25; refine (HP.out _).mono ?_; rintro e w' ⟨rfl, rfl⟩)
    | (go_at_call 26; refine (HZ.out _).mono ?_; rintro e w4 ⟨rfl, hb4⟩; replace hb4 := hide hb4))
  go_ret2
  have k0 := hb1.out.trans (hb4.out.mono hb1.out.size)
  exact ⟨rfl, k0⟩
set_option maxRecDepth 20000 in
set_option maxHeartbeats 2000000 in
theorem rint_a2 (s dd m q z : List UInt8) (c0 c1 x : UInt8) (hs : s = dd ++ x :: (m ++ (q ++ z))) (hd : dd = [c0, c1]) (hm : m.length = 3) (hq : q.length = 15) (hz : z.length = 5) (p : Int) (hp : findEq monB m 12 0 = p) (Z : Int) (ok : Bool) (HZ : Hid (∀ w, Calls Tryd.prog 26 #[.string ⟨z.toArray⟩] w fun e w' => e = .returned (.tuple #[.int .i64 Z, .bool ok]) ∧ Below w.heap.size w w')) (w : World) (h1 : likeB dd [32, 48] = true) (hpn : 0 ≤ p) (hok : ok = false) : Calls Tryd.prog 8 #[.string ⟨s.toArray⟩] w fun e w' => e = .returned (.tuple #[.int .i64 0, .int .i64 2]) ∧ Below w.heap.size w w' := by
  have hdl : dd.length = 2 := by rw [hd]; rfl
  have hL : s.length = 26 := by rw [hs]; simp [hdl, hm, hq, hz]
  have e1 : (⟨s.toArray⟩ : ByteArray).extract 0 2 = ⟨dd.toArray⟩ := piece s [] dd (x :: (m ++ (q ++ z))) 0 2 hs rfl (by omega)
  have ex0 : ∀ h : 0 < (⟨s.toArray⟩ : ByteArray).size, (⟨s.toArray⟩ : ByteArray)[0]'h = c0 := byte_lit s [] (c1 :: x :: (m ++ (q ++ z))) c0 0 (by rw [hs, hd]; rfl) rfl
  have ex2 : ∀ h : 2 < (⟨s.toArray⟩ : ByteArray).size, (⟨s.toArray⟩ : ByteArray)[2]'h = x := byte_lit s dd _ x 2 hs hdl
  have e2 : (⟨s.toArray⟩ : ByteArray).extract 3 6 = ⟨m.toArray⟩ := piece s (dd ++ [x]) m (q ++ z) 3 6 (by rw [hs]; simp) (by simp [hdl]) (by omega)
  have e3 : (⟨s.toArray⟩ : ByteArray).extract 6 21 = ⟨q.toArray⟩ := piece s (dd ++ x :: m) q z 6 21 (by rw [hs]; simp) (by simp [hdl, hm]) (by omega)
  have e4 : (⟨s.toArray⟩ : ByteArray).extract 21 26 = ⟨z.toArray⟩ := piece s (dd ++ x :: (m ++ q)) z [] 21 26 (by rw [hs]; simp) (by simp [hdl, hm, hq]) (by omega)
  have HP := hide (place_calls hp)
  have H1 := hide (like_calls (by omega) h1)
  have hpf : ¬ p < 0 := by omega
  subst hok
  clear hs hd hp h1
  go_enter Tryd.func8, Tryd.ntmps8
  go_wp2_with (first
    | (go_at_call_of 24 (Value.string { data := #[32, 48] }); refine (H1.out _).mono ?_; rintro e w1 ⟨rfl, hb1⟩; replace hb1 := hide hb1)
    | (go_at_call 25; refine (HP.out _).mono ?_; rintro e w' ⟨rfl, rfl⟩)
    | (go_at_call 26; refine (HZ.out _).mono ?_; rintro e w4 ⟨rfl, hb4⟩; replace hb4 := hide hb4))
  go_ret2
  have k0 := hb1.out.trans (hb4.out.mono hb1.out.size)
  exact ⟨rfl, k0⟩
set_option maxRecDepth 20000 in
set_option maxHeartbeats 2000000 in
theorem rint_a3 (s dd m q z : List UInt8) (c0 c1 x : UInt8) (hs : s = dd ++ x :: (m ++ (q ++ z))) (hd : dd = [c0, c1]) (hm : m.length = 3) (hq : q.length = 15) (hz : z.length = 5) (p : Int) (hp : findEq monB m 12 0 = p) (Z : Int) (ok : Bool) (HZ : Hid (∀ w, Calls Tryd.prog 26 #[.string ⟨z.toArray⟩] w fun e w' => e = .returned (.tuple #[.int .i64 Z, .bool ok]) ∧ Below w.heap.size w w')) (w : World) (h1 : likeB dd [32, 48] = true) (hpn : 0 ≤ p) (hok : ok = true) (hx : x ≠ 45) : Calls Tryd.prog 8 #[.string ⟨s.toArray⟩] w fun e w' => e = .returned (.tuple #[.int .i64 0, .int .i64 2]) ∧ Below w.heap.size w w' := by
  have hdl : dd.length = 2 := by rw [hd]; rfl
  have hL : s.length = 26 := by rw [hs]; simp [hdl, hm, hq, hz]
  have e1 : (⟨s.toArray⟩ : ByteArray).extract 0 2 = ⟨dd.toArray⟩ := piece s [] dd (x :: (m ++ (q ++ z))) 0 2 hs rfl (by omega)
  have ex0 : ∀ h : 0 < (⟨s.toArray⟩ : ByteArray).size, (⟨s.toArray⟩ : ByteArray)[0]'h = c0 := byte_lit s [] (c1 :: x :: (m ++ (q ++ z))) c0 0 (by rw [hs, hd]; rfl) rfl
  have ex2 : ∀ h : 2 < (⟨s.toArray⟩ : ByteArray).size, (⟨s.toArray⟩ : ByteArray)[2]'h = x := byte_lit s dd _ x 2 hs hdl
  have e2 : (⟨s.toArray⟩ : ByteArray).extract 3 6 = ⟨m.toArray⟩ := piece s (dd ++ [x]) m (q ++ z) 3 6 (by rw [hs]; simp) (by simp [hdl]) (by omega)
  have e3 : (⟨s.toArray⟩ : ByteArray).extract 6 21 = ⟨q.toArray⟩ := piece s (dd ++ x :: m) q z 6 21 (by rw [hs]; simp) (by simp [hdl, hm]) (by omega)
  have e4 : (⟨s.toArray⟩ : ByteArray).extract 21 26 = ⟨z.toArray⟩ := piece s (dd ++ x :: (m ++ q)) z [] 21 26 (by rw [hs]; simp) (by simp [hdl, hm, hq]) (by omega)
  have HP := hide (place_calls hp)
  have H1 := hide (like_calls (by omega) h1)
  have hpf : ¬ p < 0 := by omega
  subst hok
  have hxx : ((x.toNat : Int) != 45) = true := bne_iff_ne.2 (fun h => hx (UInt8.toNat_inj.1 (show x.toNat = 45 by omega)))
  clear hs hd hp h1 hx
  go_enter Tryd.func8, Tryd.ntmps8
  go_wp2_with (first
    | (go_at_call_of 24 (Value.string { data := #[32, 48] }); refine (H1.out _).mono ?_; rintro e w1 ⟨rfl, hb1⟩; replace hb1 := hide hb1)
    | (go_at_call 25; refine (HP.out _).mono ?_; rintro e w' ⟨rfl, rfl⟩)
    | (go_at_call 26; refine (HZ.out _).mono ?_; rintro e w4 ⟨rfl, hb4⟩; replace hb4 := hide hb4))
  go_ret2
  have k0 := hb1.out.trans (hb4.out.mono hb1.out.size)
  exact ⟨rfl, k0⟩
set_option maxRecDepth 20000 in
set_option maxHeartbeats 2000000 in
theorem rint_a4 (s dd m q z : List UInt8) (c0 c1 x : UInt8) (hs : s = dd ++ x :: (m ++ (q ++ z))) (hd : dd = [c0, c1]) (hm : m.length = 3) (hq : q.length = 15) (hz : z.length = 5) (p : Int) (hp : findEq monB m 12 0 = p) (Z : Int) (ok : Bool) (HZ : Hid (∀ w, Calls Tryd.prog 26 #[.string ⟨z.toArray⟩] w fun e w' => e = .returned (.tuple #[.int .i64 Z, .bool ok]) ∧ Below w.heap.size w w')) (w : World) (h1 : likeB dd [32, 48] = true) (hpn : 0 ≤ p) (hok : ok = true) (hx : x = 45) (h5 : likeB q [45, 48, 48, 48, 48, 32, 48, 48, 58, 48, 48, 58, 48, 48, 32] = false) : Calls Tryd.prog 8 #[.string ⟨s.toArray⟩] w fun e w' => e = .returned (.tuple #[.int .i64 0, .int .i64 2]) ∧ Below w.heap.size w w' := by
  have hdl : dd.length = 2 := by rw [hd]; rfl
  have hL : s.length = 26 := by rw [hs]; simp [hdl, hm, hq, hz]
  have e1 : (⟨s.toArray⟩ : ByteArray).extract 0 2 = ⟨dd.toArray⟩ := piece s [] dd (x :: (m ++ (q ++ z))) 0 2 hs rfl (by omega)
  have ex0 : ∀ h : 0 < (⟨s.toArray⟩ : ByteArray).size, (⟨s.toArray⟩ : ByteArray)[0]'h = c0 := byte_lit s [] (c1 :: x :: (m ++ (q ++ z))) c0 0 (by rw [hs, hd]; rfl) rfl
  have ex2 : ∀ h : 2 < (⟨s.toArray⟩ : ByteArray).size, (⟨s.toArray⟩ : ByteArray)[2]'h = x := byte_lit s dd _ x 2 hs hdl
  have e2 : (⟨s.toArray⟩ : ByteArray).extract 3 6 = ⟨m.toArray⟩ := piece s (dd ++ [x]) m (q ++ z) 3 6 (by rw [hs]; simp) (by simp [hdl]) (by omega)
  have e3 : (⟨s.toArray⟩ : ByteArray).extract 6 21 = ⟨q.toArray⟩ := piece s (dd ++ x :: m) q z 6 21 (by rw [hs]; simp) (by simp [hdl, hm]) (by omega)
  have e4 : (⟨s.toArray⟩ : ByteArray).extract 21 26 = ⟨z.toArray⟩ := piece s (dd ++ x :: (m ++ q)) z [] 21 26 (by rw [hs]; simp) (by simp [hdl, hm, hq]) (by omega)
  have HP := hide (place_calls hp)
  have H1 := hide (like_calls (by omega) h1)
  have hpf : ¬ p < 0 := by omega
  subst hok
  have hxx : ((x.toNat : Int) != 45) = false := by rw [hx]; rfl
  have HQ := hide (like_calls (by omega) h5)
  clear hs hd hp h1 h5 hx
  go_enter Tryd.func8, Tryd.ntmps8
  go_wp2_with (first
    | (go_at_call_of 24 (Value.string { data := #[32, 48] }); refine (H1.out _).mono ?_; rintro e w1 ⟨rfl, hb1⟩; replace hb1 := hide hb1)
    | (go_at_call 25; refine (HP.out _).mono ?_; rintro e w' ⟨rfl, rfl⟩)
    | (go_at_call 26; refine (HZ.out _).mono ?_; rintro e w4 ⟨rfl, hb4⟩; replace hb4 := hide hb4)
    | (go_at_call_of 24 (Value.string { data := List.toArray q }); refine (HQ.out _).mono ?_; rintro e w5 ⟨rfl, hb5⟩; replace hb5 := hide hb5))
  go_ret2
  have k0 := hb1.out.trans (hb4.out.mono hb1.out.size)
  have k1 := k0.trans (hb5.out.mono k0.size)
  exact ⟨rfl, k1⟩
set_option maxRecDepth 20000 in
set_option maxHeartbeats 2000000 in
theorem rint_b1 (s dd m q z : List UInt8) (c0 c1 x : UInt8) (hs : s = dd ++ x :: (m ++ (q ++ z))) (hd : dd = [c0, c1]) (hm : m.length = 3) (hq : q.length = 15) (hz : z.length = 5) (p : Int) (hp : findEq monB m 12 0 = p) (Z : Int) (ok : Bool) (HZ : Hid (∀ w, Calls Tryd.prog 26 #[.string ⟨z.toArray⟩] w fun e w' => e = .returned (.tuple #[.int .i64 Z, .bool ok]) ∧ Below w.heap.size w w')) (w : World) (h1 : likeB dd [32, 48] = false) (h2 : likeB dd [48, 48] = true) (h3 : c0 ≠ 48) (hpn : p < 0) : Calls Tryd.prog 8 #[.string ⟨s.toArray⟩] w fun e w' => e = .returned (.tuple #[.int .i64 0, .int .i64 2]) ∧ Below w.heap.size w w' := by
  have hdl : dd.length = 2 := by rw [hd]; rfl
  have hL : s.length = 26 := by rw [hs]; simp [hdl, hm, hq, hz]
  have e1 : (⟨s.toArray⟩ : ByteArray).extract 0 2 = ⟨dd.toArray⟩ := piece s [] dd (x :: (m ++ (q ++ z))) 0 2 hs rfl (by omega)
  have ex0 : ∀ h : 0 < (⟨s.toArray⟩ : ByteArray).size, (⟨s.toArray⟩ : ByteArray)[0]'h = c0 := byte_lit s [] (c1 :: x :: (m ++ (q ++ z))) c0 0 (by rw [hs, hd]; rfl) rfl
  have ex2 : ∀ h : 2 < (⟨s.toArray⟩ : ByteArray).size, (⟨s.toArray⟩ : ByteArray)[2]'h = x := byte_lit s dd _ x 2 hs hdl
  have e2 : (⟨s.toArray⟩ : ByteArray).extract 3 6 = ⟨m.toArray⟩ := piece s (dd ++ [x]) m (q ++ z) 3 6 (by rw [hs]; simp) (by simp [hdl]) (by omega)
  have e3 : (⟨s.toArray⟩ : ByteArray).extract 6 21 = ⟨q.toArray⟩ := piece s (dd ++ x :: m) q z 6 21 (by rw [hs]; simp) (by simp [hdl, hm]) (by omega)
  have e4 : (⟨s.toArray⟩ : ByteArray).extract 21 26 = ⟨z.toArray⟩ := piece s (dd ++ x :: (m ++ q)) z [] 21 26 (by rw [hs]; simp) (by simp [hdl, hm, hq]) (by omega)
  have HP := hide (place_calls hp)
  have H1 := hide (like_calls (by omega) h1)
  have H2 := hide (like_calls (by omega) h2)
  have h48 : ((c0.toNat : Int) != 48) = true := bne_iff_ne.2 (fun h => h3 (UInt8.toNat_inj.1 (show c0.toNat = 48 by omega)))
  clear hs hd hp h1 h2 h3
  go_enter Tryd.func8, Tryd.ntmps8
  go_wp2_with (first
    | (go_at_call_of 24 (Value.string { data := #[32, 48] }); refine (H1.out _).mono ?_; rintro e w1 ⟨rfl, hb1⟩; replace hb1 := hide hb1)
    | (go_at_call_of 24 (Value.string { data := #[48, 48] }); refine (H2.out _).mono ?_; rintro e w2 ⟨rfl, hb2⟩; replace hb2 := hide hb2)
    | (go_at_call 25; refine (HP.out _).mono ?_; rintro e w' ⟨rfl, rfl⟩)
    | (go_at_call 26; refine (HZ.out _).mono ?_; rintro e w4 ⟨rfl, hb4⟩; replace hb4 := hide hb4))
  go_ret2
  have k0 := hb1.out.trans (hb2.out.mono hb1.out.size)
  have k1 := k0.trans (hb4.out.mono k0.size)
  exact ⟨rfl, k1⟩
set_option maxRecDepth 20000 in
set_option maxHeartbeats 2000000 in
theorem rint_b2 (s dd m q z : List UInt8) (c0 c1 x : UInt8) (hs : s = dd ++ x :: (m ++ (q ++ z))) (hd : dd = [c0, c1]) (hm : m.length = 3) (hq : q.length = 15) (hz : z.length = 5) (p : Int) (hp : findEq monB m 12 0 = p) (Z : Int) (ok : Bool) (HZ : Hid (∀ w, Calls Tryd.prog 26 #[.string ⟨z.toArray⟩] w fun e w' => e = .returned (.tuple #[.int .i64 Z, .bool ok]) ∧ Below w.heap.size w w')) (w : World) (h1 : likeB dd [32, 48] = false) (h2 : likeB dd [48, 48] = true) (h3 : c0 ≠ 48) (hpn : 0 ≤ p) (hok : ok = false) : Calls Tryd.prog 8 #[.string ⟨s.toArray⟩] w fun e w' => e = .returned (.tuple #[.int .i64 0, .int .i64 2]) ∧ Below w.heap.size w w' := by
  have hdl : dd.length = 2 := by rw [hd]; rfl
  have hL : s.length = 26 := by rw [hs]; simp [hdl, hm, hq, hz]
  have e1 : (⟨s.toArray⟩ : ByteArray).extract 0 2 = ⟨dd.toArray⟩ := piece s [] dd (x :: (m ++ (q ++ z))) 0 2 hs rfl (by omega)
  have ex0 : ∀ h : 0 < (⟨s.toArray⟩ : ByteArray).size, (⟨s.toArray⟩ : ByteArray)[0]'h = c0 := byte_lit s [] (c1 :: x :: (m ++ (q ++ z))) c0 0 (by rw [hs, hd]; rfl) rfl
  have ex2 : ∀ h : 2 < (⟨s.toArray⟩ : ByteArray).size, (⟨s.toArray⟩ : ByteArray)[2]'h = x := byte_lit s dd _ x 2 hs hdl
  have e2 : (⟨s.toArray⟩ : ByteArray).extract 3 6 = ⟨m.toArray⟩ := piece s (dd ++ [x]) m (q ++ z) 3 6 (by rw [hs]; simp) (by simp [hdl]) (by omega)
  have e3 : (⟨s.toArray⟩ : ByteArray).extract 6 21 = ⟨q.toArray⟩ := piece s (dd ++ x :: m) q z 6 21 (by rw [hs]; simp) (by simp [hdl, hm]) (by omega)
  have e4 : (⟨s.toArray⟩ : ByteArray).extract 21 26 = ⟨z.toArray⟩ := piece s (dd ++ x :: (m ++ q)) z [] 21 26 (by rw [hs]; simp) (by simp [hdl, hm, hq]) (by omega)
  have HP := hide (place_calls hp)
  have H1 := hide (like_calls (by omega) h1)
  have H2 := hide (like_calls (by omega) h2)
  have h48 : ((c0.toNat : Int) != 48) = true := bne_iff_ne.2 (fun h => h3 (UInt8.toNat_inj.1 (show c0.toNat = 48 by omega)))
  have hpf : ¬ p < 0 := by omega
  subst hok
  clear hs hd hp h1 h2 h3
  go_enter Tryd.func8, Tryd.ntmps8
  go_wp2_with (first
    | (go_at_call_of 24 (Value.string { data := #[32, 48] }); refine (H1.out _).mono ?_; rintro e w1 ⟨rfl, hb1⟩; replace hb1 := hide hb1)
    | (go_at_call_of 24 (Value.string { data := #[48, 48] }); refine (H2.out _).mono ?_; rintro e w2 ⟨rfl, hb2⟩; replace hb2 := hide hb2)
    | (go_at_call 25; refine (HP.out _).mono ?_; rintro e w' ⟨rfl, rfl⟩)
    | (go_at_call 26; refine (HZ.out _).mono ?_; rintro e w4 ⟨rfl, hb4⟩; replace hb4 := hide hb4))
  go_ret2
  have k0 := hb1.out.trans (hb2.out.mono hb1.out.size)
  have k1 := k0.trans (hb4.out.mono k0.size)
  exact ⟨rfl, k1⟩
set_option maxRecDepth 20000 in
set_option maxHeartbeats 2000000 in
theorem rint_b3 (s dd m q z : List UInt8) (c0 c1 x : UInt8) (hs : s = dd ++ x :: (m ++ (q ++ z))) (hd : dd = [c0, c1]) (hm : m.length = 3) (hq : q.length = 15) (hz : z.length = 5) (p : Int) (hp : findEq monB m 12 0 = p) (Z : Int) (ok : Bool) (HZ : Hid (∀ w, Calls Tryd.prog 26 #[.string ⟨z.toArray⟩] w fun e w' => e = .returned (.tuple #[.int .i64 Z, .bool ok]) ∧ Below w.heap.size w w')) (w : World) (h1 : likeB dd [32, 48] = false) (h2 : likeB dd [48, 48] = true) (h3 : c0 ≠ 48) (hpn : 0 ≤ p) (hok : ok = true) (hx : x ≠ 45) : Calls Tryd.prog 8 #[.string ⟨s.toArray⟩] w fun e w' => e = .returned (.tuple #[.int .i64 0, .int .i64 2]) ∧ Below w.heap.size w w' := by
  have hdl : dd.length = 2 := by rw [hd]; rfl
  have hL : s.length = 26 := by rw [hs]; simp [hdl, hm, hq, hz]
  have e1 : (⟨s.toArray⟩ : ByteArray).extract 0 2 = ⟨dd.toArray⟩ := piece s [] dd (x :: (m ++ (q ++ z))) 0 2 hs rfl (by omega)
  have ex0 : ∀ h : 0 < (⟨s.toArray⟩ : ByteArray).size, (⟨s.toArray⟩ : ByteArray)[0]'h = c0 := byte_lit s [] (c1 :: x :: (m ++ (q ++ z))) c0 0 (by rw [hs, hd]; rfl) rfl
  have ex2 : ∀ h : 2 < (⟨s.toArray⟩ : ByteArray).size, (⟨s.toArray⟩ : ByteArray)[2]'h = x := byte_lit s dd _ x 2 hs hdl
  have e2 : (⟨s.toArray⟩ : ByteArray).extract 3 6 = ⟨m.toArray⟩ := piece s (dd ++ [x]) m (q ++ z) 3 6 (by rw [hs]; simp) (by simp [hdl]) (by omega)
  have e3 : (⟨s.toArray⟩ : ByteArray).extract 6 21 = ⟨q.toArray⟩ := piece s (dd ++ x :: m) q z 6 21 (by rw [hs]; simp) (by simp [hdl, hm]) (by omega)
  have e4 : (⟨s.toArray⟩ : ByteArray).extract 21 26 = ⟨z.toArray⟩ := piece s (dd ++ x :: (m ++ q)) z [] 21 26 (by rw [hs]; simp) (by simp [hdl, hm, hq]) (by omega)
  have HP := hide (place_calls hp)
  have H1 := hide (like_calls (by omega) h1)
  have H2 := hide (like_calls (by omega) h2)
  have h48 : ((c0.toNat : Int) != 48) = true := bne_iff_ne.2 (fun h => h3 (UInt8.toNat_inj.1 (show c0.toNat = 48 by omega)))
  have hpf : ¬ p < 0 := by omega
  subst hok
  have hxx : ((x.toNat : Int) != 45) = true := bne_iff_ne.2 (fun h => hx (UInt8.toNat_inj.1 (show x.toNat = 45 by omega)))
  clear hs hd hp h1 h2 h3 hx
  go_enter Tryd.func8, Tryd.ntmps8
  go_wp2_with (first
    | (go_at_call_of 24 (Value.string { data := #[32, 48] }); refine (H1.out _).mono ?_; rintro e w1 ⟨rfl, hb1⟩; replace hb1 := hide hb1)
    | (go_at_call_of 24 (Value.string { data := #[48, 48] }); refine (H2.out _).mono ?_; rintro e w2 ⟨rfl, hb2⟩; replace hb2 := hide hb2)
    | (go_at_call 25; refine (HP.out _).mono ?_; rintro e w' ⟨rfl, rfl⟩)
    | (go_at_call 26; refine (HZ.out _).mono ?_; rintro e w4 ⟨rfl, hb4⟩; replace hb4 := hide hb4))
  go_ret2
  have k0 := hb1.out.trans (hb2.out.mono hb1.out.size)
  have k1 := k0.trans (hb4.out.mono k0.size)
  exact ⟨rfl, k1⟩
set_option maxRecDepth 20000 in
set_option maxHeartbeats 2000000 in
theorem rint_b4 (s dd m q z : List UInt8) (c0 c1 x : UInt8) (hs : s = dd ++ x :: (m ++ (q ++ z))) (hd : dd = [c0, c1]) (hm : m.length = 3) (hq : q.length = 15) (hz : z.length = 5) (p : Int) (hp : findEq monB m 12 0 = p) (Z : Int) (ok : Bool) (HZ : Hid (∀ w, Calls Tryd.prog 26 #[.string ⟨z.toArray⟩] w fun e w' => e = .returned (.tuple #[.int .i64 Z, .bool ok]) ∧ Below w.heap.size w w')) (w : World) (h1 : likeB dd [32, 48] = false) (h2 : likeB dd [48, 48] = true) (h3 : c0 ≠ 48) (hpn : 0 ≤ p) (hok : ok = true) (hx : x = 45) (h5 : likeB q [45, 48, 48, 48, 48, 32, 48, 48, 58, 48, 48, 58, 48, 48, 32] = false) : Calls Tryd.prog 8 #[.string ⟨s.toArray⟩] w fun e w' => e = .returned (.tuple #[.int .i64 0, .int .i64 2]) ∧ Below w.heap.size w w' := by
  have hdl : dd.length = 2 := by rw [hd]; rfl
  have hL : s.length = 26 := by rw [hs]; simp [hdl, hm, hq, hz]
  have e1 : (⟨s.toArray⟩ : ByteArray).extract 0 2 = ⟨dd.toArray⟩ := piece s [] dd (x :: (m ++ (q ++ z))) 0 2 hs rfl (by omega)
  have ex0 : ∀ h : 0 < (⟨s.toArray⟩ : ByteArray).size, (⟨s.toArray⟩ : ByteArray)[0]'h = c0 := byte_lit s [] (c1 :: x :: (m ++ (q ++ z))) c0 0 (by rw [hs, hd]; rfl) rfl
  have ex2 : ∀ h : 2 < (⟨s.toArray⟩ : ByteArray).size, (⟨s.toArray⟩ : ByteArray)[2]'h = x := byte_lit s dd _ x 2 hs hdl
  have e2 : (⟨s.toArray⟩ : ByteArray).extract 3 6 = ⟨m.toArray⟩ := piece s (dd ++ [x]) m (q ++ z) 3 6 (by rw [hs]; simp) (by simp [hdl]) (by omega)
  have e3 : (⟨s.toArray⟩ : ByteArray).extract 6 21 = ⟨q.toArray⟩ := piece s (dd ++ x :: m) q z 6 21 (by rw [hs]; simp) (by simp [hdl, hm]) (by omega)
  have e4 : (⟨s.toArray⟩ : ByteArray).extract 21 26 = ⟨z.toArray⟩ := piece s (dd ++ x :: (m ++ q)) z [] 21 26 (by rw [hs]; simp) (by simp [hdl, hm, hq]) (by omega)
  have HP := hide (place_calls hp)
  have H1 := hide (like_calls (by omega) h1)
  have H2 := hide (like_calls (by omega) h2)
  have h48 : ((c0.toNat : Int) != 48) = true := bne_iff_ne.2 (fun h => h3 (UInt8.toNat_inj.1 (show c0.toNat = 48 by omega)))
  have hpf : ¬ p < 0 := by omega
  subst hok
  have hxx : ((x.toNat : Int) != 45) = false := by rw [hx]; rfl
  have HQ := hide (like_calls (by omega) h5)
  clear hs hd hp h1 h2 h3 h5 hx
  go_enter Tryd.func8, Tryd.ntmps8
  go_wp2_with (first
    | (go_at_call_of 24 (Value.string { data := #[32, 48] }); refine (H1.out _).mono ?_; rintro e w1 ⟨rfl, hb1⟩; replace hb1 := hide hb1)
    | (go_at_call_of 24 (Value.string { data := #[48, 48] }); refine (H2.out _).mono ?_; rintro e w2 ⟨rfl, hb2⟩; replace hb2 := hide hb2)
    | (go_at_call 25; refine (HP.out _).mono ?_; rintro e w' ⟨rfl, rfl⟩)
    | (go_at_call 26; refine (HZ.out _).mono ?_; rintro e w4 ⟨rfl, hb4⟩; replace hb4 := hide hb4)
    | (go_at_call_of 24 (Value.string { data := List.toArray q }); refine (HQ.out _).mono ?_; rintro e w5 ⟨rfl, hb5⟩; replace hb5 := hide hb5))
  go_ret2
  have k0 := hb1.out.trans (hb2.out.mono hb1.out.size)
  have k1 := k0.trans (hb4.out.mono k0.size)
  have k2 := k1.trans (hb5.out.mono k1.size)
  exact ⟨rfl, k2⟩
set_option maxRecDepth 20000 in
set_option maxHeartbeats 2000000 in
theorem rint_cx (s dd m q z : List UInt8) (c0 c1 x : UInt8) (hs : s = dd ++ x :: (m ++ (q ++ z))) (hd : dd = [c0, c1]) (hm : m.length = 3) (hq : q.length = 15) (hz : z.length = 5) (p : Int) (hp : findEq monB m 12 0 = p) (Z : Int) (ok : Bool) (HZ : Hid (∀ w, Calls Tryd.prog 26 #[.string ⟨z.toArray⟩] w fun e w' => e = .returned (.tuple #[.int .i64 Z, .bool ok]) ∧ Below w.heap.size w w')) (w : World) (h1 : likeB dd [32, 48] = false) (h2 : likeB dd [48, 48] = true) (h3 : c0 = 48)  : Calls Tryd.prog 8 #[.string ⟨s.toArray⟩] w fun e w' => e = .returned (.tuple #[.int .i64 0, .int .i64 2]) ∧ Below w.heap.size w w' := by
  have hdl : dd.length = 2 := by rw [hd]; rfl
  have hL : s.length = 26 := by rw [hs]; simp [hdl, hm, hq, hz]
  have e1 : (⟨s.toArray⟩ : ByteArray).extract 0 2 = ⟨dd.toArray⟩ := piece s [] dd (x :: (m ++ (q ++ z))) 0 2 hs rfl (by omega)
  have ex0 : ∀ h : 0 < (⟨s.toArray⟩ : ByteArray).size, (⟨s.toArray⟩ : ByteArray)[0]'h = c0 := byte_lit s [] (c1 :: x :: (m ++ (q ++ z))) c0 0 (by rw [hs, hd]; rfl) rfl
  have ex2 : ∀ h : 2 < (⟨s.toArray⟩ : ByteArray).size, (⟨s.toArray⟩ : ByteArray)[2]'h = x := byte_lit s dd _ x 2 hs hdl
  have e2 : (⟨s.toArray⟩ : ByteArray).extract 3 6 = ⟨m.toArray⟩ := piece s (dd ++ [x]) m (q ++ z) 3 6 (by rw [hs]; simp) (by simp [hdl]) (by omega)
  have e3 : (⟨s.toArray⟩ : ByteArray).extract 6 21 = ⟨q.toArray⟩ := piece s (dd ++ x :: m) q z 6 21 (by rw [hs]; simp) (by simp [hdl, hm]) (by omega)
  have e4 : (⟨s.toArray⟩ : ByteArray).extract 21 26 = ⟨z.toArray⟩ := piece s (dd ++ x :: (m ++ q)) z [] 21 26 (by rw [hs]; simp) (by simp [hdl, hm, hq]) (by omega)
  have HP := hide (place_calls hp)
  have H1 := hide (like_calls (by omega) h1)
  have H2 := hide (like_calls (by omega) h2)
  have h48 : ((c0.toNat : Int) != 48) = false := by rw [h3]; rfl
  clear hs hd hp h1 h2 h3
  go_enter Tryd.func8, Tryd.ntmps8
  go_wp2_with (first
    | (go_at_call_of 24 (Value.string { data := #[32, 48] }); refine (H1.out _).mono ?_; rintro e w1 ⟨rfl, hb1⟩; replace hb1 := hide hb1)
    | (go_at_call_of 24 (Value.string { data := #[48, 48] }); refine (H2.out _).mono ?_; rintro e w2 ⟨rfl, hb2⟩; replace hb2 := hide hb2)
    | (go_at_call 25; refine (HP.out _).mono ?_; rintro e w' ⟨rfl, rfl⟩)
    | (go_at_call 26; refine (HZ.out _).mono ?_; rintro e w4 ⟨rfl, hb4⟩; replace hb4 := hide hb4))
  go_ret2
  have k0 := hb1.out.trans (hb2.out.mono hb1.out.size)
  have k1 := k0.trans (hb4.out.mono k0.size)
  exact ⟨rfl, k1⟩
set_option maxRecDepth 20000 in
set_option maxHeartbeats 2000000 in
theorem rint_dx (s dd m q z : List UInt8) (c0 c1 x : UInt8) (hs : s = dd ++ x :: (m ++ (q ++ z))) (hd : dd = [c0, c1]) (hm : m.length = 3) (hq : q.length = 15) (hz : z.length = 5) (p : Int) (hp : findEq monB m 12 0 = p) (Z : Int) (ok : Bool) (HZ : Hid (∀ w, Calls Tryd.prog 26 #[.string ⟨z.toArray⟩] w fun e w' => e = .returned (.tuple #[.int .i64 Z, .bool ok]) ∧ Below w.heap.size w w')) (w : World) (h1 : likeB dd [32, 48] = false) (h2 : likeB dd [48, 48] = false)  : Calls Tryd.prog 8 #[.string ⟨s.toArray⟩] w fun e w' => e = .returned (.tuple #[.int .i64 0, .int .i64 2]) ∧ Below w.heap.size w w' := by
  have hdl : dd.length = 2 := by rw [hd]; rfl
  have hL : s.length = 26 := by rw [hs]; simp [hdl, hm, hq, hz]
  have e1 : (⟨s.toArray⟩ : ByteArray).extract 0 2 = ⟨dd.toArray⟩ := piece s [] dd (x :: (m ++ (q ++ z))) 0 2 hs rfl (by omega)
  have ex0 : ∀ h : 0 < (⟨s.toArray⟩ : ByteArray).size, (⟨s.toArray⟩ : ByteArray)[0]'h = c0 := byte_lit s [] (c1 :: x :: (m ++ (q ++ z))) c0 0 (by rw [hs, hd]; rfl) rfl
  have ex2 : ∀ h : 2 < (⟨s.toArray⟩ : ByteArray).size, (⟨s.toArray⟩ : ByteArray)[2]'h = x := byte_lit s dd _ x 2 hs hdl
  have e2 : (⟨s.toArray⟩ : ByteArray).extract 3 6 = ⟨m.toArray⟩ := piece s (dd ++ [x]) m (q ++ z) 3 6 (by rw [hs]; simp) (by simp [hdl]) (by omega)
  have e3 : (⟨s.toArray⟩ : ByteArray).extract 6 21 = ⟨q.toArray⟩ := piece s (dd ++ x :: m) q z 6 21 (by rw [hs]; simp) (by simp [hdl, hm]) (by omega)
  have e4 : (⟨s.toArray⟩ : ByteArray).extract 21 26 = ⟨z.toArray⟩ := piece s (dd ++ x :: (m ++ q)) z [] 21 26 (by rw [hs]; simp) (by simp [hdl, hm, hq]) (by omega)
  have HP := hide (place_calls hp)
  have H1 := hide (like_calls (by omega) h1)
  have H2 := hide (like_calls (by omega) h2)
  clear hs hd hp h1 h2
  go_enter Tryd.func8, Tryd.ntmps8
  go_wp2_with (first
    | (go_at_call_of 24 (Value.string { data := #[32, 48] }); refine (H1.out _).mono ?_; rintro e w1 ⟨rfl, hb1⟩; replace hb1 := hide hb1)
    | (go_at_call_of 24 (Value.string { data := #[48, 48] }); refine (H2.out _).mono ?_; rintro e w2 ⟨rfl, hb2⟩; replace hb2 := hide hb2)
    | (go_at_call 25; refine (HP.out _).mono ?_; rintro e w' ⟨rfl, rfl⟩)
    | (go_at_call 26; refine (HZ.out _).mono ?_; rintro e w4 ⟨rfl, hb4⟩; replace hb4 := hide hb4))
  go_ret2
  have k0 := hb1.out.trans (hb2.out.mono hb1.out.size)
  have k1 := k0.trans (hb4.out.mono k0.size)
  exact ⟨rfl, k1⟩
set_option maxRecDepth 20000 in
set_option maxHeartbeats 4000000 in
theorem rint_af (s dd m q z : List UInt8) (c0 c1 x : UInt8) (hs : s = dd ++ x :: (m ++ (q ++ z))) (hd : dd = [c0, c1]) (hm : m.length = 3) (hq : q.length = 15) (hz : z.length = 5) (p : Int) (hp : findEq monB m 12 0 = p) (Z : Int) (ok : Bool) (HZ : Hid (∀ w, Calls Tryd.prog 26 #[.string ⟨z.toArray⟩] w fun e w' => e = .returned (.tuple #[.int .i64 Z, .bool ok]) ∧ Below w.heap.size w w')) (w : World) (h1 : likeB dd [32, 48] = true) (h9 : c0 = 32) (hpn : 0 ≤ p) (hp12 : p < 12) (hok : ok = true) (hzr : -90000 ≤ Z ∧ Z ≤ 90000) (hx : x = 45) (h5 : likeB q [45, 48, 48, 48, 48, 32, 48, 48, 58, 48, 48, 58, 48, 48, 32] = true) (ys hs2 ms ss : List UInt8) (hqf : q = 45 :: (ys ++ 32 :: (hs2 ++ 58 :: (ms ++ 58 :: (ss ++ [32]))))) (y4 : ys.length = 4) (h2l : hs2.length = 2) (m2 : ms.length = 2) (s2 : ss.length = 2) (yd : Digs ys) (hhd : Digs hs2) (md : Digs ms) (sd : Digs ss) (dg : Digs [c1]) : Calls Tryd.prog 8 #[.string ⟨s.toArray⟩] w fun e w' => e = .returned (madeV (valL ys 0) (p + 1) (valL [c1] 0) (valL hs2 0) (valL ms 0) (valL ss 0) Z) ∧ Below w.heap.size w w' := by
  have hdl : dd.length = 2 := by rw [hd]; rfl
  have hL : s.length = 26 := by rw [hs]; simp [hdl, hm, hq, hz]
  have e1 : (⟨s.toArray⟩ : ByteArray).extract 0 2 = ⟨dd.toArray⟩ := piece s [] dd (x :: (m ++ (q ++ z))) 0 2 hs rfl (by omega)
  have ex0 : ∀ h : 0 < (⟨s.toArray⟩ : ByteArray).size, (⟨s.toArray⟩ : ByteArray)[0]'h = c0 := byte_lit s [] (c1 :: x :: (m ++ (q ++ z))) c0 0 (by rw [hs, hd]; rfl) rfl
  have ex2 : ∀ h : 2 < (⟨s.toArray⟩ : ByteArray).size, (⟨s.toArray⟩ : ByteArray)[2]'h = x := byte_lit s dd _ x 2 hs hdl
  have e2 : (⟨s.toArray⟩ : ByteArray).extract 3 6 = ⟨m.toArray⟩ := piece s (dd ++ [x]) m (q ++ z) 3 6 (by rw [hs]; simp) (by simp [hdl]) (by omega)
  have e3 : (⟨s.toArray⟩ : ByteArray).extract 6 21 = ⟨q.toArray⟩ := piece s (dd ++ x :: m) q z 6 21 (by rw [hs]; simp) (by simp [hdl, hm]) (by omega)
  have e4 : (⟨s.toArray⟩ : ByteArray).extract 21 26 = ⟨z.toArray⟩ := piece s (dd ++ x :: (m ++ q)) z [] 21 26 (by rw [hs]; simp) (by simp [hdl, hm, hq]) (by omega)
  have HP := hide (place_calls hp)
  have H1 := hide (like_calls (by omega) h1)
  have hpf : ¬ p < 0 := by omega
  subst hok
  have hxx : ((x.toNat : Int) != 45) = false := by rw [hx]; rfl
  have HQ := hide (like_calls (by omega) h5)
  have exd : ∀ h : 0 < (⟨dd.toArray⟩ : ByteArray).size, (⟨dd.toArray⟩ : ByteArray)[0]'h = c0 := byte_lit dd [] [c1] c0 0 hd rfl
  have h32 : ((c0.toNat : Int) == 32) = true := by rw [h9]; rfl
  have ed : (⟨dd.toArray⟩ : ByteArray).extract 1 2 = ⟨[c1].toArray⟩ := piece dd [c0] [c1] [] 1 2 hd rfl rfl
  have hsq : s = dd ++ x :: (m ++ (45 :: (ys ++ 32 :: (hs2 ++ 58 :: (ms ++ 58 :: (ss ++ [32])))) ++ z)) := by rw [hs, hqf]
  have f1 : (⟨s.toArray⟩ : ByteArray).extract 7 11 = ⟨ys.toArray⟩ := piece s (dd ++ x :: (m ++ [45])) ys (32 :: (hs2 ++ 58 :: (ms ++ 58 :: (ss ++ [32]))) ++ z) 7 11 (by rw [hsq]; simp) (by simp [hdl, hm]) (by omega)
  have f2 : (⟨s.toArray⟩ : ByteArray).extract 12 14 = ⟨hs2.toArray⟩ := piece s (dd ++ x :: (m ++ 45 :: (ys ++ [32]))) hs2 (58 :: (ms ++ 58 :: (ss ++ [32])) ++ z) 12 14 (by rw [hsq]; simp) (by simp [hdl, hm, y4]) (by omega)
  have f3 : (⟨s.toArray⟩ : ByteArray).extract 15 17 = ⟨ms.toArray⟩ := piece s (dd ++ x :: (m ++ 45 :: (ys ++ 32 :: (hs2 ++ [58])))) ms (58 :: (ss ++ [32]) ++ z) 15 17 (by rw [hsq]; simp) (by simp [hdl, hm, y4, h2l]) (by omega)
  have f4 : (⟨s.toArray⟩ : ByteArray).extract 18 20 = ⟨ss.toArray⟩ := piece s (dd ++ x :: (m ++ 45 :: (ys ++ 32 :: (hs2 ++ 58 :: (ms ++ [58]))))) ss ([32] ++ z) 18 20 (by rw [hsq]; simp) (by simp [hdl, hm, y4, h2l, m2]) (by omega)
  have HVys := hide (fun w => value_any ys w (by omega) yd)
  have HVhs2 := hide (fun w => value_any hs2 w (by omega) hhd)
  have HVms := hide (fun w => value_any ms w (by omega) md)
  have HVss := hide (fun w => value_any ss w (by omega) sd)
  have HVd := hide (fun w => value_any [c1] w (by simp) dg)
  have HM := hide (fun w => made_any (valL ys 0) (p + 1) (valL [c1] 0) (valL hs2 0) (valL ms 0) (valL ss 0) 0 Z w hzr)
  obtain ⟨T, N, hTN⟩ := madeV_form (valL ys 0) (p + 1) (valL [c1] 0) (valL hs2 0) (valL ms 0) (valL ss 0) Z
  rw [hTN] at HM ⊢
  clear hs hd hp h1 h5 hx hsq hqf yd hhd md sd dg hTN h9 y4 h2l m2 s2
  generalize (valL ys 0 : Int) = Y at *
  generalize (valL hs2 0 : Int) = H at *
  generalize (valL ms 0 : Int) = MI at *
  generalize (valL ss 0 : Int) = S at *
  generalize (valL [c1] 0 : Int) = V at *
  go_enter Tryd.func8, Tryd.ntmps8
  go_wp2_with (first
    | (go_at_call_of 24 (Value.string { data := #[32, 48] }); refine (H1.out _).mono ?_; rintro e w1 ⟨rfl, hb1⟩; replace hb1 := hide hb1)
    | (go_at_call 25; refine (HP.out _).mono ?_; rintro e w' ⟨rfl, rfl⟩)
    | (go_at_call 26; refine (HZ.out _).mono ?_; rintro e w4 ⟨rfl, hb4⟩; replace hb4 := hide hb4)
    | (go_at_call_of 24 (Value.string { data := List.toArray q }); refine (HQ.out _).mono ?_; rintro e w5 ⟨rfl, hb5⟩; replace hb5 := hide hb5))
  have k0 := hb1.out.trans (hb4.out.mono hb1.out.size)
  have k1 := k0.trans (hb5.out.mono k0.size)
  have HB := hide k1
  clear k0 k1 hb1 hb4 hb5
  have hn := ext_some w5
  have hc := ext_cell w5
  refine wp_region_ext (by kernel_rfl) (by kernel_rfl) ?_
  repeat (go_big_quiet_step ((first | (go_at_call_of 28 (Value.string { data := #[c1] }); exact ext_same (HVd.out _)) | (go_at_call_of 28 (Value.string { data := List.toArray ys }); exact ext_same (HVys.out _)) | (go_at_call_of 28 (Value.string { data := List.toArray hs2 }); exact ext_same (HVhs2.out _)) | (go_at_call_of 28 (Value.string { data := List.toArray ms }); exact ext_same (HVms.out _)) | (go_at_call_of 28 (Value.string { data := List.toArray ss }); exact ext_same (HVss.out _)) | (go_at_call 27; exact ext_call (HM.out _)))))
  refine wpQuiet_nil ?_
  rintro w6 ⟨⟨_, hb6⟩, rfl⟩
  have HBF := hide (HB.out.trans (hb6.mono HB.out.size))
  clear hb6
  go_wp2
  go_ret2
  exact ⟨rfl, HBF.out⟩
set_option maxRecDepth 20000 in
set_option maxHeartbeats 4000000 in
theorem rint_bf (s dd m q z : List UInt8) (c0 c1 x : UInt8) (hs : s = dd ++ x :: (m ++ (q ++ z))) (hd : dd = [c0, c1]) (hm : m.length = 3) (hq : q.length = 15) (hz : z.length = 5) (p : Int) (hp : findEq monB m 12 0 = p) (Z : Int) (ok : Bool) (HZ : Hid (∀ w, Calls Tryd.prog 26 #[.string ⟨z.toArray⟩] w fun e w' => e = .returned (.tuple #[.int .i64 Z, .bool ok]) ∧ Below w.heap.size w w')) (w : World) (h1 : likeB dd [32, 48] = false) (h2 : likeB dd [48, 48] = true) (h3 : c0 ≠ 48) (h9 : c0 ≠ 32) (hpn : 0 ≤ p) (hp12 : p < 12) (hok : ok = true) (hzr : -90000 ≤ Z ∧ Z ≤ 90000) (hx : x = 45) (h5 : likeB q [45, 48, 48, 48, 48, 32, 48, 48, 58, 48, 48, 58, 48, 48, 32] = true) (ys hs2 ms ss : List UInt8) (hqf : q = 45 :: (ys ++ 32 :: (hs2 ++ 58 :: (ms ++ 58 :: (ss ++ [32]))))) (y4 : ys.length = 4) (h2l : hs2.length = 2) (m2 : ms.length = 2) (s2 : ss.length = 2) (yd : Digs ys) (hhd : Digs hs2) (md : Digs ms) (sd : Digs ss) (dg : Digs dd) : Calls Tryd.prog 8 #[.string ⟨s.toArray⟩] w fun e w' => e = .returned (madeV (valL ys 0) (p + 1) (valL dd 0) (valL hs2 0) (valL ms 0) (valL ss 0) Z) ∧ Below w.heap.size w w' := by
  have hdl : dd.length = 2 := by rw [hd]; rfl
  have hL : s.length = 26 := by rw [hs]; simp [hdl, hm, hq, hz]
  have e1 : (⟨s.toArray⟩ : ByteArray).extract 0 2 = ⟨dd.toArray⟩ := piece s [] dd (x :: (m ++ (q ++ z))) 0 2 hs rfl (by omega)
  have ex0 : ∀ h : 0 < (⟨s.toArray⟩ : ByteArray).size, (⟨s.toArray⟩ : ByteArray)[0]'h = c0 := byte_lit s [] (c1 :: x :: (m ++ (q ++ z))) c0 0 (by rw [hs, hd]; rfl) rfl
  have ex2 : ∀ h : 2 < (⟨s.toArray⟩ : ByteArray).size, (⟨s.toArray⟩ : ByteArray)[2]'h = x := byte_lit s dd _ x 2 hs hdl
  have e2 : (⟨s.toArray⟩ : ByteArray).extract 3 6 = ⟨m.toArray⟩ := piece s (dd ++ [x]) m (q ++ z) 3 6 (by rw [hs]; simp) (by simp [hdl]) (by omega)
  have e3 : (⟨s.toArray⟩ : ByteArray).extract 6 21 = ⟨q.toArray⟩ := piece s (dd ++ x :: m) q z 6 21 (by rw [hs]; simp) (by simp [hdl, hm]) (by omega)
  have e4 : (⟨s.toArray⟩ : ByteArray).extract 21 26 = ⟨z.toArray⟩ := piece s (dd ++ x :: (m ++ q)) z [] 21 26 (by rw [hs]; simp) (by simp [hdl, hm, hq]) (by omega)
  have HP := hide (place_calls hp)
  have H1 := hide (like_calls (by omega) h1)
  have H2 := hide (like_calls (by omega) h2)
  have h48 : ((c0.toNat : Int) != 48) = true := bne_iff_ne.2 (fun h => h3 (UInt8.toNat_inj.1 (show c0.toNat = 48 by omega)))
  have hpf : ¬ p < 0 := by omega
  subst hok
  have hxx : ((x.toNat : Int) != 45) = false := by rw [hx]; rfl
  have HQ := hide (like_calls (by omega) h5)
  have exd : ∀ h : 0 < (⟨dd.toArray⟩ : ByteArray).size, (⟨dd.toArray⟩ : ByteArray)[0]'h = c0 := byte_lit dd [] [c1] c0 0 hd rfl
  have h32 : ((c0.toNat : Int) == 32) = false := beq_eq_false_iff_ne.2 (fun h => h9 (UInt8.toNat_inj.1 (show c0.toNat = 32 by omega)))
  have hsq : s = dd ++ x :: (m ++ (45 :: (ys ++ 32 :: (hs2 ++ 58 :: (ms ++ 58 :: (ss ++ [32])))) ++ z)) := by rw [hs, hqf]
  have f1 : (⟨s.toArray⟩ : ByteArray).extract 7 11 = ⟨ys.toArray⟩ := piece s (dd ++ x :: (m ++ [45])) ys (32 :: (hs2 ++ 58 :: (ms ++ 58 :: (ss ++ [32]))) ++ z) 7 11 (by rw [hsq]; simp) (by simp [hdl, hm]) (by omega)
  have f2 : (⟨s.toArray⟩ : ByteArray).extract 12 14 = ⟨hs2.toArray⟩ := piece s (dd ++ x :: (m ++ 45 :: (ys ++ [32]))) hs2 (58 :: (ms ++ 58 :: (ss ++ [32])) ++ z) 12 14 (by rw [hsq]; simp) (by simp [hdl, hm, y4]) (by omega)
  have f3 : (⟨s.toArray⟩ : ByteArray).extract 15 17 = ⟨ms.toArray⟩ := piece s (dd ++ x :: (m ++ 45 :: (ys ++ 32 :: (hs2 ++ [58])))) ms (58 :: (ss ++ [32]) ++ z) 15 17 (by rw [hsq]; simp) (by simp [hdl, hm, y4, h2l]) (by omega)
  have f4 : (⟨s.toArray⟩ : ByteArray).extract 18 20 = ⟨ss.toArray⟩ := piece s (dd ++ x :: (m ++ 45 :: (ys ++ 32 :: (hs2 ++ 58 :: (ms ++ [58]))))) ss ([32] ++ z) 18 20 (by rw [hsq]; simp) (by simp [hdl, hm, y4, h2l, m2]) (by omega)
  have HVys := hide (fun w => value_any ys w (by omega) yd)
  have HVhs2 := hide (fun w => value_any hs2 w (by omega) hhd)
  have HVms := hide (fun w => value_any ms w (by omega) md)
  have HVss := hide (fun w => value_any ss w (by omega) sd)
  have HVd := hide (fun w => value_any dd w (by simp [hdl]) dg)
  have HM := hide (fun w => made_any (valL ys 0) (p + 1) (valL dd 0) (valL hs2 0) (valL ms 0) (valL ss 0) 0 Z w hzr)
  obtain ⟨T, N, hTN⟩ := madeV_form (valL ys 0) (p + 1) (valL dd 0) (valL hs2 0) (valL ms 0) (valL ss 0) Z
  rw [hTN] at HM ⊢
  clear hs hd hp h1 h5 hx hsq hqf yd hhd md sd dg hTN h9 y4 h2l m2 s2 h2 h3
  generalize (valL ys 0 : Int) = Y at *
  generalize (valL hs2 0 : Int) = H at *
  generalize (valL ms 0 : Int) = MI at *
  generalize (valL ss 0 : Int) = S at *
  generalize (valL dd 0 : Int) = V at *
  go_enter Tryd.func8, Tryd.ntmps8
  go_wp2_with (first
    | (go_at_call_of 24 (Value.string { data := #[32, 48] }); refine (H1.out _).mono ?_; rintro e w1 ⟨rfl, hb1⟩; replace hb1 := hide hb1)
    | (go_at_call_of 24 (Value.string { data := #[48, 48] }); refine (H2.out _).mono ?_; rintro e w2 ⟨rfl, hb2⟩; replace hb2 := hide hb2)
    | (go_at_call 25; refine (HP.out _).mono ?_; rintro e w' ⟨rfl, rfl⟩)
    | (go_at_call 26; refine (HZ.out _).mono ?_; rintro e w4 ⟨rfl, hb4⟩; replace hb4 := hide hb4)
    | (go_at_call_of 24 (Value.string { data := List.toArray q }); refine (HQ.out _).mono ?_; rintro e w5 ⟨rfl, hb5⟩; replace hb5 := hide hb5))
  have k0 := hb1.out.trans (hb2.out.mono hb1.out.size)
  have k1 := k0.trans (hb4.out.mono k0.size)
  have k2 := k1.trans (hb5.out.mono k1.size)
  have HB := hide k2
  clear k0 k1 k2 hb1 hb2 hb4 hb5
  have hn := ext_some w5
  have hc := ext_cell w5
  refine wp_region_ext (by kernel_rfl) (by kernel_rfl) ?_
  repeat (go_big_quiet_step ((first | (go_at_call_of 28 (Value.string { data := List.toArray dd }); exact ext_same (HVd.out _)) | (go_at_call_of 28 (Value.string { data := List.toArray ys }); exact ext_same (HVys.out _)) | (go_at_call_of 28 (Value.string { data := List.toArray hs2 }); exact ext_same (HVhs2.out _)) | (go_at_call_of 28 (Value.string { data := List.toArray ms }); exact ext_same (HVms.out _)) | (go_at_call_of 28 (Value.string { data := List.toArray ss }); exact ext_same (HVss.out _)) | (go_at_call 27; exact ext_call (HM.out _)))))
  refine wpQuiet_nil ?_
  rintro w6 ⟨⟨_, hb6⟩, rfl⟩
  have HBF := hide (HB.out.trans (hb6.mono HB.out.size))
  clear hb6
  go_wp2
  go_ret2
  exact ⟨rfl, HBF.out⟩
end Go.Proofs.YtabncmepkoiheaaDoor
