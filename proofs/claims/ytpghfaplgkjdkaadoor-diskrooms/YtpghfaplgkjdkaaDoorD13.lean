/- A disk: Append. -/
import Derived.Test.YtpghfaplgkjdkaaDoorD12
namespace Go.Proofs.YtpghfaplgkjdkaaDoor
open Go.RowKit Go.Maps
def St.put (s : St) (b : Nat) (fa : FA) (news : List UInt8) : St := { (s.withF b ⟨fa.num, fa.bytes ++ news, fa.opn ++ [.put fa.bytes.length news.length]⟩) with ch := s.ch.put (.int .i64 fa.num) (pd b), N := s.N + 1, opened := s.opened + 1, steps := s.steps + 1 }
def St.cut (s : St) (b : Nat) (fa : FA) : St := { (s.withF b ⟨fa.num, [], fa.opn ++ [.other]⟩) with ch := s.ch.put (.int .i64 fa.num) (pd b), N := s.N + 1, opened := s.opened + 1, steps := s.steps + 1 }
/-- Numbers that are small. -/
structure St.Small (s : St) : Prop where
  armed : s.armed < 0
  s0 : 0 ≤ s.steps
  s1 : s.steps ≤ 1000000
  o0 : 0 ≤ s.opened
  o1 : s.opened ≤ 1000000
  n : s.N ≤ 100000
  off : s.off = false
  q0 : 0 ≤ s.quota
  q1 : s.quota ≤ 1000000
  u : usedOf s ≤ 1000000
section
variable (w0 w : World) (d : Nat) (ρ : Nat → Option Role) (s : St)
set_option maxRecDepth 20000 in
set_option maxHeartbeats 4000000 in
theorem append_ok (h : DK w0 w d ρ s) (hs : s.Small) (name : List UInt8) (hr : rightB name = true) (b : Nat) (fa : FA) (hat : s.D.atKey (.string name) .nil = pd b) (hφ : s.φ b = some fa) (hn0 : 0 ≤ fa.num) (hn1 : fa.num ≤ 1000000) (hop : fa.opn.length ≤ 1000000)
    (x : Value) (news : List UInt8) (hx : BR w x news) (hxr : ∀ A n c, x = .slice (some A) n c → ρ A.block = none) (hl : fa.bytes.length + news.length ≤ 1000000000) (hroom : (news.length : Int) ≤ s.quota - usedOf s) :
    Calls Tryd.prog 8 #[pv d, .string ⟨name.toArray⟩, x] w fun e w' => e = .returned .nilIface ∧ ∃ ρ', DK w0 w' d ρ' (s.put b fa news) ∧ Turn w w' ρ ρ' ∧ Keeps ρ ρ' := by
  obtain ⟨A, c, rfl, hlc, hcm, _⟩ := hx.form
  have hb1 : Below w.heap.size w (w.alloc (.cells #[.slice A news.length c] 34)) := (Below.refl _ _).alloc (Nat.le_refl _) _
  have hb2 : Below w.heap.size w ((w.alloc (.cells #[.slice A news.length c] 34)).alloc (.cells #[pv b] 51)) := hb1.alloc hb1.size _
  have HF := hide (find_there w0 _ d ρ s (h.then hb1) hs.off name hr b hat)
  have HR := hide (hasRoom_any w0 _ d ρ s (h.then hb2) (by have := hs.u; omega) hs.q0 (by have := hs.q1; omega) news.length)
  rw [decide_eq_true hroom] at HR
  have hk1 := Blk.new w #[.slice A news.length c] 34
  have hk2 := hide (hk1.alloc (.cells #[pv b] 51))
  have hk3 := hide (Blk.new1 w (.cells #[.slice A news.length c] 34) #[pv b] 51)
  have HB := hide hb2
  have HH := hide h
  have HX := hide hx
  have hnr : Hid (∀ k, w.heap.size ≤ k → ρ k = none) := by
    obtain ⟨bn, bs, bc, vs, vl, Gs, Gl, cs, h⟩ := h
    exact fun k hk => h.off hk
  clear h hx hb1 hb2 hk1 hroom hlc hcm
  unfold pv at HF HR ⊢
  go_enter Tryd.func8, Tryd.ntmps8
  go_wp2_with (go_at_call 18; refine HF.out.mono ?_; rintro e w' ⟨rfl, rfl⟩)
  refine HR.out.mono ?_
  rintro e w3 ⟨rfl, hb3⟩
  have hsz2 : ((w.alloc (.cells #[.slice A news.length c] 34)).alloc (.cells #[pv b] 51)).heap.size = w.heap.size + 1 + 1 := by simp
  have hb3' : Below w.heap.size w w3 := HB.out.trans (hb3.mono HB.out.size)
  have q2 := hk2.out.below hb3 hk2.out.lt
  have q3 := hk3.out.below hb3 hk3.out.lt
  have hcf := hide q3
  have hcb := hide q2
  have hc1 := q2.cell
  have hc2 := q3.cell
  have HH3 := hide (HH.out.then hb3')
  have HX3 := hide (HX.out.below hb3')
  have HB3 := hide hb3'
  unfold pv at hc2
  clear hb3 hb3' q2 q3 hk2 hk3 HF HR HH HX HB hsz2
  go_wp2_with fail
  refine (changeFile_put w0 w3 d ρ s HH3.out hs.armed hs.s0 hs.s1 hs.o0 hs.o1 hs.n b fa hφ hn0 hn1 hop _ news HX3.out hxr hl (w.heap.size + 1) w.heap.size hcf.out hcb.out (hnr.out _ (by omega)) (hnr.out _ (Nat.le_refl _))).mono ?_
  rintro e w4 ⟨rfl, ρ4, hD4, hT4, hK4⟩
  have HD4 := hide hD4
  have HT4 := hide hT4
  have HK4 := hide hK4
  clear hD4 hT4 hK4
  go_wp2
  go_ret
  exact ⟨rfl, ρ4, HD4.out, Turn.trans ⟨Mvs.of_below HB3.out, fun k r hr _ => ⟨r, hr⟩⟩ HT4.out, HK4.out⟩
set_option maxRecDepth 20000 in
set_option maxHeartbeats 4000000 in
theorem append_full (a : Nat → Addr) (hE : Errs w0 a) (h : DK w0 w d ρ s) (hs : s.Small) (name : List UInt8) (hr : rightB name = true) (b : Nat) (hat : s.D.atKey (.string name) .nil = pd b)
    (x : Value) (news : List UInt8) (hx : BR w x news) (hroom : ¬ (news.length : Int) ≤ s.quota - usedOf s) :
    Calls Tryd.prog 8 #[pv d, .string ⟨name.toArray⟩, x] w fun e w' => e = .returned (errV a 6) ∧ Below w.heap.size w w' := by
  obtain ⟨A, c, rfl, hlc, hcm, _⟩ := hx.form
  have hb1 : Below w.heap.size w (w.alloc (.cells #[.slice A news.length c] 34)) := (Below.refl _ _).alloc (Nat.le_refl _) _
  have hb2 : Below w.heap.size w ((w.alloc (.cells #[.slice A news.length c] 34)).alloc (.cells #[pv b] 51)) := hb1.alloc hb1.size _
  have HF := hide (find_there w0 _ d ρ s (h.then hb1) hs.off name hr b hat)
  have HR := hide (hasRoom_any w0 _ d ρ s (h.then hb2) (by have := hs.u; omega) hs.q0 (by have := hs.q1; omega) news.length)
  rw [decide_eq_false hroom] at HR
  have HB := hide hb2
  have HE := hide (fun (w' : World) (hb : Below w.heap.size w w') => ((hE.below h.below).below hb).cell 6 (by decide))
  clear h hx hb1 hb2 hroom hlc hcm hE
  unfold pv at HF HR ⊢
  go_enter Tryd.func8, Tryd.ntmps8
  go_wp2_with (go_at_call 18; refine HF.out.mono ?_; rintro e w' ⟨rfl, rfl⟩)
  refine HR.out.mono ?_
  rintro e w3 ⟨rfl, hb3⟩
  have hb3' : Below w.heap.size w w3 := HB.out.trans (hb3.mono HB.out.size)
  have hg : w3.cell? ⟨3, 0, none⟩ = some (errV a 6) := HE.out w3 hb3'
  have HB3 := hide hb3'
  unfold errV at *
  clear hb3 hb3' HF HR HB
  go_wp2
  go_ret
  exact ⟨rfl, HB3.out⟩
set_option maxHeartbeats 1000000 in
theorem has0_any (b : Nat) (fa : FA) (vb vo : Value) (Gb Go : Option Nat) (cs : List Value) (h : FileRs w ρ b fa vb vo Gb Go cs) : Calls Tryd.prog 26 #[pv b, .int .i64 0] w fun e w' => e = .returned (.bool true) ∧ w' = w := by
  obtain ⟨A, c, rfl⟩ := h.row.form
  have hc := h.blk.cell
  clear h
  unfold pv
  go_enter Tryd.func26, Tryd.ntmps26
  go_wp2
  go_ret
  exact ⟨by simp, rfl⟩
set_option maxRecDepth 20000 in
set_option maxHeartbeats 4000000 in
theorem truncate0_ok (h : DK w0 w d ρ s) (hs : s.Small) (name : List UInt8) (hr : rightB name = true) (b : Nat) (fa : FA) (hat : s.D.atKey (.string name) .nil = pd b) (hφ : s.φ b = some fa) (hn0 : 0 ≤ fa.num) (hn1 : fa.num ≤ 1000000) (hop : fa.opn.length ≤ 1000000) (hl : fa.bytes.length ≤ 1000000) :
    Calls Tryd.prog 11 #[pv d, .string ⟨name.toArray⟩, .int .i64 0] w fun e w' => e = .returned .nilIface ∧ ∃ ρ', DK w0 w' d ρ' (s.cut b fa) ∧ Turn w w' ρ ρ' ∧ Keeps ρ ρ' := by
  have hb1 : Below w.heap.size w (w.alloc (.cells #[.int .i64 0] 3)) := (Below.refl _ _).alloc (Nat.le_refl _) _
  have hb2 : Below w.heap.size w ((w.alloc (.cells #[.int .i64 0] 3)).alloc (.cells #[pv b] 51)) := hb1.alloc hb1.size _
  have HF := hide (find_there w0 _ d ρ s (h.then hb1) hs.off name hr b hat)
  have hk1 := Blk.new w #[.int .i64 0] 3
  have hk2 := hide (hk1.alloc (.cells #[pv b] 51))
  have hk3 := hide (Blk.new1 w (.cells #[.int .i64 0] 3) #[pv b] 51)
  have HB := hide hb2
  have HH := hide (h.then hb2)
  have hnr : Hid (∀ k, w.heap.size ≤ k → ρ k = none) := by
    obtain ⟨bn, bs, bc, vs, vl, Gs, Gl, cs, h⟩ := h
    exact fun k hk => h.off hk
  have HS : Hid (Calls Tryd.prog 26 #[pv b, .int .i64 0] ((w.alloc (.cells #[.int .i64 0] 3)).alloc (.cells #[pv b] 51)) fun e w' => e = .returned (.bool true) ∧ w' = (w.alloc (.cells #[.int .i64 0] 3)).alloc (.cells #[pv b] 51)) := by
    obtain ⟨bn, bs, bc, vs, vl, Gs, Gl, cs, hD⟩ := HH.out
    obtain ⟨vb, vo, Gb, Go, fs, hF⟩ := hD.files b fa hφ
    exact has0_any _ ρ b fa vb vo Gb Go fs hF
  clear h hb1 hb2 hk1
  unfold pv at HF HS ⊢
  go_enter Tryd.func11, Tryd.ntmps11
  go_wp2_with (first | (go_at_call 18; refine HF.out.mono ?_; rintro e w' ⟨rfl, rfl⟩) | (go_at_call 26; refine HS.out.mono ?_; rintro e w' ⟨rfl, rfl⟩))
  refine (changeFile_cut w0 _ d ρ s HH.out hs.armed hs.s0 hs.s1 hs.o0 hs.o1 hs.n b fa hφ hn0 hn1 hop hl (w.heap.size + 1) w.heap.size hk3.out hk2.out (hnr.out _ (by omega)) (hnr.out _ (Nat.le_refl _))).mono ?_
  rintro e w4 ⟨rfl, ρ4, hD4, hT4, hK4⟩
  have HD4 := hide hD4
  have HT4 := hide hT4
  have HK4 := hide hK4
  clear hD4 hT4 hK4
  go_wp2
  go_ret
  exact ⟨rfl, ρ4, HD4.out, Turn.trans ⟨Mvs.of_below HB.out, fun k r hr _ => ⟨r, hr⟩⟩ HT4.out, HK4.out⟩
end
end Go.Proofs.YtpghfaplgkjdkaaDoor
