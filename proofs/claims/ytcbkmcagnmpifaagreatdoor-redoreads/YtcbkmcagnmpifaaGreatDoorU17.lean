/- A disk: a crash where nothing is open. -/
/- A disk: Read; the chapter's own case. -/
import Derived.Test.YtcbkmcagnmpifaaGreatDoorU14
import Derived.Test.YtcbkmcagnmpifaaGreatDoorU16
import Derived.Lib.SlBytesConst
section
namespace Go.Proofs.YtcbkmcagnmpifaaGreatDoor
open Go.RowKit Go.Maps
set_option maxHeartbeats 1000000 in
/-- No numbers: 0. -/
theorem draw_nil (w : World) (ck : Nat) (A : Option Addr) (c : Nat) (m : Value) (hk : Blk w ck #[.slice A 0 c] 42) :
    Calls Tryz.prog 78 #[m, pv ck] w fun e w' => e = .returned (.int .i64 0) ∧ w' = w := by
  have hcl := hk.cell
  clear hk
  unfold pv
  go_enter Tryz.func78, Tryz.ntmps78
  go_wp2
  go_ret
  exact ⟨rfl, rfl⟩
set_option maxRecDepth 20000 in
set_option maxHeartbeats 2000000 in
theorem len0 (w : World) : Calls Tryz.prog 115 #[.int .u64 0] w fun e w' => ∃ l : Int, e = .returned (.int .i64 l) ∧ w' = w := by
  have h64 : Calls Tryz.prog 141 #[.int .u64 0] w fun e w' => ∃ l : Int, e = .returned (.int .i64 l) ∧ w' = w := by
    go_enter Tryz.func141, Tryz.ntmps141
    go_wp2
    go_ret
    exact ⟨_, rfl, rfl⟩
  go_enter Tryz.func115, Tryz.ntmps115
  go_wp2_with (go_at_call 141; refine h64.mono ?_; rintro e w' ⟨l, rfl, rfl⟩)
  go_ret
  exact ⟨_, rfl, rfl⟩
theorem insertion0 (w : World) (v f : Value) : Calls Tryz.prog 132 #[v, .int .i64 0, .int .i64 0, f] w fun e w' => e = .returned (.tuple #[]) ∧ w' = w := by
  go_enter Tryz.func132, Tryz.ntmps132
  go_wp2
  refine wp_loop_rounds 1 ?_
  rw [rounds_succ]
  go_wp2
  go_end0
  exact ⟨rfl, rfl⟩
set_option maxRecDepth 20000 in
set_option maxHeartbeats 2000000 in
theorem pdq0 (w : World) (v lim f : Value) : Calls Tryz.prog 114 #[v, .int .i64 0, .int .i64 0, lim, f] w fun e w' => e = .returned (.tuple #[]) ∧ w' = w := by
  go_enter Tryz.func114, Tryz.ntmps114
  go_wp2
  refine wp_loop_rounds 1 ?_
  rw [rounds_succ]
  go_wp2_with (go_at_call 132; refine (insertion0 _ _ _).mono ?_; rintro e w' ⟨rfl, rfl⟩)
  refine bodyPost_ret (results_none rfl _ _ _) rfl ?_
  exact ⟨rfl, rfl⟩
theorem sort0 (w : World) (A : Option Addr) (c : Nat) (f : Value) : Calls Tryz.prog 80 #[.slice A 0 c, f] w fun e w' => e = .returned (.tuple #[]) ∧ w' = w := by
  go_enter Tryz.func80, Tryz.ntmps80
  go_wp2_with (first | (go_at_call 115; refine (len0 _).mono ?_; rintro e w' ⟨l, rfl, rfl⟩) | (go_at_call 114; refine (pdq0 _ _ _ _).mono ?_; rintro e w' ⟨rfl, rfl⟩))
  go_end0
  exact ⟨rfl, rfl⟩
set_option maxRecDepth 20000 in
set_option maxHeartbeats 2000000 in
theorem unsure_none (w : World) (d bc N : Nat) (v0 v1 v2 vl v5 v6 v7 v8 v9 v10 : Value) (Gl : Option Nat) (hk : Blk w d #[v0, v1, v2, .map (some bc), vl, v5, v6, v7, v8, v9, v10] 77) (hown : w.ownsMap Tryz.prog 3 ptrElem bc N (.map [])) (hl : Rw w 1 vl 0 [] Gl) :
    Calls Tryz.prog 49 #[pv d] w fun e w' => ∃ A c, e = .returned (.slice A 0 c) ∧ Below w.heap.size w w' := by
  have hc := hk.cell
  have HO := hide hown
  have HC := hide (cloneP_any w vl [] Gl hl (by simp))
  have hdl : Hid (d < w.heap.size) := hk.lt
  have HK := hide hk
  clear hk hown hl
  unfold pv
  go_enter Tryz.func49, Tryz.ntmps49
  go_wp2_with fail
  refine HC.out.mono ?_
  rintro e w1 ⟨v1', rfl, hP⟩
  obtain ⟨hb1, G1, hr1, hg1⟩ := hP
  have hc1 := (HK.out.below hb1 hdl.out).cell
  have HO1 := hide (HO.out.mvs (S := fun _ => False) (Mvs.of_below hb1) (fun c => c))
  obtain ⟨A1, c1, rfl⟩ := hr1.form
  have HB1 := hide hb1
  clear hb1 hr1 hg1 HC hc HO
  go_wp2_with (at_range; refine wpList_range_own _ rfl _ 73 rfl 3 88 intKeyed Tryz.underlying73 ptrElem bc N (.map []) rfl HO1.out ?_)
  intro w2 hrg0 hg0 hs0
  have HB2 := hide (HB1.out.trans ((Below.of_grown (B := w1.heap.size) hg0 (fun j e => by cases e) (Nat.le_refl _)).mono HB1.out.size))
  have HR0 := hide hrg0
  clear hrg0 hg0 hs0
  go_wp2
  go_loopw [3] (fun u wr => u = .slice A1 0 c1 ∧ Hid (wr = w2)) (fun _ _ => 0)
  case atStart => exact ⟨rfl, rfl⟩
  case round =>
    obtain ⟨rfl, hrw⟩ := hrel
    obtain rfl := hrw.out
    go_wp2_with (at_next; refine wpList_next_ranges _ rfl _ rfl 3 intKeyed ptrElem (Value.int .i64) mkP (fun key kl h => by obtain ⟨x, hx, _⟩ := Maps.keyOf_int_inv Tryz.underlying3 h; exact ⟨x, hx⟩) mkP_inv bc w1.heap.size N (.map []) (Maps.has (.map [])) (Maps.size (.map [] : DataW Unit)) rfl HR0.out ?_ ?_)
    · intro _ _
      go_wp2_with (go_at_call 80; refine (sort0 _ _ _ _).mono ?_; rintro e w' ⟨rfl, rfl⟩)
      go_ret
      exact ⟨_, _, rfl, HB2.out⟩
    · intro x c kl y yp w3 cnt3 hkey hlk
      exact absurd hlk (by simp [Maps.has])
end Go.Proofs.YtcbkmcagnmpifaaGreatDoor

end
section
namespace Go.Proofs.YtcbkmcagnmpifaaGreatDoor
open Go.RowKit Go.Maps
set_option maxRecDepth 20000 in
set_option maxHeartbeats 2000000 in
theorem read_ok (w0 w : World) (d : Nat) (ρ : Nat → Option Role) (s : St) (h : DK w0 w d ρ s) (hoff : s.off = false) (name : List UInt8) (hr : rightB name = true) (b : Nat) (fa : FA) (hat : s.D.atKey (.string name) .nil = pd b) (hφ : s.φ b = some fa) (hl : fa.bytes.length ≤ 1000000) :
    Calls Tryz.prog 51 #[pv d, .string ⟨name.toArray⟩] w fun e w' => ∃ v, e = .returned (.tuple #[v, .nilIface]) ∧ BR w' v fa.bytes ∧ Below w.heap.size w w' := by
  have HF := hide (find_there w0 w d ρ s h hoff name hr b hat)
  obtain ⟨bn, bs, bc, vs, vl, Gs, Gl, cs, hD⟩ := h
  obtain ⟨vb, vo, Gb, Go, fs, hFs⟩ := hD.files b fa hφ
  have hc := hFs.blk.cell
  have HB := hide hFs.row.br
  have HC : Hid (Calls Tryz.prog 58 #[vb] w fun e w' => ∃ v, e = .returned v ∧ BR w' v fa.bytes ∧ Below w.heap.size w w') := by
    rcases hFs.row.2 with ⟨rfl, h0, _⟩ | ⟨g, o, cap, _, rfl, _⟩
    · have e0 : fa.bytes = [] := List.length_eq_zero_iff.1 h0
      exact (clone_nil w).mono fun e w' ⟨he, hw⟩ => ⟨_, he, by subst hw; exact HB.out, by subst hw; exact Below.refl _ _⟩
    · exact (clone_any fa.bytes _ _ _ w HB.out hl).mono fun e w' ⟨v, he, hT⟩ => ⟨v, he, hT.br, hT.1⟩
  clear hD hFs hat
  unfold pv at *
  go_enter Tryz.func51, Tryz.ntmps51
  go_wp2_with (go_at_call 83; refine HF.out.mono ?_; rintro e w' ⟨rfl, rfl⟩)
  refine HC.out.mono ?_
  rintro e w2 ⟨v, rfl, hbr, hb2⟩
  have H2 := hide (And.intro hbr hb2)
  clear hbr hb2 HC HF HB
  go_wp2
  go_ret2
  exact ⟨_, rfl, H2.out.1, H2.out.2⟩
theorem one_at {k kl : Lit} {f b : Nat} (h : (DataW.map [(k, pd f)]).atKey kl .nil = pd b) : b = f := by
  unfold DataW.atKey at h
  cases hs : k.sameKey kl with
  | true =>
    simp [hs] at h
    exact (pd_inj h).symm
  | false =>
    simp [hs, pd] at h
theorem one_entry {k : Lit} {f : Nat} : ∀ p ∈ entriesOf (DataW.map [(k, pd f)]), ∃ b, p.2 = pd b := by
  intro p hp
  have : p = (k, pd f) := List.mem_singleton.1 hp
  rw [this]
  exact ⟨f, rfl⟩
theorem put_first (k : Lit) (f : Nat) : (DataW.map [] : DataW Unit).put k (pd f) = .map [(k, pd f)] := rfl
theorem rightA : rightB [97] = true := by decide
theorem Turn.off {x y : World} {ρ ρ' : Nat → Option Role} (h : Turn x y ρ ρ') {k : Nat} (hk : k < x.heap.size) (hr : ρ k = none) : ρ' k = none := by
  cases hx : ρ' k with
  | none => rfl
  | some r =>
    obtain ⟨r', hr'⟩ := h.2 k r hx hk
    rw [hr] at hr'
    cases hr'
theorem DK.free {w0 w : World} {d : Nat} {ρ : Nat → Option Role} {s : St} (h : DK w0 w d ρ s) {k : Nat} (hk : w.heap.size ≤ k) : ρ k = none := by
  cases hx : ρ k with
  | none => rfl
  | some r =>
    have := (h.low k r hx).2
    omega
theorem small_mk {D Ds ch : DataW Unit} {ns : Nat} {ls : List Nat} {φ : Nat → Option FA} {created opened steps quota : Int} {N : Nat} (s0 : 0 ≤ steps) (s1 : steps ≤ 1000000) (o0 : 0 ≤ opened) (o1 : opened ≤ 1000000) (n : N ≤ 100000) (q0 : 0 ≤ quota) (q1 : quota ≤ 1000000) (u : sumD (lenD φ) D ≤ 1000000) : St.Small ⟨D, Ds, ch, ns, ls, φ, created, opened, steps, -1, false, quota, N⟩ :=
  ⟨by show (-1 : Int) < 0; decide, s0, s1, o0, o1, n, rfl, q0, q1, u⟩
theorem br_lit {w : World} {C : Array Value} {fr : Nat × Nat} (bs : List UInt8) (hC : C = (bs.map bv).toArray) {c : Nat} (hc : bs.length ≤ c) (hm : c ≤ maxLen) : BR (w.alloc (.cells C 5 fr)) (.slice (some ⟨w.heap.size, 0, none⟩) bs.length c) bs := by
  subst hC
  refine ⟨_, c, by rw [List.length_map], by rw [List.length_map]; exact hc, hm, (fun h => by cases h), fun _ => ⟨w.heap.size, 0, rfl, by simp, fun j u hu => ?_⟩⟩
  rw [Nat.zero_add, World.cell?_alloc_mark, List.getElem?_toArray, hu]
def oneφ (f : Nat) (fa : FA) (φ : Nat → Option FA) (k : Nat) : Option FA := if k = f then some fa else φ k
theorem oneφ_at (f : Nat) (fa : FA) (φ : Nat → Option FA) : oneφ f fa φ f = some fa := if_pos rfl
def oneD (f : Nat) : DataW Unit := .map [(.string [97], pd f)]
theorem oneD_at (f : Nat) : (oneD f).atKey (.string [97]) .nil = pd f := rfl
theorem oneD_sum {f : Nat} {φ : Nat → Option FA} {fa : FA} (h : φ f = some fa) : sumD (lenD φ) (oneD f) = fa.bytes.length := by
  show lenD φ (pd f) + 0 = _
  rw [lenD_pd h, Nat.add_zero]
def aS1 (f : Nat) : St := ⟨oneD f, .map [], .map [], 1, [], oneφ f ⟨0, [], []⟩ (fun _ => none), 1, 1, 1, -1, false, 100, 1⟩
def aS2 (f : Nat) : St := ⟨oneD f, oneD f, .map [], 0, [], oneφ f ⟨0, [], []⟩ (fun _ => none), 1, 0, 2, -1, false, 100, 1⟩
def aS3 (f : Nat) : St := ⟨oneD f, oneD f, .map [(.int .i64 0, pd f)], 0, [], oneφ f ⟨0, [120, 121, 122], [.put 0 3]⟩ (oneφ f ⟨0, [], []⟩ (fun _ => none)), 1, 1, 3, -1, false, 100, 2⟩
theorem aS1_eq (f : Nat) : (emptySt 100).made [97] f = aS1 f := rfl
theorem aS2_eq (f : Nat) : (aS1 f).synced = aS2 f := rfl
theorem aS3_eq (f : Nat) : (aS2 f).put f ⟨0, [], []⟩ [120, 121, 122] = aS3 f := rfl
theorem aS1_small (f : Nat) : (aS1 f).Small := small_mk (by decide) (by decide) (by decide) (by decide) (by decide) (by decide) (by decide) (by rw [oneD_sum (oneφ_at _ _ _)]; decide)
theorem aS2_small (f : Nat) : (aS2 f).Small := small_mk (by decide) (by decide) (by decide) (by decide) (by decide) (by decide) (by decide) (by rw [oneD_sum (oneφ_at _ _ _)]; decide)
theorem aS2_room (f : Nat) : (([120, 121, 122] : List UInt8).length : Int) ≤ (aS2 f).quota - usedOf (aS2 f) := by
  have : usedOf (aS2 f) = 0 := oneD_sum (oneφ_at _ _ _)
  rw [this]
  show (3 : Int) ≤ 100 - (0 : Nat)
  decide
end Go.Proofs.YtcbkmcagnmpifaaGreatDoor

end
