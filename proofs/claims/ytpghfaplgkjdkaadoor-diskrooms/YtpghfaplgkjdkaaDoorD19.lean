/- A disk: Read; the chapter's own case. -/
import Derived.Test.YtpghfaplgkjdkaaDoorD18
import Derived.Lib.SlBytesConst
namespace Go.Proofs.YtpghfaplgkjdkaaDoor
open Go.RowKit Go.Maps
set_option maxRecDepth 20000 in
set_option maxHeartbeats 2000000 in
theorem read_ok (w0 w : World) (d : Nat) (ρ : Nat → Option Role) (s : St) (h : DK w0 w d ρ s) (hoff : s.off = false) (name : List UInt8) (hr : rightB name = true) (b : Nat) (fa : FA) (hat : s.D.atKey (.string name) .nil = pd b) (hφ : s.φ b = some fa) (hl : fa.bytes.length ≤ 1000000) :
    Calls Tryd.prog 16 #[pv d, .string ⟨name.toArray⟩] w fun e w' => ∃ v, e = .returned (.tuple #[v, .nilIface]) ∧ BR w' v fa.bytes ∧ Below w.heap.size w w' := by
  have HF := hide (find_there w0 w d ρ s h hoff name hr b hat)
  obtain ⟨bn, bs, bc, vs, vl, Gs, Gl, cs, hD⟩ := h
  obtain ⟨vb, vo, Gb, Go, fs, hFs⟩ := hD.files b fa hφ
  have hc := hFs.blk.cell
  have HB := hide hFs.row.br
  have HC : Hid (Calls Tryd.prog 36 #[vb] w fun e w' => ∃ v, e = .returned v ∧ BR w' v fa.bytes ∧ Below w.heap.size w w') := by
    rcases hFs.row.2 with ⟨rfl, h0, _⟩ | ⟨g, o, cap, _, rfl, _⟩
    · have e0 : fa.bytes = [] := List.length_eq_zero_iff.1 h0
      exact (clone_nil w).mono fun e w' ⟨he, hw⟩ => ⟨_, he, by subst hw; exact HB.out, by subst hw; exact Below.refl _ _⟩
    · exact (clone_any fa.bytes _ _ _ w HB.out hl).mono fun e w' ⟨v, he, hT⟩ => ⟨v, he, hT.br, hT.1⟩
  clear hD hFs hat
  unfold pv at *
  go_enter Tryd.func16, Tryd.ntmps16
  go_wp2_with (go_at_call 18; refine HF.out.mono ?_; rintro e w' ⟨rfl, rfl⟩)
  refine HC.out.mono ?_
  rintro e w2 ⟨v, rfl, hbr, hb2⟩
  have H2 := hide (And.intro hbr hb2)
  clear hbr hb2 HC HF HB
  go_wp2
  go_ret2
  exact ⟨_, rfl, H2.out.1, H2.out.2⟩
theorem one_at {k kl : Lit} {f b : Nat} (h : (DataW.map [(k, pd f)]).atKey kl .nil = pd b) : b = f := by
  unfold DataW.atKey at h
  cases hs : k.sameKey kl with
  | true =>
    simp [hs] at h
    exact (pd_inj h).symm
  | false =>
    simp [hs, pd] at h
theorem one_entry {k : Lit} {f : Nat} : ∀ p ∈ entriesOf (DataW.map [(k, pd f)]), ∃ b, p.2 = pd b := by
  intro p hp
  have : p = (k, pd f) := List.mem_singleton.1 hp
  rw [this]
  exact ⟨f, rfl⟩
theorem put_first (k : Lit) (f : Nat) : (DataW.map [] : DataW Unit).put k (pd f) = .map [(k, pd f)] := rfl
theorem rightA : rightB [97] = true := by decide
theorem Turn.off {x y : World} {ρ ρ' : Nat → Option Role} (h : Turn x y ρ ρ') {k : Nat} (hk : k < x.heap.size) (hr : ρ k = none) : ρ' k = none := by
  cases hx : ρ' k with
  | none => rfl
  | some r =>
    obtain ⟨r', hr'⟩ := h.2 k r hx hk
    rw [hr] at hr'
    cases hr'
theorem DK.free {w0 w : World} {d : Nat} {ρ : Nat → Option Role} {s : St} (h : DK w0 w d ρ s) {k : Nat} (hk : w.heap.size ≤ k) : ρ k = none := by
  cases hx : ρ k with
  | none => rfl
  | some r =>
    have := (h.low k r hx).2
    omega
theorem small_mk {D Ds ch : DataW Unit} {ns : Nat} {ls : List Nat} {φ : Nat → Option FA} {created opened steps quota : Int} {N : Nat} (s0 : 0 ≤ steps) (s1 : steps ≤ 1000000) (o0 : 0 ≤ opened) (o1 : opened ≤ 1000000) (n : N ≤ 100000) (q0 : 0 ≤ quota) (q1 : quota ≤ 1000000) (u : sumD (lenD φ) D ≤ 1000000) : St.Small ⟨D, Ds, ch, ns, ls, φ, created, opened, steps, -1, false, quota, N⟩ :=
  ⟨by show (-1 : Int) < 0; decide, s0, s1, o0, o1, n, rfl, q0, q1, u⟩
theorem br_lit {w : World} {C : Array Value} {fr : Nat × Nat} (bs : List UInt8) (hC : C = (bs.map bv).toArray) {c : Nat} (hc : bs.length ≤ c) (hm : c ≤ maxLen) : BR (w.alloc (.cells C 5 fr)) (.slice (some ⟨w.heap.size, 0, none⟩) bs.length c) bs := by
  subst hC
  refine ⟨_, c, by rw [List.length_map], by rw [List.length_map]; exact hc, hm, (fun h => by cases h), fun _ => ⟨w.heap.size, 0, rfl, by simp, fun j u hu => ?_⟩⟩
  rw [Nat.zero_add, World.cell?_alloc_mark, List.getElem?_toArray, hu]
def oneφ (f : Nat) (fa : FA) (φ : Nat → Option FA) (k : Nat) : Option FA := if k = f then some fa else φ k
theorem oneφ_at (f : Nat) (fa : FA) (φ : Nat → Option FA) : oneφ f fa φ f = some fa := if_pos rfl
def oneD (f : Nat) : DataW Unit := .map [(.string [97], pd f)]
theorem oneD_at (f : Nat) : (oneD f).atKey (.string [97]) .nil = pd f := rfl
theorem oneD_sum {f : Nat} {φ : Nat → Option FA} {fa : FA} (h : φ f = some fa) : sumD (lenD φ) (oneD f) = fa.bytes.length := by
  show lenD φ (pd f) + 0 = _
  rw [lenD_pd h, Nat.add_zero]
def aS1 (f : Nat) : St := ⟨oneD f, .map [], .map [], 1, [], oneφ f ⟨0, [], []⟩ (fun _ => none), 1, 1, 1, -1, false, 100, 1⟩
def aS2 (f : Nat) : St := ⟨oneD f, oneD f, .map [], 0, [], oneφ f ⟨0, [], []⟩ (fun _ => none), 1, 0, 2, -1, false, 100, 1⟩
def aS3 (f : Nat) : St := ⟨oneD f, oneD f, .map [(.int .i64 0, pd f)], 0, [], oneφ f ⟨0, [120, 121, 122], [.put 0 3]⟩ (oneφ f ⟨0, [], []⟩ (fun _ => none)), 1, 1, 3, -1, false, 100, 2⟩
theorem aS1_eq (f : Nat) : (emptySt 100).made [97] f = aS1 f := rfl
theorem aS2_eq (f : Nat) : (aS1 f).synced = aS2 f := rfl
theorem aS3_eq (f : Nat) : (aS2 f).put f ⟨0, [], []⟩ [120, 121, 122] = aS3 f := rfl
theorem aS1_small (f : Nat) : (aS1 f).Small := small_mk (by decide) (by decide) (by decide) (by decide) (by decide) (by decide) (by decide) (by rw [oneD_sum (oneφ_at _ _ _)]; decide)
theorem aS2_small (f : Nat) : (aS2 f).Small := small_mk (by decide) (by decide) (by decide) (by decide) (by decide) (by decide) (by decide) (by rw [oneD_sum (oneφ_at _ _ _)]; decide)
theorem aS2_room (f : Nat) : (([120, 121, 122] : List UInt8).length : Int) ≤ (aS2 f).quota - usedOf (aS2 f) := by
  have : usedOf (aS2 f) = 0 := oneD_sum (oneφ_at _ _ _)
  rw [this]
  show (3 : Int) ≤ 100 - (0 : Nat)
  decide
set_option maxRecDepth 20000 in
set_option maxHeartbeats 4000000 in
theorem alive_yes (w : World) (a : Nat → Addr) (hE : Errs w a) : Calls Tryd.prog 5 #[] w fun e w' => e = .returned (.bool true) ∧ Below w.heap.size w w' := by
  replace hE := hide hE
  go_enter Tryd.func5, Tryd.ntmps5
  go_wp2_with fail
  refine (new_any w w 100 (by decide) (by decide) (Below.refl _ _)).mono ?_
  rintro e w1 ⟨rfl, _, hD1⟩
  replace hD1 := hide hD1
  unfold pv
  go_wp2_with fail
  refine (create_ok w w1 _ _ _ a hE.out hD1.out rfl (by decide) (by decide) (by decide) (by decide) (by decide) (by decide) (by decide) (by decide) (by decide) [97] rightA rfl).mono ?_
  rintro e w2 ⟨rfl, ρ2, f, hD2, _, hf⟩
  replace hD2 := hide hD2
  clear hD1 hf
  go_wp2_with fail
  rw [aS1_eq] at hD2
  refine (syncDir_ok w w2 _ ρ2 _ hD2.out (aS1_small f) (by show (1 : Int) ≤ 1; decide) rfl).mono ?_
  rintro e w3 ⟨rfl, ρ3, hD3, _⟩
  replace hD3 := hide hD3
  rw [aS2_eq] at hD3
  clear hD2
  have hcv := fun (w0 : World) (C : Array Value) (n c : Nat) => Lib.run_convert_bytes_const (P := Tryd.prog) w0 34 5 C n c Tryd.underlying34 Tryd.underlying5
  go_wp2_with fail
  have hb4 : Below w3.heap.size w3 (w3.alloc (.cells #[.int .u8 120, .int .u8 121, .int .u8 122] 5 (3, 4))) := (Below.refl _ _).alloc (Nat.le_refl _) _
  refine (append_ok w _ _ ρ3 _ (hD3.out.then hb4) (aS2_small f) [97] rightA f ⟨0, [], []⟩ (oneD_at f) (show oneφ f ⟨0, [], []⟩ (fun _ => none) f = some ⟨0, [], []⟩ from oneφ_at _ _ _) (by decide) (by decide) (by decide) _ [120, 121, 122] (br_lit [120, 121, 122] rfl (Nat.le_refl _) (by simp only [maxLen]; decide)) (fun A n c e => by cases e; exact hD3.out.free (Nat.le_refl _)) (by decide) (aS2_room f)).mono ?_
  rintro e w5 ⟨rfl, ρ5, hD5, _, _⟩
  rw [aS3_eq] at hD5
  replace hD5 := hide hD5
  clear hD3 hb4 hcv
  go_wp2_with fail
  have hb6 : Below w5.heap.size w5 (w5.alloc (.cells #[.int .i64 0, .int .i64 0, .int .i64 2] 3)) := (Below.refl _ _).alloc (Nat.le_refl _) _
  have kl := Blk.new w5 #[.int .i64 0, .int .i64 0, .int .i64 2] 3
  refine (crash_one w _ _ ρ5 _ (hD5.out.then hb6) rfl rfl f 0 [120, 121, 122] 0 3 2 rfl (oneφ_at _ _ _) rfl (by decide) (by decide) (by show (0 : Int) ≤ 1; decide) (by show (1 : Int) ≤ 1000000; decide) (fun kl' b' hb' => ?_) one_entry w5.heap.size 0 (hD5.out.free (Nat.le_refl _)) (by simp) (by rw [kl.cell]; rfl) (by rw [kl.cell]; rfl) (by rw [kl.cell]; rfl) (by decide)).mono ?_
  · obtain rfl := one_at hb'
    show (oneφ _ _ _ _).isSome = true
    rw [oneφ_at]
    rfl
  rintro e w7 ⟨rfl, ρ7, hD7, _⟩
  replace hD7 := hide hD7
  clear hD5 hb6 kl
  go_wp2_with fail
  refine (read_ok w w7 _ ρ7 _ hD7.out rfl [97] rightA f ⟨0, [120, 121], []⟩ (oneD_at f) (by show (if f = f then _ else _) = _; rw [if_pos rfl]; rfl) (by decide)).mono ?_
  rintro e w8 ⟨v, rfl, hbr, hb8⟩
  obtain ⟨A, c, rfl, _⟩ := hbr.form
  have hcv : (convert 34 9 (.slice A 2 c)).run Tryd.prog w8 = .ok (.string ⟨#[120, 121]⟩) w8 := hbr.convert
  have HB := hide (hD7.out.below.trans (hb8.mono hD7.out.below.size))
  clear hbr hb8 hD7
  go_wp2
  go_ret
  exact ⟨rfl, HB.out⟩
end Go.Proofs.YtpghfaplgkjdkaaDoor
