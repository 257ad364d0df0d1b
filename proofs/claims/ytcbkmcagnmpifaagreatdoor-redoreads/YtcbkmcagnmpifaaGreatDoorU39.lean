/- A file is replaced that isn't there: made, filled, made sure. -/
import Derived.Test.YtcbkmcagnmpifaaGreatDoorU38
namespace Go.Proofs.YtcbkmcagnmpifaaGreatDoor
open Go.RowKit Go.Maps Go.Sort
theorem Turn.of_below {w w' : World} (ρ : Nat → Option Role) (h : Below w.heap.size w w') : Turn w w' ρ ρ := ⟨Mvs.of_below h, fun _ r hr _ => ⟨r, hr⟩⟩
/-- The state behind it. -/
def St.replaced (s : St) (name : List UInt8) (bs : List UInt8) (f : Nat) : St := ((s.madeG name f).putG f ⟨s.created, [], []⟩ bs).syncd f ⟨s.created, bs, [.put 0 bs.length]⟩
theorem replaced_φ (s : St) (name bs : List UInt8) (f : Nat) : (s.replaced name bs f).φ f = some ⟨s.created, bs, []⟩ := if_pos rfl
theorem replaced_other (s : St) (name bs : List UInt8) {f k : Nat} (h : k ≠ f) : (s.replaced name bs f).φ k = s.φ k := by
  show (if k = f then _ else if k = f then _ else if k = f then _ else s.φ k) = _
  rw [if_neg h, if_neg h, if_neg h]
section
variable (w0 w : World) (l d : Nat) (dead : Bool) (ρ : Nat → Option Role) (s : St) (a : Nat → Addr)
set_option maxHeartbeats 4000000 in
theorem areplace (hE : Errs w0 a) (h : LG w0 w l d dead ρ s) {D Ds ch : DataW Unit} {ns : Nat} {cr op st : Int} {N : Nat} (hs : Sm s D Ds ch ns cr op st (-1) false 1073741824 N)
    (c0 : 0 ≤ cr) (c1 : cr ≤ 1000) (o0 : 0 ≤ op) (o1 : op ≤ 1000) (t0 : 0 ≤ st) (t1 : st ≤ 1000) (n1 : ns ≤ 1000) (N1 : N ≤ 50) (x : OpA) (hk : x.kind = 2) (hr : rightB x.name = true) (hn : D.atKey (.string x.name) .nil = .nil) (hb0 : x.bytes ≠ []) (hb1 : x.bytes.length ≤ 1000) (hv : BR w x.val x.bytes) (hf : Frees ρ x.val x.bytes)
    (hp : ∀ f, (D.put (.string x.name) (pd f)).atKey (.string x.name) .nil = pd f) (hu : ∀ f, w.heap.size ≤ f → usedOf (s.madeG x.name f) ≤ 1000) :
    Calls Tryz.prog 73 #[opAgg l x] w fun e w' => e = .returned .nilIface ∧ ∃ ρ' f, Turn w w' ρ ρ' ∧ w.heap.size ≤ f ∧ LG w0 w' l d dead ρ' (s.replaced x.name x.bytes f) := by
  have hpos := List.length_pos_iff.2 hb0
  refine (odo_replace w l (fun v w' => v = .nilIface ∧ ∃ ρ' f, Turn w w' ρ ρ' ∧ w.heap.size ≤ f ∧ LG w0 w' l d dead ρ' (s.replaced x.name x.bytes f)) x a hk ?_).mono ?_
  · intro g w1 hbl1 hg1 hg2
    have L1 := h.then hbl1
    have T1 := Turn.of_below ρ hbl1
    have V1 := hv.below hbl1
    have rg : ρ g = none := h.dk.free hg1
    have hkeep : ∀ {x y : World} {ρ1 ρ2 : Nat → Option Role}, Turn x y ρ1 ρ2 → g < x.heap.size → ρ1 g = none → y.heap[g]? = x.heap[g]? := fun ht hl hr => ht.1.block g hl (fun ⟨r, e⟩ => by rw [hr] at e; cases e)
    have ar1 : dec (-1) = -1 := rfl
    -- made
    refine RunsG.step _ _ (by intros; kernel_rfl) ?_
    refine (oclear_create w1 l d dead (fun v w2 => v = .nilIface ∧ ∃ ρ2 f, Turn w1 w2 ρ ρ2 ∧ w1.heap.size ≤ f ∧ DK w0 w2 d ρ2 (s.madeG x.name f)) x L1.lb (fun w2 hb2 => isThere_none w0 w2 l d dead ρ s a x hE (L1.then hb2) hs.off hr (by rw [hs.D]; exact hn)) ?_).mono ?_
    · intro w2 hb2
      refine (create_okG w0 w2 d ρ s a hE (L1.then hb2).dk hs.off (by rw [hs.ar]; decide) (by rw [hs.ar]; decide) (by rw [hs.st]; omega) (by rw [hs.st]; omega) (by rw [hs.op]; omega) (by rw [hs.op]; omega) (by rw [hs.cr]; omega) (by rw [hs.cr]; omega) (by rw [hs.N]; omega) (by rw [hs.ns]; omega) x.name hr (by rw [hs.D]; exact hn)).mono ?_
      rintro e w3 ⟨rfl, ρ3, f, hd3, ht3, hf3⟩
      exact ⟨_, rfl, rfl, ρ3, f, (Turn.of_below ρ hb2).trans ht3, Nat.le_trans hb2.size hf3, hd3⟩
    rintro e w2 ⟨_, rfl, rfl, ρ2, f, T2, hf2, hd2⟩
    refine .inl ⟨rfl, hkeep T2 hg2 rg, ?_⟩
    have L2 := L1.turn hd2 T2
    have rg2 := T2.off hg2 rg
    have hg2' : g < w2.heap.size := Nat.lt_of_lt_of_le hg2 T2.1.size
    obtain ⟨V2, F2⟩ := hf.turn V1 T2
    have s2 := hs.madeG x.name f
    have hφ2 : (s.madeG x.name f).φ f = some ⟨s.created, [], []⟩ := if_pos rfl
    have hu2 := hu f (Nat.le_trans hbl1.size hf2)
    have hc0 : 0 ≤ s.created := by rw [hs.cr]; exact c0
    have hc1 : s.created ≤ 1000 := by rw [hs.cr]; exact c1
    -- filled
    obtain ⟨Av, cv, hva, _⟩ := BR.form V2
    refine RunsG.step _ _ (by intros; kernel_rfl) ?_
    refine (ofill_via w2 l d dead (fun v w3 => v = .nilIface ∧ ∃ ρ3, Turn w2 w3 ρ2 ρ3 ∧ DK w0 w3 d ρ3 ((s.madeG x.name f).putG f ⟨s.created, [], []⟩ x.bytes)) x L2.lb Av x.bytes.length cv hpos (by omega) hva ?_).mono ?_
    · intro w3 hb3
      refine (append_okG w0 w3 d ρ2 (s.madeG x.name f) (L2.then hb3).dk (s2.small (by rw [ar1]; decide) (by rw [ar1]; decide) (by omega) (by omega) (by omega) (by omega) (by omega) (by decide) (by decide) (by omega)) x.name hr f ⟨s.created, [], []⟩ (by rw [s2.D]; exact hp f) hφ2 hc0 (by show s.created ≤ _; omega) (by simp) x.val x.bytes (V2.below hb3) (F2 hb0) (by show 0 + x.bytes.length ≤ _; omega) (by rw [s2.q]; omega)).mono ?_
      rintro e w4 ⟨rfl, ρ4, hd4, ht4, _⟩
      exact ⟨_, rfl, rfl, ρ4, (Turn.of_below ρ2 hb3).trans ht4, hd4⟩
    rintro e w3 ⟨_, rfl, rfl, ρ3, T3, hd3⟩
    refine .inl ⟨rfl, hkeep T3 hg2' rg2, ?_⟩
    have L3 := L2.turn hd3 T3
    have rg3 := T3.off hg2' rg2
    have hg3' : g < w3.heap.size := Nat.lt_of_lt_of_le hg2' T3.1.size
    have s3 := s2.putG f ⟨s.created, [], []⟩ x.bytes
    have hφ3 : ((s.madeG x.name f).putG f ⟨s.created, [], []⟩ x.bytes).φ f = some ⟨s.created, x.bytes, [.put 0 x.bytes.length]⟩ := if_pos rfl
    -- made sure
    refine RunsG.step _ _ (by intros; kernel_rfl) ?_
    refine (osync_via w3 l d dead (fun v w4 => v = .nilIface ∧ Turn w3 w4 ρ3 ρ3 ∧ DK w0 w4 d ρ3 (s.replaced x.name x.bytes f)) x L3.lb ?_).mono ?_
    · intro w4 hb4
      refine (sync_ok w0 w4 d ρ3 _ (L3.then hb4).dk s3.off (by rw [s3.ar]; decide) (by rw [s3.ar]; decide) (by rw [s3.st]; omega) (by rw [s3.st]; omega) (by rw [s3.op]; omega) x.name hr f ⟨s.created, x.bytes, [.put 0 x.bytes.length]⟩ (by rw [s3.D]; exact hp f) hφ3 hc0 (by show s.created ≤ _; omega) (by rw [s3.op]; show ((1 : Nat) : Int) ≤ _; omega)).mono ?_
      rintro e w5 ⟨rfl, hd5, ht5⟩
      exact ⟨_, rfl, rfl, (Turn.of_below ρ3 hb4).trans ht5, hd5⟩
    rintro e w4 ⟨_, rfl, rfl, T4, hd4⟩
    refine .inl ⟨rfl, hkeep T4 hg3' rg3, rfl, ρ3, f, ((T1.trans T2).trans T3).trans T4, Nat.le_trans hbl1.size hf2, L3.turn hd4 T4⟩
  rintro e w' ⟨_, rfl, rfl, hq⟩
  exact ⟨rfl, hq⟩
end
end Go.Proofs.YtcbkmcagnmpifaaGreatDoor
