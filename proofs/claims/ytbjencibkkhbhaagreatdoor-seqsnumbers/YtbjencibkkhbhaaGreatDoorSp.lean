/- Package seqs' functions answer as the laws of layer 14 ask. -/
import Derived.Test.YtbjencibkkhbhaaGreatDoorSl3
import Derived.Test.YtbjencibkkhbhaaGreatDoorSl5
import Derived.Test.YtbjencibkkhbhaaGreatDoorSp3
import Derived.Test.YtbjencibkkhbhaaGreatDoorSp6
import Derived.Test.YtbjencibkkhbhaaGreatDoorSp7
import Derived.Test.YtbjencibkkhbhaaGreatDoorSp9
import Derived.Test.YtbjencibkkhbhaaGreatDoorSp10
set_option linter.unusedVariables false
namespace Go.Proofs.YtbjencibkkhbhaaGreatDoor
open Go.RowKit Go.Shelf
/-- What package seqs reads of the variables of packages: ErrForm, the library's two errors of numbers and its table of powers of ten, the flags' names. -/
structure SpE (w : World) (a : Addr) : Prop where
  ef : EFq w a
  sy : SyE w
  tb : TabQ w
  nm : Nms w
theorem SpE.below {w w' : World} {a : Addr} (h : SpE w a) (hb : Below w.heap.size w w') : SpE w' a := ⟨h.ef.below hb, h.sy.below hb, h.tb.below hb, h.nm.below hb⟩
theorem cset {w : World} {ea : Nat → Addr} (h : SpE w (ea 1)) : CSet w ea := fun s W hs hW => (pset_any s W (ea 1) (h.ef.below hW) (h.sy.below hW) (by omega)).mono fun e w' hh => by
  obtain ⟨he, hb⟩ := hh
  refine ⟨hb, ?_⟩
  rcases ho : sqS s with _ | set
  · rw [ho] at he
    exact .inr ⟨rfl, he⟩
  · rw [ho] at he
    obtain ⟨A, c, e1, e2⟩ := he
    exact .inl ⟨set, A, c, rfl, e1, e2⟩
theorem ctext {w : World} {ea : Nat → Addr} (h : SpE w (ea 1)) : CText w ea := fun W v rs hl hW hv => (ptext_any hv (ea 1) (h.ef.below hW) (h.tb.below hW) (by omega)).mono fun e w' hh => by
  obtain ⟨he, hb⟩ := hh
  refine ⟨hb, ?_⟩
  rcases ho : txO rs with _ | t
  · rw [ho] at he
    exact .inr ⟨rfl, he⟩
  · rw [ho] at he
    exact .inl ⟨t, rfl, he⟩
theorem cflags {w : World} {ea : Nat → Addr} (h : SpE w (ea 1)) : CFlags w ea := fun s W hs hW => (pflags_any s W (ea 1) (h.ef.below hW) (h.nm.below hW) (by omega)).mono fun e w' hh => by
  obtain ⟨he, hb⟩ := hh
  refine ⟨hb, ?_⟩
  rcases ho : flO s with _ | f
  · rw [ho] at he
    exact .inr ⟨rfl, he⟩
  · rw [ho] at he
    exact .inl ⟨f, rfl, he⟩
theorem cnumber {w : World} {ea : Nat → Addr} (h : SpE w (ea 1)) : CNumber w ea := fun s W hs hW => (pnumber_any s W (ea 1) (h.ef.below hW) (h.sy.below hW) (by omega)).mono fun e w' hh => by
  obtain ⟨he, hb⟩ := hh
  refine ⟨hb, ?_⟩
  by_cases h0 : sqN s = 0
  · rw [if_pos h0] at he
    exact .inr ⟨h0, he⟩
  · rw [if_neg h0] at he
    exact .inl ⟨h0, he⟩
theorem chas {w : World} : CHas w := fun W v rs n mx hl hW hv => phas_any hv n mx (by omega)
theorem cof {w : World} : COf w := fun W v u rs ns hl hl2 hW hv hu => (pof_any hv hu (by omega) (by omega)).mono fun e w' hh => by
  obtain ⟨v', rfl, hi⟩ := hh
  obtain ⟨A, c, e1⟩ := hi.2.choose_spec.1.form
  subst e1
  exact ⟨A, c, rfl, hi.1, hi.ia⟩
theorem cflagst {w : World} {a : Addr} (h : SpE w a) : CFlagsText w := fun W f hf hW => pflagsText_any f hf W (h.nm.below hW)
theorem alv {w : World} {ea : Nat → Addr} (h : SpE w (ea 1)) : CAlive w := alive14 (cset h) (cflags h) cof (cflagst h)
end Go.Proofs.YtbjencibkkhbhaaGreatDoor
