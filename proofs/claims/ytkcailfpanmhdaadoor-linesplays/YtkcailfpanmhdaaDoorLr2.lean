/- The reader of package lines: Put, drop. -/
import Derived.Test.YtkcailfpanmhdaaDoorLr1
namespace Go.Proofs.YtkcailfpanmhdaaDoor
open Go.RowKit
section
variable (w : World) (b : Nat) (G : Option Nat) (l : List UInt8) (a : Nat)
set_option maxHeartbeats 1000000 in
theorem put_any (h : RD w b G l a) (x : Value) (news : List UInt8) (hs : Src Tryd.prog 1 27 x news.length (news.map bv) w) (hmax : l.length + news.length ≤ 1000000000) :
    Calls Tryd.prog 10 #[.pointer (some ⟨b, 0, none⟩), x] w fun e w' => e = .returned (.tuple #[]) ∧ ∃ G', RD w' b G' (l ++ news) a ∧ Mvs (own b G) w w' ∧ (G' = G ∨ G' = some w.heap.size) := by
  obtain ⟨v, s, h⟩ := h
  have hc := h.blk.cell
  have hf := h.blk.frozen
  obtain ⟨i0, hi0, hi1⟩ := Option.map_eq_some_iff.1 byteInfo
  simp only [Prod.mk.injEq] at hi1
  obtain ⟨hz0, hz1, hz2⟩ := hi1
  have hu := under27
  have H : Hid (RDs w b G l a v s) := h
  have HS : Hid (Src Tryd.prog 1 27 x news.length (news.map bv) w) := hs
  clear h hs
  go_enter Tryd.func10, Tryd.ntmps10
  go_wp2_with (at_builtin; refine wpList_append_rw rfl _ _ 27 27 rfl 5 i0 (.int .u8 0) 1 1 hu hi0 hz0 hz1 hz2 rfl rfl H.out.row _ news.length (news.map bv) rfl HS.out (by simp only [maxLen]; omega) (by omega) ?_)
  intro v1 w1 G1 hr hm hG
  obtain ⟨A1, c1, rfl⟩ := hr.form
  have hb1 : Blk w1 b #[v, .int .i64 s, .int .i64 a] 59 := hm.blk H.out.blk (fun e => H.out.apart e.symm)
  have hc1 := hb1.cell
  have hf1 := hb1.frozen
  have HR : Hid (Rw w1 1 (.slice A1 (l.length + news.length) c1) (l.length + news.length) (l.map bv ++ news.map bv) G1) := hr
  have HM : Hid (Mvs (fun k => some k = G) w w1) := hm
  have HG : Hid (G1 = G ∨ G1 = some w.heap.size) := hG
  clear hr hm hG hu hi0 hz0 hz1 hz2 hc hf
  go_wp2
  go_end0
  have hG := HG.out
  have hm := HM.out
  have hr := HR.out
  refine ⟨rfl, G1, ⟨_, s, hb1.set 0 _, ?_, ?_, ?_, ?_⟩, ?_, hG⟩
  · have := hr.keep ((Mvs.refl (fun k => k = b) w1).setCell ⟨b, 0, none⟩ (.slice A1 (l.length + news.length) c1) (fun _ => rfl)) (fun g hg => by
      rcases hG with rfl | rfl
      · exact fun e => H.out.apart (e ▸ hg)
      · cases hg
        have := H.out.blk.lt
        omega)
    simpa using this
  · rcases hG with rfl | rfl
    · exact H.out.apart
    · have := H.out.blk.lt
      intro e
      cases e
      omega
  · have := H.out.searched
    rw [List.length_append]
    omega
  · intro j hj
    have := H.out.searched
    rw [List.getElem?_append_left (by omega)]
    exact H.out.none10 j hj
  · exact (hm.mono (fun i _ e => .inr e)).setCell _ _ (fun _ => .inl rfl)
end
end Go.Proofs.YtkcailfpanmhdaaDoor
