/- Text and Parse of package mime; alive: the chapter's examples. -/
/- alive: the chapter's examples. -/
import Derived.Test.YtegplihhbdmnbaaGreatDoorU29
import Derived.Test.YtegplihhbdmnbaaGreatDoorU46
import Derived.Test.YtegplihhbdmnbaaGreatDoorU20
section
set_option linter.unusedSimpArgs false
set_option linter.unusedVariables false
namespace Go.Proofs.YtegplihhbdmnbaaGreatDoor
open Go.RowKit Go.Shelf
set_option maxRecDepth 20000 in
set_option maxHeartbeats 2000000 in
theorem text_any {n : Nat} {S : Nat → Prop} (p : Part) (v : Value) (w : World) (hp : PA n S w v p) (ho : OkP p) (ht : TabM w) (hl : (textP p).length ≤ 100000000000000) :
    Calls Tryz.prog 12 #[v] w fun e w' => e = .returned (.string ⟨(textP p).toArray⟩) ∧ Below w.heap.size w w' := by
  obtain ⟨Ap, cp, Ak, ck, rfl⟩ := hp.form
  obtain ⟨n1, hn1⟩ : ∃ n, p.h.params.length = n := ⟨_, rfl⟩
  obtain ⟨n2, hn2⟩ : ∃ n, p.kids.length = n := ⟨_, rfl⟩
  obtain ⟨H, hH⟩ : ∃ H, p.h = H := ⟨_, rfl⟩
  rw [hn1, hn2, hH] at hp ⊢
  clear hn1 hn2 hH
  have hA1 := (Below.refl w.heap.size w).alloc (Nat.le_refl _) (.cells (phA H (.slice Ap n1 cp) (.slice Ak n2 ck)) 40)
  have hA2 := hA1.alloc hA1.size (.cells #[.pointer none, .slice none 0 0] 72)
  have HBl : Hid (Lib.IsBuilderF 72 5 (w.alloc (.cells (phA H (.slice Ap n1 cp) (.slice Ak n2 ck)) 40)).heap.size (w.alloc (.cells (phA H (.slice Ap n1 cp) (.slice Ak n2 ck)) 40)).heap.size (Lib.byteCells []) ((w.alloc (.cells (phA H (.slice Ap n1 cp) (.slice Ak n2 ck)) 40)).alloc (.cells #[.pointer none, .slice none 0 0] 72))) := Lib.IsBuilderF.of (Lib.fresh_isBuilder _ _ _)
  have hz : (w.alloc (.cells (phA H (.slice Ap n1 cp) (.slice Ak n2 ck)) 40)).heap.size = w.heap.size + 1 := World.size_alloc _ _
  rw [hz] at HBl
  have hz2 : ((w.alloc (.cells (phA H (.slice Ap n1 cp) (.slice Ak n2 ck)) 40)).alloc (.cells #[.pointer none, .slice none 0 0] 72)).heap.size = w.heap.size + 1 + 1 := by rw [World.size_alloc, hz]
  have hK : Blk ((w.alloc (.cells (phA H (.slice Ap n1 cp) (.slice Ak n2 ck)) 40)).alloc (.cells #[.pointer none, .slice none 0 0] 72)) w.heap.size (phA H (.slice Ap n1 cp) (.slice Ak n2 ck)) 40 := by
    have h1 := Blk.new w (phA H (.slice Ap n1 cp) (.slice Ak n2 ck)) 40
    exact (((Below.refl _ (w.alloc (.cells (phA H (.slice Ap n1 cp) (.slice Ak n2 ck)) 40))).alloc (Nat.le_refl _) _).block _ h1.lt).trans h1
  obtain ⟨W2, hW2⟩ : ∃ W2, (w.alloc (.cells (phA H (.slice Ap n1 cp) (.slice Ak n2 ck)) 40)).alloc (.cells #[.pointer none, .slice none 0 0] 72) = W2 := ⟨_, rfl⟩
  rw [hW2] at HBl hA2 hz2 hK
  have HWc : Hid (Calls Tryz.prog 33 #[.pointer (some ⟨w.heap.size + 1, 0, none⟩), .agg (phA H (.slice Ap n1 cp) (.slice Ak n2 ck))] W2 fun e w' => e = .returned (.tuple #[]) ∧ WB (w.heap.size + 1) (w.heap.size + 1) (textP p) W2 w') := write_any (w.heap.size + 1) (w.heap.size + 1) (by have := ht.2; omega) n p _ [] _ _ ((hp.mono (S' := fun g => g < w.heap.size + 1) (fun g hg _ => by omega)).below hA2) ho (ht.below hA2) (WB.mk HBl.out (Below.refl _ _) (Lib.OthersKept.refl _ _ _) (by rw [hz2]; omega)) (by simpa using hl)
  obtain ⟨c0, c1, c2, c3, c4, c5, c6, c7, c8, c9, c10⟩ := blk11 hK
  have HA2 := hide hA2
  clear hA1 hA2 hz hz2 hK HBl hp ho
  generalize textP p = TX at *
  unfold phA at hW2 HWc
  go_enter Tryz.func12, Tryz.ntmps12
  unfold phA
  go_wp2_with fail
  refine HWc.out.mono ?_
  rintro e w3 ⟨rfl, hw3⟩
  have HS := hide (Tryz.Builder_String_any_k _ _ TX w3 hw3.is hw3.siz)
  have HB3 := hide (HA2.out.trans (hw3.bel.mono (by omega)))
  clear hw3 hW2 c0 c1 c2 c3 c4 c5 c6 c7 c8 c9 c10
  go_wp2_with fail
  refine HS.out.mono ?_
  rintro e w4 ⟨rfl, _, hb4, _⟩
  have HB4 := hide hb4
  clear hb4
  go_wp2
  go_ret
  exact ⟨rfl, HB3.out.trans (HB4.out.mono (by omega))⟩
theorem ppYes {w wc w' : World} {v : Value} {P : Part} (hb : Below w.heap.size w wc) (hm : Mvs (fun k => k = w.heap.size) wc w') (hp : PA (32 + 1) (fun g => w.heap.size + 1 ≤ g) wc v P) : Below w.heap.size w w' ∧ ∃ v', Ending.returned v = .returned v' ∧ PA 33 (fun g => w.heap.size ≤ g) w' v' P :=
  ⟨below_mvs hb hm (fun k hk => by omega) (Nat.le_refl _), v, rfl, (hp.keep hm (fun g hg => by omega)).mono (fun g _ hg => by omega)⟩
set_option maxRecDepth 20000 in
set_option maxHeartbeats 2000000 in
theorem pparse_any (m : List UInt8) (w : World) (ea ef : Addr) (hE : EF w ea) (hF : EFm w ef) (hm : m.length ≤ 1000000) :
    Calls Tryz.prog 31 #[.string ⟨m.toArray⟩] w fun e w' => Below w.heap.size w w' ∧ ∃ v, e = .returned v ∧ PA 33 (fun g => w.heap.size ≤ g) w' v (parseP 32 m 0 m.length) := by
  have hsz := size_lit m
  have hA := (Below.refl w.heap.size w).alloc (Nat.le_refl _) (.cells #[.string ⟨#[]⟩, .string ⟨#[]⟩, .slice none 0 0, .string ⟨#[]⟩, .string ⟨#[]⟩, .string ⟨#[]⟩, .int .i64 0, .int .i64 0, .int .i64 0, .int .i64 0, .slice none 0 0] 40)
  have HA := hide hA
  have HPs : Hid (Calls Tryz.prog 58 #[.string ⟨m.toArray⟩, .agg #[.int .i64 0, .int .i64 (m.length : Nat)], .int .i64 0] _ _) := parse_any m ea ef hm 32 0 0 m.length _ rfl (hE.below hA) (hF.below hA) (Nat.zero_le _) (Nat.le_refl _)
  clear hA hE hF
  go_enter Tryz.func31, Tryz.ntmps31
  go_wp2_with fail
  refine HPs.out.mono ?_
  rintro e w2 ⟨hb2, v, rfl, hp⟩
  obtain ⟨Ap, cp, Ak, ck, rfl⟩ := hp.form
  obtain ⟨P, hP⟩ : ∃ P, parseP 32 m 0 m.length = P := ⟨_, rfl⟩
  rw [hP] at hp ⊢
  have HPe := hide hP
  clear hP
  obtain ⟨n1, hn1⟩ : ∃ n, P.h.params.length = n := ⟨_, rfl⟩
  obtain ⟨n2, hn2⟩ : ∃ n, P.kids.length = n := ⟨_, rfl⟩
  obtain ⟨H, hH⟩ : ∃ H, P.h = H := ⟨_, rfl⟩
  rw [hn1, hn2, hH] at hp ⊢
  clear hn1 hn2 hH
  have h1 := Blk.new w #[.string ⟨#[]⟩, .string ⟨#[]⟩, .slice none 0 0, .string ⟨#[]⟩, .string ⟨#[]⟩, .string ⟨#[]⟩, .int .i64 0, .int .i64 0, .int .i64 0, .int .i64 0, .slice none 0 0] 40
  have HRes : Hid (Blk w2 w.heap.size #[.string ⟨#[]⟩, .string ⟨#[]⟩, .slice none 0 0, .string ⟨#[]⟩, .string ⟨#[]⟩, .string ⟨#[]⟩, .int .i64 0, .int .i64 0, .int .i64 0, .int .i64 0, .slice none 0 0] 40) := (hb2.block _ h1.lt).trans h1
  have HB2 := hide (HA.out.trans (hb2.mono HA.out.size))
  have HP := hide hp
  have hlt1 : w.heap.size < (w.alloc (.cells #[.string ⟨#[]⟩, .string ⟨#[]⟩, .slice none 0 0, .string ⟨#[]⟩, .string ⟨#[]⟩, .string ⟨#[]⟩, .int .i64 0, .int .i64 0, .int .i64 0, .int .i64 0, .slice none 0 0] 40)).heap.size := h1.lt
  clear hp h1 hb2
  have hcR := HRes.out.cell
  have hfR := HRes.out.frozen
  have hlR := HRes.out.lt
  unfold phA
  go_wp2
  have h9 := (((((((((((HRes.out.set 0 (.string ⟨H.type.toArray⟩)).set 1 (.string ⟨H.sub.toArray⟩)).set 2 (.slice Ap n1 cp)).set 3 (.string ⟨H.id.toArray⟩)).set 4 (.string ⟨H.desc.toArray⟩)).set 5 (.string ⟨H.enc.toArray⟩)).set 6 (.int .i64 H.at')).set 7 (.int .i64 H.body)).set 8 (.int .i64 H.end')).set 9 (.int .i64 H.lines)).set 10 (.slice Ak n2 ck)).cell
  refine bodyPost_ret (v := .agg #[.string ⟨H.type.toArray⟩, .string ⟨H.sub.toArray⟩, .slice Ap n1 cp, .string ⟨H.id.toArray⟩, .string ⟨H.desc.toArray⟩, .string ⟨H.enc.toArray⟩, .int .i64 H.at', .int .i64 H.body, .int .i64 H.end', .int .i64 H.lines, .slice Ak n2 ck]) (by simp [results, Tryz.results31, go_sem, h9]) rfl ?_
  rw [HPe.out]
  exact ppYes HB2.out (Mvs11 _ w.heap.size _ _ _ _ _ _ _ _ _ _ _) (HP.out.mono (S' := fun g => w.heap.size + 1 ≤ g) (fun g _ hg => Nat.le_trans hlt1 hg))
/-- The examples' texts. -/
def exT : List UInt8 := [84, 101, 120, 116, 47, 80, 108, 97, 105, 110, 59, 32, 99, 104, 97, 114, 115, 101, 116, 61, 34, 97, 32, 98, 34]
def exM : List UInt8 := [13, 10, 97, 98, 99, 10]
def exS : List UInt8 := [40, 34, 116, 101, 120, 116, 34, 32, 34, 112, 108, 97, 105, 110, 34, 32, 78, 73, 76, 32, 78, 73, 76, 32, 78, 73, 76, 32, 34, 55, 98, 105, 116, 34, 32, 52, 32, 49, 41]
theorem exT_type : typeO exT = some ([116, 101, 120, 116], [112, 108, 97, 105, 110], [⟨[99, 104, 97, 114, 115, 101, 116], [97, 32, 98]⟩]) := by kernel_rfl
theorem exM_base : baseP exM 0 exM.length = { type := [116, 101, 120, 116], sub := [112, 108, 97, 105, 110], params := [], id := [], desc := [], enc := [55, 98, 105, 116], at' := 0, body := 2, end' := 6, lines := 1 } := by kernel_rfl
theorem exM_parse : parseP 32 exM 0 exM.length = .mk (baseP exM 0 exM.length) [] := parse_leaf (by rw [exM_base]; decide)
theorem exM_text : textP (parseP 32 exM 0 exM.length) = exS := by
  rw [exM_parse, exM_base]
  kernel_rfl
theorem exM_ok : OkP (parseP 32 exM 0 exM.length) := by
  rw [exM_parse, exM_base]
  refine .mk _ _ ?_ (by simp)
  constructor <;> first | decide | simp
end Go.Proofs.YtegplihhbdmnbaaGreatDoor

end
section
set_option linter.unusedSimpArgs false
set_option linter.unusedVariables false
namespace Go.Proofs.YtegplihhbdmnbaaGreatDoor
open Go.RowKit Go.Shelf
set_option maxRecDepth 20000 in
set_option maxHeartbeats 2000000 in
theorem alive10 (w : World) (ea ef : Addr) (hE : EF w ea) (hF : EFm w ef) (ht : TabM w) : Calls Tryz.prog 10 #[] w fun e w' => e = .returned (.bool true) ∧ Below w.heap.size w w' := by
  have HTy := hide (type_any exT w ef hF (by decide))
  have HPs : Hid (∀ W, Below w.heap.size w W → Calls Tryz.prog 31 #[.string ⟨exM.toArray⟩] W fun e w' => Below W.heap.size W w' ∧ ∃ v, e = .returned v ∧ PA 33 (fun g => W.heap.size ≤ g) w' v (parseP 32 exM 0 exM.length)) := fun W hW => pparse_any exM W ea ef (hE.below hW) (hF.below hW) (by decide)
  have HTx : Hid (∀ W v, Below w.heap.size w W → PA 33 (fun g => 0 ≤ g) W v (parseP 32 exM 0 exM.length) → Calls Tryz.prog 12 #[v] W fun e w' => e = .returned (.string ⟨exS.toArray⟩) ∧ Below W.heap.size W w') := fun W v hW hp => by
    rw [← exM_text]
    exact text_any _ v W hp exM_ok (ht.below hW) (by rw [exM_text]; decide)
  clear hE hF ht
  go_enter Tryz.func10, Tryz.ntmps10
  go_wp2_with fail
  refine HTy.out.mono ?_
  rintro e w2 ⟨hb2, hm2⟩
  rw [exT_type] at hm2
  obtain ⟨v, rfl, hr⟩ := hm2
  obtain ⟨g, o, cap, rfl, q1, q2, q3, q4, q5⟩ := RowOf.read (f := Pm.cs) (sz := 2) (fun _ => rfl) hr 0 (by simp)
  have q6 : w2.cell? ⟨g, o + 1, none⟩ = some (.string ⟨#[97, 32, 98]⟩) := q5 1 (by omega)
  have HB2 := hide hb2
  clear q5 hr hb2 q3
  simp only [List.length_cons, List.length_nil, Nat.zero_add] at q1 ⊢
  go_wp2_with fail
  refine (HPs.out _ HB2.out).mono ?_
  rintro e w3 ⟨hb3, v3, rfl, hp3⟩
  have HP3 := hide (hp3.mono (S' := fun g => 0 ≤ g) (fun g _ _ => Nat.zero_le _))
  have HB3 := hide (HB2.out.trans (hb3.mono HB2.out.size))
  clear hb3 hp3
  go_wp2_with fail
  refine (HTx.out _ _ HB3.out HP3.out).mono ?_
  rintro e w4 ⟨rfl, hb4⟩
  have HB4 := hide (HB3.out.trans (hb4.mono HB3.out.size))
  clear hb4
  unfold exS
  go_wp2
  go_ret
  exact ⟨rfl, HB4.out⟩
end Go.Proofs.YtegplihhbdmnbaaGreatDoor

end
