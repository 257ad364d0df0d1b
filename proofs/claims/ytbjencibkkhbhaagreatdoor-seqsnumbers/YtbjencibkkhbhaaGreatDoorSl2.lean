/- The laws SeqsNumbers, SeqsFlags, SeqsSets, SeqsHas, SeqsOf, wherever package seqs answers as told. -/
import Derived.Test.YtbjencibkkhbhaaGreatDoorSl1
set_option linter.unusedSimpArgs false
set_option linter.unusedVariables false
namespace Go.Proofs.YtbjencibkkhbhaaGreatDoor
open Go.RowKit Go.Shelf
def CNumber (w : World) (ea : Nat → Addr) : Prop := ∀ (s : List UInt8) (W : World), s.length ≤ 100000 → Below w.heap.size w W → Calls Tryz.prog 23 #[.string ⟨s.toArray⟩] W fun e w' => Below W.heap.size W w' ∧ ((sqN s ≠ 0 ∧ e = .returned (.tuple #[.int .i64 (sqN s : Nat), .nilIface])) ∨ (sqN s = 0 ∧ e = .returned (.tuple #[.int .i64 0, errF ea])))
def CHas (w : World) : Prop := ∀ (W : World) (v : Value) (rs : List (Int × Int)) (n mx : Int), rs.length ≤ 1000 → Below w.heap.size w W → RA W v rs → Calls Tryz.prog 16 #[v, .int .i64 n, .int .i64 mx] W fun e w' => e = .returned (.bool (sqIn rs n mx)) ∧ Below W.heap.size W w'
def CAlive (w : World) : Prop := Calls Tryz.prog 9 #[] w fun e w' => e = .returned (.bool true) ∧ Below w.heap.size w w'
theorem numF {w : World} {ea : Nat → Addr} (hE : Errs w ea) (W : World) (hW : Below w.heap.size w W) : Calls Tryz.prog 13 #[errF ea] W fun e w' => e = .returned (.int .i64 2) ∧ Below w.heap.size w w' := (num_err 1 (by decide) W ea (hE.below hW)).mono fun e w' h => ⟨h.1, hW.trans (h.2.mono hW.size)⟩
set_option maxRecDepth 20000 in
set_option maxHeartbeats 2000000 in
theorem seqsNumbers_walk {w : World} {ea : Nat → Addr} (hE : Errs w ea) (hA : CAlive w) (hN : CNumber w ea) (s : List UInt8) :
    Calls Tryz.prog 8 #[.string ⟨s.toArray⟩] w fun e w' => e = .returned (.bool true) ∧ Below w.heap.size w w' := by
  have HA : Hid (Calls Tryz.prog 9 #[] w fun e w' => e = .returned (.bool true) ∧ Below w.heap.size w w') := hA
  have hsz := size_lit s
  have HF := hide (numF hE)
  have HN := hide (hN s)
  have HR := hide (fun W h => rnumber_any s W h)
  unfold errF at HF HN
  clear hE hA hN
  by_cases h1 : s.length ≤ 200
  case neg =>
    have h1' : (200 : Int) < s.length := by omega
    go_enter Tryz.func8, Tryz.ntmps8
    go_wp2_with (go_at_call 9; refine HA.out.mono ?_; rintro e w1 ⟨rfl, hb1⟩)
    go_ret
    exact ⟨rfl, hb1⟩
  have h1' : ¬ (200 : Int) < s.length := by omega
  by_cases h0 : sqN s = 0
  · have HN2 : Hid (∀ W, Below w.heap.size w W → Calls Tryz.prog 23 #[.string ⟨s.toArray⟩] W fun e w' => e = .returned (.tuple #[.int .i64 0, .iface 151 (.pointer (some (ea 1)))]) ∧ Below w.heap.size w w') := fun W hW => (HN.out W (by omega) hW).mono fun e w' h => by
      obtain ⟨hb, ⟨h, _⟩ | ⟨_, he⟩⟩ := h
      · exact absurd h0 h
      · exact ⟨he, hW.trans (hb.mono hW.size)⟩
    have HR2 : Hid (∀ W, Calls Tryz.prog 24 #[.string ⟨s.toArray⟩] W fun e w' => e = .returned (.int .i64 0) ∧ w' = W) := fun W => by have h := HR.out W (by omega); rw [h0] at h; exact h
    clear HN HR h0
    go_enter Tryz.func8, Tryz.ntmps8
    go_wp2_with (first
      | (go_at_call 9; refine HA.out.mono ?_; rintro e w1 ⟨rfl, hb1⟩; replace hb1 := hide hb1)
      | (go_at_call 23; refine (HN2.out _ hb1.out).mono ?_; rintro e w2 ⟨rfl, hb2⟩; replace hb2 := hide hb2)
      | (go_at_call 24; refine (HR2.out _).mono ?_; rintro e w3 ⟨rfl, hw3⟩; subst hw3)
      | (go_at_call 13; refine (HF.out _ hb2.out).mono ?_; rintro e w4 ⟨rfl, hb4⟩; replace hb4 := hide hb4))
    go_ret
    exact ⟨rfl, hb4.out⟩
  · have HN2 : Hid (∀ W, Below w.heap.size w W → Calls Tryz.prog 23 #[.string ⟨s.toArray⟩] W fun e w' => e = .returned (.tuple #[.int .i64 (sqN s : Nat), .nilIface]) ∧ Below w.heap.size w w') := fun W hW => (HN.out W (by omega) hW).mono fun e w' h => by
      obtain ⟨hb, ⟨_, he⟩ | ⟨h, _⟩⟩ := h
      · exact ⟨he, hW.trans (hb.mono hW.size)⟩
      · exact absurd h h0
    have HR2 : Hid (∀ W, Calls Tryz.prog 24 #[.string ⟨s.toArray⟩] W fun e w' => e = .returned (.int .i64 (sqN s : Nat)) ∧ w' = W) := fun W => HR.out W (by omega)
    have hpos : (0 : Int) < (sqN s : Nat) := by omega
    clear HN HR h0
    generalize sqN s = q at *
    go_enter Tryz.func8, Tryz.ntmps8
    go_wp2_with (first
      | (go_at_call 9; refine HA.out.mono ?_; rintro e w1 ⟨rfl, hb1⟩; replace hb1 := hide hb1)
      | (go_at_call 23; refine (HN2.out _ hb1.out).mono ?_; rintro e w2 ⟨rfl, hb2⟩; replace hb2 := hide hb2)
      | (go_at_call 24; refine (HR2.out _).mono ?_; rintro e w3 ⟨rfl, hw3⟩; subst hw3))
    go_ret
    exact ⟨rfl, hb2.out⟩
set_option maxRecDepth 20000 in
set_option maxHeartbeats 2000000 in
theorem seqsFlags_walk {w : World} {ea : Nat → Addr} (hE : Errs w ea) (hA : CAlive w) (hN : CFlags w ea) (s : List UInt8) :
    Calls Tryz.prog 7 #[.string ⟨s.toArray⟩] w fun e w' => e = .returned (.bool true) ∧ Below w.heap.size w w' := by
  have HA : Hid (Calls Tryz.prog 9 #[] w fun e w' => e = .returned (.bool true) ∧ Below w.heap.size w w') := hA
  have hsz := size_lit s
  have HF := hide (numF hE)
  have HN := hide (hN s)
  have HR := hide (fun W h => rflags_any s W h)
  unfold errF at HF HN
  clear hE hA hN
  by_cases h1 : s.length ≤ 2000
  case neg =>
    have h1' : (2000 : Int) < s.length := by omega
    go_enter Tryz.func7, Tryz.ntmps7
    go_wp2_with (go_at_call 9; refine HA.out.mono ?_; rintro e w1 ⟨rfl, hb1⟩)
    go_ret
    exact ⟨rfl, hb1⟩
  have h1' : ¬ (2000 : Int) < s.length := by omega
  cases h0 : flO s with
  | none =>
    have HN2 : Hid (∀ W, Below w.heap.size w W → Calls Tryz.prog 21 #[.string ⟨s.toArray⟩] W fun e w' => e = .returned (.tuple #[.int .i64 0, .iface 151 (.pointer (some (ea 1)))]) ∧ Below w.heap.size w w') := fun W hW => (HN.out W (by omega) hW).mono fun e w' h => by
      obtain ⟨hb, ⟨f, h, _⟩ | ⟨_, he⟩⟩ := h
      · rw [h0] at h; cases h
      · exact ⟨he, hW.trans (hb.mono hW.size)⟩
    have HR2 : Hid (∀ W, Below w.heap.size w W → Calls Tryz.prog 22 #[.string ⟨s.toArray⟩] W fun e w' => e = .returned (.tuple #[.int .i64 0, .bool false]) ∧ Below w.heap.size w w') := fun W hW => (HR.out W (by omega)).mono fun e w' h => by
      rw [h0] at h
      exact ⟨h.1, hW.trans (h.2.mono hW.size)⟩
    clear HN HR h0
    go_enter Tryz.func7, Tryz.ntmps7
    go_wp2_with (first
      | (go_at_call 9; refine HA.out.mono ?_; rintro e w1 ⟨rfl, hb1⟩; replace hb1 := hide hb1)
      | (go_at_call 21; refine (HN2.out _ hb1.out).mono ?_; rintro e w2 ⟨rfl, hb2⟩; replace hb2 := hide hb2)
      | (go_at_call 22; refine (HR2.out _ hb2.out).mono ?_; rintro e w3 ⟨rfl, hb3⟩; replace hb3 := hide hb3)
      | (go_at_call 13; refine (HF.out _ hb3.out).mono ?_; rintro e w4 ⟨rfl, hb4⟩; replace hb4 := hide hb4))
    go_ret
    exact ⟨rfl, hb4.out⟩
  | some f =>
    have HN2 : Hid (∀ W, Below w.heap.size w W → Calls Tryz.prog 21 #[.string ⟨s.toArray⟩] W fun e w' => e = .returned (.tuple #[.int .i64 ((f : Nat) : Int), .nilIface]) ∧ Below w.heap.size w w') := fun W hW => (HN.out W (by omega) hW).mono fun e w' h => by
      obtain ⟨hb, ⟨f', h, he⟩ | ⟨h, _⟩⟩ := h
      · rw [h0] at h; cases h; exact ⟨he, hW.trans (hb.mono hW.size)⟩
      · rw [h0] at h; cases h
    have HR2 : Hid (∀ W, Below w.heap.size w W → Calls Tryz.prog 22 #[.string ⟨s.toArray⟩] W fun e w' => e = .returned (.tuple #[.int .i64 ((f : Nat) : Int), .bool true]) ∧ Below w.heap.size w w') := fun W hW => (HR.out W (by omega)).mono fun e w' h => by
      rw [h0] at h
      exact ⟨h.1, hW.trans (h.2.mono hW.size)⟩
    clear HN HR h0
    go_enter Tryz.func7, Tryz.ntmps7
    go_wp2_with (first
      | (go_at_call 9; refine HA.out.mono ?_; rintro e w1 ⟨rfl, hb1⟩; replace hb1 := hide hb1)
      | (go_at_call 21; refine (HN2.out _ hb1.out).mono ?_; rintro e w2 ⟨rfl, hb2⟩; replace hb2 := hide hb2)
      | (go_at_call 22; refine (HR2.out _ hb2.out).mono ?_; rintro e w3 ⟨rfl, hb3⟩; replace hb3 := hide hb3))
    go_ret
    exact ⟨rfl, hb3.out⟩
set_option maxRecDepth 20000 in
set_option maxHeartbeats 2000000 in
theorem seqsHas_walk {w : World} (hA : CAlive w) (hH : CHas w) {v : Value} {rs : List (Int × Int)} (hv : RA w v rs) (n mx : Int) :
    Calls Tryz.prog 5 #[v, .int .i64 n, .int .i64 mx] w fun e w' => e = .returned (.bool true) ∧ Below w.heap.size w w' := by
  have HA : Hid (Calls Tryz.prog 9 #[] w fun e w' => e = .returned (.bool true) ∧ Below w.heap.size w w') := hA
  have HX := hide hv
  obtain ⟨A, c, rfl, _⟩ := hv
  by_cases h1 : rs.length ≤ 1000
  case neg =>
    have h1' : (1000 : Int) < rs.length := by omega
    clear hH hA
    go_enter Tryz.func5, Tryz.ntmps5
    go_wp2_with (go_at_call 9; refine HA.out.mono ?_; rintro e w1 ⟨rfl, hb1⟩)
    go_ret
    exact ⟨rfl, hb1⟩
  have h1' : ¬ (1000 : Int) < rs.length := by omega
  have HP : Hid (∀ W, Below w.heap.size w W → Calls Tryz.prog 16 #[.slice A rs.length c, .int .i64 n, .int .i64 mx] W fun e w' => e = .returned (.bool (sqIn rs n mx)) ∧ Below w.heap.size w w') := fun W hW => (hH W _ rs n mx h1 hW (HX.out.below hW)).mono fun e w' h => ⟨h.1, hW.trans (h.2.mono hW.size)⟩
  have HR : Hid (∀ W, Below w.heap.size w W → Calls Tryz.prog 17 #[.slice A rs.length c, .int .i64 n, .int .i64 mx] W fun e w' => e = .returned (.bool (sqIn rs n mx)) ∧ Below w.heap.size w w') := fun W hW => (rin_any (HX.out.below hW) n mx (by omega)).mono fun e w' h => ⟨h.1, hW.trans (h.2.mono hW.size)⟩
  clear hH hA
  generalize sqIn rs n mx = T at *
  go_enter Tryz.func5, Tryz.ntmps5
  go_wp2_with (first
    | (go_at_call 9; refine HA.out.mono ?_; rintro e w1 ⟨rfl, hb1⟩; replace hb1 := hide hb1)
    | (go_at_call 16; refine (HP.out _ hb1.out).mono ?_; rintro e w2 ⟨rfl, hb2⟩; replace hb2 := hide hb2)
    | (go_at_call 17; refine (HR.out _ hb2.out).mono ?_; rintro e w3 ⟨rfl, hb3⟩; replace hb3 := hide hb3))
  go_ret
  exact ⟨by simp, hb3.out⟩
set_option maxRecDepth 20000 in
set_option maxHeartbeats 2000000 in
theorem seqsOf_walk {w : World} (hA : CAlive w) (hO : COf w) {v u : Value} {rs : List (Int × Int)} {ns : List Int} (hv : RA w v rs) (hu : IA w u ns) :
    Calls Tryz.prog 6 #[v, u] w fun e w' => e = .returned (.bool true) ∧ Below w.heap.size w w' := by
  have HA : Hid (Calls Tryz.prog 9 #[] w fun e w' => e = .returned (.bool true) ∧ Below w.heap.size w w') := hA
  have HX := hide hv
  have HU := hide hu
  obtain ⟨A, c, rfl, _⟩ := hv
  obtain ⟨A2, c2, rfl, _⟩ := hu
  by_cases h1 : rs.length ≤ 100
  case neg =>
    have h1' : (100 : Int) < rs.length := by omega
    clear hO hA
    go_enter Tryz.func6, Tryz.ntmps6
    go_wp2_with (go_at_call 9; refine HA.out.mono ?_; rintro e w1 ⟨rfl, hb1⟩)
    go_ret
    exact ⟨rfl, hb1⟩
  have h1' : ¬ (100 : Int) < rs.length := by omega
  by_cases h2 : ns.length ≤ 500
  case neg =>
    have h2' : (500 : Int) < ns.length := by omega
    clear hO hA
    go_enter Tryz.func6, Tryz.ntmps6
    go_wp2_with (go_at_call 9; refine HA.out.mono ?_; rintro e w1 ⟨rfl, hb1⟩)
    go_ret
    exact ⟨rfl, hb1⟩
  have h2' : ¬ (500 : Int) < ns.length := by omega
  have hol : (sqOf rs ns).length ≤ 1000000 := Nat.le_trans (List.length_filter_le _ _) (by omega)
  have HP : Hid (∀ W, Below w.heap.size w W → Calls Tryz.prog 19 #[.slice A rs.length c, .slice A2 ns.length c2] W fun e w' => ∃ A c, e = .returned (.slice A (sqOf rs ns).length c) ∧ Below W.heap.size W w' ∧ IA w' (.slice A (sqOf rs ns).length c) (sqOf rs ns)) := fun W hW => hO W _ _ rs ns (by omega) (by omega) hW (HX.out.below hW) (HU.out.below hW)
  have HR : Hid (∀ W, Below w.heap.size w W → Calls Tryz.prog 20 #[.slice A rs.length c, .slice A2 ns.length c2] W fun e w' => ∃ A c, e = .returned (.slice A (sqOf rs ns).length c) ∧ Below W.heap.size W w' ∧ IA w' (.slice A (sqOf rs ns).length c) (sqOf rs ns)) := fun W hW => (rof_any (HX.out.below hW) (HU.out.below hW) (by omega) (by omega)).mono fun e w' h => by
    obtain ⟨v', he, hi⟩ := h
    obtain ⟨A, c, rfl, _⟩ := id hi.ia
    exact ⟨A, c, he, hi.1, hi.ia⟩
  clear hO hA
  generalize sqOf rs ns = os at *
  go_enter Tryz.func6, Tryz.ntmps6
  go_wp2_with (first
    | (go_at_call 9; refine HA.out.mono ?_; rintro e w1 ⟨rfl, hb1⟩; replace hb1 := hide hb1)
    | (go_at_call 19; refine (HP.out _ hb1.out).mono ?_; rintro e w2 ⟨A5, c5, rfl, hb2, hi2⟩; replace hi2 := hide hi2; replace hb2 := hide hb2; have hb12 := hide (hb1.out.trans (hb2.out.mono hb1.out.size)))
    | (go_at_call 20; refine (HR.out _ hb12.out).mono ?_; rintro e w3 ⟨A6, c6, rfl, hb3, hi3⟩; replace hb3 := hide hb3; replace hi3 := hide hi3))
  refine (isame_yes _ (hi2.out.below hb3.out) hi3.out hol).mono ?_
  rintro e w4 ⟨rfl, n4, rfl⟩
  have HB := hide (hb12.out.trans (hb3.out.mono hb12.out.size))
  go_wp2
  go_ret
  exact ⟨rfl, HB.out.trans ((bel_drewN w3 n4).mono HB.out.size)⟩
end Go.Proofs.YtbjencibkkhbhaaGreatDoor
