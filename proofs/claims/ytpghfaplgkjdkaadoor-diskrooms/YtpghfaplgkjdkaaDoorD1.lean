/- A disk: New, SetQuota, Steps, the count of steps, and how a name's file is found. -/
import Derived.Test.YtpghfaplgkjdkaaDoorDD
import Derived.Test.YtpghfaplgkjdkaaDoorDR
import Derived.BigQuiet
namespace Go.Proofs.YtpghfaplgkjdkaaDoor
open Go.RowKit Go.Maps
theorem strKeyed : Keyed Tryd.prog 9 := string_keyed Tryd.underlying9
theorem intKeyed : Keyed Tryd.prog 3 := int_keyed Tryd.underlying3
theorem zeroPtr (w : World) : (zeroValue 51).run Tryd.prog w = .ok (.pointer none) w := by kernel_rfl
theorem keyStr (l : List UInt8) (h : l.length ≤ 1000000000) : keyOf Tryd.prog 9 (.string ⟨l.toArray⟩) = some (.string l) := by
  have := WideMaps.keyOf_string_mk (P := Tryd.prog) (k := 9) (s := ⟨l.toArray⟩) Tryd.underlying9 (by show l.toArray.size ≤ maxLen; simp [maxLen]; omega)
  simpa using this
set_option maxHeartbeats 1000000 in
theorem setQuota_ok (w : World) (d : Nat) (v0 v1 v2 v3 v4 v5 v6 v7 v8 v9 v10 : Value) (q : Int) (hk : Blk w d #[v0, v1, v2, v3, v4, v5, v6, v7, v8, v9, v10] 49) (h0 : 0 ≤ q) (h1 : q ≤ 1000000) :
    Calls Tryd.prog 17 #[pv d, .int .i64 q] w fun e w' => e = .returned .nilIface ∧ w' = w.setCell ⟨d, 10, none⟩ (.int .i64 q) := by
  have hc := hk.cell
  have hf := hk.frozen
  have g0 : decide (q < 0) = false := decide_eq_false (by omega)
  have g1 : decide (1073741824 < q) = false := decide_eq_false (by omega)
  have g2 : ¬ q < 0 := by omega
  clear hk h1
  unfold pv
  go_enter Tryd.func17, Tryd.ntmps17
  go_wp2
  go_ret
  exact ⟨rfl, rfl⟩
def emptySt (q : Int) : St := ⟨.map [], .map [], .map [], 0, [], fun _ => none, 0, 0, 0, -1, false, q, 0⟩
def newRole (n : Nat) (k : Nat) : Option Role := if k = n then some .names else if k = n + 1 then some .sure else if k = n + 2 then some .changed else if k = n + 3 then some .disk else none
set_option maxHeartbeats 1000000 in
theorem new_any (w0 w : World) (q : Int) (h0 : 0 ≤ q) (h1 : q ≤ 1000000) (hb : Below w0.heap.size w0 w) :
    Calls Tryd.prog 6 #[.int .i64 q] w fun e w' => e = .returned (.tuple #[pv (w.heap.size + 3), .nilIface]) ∧ Below w.heap.size w w' ∧ DK w0 w' (w.heap.size + 3) (newRole w.heap.size) (emptySt q) := by
  have hmm := @run_makeMap Tryd.prog
  have HB := hide hb
  clear hb
  go_enter Tryd.func6, Tryd.ntmps6
  go_wp2_with fail
  have HK := Blk.new (((w.alloc (.map #[] 0)).alloc (.map #[] 0)).alloc (.map #[] 0)) #[.map (some w.heap.size), .map (some (w.heap.size + 1)), .slice none 0 0, .map (some (w.heap.size + 1 + 1)), .slice none 0 0, .int .i64 0, .int .i64 0, .int .i64 0, .int .i64 (-1), .bool false, .int .i64 0] 49
  simp only [World.size_alloc] at HK
  refine (setQuota_ok _ _ _ _ _ _ _ _ _ _ _ _ _ q HK h0 h1).mono ?_
  rintro e w1 ⟨rfl, hw1⟩
  replace hw1 := hide hw1
  replace HK := hide HK
  go_wp2
  go_ret2
  replace HK := HK.out
  obtain rfl := hw1.out
  clear hw1
  have hbl : Below w.heap.size w (((((w.alloc (.map #[] 0)).alloc (.map #[] 0)).alloc (.map #[] 0)).alloc (.cells #[.map (some w.heap.size), .map (some (w.heap.size + 1)), .slice none 0 0, .map (some (w.heap.size + 1 + 1)), .slice none 0 0, .int .i64 0, .int .i64 0, .int .i64 0, .int .i64 (-1), .bool false, .int .i64 0] 49)).setCell ⟨w.heap.size + 1 + 1 + 1, 10, none⟩ (.int .i64 q)) := by
    have h := (((((Below.refl w.heap.size w).alloc (Nat.le_refl _) (.map #[] 0)).alloc (by simp) (.map #[] 0)).alloc (by simp; omega) (.map #[] 0)).alloc (by simp; omega) (.cells #[.map (some w.heap.size), .map (some (w.heap.size + 1)), .slice none 0 0, .map (some (w.heap.size + 1 + 1)), .slice none 0 0, .int .i64 0, .int .i64 0, .int .i64 0, .int .i64 (-1), .bool false, .int .i64 0] 49))
    exact below_mvs h ((Mvs.refl (fun k => k = w.heap.size + 1 + 1 + 1) _).setCell _ _ (fun _ => rfl)) (fun k hk e => by omega) (Nat.le_refl _)
  refine ⟨rfl, hbl, w.heap.size, w.heap.size + 1, w.heap.size + 2, .slice none 0 0, .slice none 0 0, none, none, [], ?_⟩
  have hB := HB.out
  have hsz := hB.size
  have n1 : ((w.alloc (.map #[] 0)).heap.size) = w.heap.size + 1 := by simp
  have n2 : (((w.alloc (.map #[] 0)).alloc (.map #[] 0)).heap.size) = w.heap.size + 2 := by simp
  have r3 : newRole w.heap.size (w.heap.size + 3) = some .disk := by simp [newRole]
  have r0 : newRole w.heap.size w.heap.size = some .names := by simp [newRole]
  have r1 : newRole w.heap.size (w.heap.size + 1) = some .sure := by simp [newRole]
  have r2 : newRole w.heap.size (w.heap.size + 2) = some .changed := by simp [newRole]
  have m0 := World.ownsMap_made w Tryd.prog 9 ptrElem
  have m1 := World.ownsMap_made (w.alloc (.map #[] 0)) Tryd.prog 9 ptrElem
  have m2 := World.ownsMap_made ((w.alloc (.map #[] 0)).alloc (.map #[] 0)) Tryd.prog 3 ptrElem
  rw [n1] at m1
  rw [n2] at m2
  exact {
    below := hB.trans (hbl.mono hsz)
    low := fun k r hr => by
      unfold newRole at hr
      simp
      split at hr
      · omega
      · split at hr
        · omega
        · split at hr
          · omega
          · split at hr
            · omega
            · cases hr
    blk := HK.set 10 _
    rd := r3
    rn := r0
    rs := r1
    rc := r2
    names := (((m0.alloc _).alloc _).alloc _).setCell (by simp; omega) _
    sure := ((m1.alloc _).alloc _).setCell (by simp) _
    chg := (m2.alloc _).setCell (by simp) _
    row := Rw.nil _ _
    rsteps := fun _ h => by cases h
    lost := Rw.nil _ _
    rlost := fun _ h => by cases h
    files := fun _ _ h => by cases h
    vD := fun kl b h => by simp [emptySt, DataW.atKey, pd] at h
    eD := fun _ h => by cases h }

section
variable (w0 w : World) (d : Nat) (ρ : Nat → Option Role) (s : St)
set_option maxHeartbeats 1000000 in
theorem steps_any (h : DK w0 w d ρ s) : Calls Tryd.prog 13 #[pv d] w fun e w' => e = .returned (.int .i64 s.steps) ∧ w' = w := by
  obtain ⟨bn, bs, bc, vs, vl, Gs, Gl, cs, h⟩ := h
  have hc := h.blk.cell
  clear h
  unfold pv
  go_enter Tryd.func13, Tryd.ntmps13
  go_wp2
  go_ret
  exact ⟨rfl, rfl⟩
set_option maxHeartbeats 1000000 in
/-- A name that is there. -/
theorem find_there (h : DK w0 w d ρ s) (hoff : s.off = false) (name : List UInt8) (hr : rightB name = true) (f : Nat) (hf : s.D.atKey (.string name) .nil = pd f) :
    Calls Tryd.prog 18 #[pv d, .string ⟨name.toArray⟩] w fun e w' => e = .returned (.tuple #[pv f, .nilIface]) ∧ w' = w := by
  obtain ⟨bn, bs, bc, vs, vl, Gs, Gl, cs, h⟩ := h
  have hn : name.length ≤ 24 := by
    unfold rightB at hr
    simp at hr
    exact hr.2.2
  have hc := h.blk.cell
  rw [hoff] at hc
  have hl := look_there h.names strKeyed Tryd.underlying44 (zeroPtr w) (keyStr name (by omega)) hf
  have HI := hide (isRight_any name w (by omega))
  rw [hr] at HI
  clear h hf hn
  unfold pv at *
  go_enter Tryd.func18, Tryd.ntmps18
  go_wp2_with (go_at_call 37; refine HI.out.mono ?_; rintro e w' ⟨rfl, rfl⟩)
  go_ret2
  exact ⟨rfl, rfl⟩
set_option maxHeartbeats 1000000 in
/-- A name that is not there. -/
theorem find_none (a : Nat → Addr) (hE : Errs w0 a) (h : DK w0 w d ρ s) (hoff : s.off = false) (name : List UInt8) (hr : rightB name = true) (hf : s.D.atKey (.string name) .nil = .nil) :
    Calls Tryd.prog 18 #[pv d, .string ⟨name.toArray⟩] w fun e w' => e = .returned (.tuple #[.pointer none, errV a 4]) ∧ ∃ m, w' = w.drewN m := by
  have hce := (hE.below h.below).cell 4 (by decide)
  obtain ⟨bn, bs, bc, vs, vl, Gs, Gl, cs, h⟩ := h
  have hn : name.length ≤ 24 := by
    unfold rightB at hr
    simp at hr
    exact hr.2.2
  have hc := h.blk.cell
  rw [hoff] at hc
  have hl := look_none h.names strKeyed Tryd.underlying44 (zeroPtr w) (keyStr name (by omega)) hf
  have HI := hide (isRight_any name w (by omega))
  rw [hr] at HI
  have hg4 : w.cell? ⟨1, 0, none⟩ = some (errV a 4) := hce
  clear h hf hn hce hE
  unfold pv errV at *
  go_enter Tryd.func18, Tryd.ntmps18
  go_wp2_with (go_at_call 37; refine HI.out.mono ?_; rintro e w' ⟨rfl, rfl⟩)
  go_quiet (fail)
  go_wp2
  go_ret2
  exact ⟨rfl, _, rfl⟩
set_option maxHeartbeats 1000000 in
/-- A name that is not right. -/
theorem find_wrong (a : Nat → Addr) (hE : Errs w0 a) (h : DK w0 w d ρ s) (hoff : s.off = false) (name : List UInt8) (hn : name.length ≤ 1000000000) (hr : rightB name = false) :
    Calls Tryd.prog 18 #[pv d, .string ⟨name.toArray⟩] w fun e w' => e = .returned (.tuple #[.pointer none, errV a 3]) ∧ ∃ m, w' = w.drewN m := by
  have hce := (hE.below h.below).cell 3 (by decide)
  obtain ⟨bn, bs, bc, vs, vl, Gs, Gl, cs, h⟩ := h
  have hc := h.blk.cell
  rw [hoff] at hc
  have HI := hide (isRight_any name w hn)
  rw [hr] at HI
  have hg4 : w.cell? ⟨7, 0, none⟩ = some (errV a 3) := hce
  clear h hn hce hE
  unfold pv errV at *
  go_enter Tryd.func18, Tryd.ntmps18
  go_wp2_with (go_at_call 37; refine HI.out.mono ?_; rintro e w' ⟨rfl, rfl⟩)
  go_quiet (fail)
  go_wp2
  go_ret2
  exact ⟨rfl, _, rfl⟩
end
/-- The count of steps, where the power is not armed. -/
theorem takeStep_free (w : World) (d : Nat) (v0 v1 v2 v3 v4 v5 v6 v9 v10 : Value) (n m : Int) (hk : Blk w d #[v0, v1, v2, v3, v4, v5, v6, .int .i64 n, .int .i64 m, v9, v10] 49) (hm : m < 0) (hn : 0 ≤ n) (hn2 : n ≤ 1000000000) :
    Calls Tryd.prog 29 #[pv d] w fun e w' => e = .returned .nilIface ∧ w' = w.setCell ⟨d, 7, none⟩ (.int .i64 (n + 1)) := by
  have hc := hk.cell
  have hf := hk.frozen
  have g0 : (m == 0) = false := by simp; omega
  have g1 : ¬ m = 0 := by omega
  have g2 : decide (0 < m) = false := decide_eq_false (by omega)
  have g3 : ¬ 0 < m := by omega
  clear hk
  unfold pv
  go_enter Tryd.func29, Tryd.ntmps29
  go_wp2
  go_ret
  exact ⟨rfl, rfl⟩
end Go.Proofs.YtpghfaplgkjdkaaDoor
