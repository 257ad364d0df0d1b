/- A disk: Append. -/
/- A disk: SyncDir. -/
import Derived.Test.YtcbkmcagnmpifaaGreatDoorU11
import Derived.Shelf.SlMaps.Clone
section
namespace Go.Proofs.YtcbkmcagnmpifaaGreatDoor
open Go.RowKit Go.Maps
def St.put (s : St) (b : Nat) (fa : FA) (news : List UInt8) : St := { (s.withF b ⟨fa.num, fa.bytes ++ news, fa.opn ++ [.put fa.bytes.length news.length]⟩) with ch := s.ch.put (.int .i64 fa.num) (pd b), N := s.N + 1, opened := s.opened + 1, steps := s.steps + 1 }
def St.cut (s : St) (b : Nat) (fa : FA) : St := { (s.withF b ⟨fa.num, [], fa.opn ++ [.other]⟩) with ch := s.ch.put (.int .i64 fa.num) (pd b), N := s.N + 1, opened := s.opened + 1, steps := s.steps + 1 }
/-- Numbers that are small. -/
structure St.Small (s : St) : Prop where
  armed : s.armed < 0
  s0 : 0 ≤ s.steps
  s1 : s.steps ≤ 1000000
  o0 : 0 ≤ s.opened
  o1 : s.opened ≤ 1000000
  n : s.N ≤ 100000
  off : s.off = false
  q0 : 0 ≤ s.quota
  q1 : s.quota ≤ 1000000
  u : usedOf s ≤ 1000000
section
variable (w0 w : World) (d : Nat) (ρ : Nat → Option Role) (s : St)
set_option maxRecDepth 20000 in
set_option maxHeartbeats 4000000 in
theorem append_ok (h : DK w0 w d ρ s) (hs : s.Small) (name : List UInt8) (hr : rightB name = true) (b : Nat) (fa : FA) (hat : s.D.atKey (.string name) .nil = pd b) (hφ : s.φ b = some fa) (hn0 : 0 ≤ fa.num) (hn1 : fa.num ≤ 1000000) (hop : fa.opn.length ≤ 1000000)
    (x : Value) (news : List UInt8) (hx : BR w x news) (hxr : ∀ A n c, x = .slice (some A) n c → ρ A.block = none) (hl : fa.bytes.length + news.length ≤ 1000000000) (hroom : (news.length : Int) ≤ s.quota - usedOf s) :
    Calls Tryz.prog 71 #[pv d, .string ⟨name.toArray⟩, x] w fun e w' => e = .returned .nilIface ∧ ∃ ρ', DK w0 w' d ρ' (s.put b fa news) ∧ Turn w w' ρ ρ' ∧ Keeps ρ ρ' := by
  obtain ⟨A, c, rfl, hlc, hcm, _⟩ := hx.form
  have hb1 : Below w.heap.size w (w.alloc (.cells #[.slice A news.length c] 25)) := (Below.refl _ _).alloc (Nat.le_refl _) _
  have hb2 : Below w.heap.size w ((w.alloc (.cells #[.slice A news.length c] 25)).alloc (.cells #[pv b] 88)) := hb1.alloc hb1.size _
  have HF := hide (find_there w0 _ d ρ s (h.then hb1) hs.off name hr b hat)
  have HR := hide (hasRoom_any w0 _ d ρ s (h.then hb2) (by have := hs.u; omega) hs.q0 (by have := hs.q1; omega) news.length)
  rw [decide_eq_true hroom] at HR
  have hk1 := Blk.new w #[.slice A news.length c] 25
  have hk2 := hide (hk1.alloc (.cells #[pv b] 88))
  have hk3 := hide (Blk.new1 w (.cells #[.slice A news.length c] 25) #[pv b] 88)
  have HB := hide hb2
  have HH := hide h
  have HX := hide hx
  have hnr : Hid (∀ k, w.heap.size ≤ k → ρ k = none) := by
    obtain ⟨bn, bs, bc, vs, vl, Gs, Gl, cs, h⟩ := h
    exact fun k hk => h.off hk
  clear h hx hb1 hb2 hk1 hroom hlc hcm
  unfold pv at HF HR ⊢
  go_enter Tryz.func71, Tryz.ntmps71
  go_wp2_with (go_at_call 83; refine HF.out.mono ?_; rintro e w' ⟨rfl, rfl⟩)
  refine HR.out.mono ?_
  rintro e w3 ⟨rfl, hb3⟩
  have hsz2 : ((w.alloc (.cells #[.slice A news.length c] 25)).alloc (.cells #[pv b] 88)).heap.size = w.heap.size + 1 + 1 := by simp
  have hb3' : Below w.heap.size w w3 := HB.out.trans (hb3.mono HB.out.size)
  have q2 := hk2.out.below hb3 hk2.out.lt
  have q3 := hk3.out.below hb3 hk3.out.lt
  have hcf := hide q3
  have hcb := hide q2
  have hc1 := q2.cell
  have hc2 := q3.cell
  have HH3 := hide (HH.out.then hb3')
  have HX3 := hide (HX.out.below hb3')
  have HB3 := hide hb3'
  unfold pv at hc2
  clear hb3 hb3' q2 q3 hk2 hk3 HF HR HH HX HB hsz2
  go_wp2_with fail
  refine (changeFile_put w0 w3 d ρ s HH3.out hs.armed hs.s0 hs.s1 hs.o0 hs.o1 hs.n b fa hφ hn0 hn1 hop _ news HX3.out hxr hl (w.heap.size + 1) w.heap.size hcf.out hcb.out (hnr.out _ (by omega)) (hnr.out _ (Nat.le_refl _))).mono ?_
  rintro e w4 ⟨rfl, ρ4, hD4, hT4, hK4⟩
  have HD4 := hide hD4
  have HT4 := hide hT4
  have HK4 := hide hK4
  clear hD4 hT4 hK4
  go_wp2
  go_ret
  exact ⟨rfl, ρ4, HD4.out, Turn.trans ⟨Mvs.of_below HB3.out, fun k r hr _ => ⟨r, hr⟩⟩ HT4.out, HK4.out⟩
set_option maxRecDepth 20000 in
set_option maxHeartbeats 4000000 in
theorem append_full (a : Nat → Addr) (hE : Errs w0 a) (h : DK w0 w d ρ s) (hs : s.Small) (name : List UInt8) (hr : rightB name = true) (b : Nat) (hat : s.D.atKey (.string name) .nil = pd b)
    (x : Value) (news : List UInt8) (hx : BR w x news) (hroom : ¬ (news.length : Int) ≤ s.quota - usedOf s) :
    Calls Tryz.prog 71 #[pv d, .string ⟨name.toArray⟩, x] w fun e w' => e = .returned (errV a 6) ∧ Below w.heap.size w w' := by
  obtain ⟨A, c, rfl, hlc, hcm, _⟩ := hx.form
  have hb1 : Below w.heap.size w (w.alloc (.cells #[.slice A news.length c] 25)) := (Below.refl _ _).alloc (Nat.le_refl _) _
  have hb2 : Below w.heap.size w ((w.alloc (.cells #[.slice A news.length c] 25)).alloc (.cells #[pv b] 88)) := hb1.alloc hb1.size _
  have HF := hide (find_there w0 _ d ρ s (h.then hb1) hs.off name hr b hat)
  have HR := hide (hasRoom_any w0 _ d ρ s (h.then hb2) (by have := hs.u; omega) hs.q0 (by have := hs.q1; omega) news.length)
  rw [decide_eq_false hroom] at HR
  have HB := hide hb2
  have HE := hide (fun (w' : World) (hb : Below w.heap.size w w') => ((hE.below h.below).below hb).cell 6 (by decide))
  clear h hx hb1 hb2 hroom hlc hcm hE
  unfold pv at HF HR ⊢
  go_enter Tryz.func71, Tryz.ntmps71
  go_wp2_with (go_at_call 83; refine HF.out.mono ?_; rintro e w' ⟨rfl, rfl⟩)
  refine HR.out.mono ?_
  rintro e w3 ⟨rfl, hb3⟩
  have hb3' : Below w.heap.size w w3 := HB.out.trans (hb3.mono HB.out.size)
  have hg : w3.cell? ⟨6, 0, none⟩ = some (errV a 6) := HE.out w3 hb3'
  have HB3 := hide hb3'
  unfold errV at *
  clear hb3 hb3' HF HR HB
  go_wp2
  go_ret
  exact ⟨rfl, HB3.out⟩
set_option maxHeartbeats 1000000 in
theorem has0_any (b : Nat) (fa : FA) (vb vo : Value) (Gb Go : Option Nat) (cs : List Value) (h : FileRs w ρ b fa vb vo Gb Go cs) : Calls Tryz.prog 108 #[pv b, .int .i64 0] w fun e w' => e = .returned (.bool true) ∧ w' = w := by
  obtain ⟨A, c, rfl⟩ := h.row.form
  have hc := h.blk.cell
  clear h
  unfold pv
  go_enter Tryz.func108, Tryz.ntmps108
  go_wp2
  go_ret
  exact ⟨by simp, rfl⟩
set_option maxRecDepth 20000 in
set_option maxHeartbeats 4000000 in
theorem truncate0_ok (h : DK w0 w d ρ s) (hs : s.Small) (name : List UInt8) (hr : rightB name = true) (b : Nat) (fa : FA) (hat : s.D.atKey (.string name) .nil = pd b) (hφ : s.φ b = some fa) (hn0 : 0 ≤ fa.num) (hn1 : fa.num ≤ 1000000) (hop : fa.opn.length ≤ 1000000) (hl : fa.bytes.length ≤ 1000000) :
    Calls Tryz.prog 74 #[pv d, .string ⟨name.toArray⟩, .int .i64 0] w fun e w' => e = .returned .nilIface ∧ ∃ ρ', DK w0 w' d ρ' (s.cut b fa) ∧ Turn w w' ρ ρ' ∧ Keeps ρ ρ' := by
  have hb1 : Below w.heap.size w (w.alloc (.cells #[.int .i64 0] 3)) := (Below.refl _ _).alloc (Nat.le_refl _) _
  have hb2 : Below w.heap.size w ((w.alloc (.cells #[.int .i64 0] 3)).alloc (.cells #[pv b] 88)) := hb1.alloc hb1.size _
  have HF := hide (find_there w0 _ d ρ s (h.then hb1) hs.off name hr b hat)
  have hk1 := Blk.new w #[.int .i64 0] 3
  have hk2 := hide (hk1.alloc (.cells #[pv b] 88))
  have hk3 := hide (Blk.new1 w (.cells #[.int .i64 0] 3) #[pv b] 88)
  have HB := hide hb2
  have HH := hide (h.then hb2)
  have hnr : Hid (∀ k, w.heap.size ≤ k → ρ k = none) := by
    obtain ⟨bn, bs, bc, vs, vl, Gs, Gl, cs, h⟩ := h
    exact fun k hk => h.off hk
  have HS : Hid (Calls Tryz.prog 108 #[pv b, .int .i64 0] ((w.alloc (.cells #[.int .i64 0] 3)).alloc (.cells #[pv b] 88)) fun e w' => e = .returned (.bool true) ∧ w' = (w.alloc (.cells #[.int .i64 0] 3)).alloc (.cells #[pv b] 88)) := by
    obtain ⟨bn, bs, bc, vs, vl, Gs, Gl, cs, hD⟩ := HH.out
    obtain ⟨vb, vo, Gb, Go, fs, hF⟩ := hD.files b fa hφ
    exact has0_any _ ρ b fa vb vo Gb Go fs hF
  clear h hb1 hb2 hk1
  unfold pv at HF HS ⊢
  go_enter Tryz.func74, Tryz.ntmps74
  go_wp2_with (first | (go_at_call 83; refine HF.out.mono ?_; rintro e w' ⟨rfl, rfl⟩) | (go_at_call 108; refine HS.out.mono ?_; rintro e w' ⟨rfl, rfl⟩))
  refine (changeFile_cut w0 _ d ρ s HH.out hs.armed hs.s0 hs.s1 hs.o0 hs.o1 hs.n b fa hφ hn0 hn1 hop hl (w.heap.size + 1) w.heap.size hk3.out hk2.out (hnr.out _ (by omega)) (hnr.out _ (Nat.le_refl _))).mono ?_
  rintro e w4 ⟨rfl, ρ4, hD4, hT4, hK4⟩
  have HD4 := hide hD4
  have HT4 := hide hT4
  have HK4 := hide hK4
  clear hD4 hT4 hK4
  go_wp2
  go_ret
  exact ⟨rfl, ρ4, HD4.out, Turn.trans ⟨Mvs.of_below HB.out, fun k r hr _ => ⟨r, hr⟩⟩ HT4.out, HK4.out⟩
end
end Go.Proofs.YtcbkmcagnmpifaaGreatDoor

end
section
namespace Go.Proofs.YtcbkmcagnmpifaaGreatDoor
open Go.RowKit Go.Maps
set_option maxRecDepth 20000 in
set_option maxHeartbeats 2000000 in
theorem cloneMap_any (w : World) (b n : Nat) (D : DataW Unit) (h : w.ownsMap Tryz.prog 9 ptrElem b n D) :
    Calls Tryz.prog 89 #[.map (some b)] w fun e w' => e = .returned (.map (some w.heap.size)) ∧ w'.ownsMap Tryz.prog 9 ptrElem w.heap.size n D ∧ ∃ o, w' = w.alloc o := by
  obtain ⟨es, clock, hb, F, hs, hD⟩ := h
  have hq := fun w => run_eql_map_nil_sl (P := Tryz.prog) w 72 _ _ (some b) Tryz.underlying72
  have HO : Hid ((w.alloc (.map es clock)).ownsMap Tryz.prog 9 ptrElem w.heap.size n D) := ⟨es, clock, (MapKept.heap_alloc w _).1, F, hs, hD⟩
  clear F hs hD
  go_enter Tryz.func89, Tryz.ntmps89
  go_wp2
  rw [run_callFunc_extern Tryz.func119 (by kernel_rfl) (by kernel_rfl) (by kernel_rfl) (e := Extern.MapsClone.clone) (by kernel_rfl), run_maps_clone_sl w 72 hb]
  simp only [Result.andThen]
  rw [Oper.upon_value]
  go_wp2
  rw [run_typeAssert_map_sl _ 72 20 _ _ _ Tryz.underlying72]
  simp only [Result.andThen]
  rw [Oper.upon_value]
  go_wp2
  go_ret
  exact ⟨rfl, HO.out, _, rfl⟩
set_option maxRecDepth 20000 in
set_option maxHeartbeats 2000000 in
theorem makeSure_raw (w : World) (d m N : Nat) (D : DataW Unit) (v1 v3 v4 v5 v7 v8 v9 v10 : Value) (As : Option Addr) (ns cc : Nat) (o : Int) (hk : Blk w d #[.map (some m), v1, .slice As ns cc, v3, v4, v5, .int .i64 o, v7, v8, v9, v10] 77) (hown : w.ownsMap Tryz.prog 9 ptrElem m N D) (ho : (ns : Int) ≤ o) (ho1 : o ≤ 1000000000) :
    Calls Tryz.prog 61 #[pv d] w fun e w' => e = .returned (.tuple #[]) ∧ Mvs (fun k => k = d) w w' ∧ Blk w' d #[.map (some m), .map (some w.heap.size), .slice none 0 0, v3, v4, v5, .int .i64 (o - ns), v7, v8, v9, v10] 77 ∧ w'.ownsMap Tryz.prog 9 ptrElem w.heap.size N D ∧ w.heap.size < w'.heap.size := by
  have hc := hk.cell
  have hlt := hk.lt
  have HK := hide hk
  have HC := hide (cloneMap_any w m N D hown)
  clear hk hown
  unfold pv
  go_enter Tryz.func61, Tryz.ntmps61
  go_wp2_with (go_at_call 89; refine HC.out.mono ?_)
  rintro e w1 ⟨rfl, hown1, ob, hw1⟩
  have hm1 : Mvs (fun k => k = d) w w1 := by rw [hw1]; exact (Mvs.refl _ _).alloc _
  have hk1 : Blk w1 d #[.map (some m), v1, .slice As ns cc, v3, v4, v5, .int .i64 o, v7, v8, v9, v10] 77 := by rw [hw1]; exact HK.out.alloc _
  have hsz : w1.heap.size = w.heap.size + 1 := by rw [hw1]; simp
  have HS := hide hsz
  have HM1 := hide hm1
  have HO1 := hide hown1
  have hc1 := hk1.cell
  have hf1 := hk1.frozen
  have HK1 := hide hk1
  clear hw1 hm1 hown1 hk1 hsz HC HK hc
  go_wp2_with fail
  go_region
  go_wp2
  go_end0
  have hmm : Mvs (fun k => k = d) w1 (((w1.setCell ⟨d, 1, none⟩ (.map (some w.heap.size))).setCell ⟨d, 6, none⟩ (.int .i64 (o - ns))).setCell ⟨d, 2, none⟩ (.slice none 0 0)).drew := ((((Mvs.refl (fun k => k = d) w1).setCell ⟨d, 1, none⟩ _ (fun _ => rfl)).setCell ⟨d, 6, none⟩ _ (fun _ => rfl)).setCell ⟨d, 2, none⟩ _ (fun _ => rfl)).drew
  have hsz := hmm.size
  have hs1 := HS.out
  exact ⟨rfl, HM1.out.trans hmm, ((HK1.out.set 1 _).set 6 _).set 2 _, HO1.out.mvs hmm (by omega), by omega⟩
set_option maxRecDepth 20000 in
set_option maxHeartbeats 2000000 in
/-- No file has open steps. -/
theorem loseNameless_none (w : World) (d bc N : Nat) (v0 v1 v2 v4 v5 v6 v7 v8 v9 v10 : Value) (hk : Blk w d #[v0, v1, v2, .map (some bc), v4, v5, v6, v7, v8, v9, v10] 77) (hown : w.ownsMap Tryz.prog 3 ptrElem bc N (.map [])) :
    Calls Tryz.prog 62 #[pv d] w fun e w' => e = .returned (.tuple #[]) ∧ Below w.heap.size w w' := by
  have hc := hk.cell
  have HO := hide hown
  clear hk hown
  unfold pv
  go_enter Tryz.func62, Tryz.ntmps62
  go_wp2_with (at_range; refine wpList_range_own _ rfl _ 73 rfl 3 88 intKeyed Tryz.underlying73 ptrElem bc N (.map []) rfl HO.out ?_)
  intro w1 hrg0 hg0 hs0
  have HB0 := hide (Below.of_grown (B := w.heap.size) hg0 (fun j e => by cases e) (Nat.le_refl _))
  have HR0 := hide hrg0
  clear hrg0 hg0 hs0
  go_wp2
  go_loopw [10] (fun _ wr => Hid (wr = w1)) (fun _ _ => 0)
  case atStart => exact rfl
  case round =>
    obtain rfl := hrel.out
    go_wp2_with (at_next; refine wpList_next_ranges _ rfl _ rfl 3 intKeyed ptrElem (Value.int .i64) mkP (fun key kl h => by obtain ⟨x, hx, _⟩ := Maps.keyOf_int_inv Tryz.underlying3 h; exact ⟨x, hx⟩) mkP_inv bc w.heap.size N (.map []) (Maps.has (.map [])) (Maps.size (.map [] : DataW Unit)) rfl HR0.out ?_ ?_)
    · intro _ _
      go_wp2
      go_end0
      exact ⟨rfl, HB0.out⟩
    · intro x c kl y yp w2 cnt2 hkey hlk
      exact absurd hlk (by simp [Maps.has])
/-- The names have been made sure. -/
theorem DKs.resure {w0 w w' : World} {d : Nat} {ρ : Nat → Option Role} {s : St} {bn bs bc : Nat} {vs vl : Value} {Gs Gl : Option Nat} {cs : List Value} (h : DKs w0 w d ρ s bn bs bc vs vl Gs Gl cs) (hm : Mvs (fun k => k = d) w w') (nb : Nat) (hnb : w.heap.size ≤ nb) (hlt : nb < w'.heap.size) (hown : w'.ownsMap Tryz.prog 9 ptrElem nb s.N s.D) (o : Int)
    (hb : Blk w' d #[.map (some bn), .map (some nb), .slice none 0 0, .map (some bc), vl, .int .i64 s.created, .int .i64 o, .int .i64 s.steps, .int .i64 s.armed, .bool s.off, .int .i64 s.quota] 77) :
    DKs w0 w' d (putRole ρ (some nb) .sure) { s with Ds := s.D, ns := 0, opened := o } bn nb bc (.slice none 0 0) vl none Gl [] ∧ Keeps ρ (putRole ρ (some nb) .sure) := by
  have ne : ∀ k r, ρ k = some r → r ≠ .disk → ¬ k = d := fun k r hr h1 e => by subst e; rw [h.rd] at hr; exact h1 (Option.some.inj hr).symm
  have hk : Keeps ρ (putRole ρ (some nb) .sure) := fun k r hr => by
    rw [putRole_other (fun e => by cases e; have := h.lt hr; omega)]
    exact hr
  have hw0 := h.below.size
  exact ⟨{
    below := h.below.trans (hm.below (fun k hk c => by have := (h.low d _ h.rd).1; omega) h.below.size)
    low := fun k r hr => by
      rcases putRole_cases hr with e | e
      · cases e
        exact ⟨by omega, hlt⟩
      · exact ⟨(h.low k r e).1, Nat.lt_of_lt_of_le (h.low k r e).2 hm.size⟩
    blk := hb
    rd := hk _ _ h.rd
    rn := hk _ _ h.rn
    rs := putRole_at _ _ _
    rc := hk _ _ h.rc
    names := h.names.mvs hm (ne _ _ h.rn (by simp))
    sure := hown
    chg := h.chg.mvs hm (ne _ _ h.rc (by simp))
    row := Rw.nil _ _
    rsteps := fun _ h => by cases h
    lost := h.lost.keep hm (fun g hg => ne _ _ (h.rlost g hg) (by simp))
    rlost := fun g hg => hk _ _ (h.rlost g hg)
    files := fun b fa hb => (h.files b fa hb).keep hm (fun k r hr hk => ne _ _ hr (by intro e; subst e; exact hk)) (fun k r hr _ => hk k r hr)
    vD := h.vD
    eD := h.eD }, hk⟩
def St.synced (s : St) : St := { s with Ds := s.D, ns := 0, opened := s.opened - s.ns, steps := s.steps + 1 }
set_option maxRecDepth 20000 in
set_option maxHeartbeats 2000000 in
/-- SyncDir, where no file has open steps. -/
theorem syncDir_ok (w0 w : World) (d : Nat) (ρ : Nat → Option Role) (s : St) (h : DK w0 w d ρ s) (hs : s.Small) (ho : (s.ns : Int) ≤ s.opened) (hch : s.ch = .map []) :
    Calls Tryz.prog 39 #[pv d] w fun e w' => e = .returned .nilIface ∧ ∃ ρ', DK w0 w' d ρ' s.synced ∧ Turn w w' ρ ρ' := by
  obtain ⟨bn, bs, bc, vs, vl, Gs, Gl, cs, h⟩ := h
  have hc := h.blk.cell
  rw [hs.off] at hc
  have HD := hide h
  clear h
  unfold pv
  go_enter Tryz.func39, Tryz.ntmps39
  go_wp2_with fail
  refine (takeStep_free _ d _ _ _ _ _ _ _ _ _ _ _ HD.out.blk hs.armed hs.s0 (by have := hs.s1; omega)).mono ?_
  rintro e w1 ⟨rfl, hw1⟩
  have hm1 : Mvs (fun k => k = d) w w1 := by rw [hw1]; exact (Mvs.refl _ _).setCell _ _ (fun _ => rfl)
  have H1 := hide (HD.out.ints hm1 s.created s.opened (s.steps + 1) s.armed s.off s.quota (by rw [hw1]; exact HD.out.blk.set 7 _))
  have HM1 := hide hm1
  obtain ⟨As, cc, rfl⟩ := H1.out.row.form
  clear hw1 hm1 hc
  go_wp2_with fail
  refine (makeSure_raw w1 d bn s.N s.D _ _ _ _ _ _ _ _ As s.ns cc s.opened H1.out.blk H1.out.names ho (by have := hs.o1; omega)).mono ?_
  rintro e w2 ⟨rfl, hm2, hk2, ho2, hlt2⟩
  obtain ⟨hD2, hK2⟩ := H1.out.resure hm2 w1.heap.size (Nat.le_refl _) hlt2 ho2 (s.opened - s.ns) hk2
  have HD2 := hide hD2
  have HM2 := hide hm2
  clear hm2 ho2 hlt2 hk2 hK2 hD2
  go_wp2_with fail
  refine (loseNameless_none w2 d bc s.N _ _ _ _ _ _ _ _ _ _ HD2.out.blk (by have := HD2.out.chg; rw [← hch]; exact this)).mono ?_
  rintro e w3 ⟨rfl, hb3⟩
  have HB3 := hide hb3
  clear hb3
  go_wp2
  go_ret
  have hD3 := HD2.out.keep (S := fun _ => False) (Mvs.of_below HB3.out) (fun _ _ _ c => c) (fun _ c => c.elim)
  refine ⟨rfl, _, ⟨_, _, _, _, _, _, _, _, hD3⟩, ⟨?_, fun k r hr hlt => ?_⟩⟩
  · exact ((HM1.out.trans HM2.out).mono fun i _ e => by subst e; exact ⟨_, HD.out.rd⟩).then HB3.out
  · rcases putRole_cases hr with e | e
    · cases e
      have := HM1.out.size
      omega
    · exact ⟨r, e⟩
end Go.Proofs.YtcbkmcagnmpifaaGreatDoor

end
