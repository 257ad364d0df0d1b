/- A text read, whatever it is. -/
import Derived.Test.YtcmhaihoeecjoaaGreatDoorU27
namespace Go.Proofs.YtcmhaihoeecjoaaGreatDoor.Da
open Go.RowKit
theorem catch_idle (p q : Addr) (w : World) :
    CallsD Tryz.prog 104 #[.pointer (some p), .pointer (some q)] .returning w fun e u' w' => e = .returned (.tuple #[]) ∧ u' = .returning ∧ w' = w := by
  refine callsD_of_wpS Tryz.func104 rfl fun c₀ cs hu => ?_
  apply wpS_seq
  apply wpS_region
  simp [wpOpsS, go_sem, recoverD, hu, Tryz.ntmps104, Exit.thenS]
  refine wpS_cond (t := false) (by simp [Act.eval, Array.replicate]) ?_
  simp only [Bool.false_eq_true, if_false]
  refine wpS_of_wp (wp_skip ?_)
  cases c₀
  simp_all [bodyPostS, results, Tryz.results104]
theorem Mv.blk {b k : Nat} {x y : World} {vs : Array Value} {t : TypeId} (h : Mv b x y) (hk : Blk x k vs t) (hne : k ≠ b) : Blk y k vs t := (h.block k hk.lt hne).trans hk
theorem Blk.new2 (w : World) (o o' : Obj) (vs : Array Value) (t : TypeId) : Blk (((w.alloc o).alloc o').alloc (.cells vs t)) (w.heap.size + 1 + 1) vs t := by
  have := Blk.new ((w.alloc o).alloc o') vs t
  rwa [World.size_alloc, World.size_alloc] at this
def σ0 (l : List UInt8) : RS := ⟨l, 0, 0, 0, 0, 0, 0, 0, 0⟩
/-- What a reading answers. -/
def parV (ea : Nat → Addr) (r : Option RS) : Value := match r with
  | none => .tuple #[.int .i64 0, .iface 167 (.pointer (some (ea 1)))]
  | some σ => momV ea σ
theorem momV_form (ea : Nat → Addr) (σ : RS) : (∃ T, momV ea σ = .tuple #[.int .i64 T, .nilIface]) ∨ ∃ q, momV ea σ = .tuple #[.int .i64 0, .iface 167 (.pointer (some q))] := by
  unfold momV
  split
  · exact .inl ⟨_, rfl⟩
  · exact .inr ⟨_, rfl⟩
--@@PARSED
theorem aok0 (l : List UInt8) : AOK (σ0 l) := ⟨by simp [σ0], by simp [σ0]⟩
def KeepA (f : RS → Option RS) : Prop := ∀ σ τ, f σ = some τ → AOK σ → AOK τ
theorem digitsF_a : ∀ {k n : Nat} {σ σ' : RS} {x : Nat}, digitsF k n σ = some (x, σ') → σ'.a = σ.a
  | 0, n, σ, σ', x, h => by
    cases h
    rfl
  | k + 1, n, σ, σ', x, h => by
    unfold digitsF at h
    split at h
    · cases h
    · next d τ hd =>
      rw [digitsF_a h, digitF_date hd]
theorem nameF_a {B : List UInt8} {σ σ' : RS} {x : Nat} (h : nameF B σ = some (x, σ')) : σ'.a = σ.a := by
  unfold nameF at h
  obtain ⟨j, hj, h2⟩ := Option.map_eq_some_iff.1 h
  cases h2
  rfl
theorem markF_a {x : Nat} {σ σ' : RS} (h : markF x σ = some σ') : σ'.a = σ.a := by
  unfold markF at h
  split at h
  · cases h
  · split at h
    · cases h
      rfl
    · cases h
theorem keep_of {f : RS → Option RS} (h : ∀ σ τ, f σ = some τ → τ.a = σ.a) : KeepA f := fun σ τ e k => by
  unfold AOK at *
  rw [h σ τ e]
  exact k
theorem keep_mark (x : Nat) : KeepA (markF x) := keep_of fun _ _ h => markF_a h
theorem keep_month : KeepA monthF := keep_of fun σ τ h => by
  obtain ⟨x, h1, rfl⟩ := Option.map_eq_some_iff.1 h
  exact (nameF_a (x := x.1) (σ' := x.2) h1 : x.2.a = σ.a)
theorem keep_year : KeepA yearF := keep_of fun σ τ h => by
  obtain ⟨x, h1, rfl⟩ := Option.map_eq_some_iff.1 h
  exact (digitsF_a (x := x.1) (σ' := x.2) h1 : x.2.a = σ.a)
theorem keep_hm : KeepA hmF := keep_of fun σ τ h => by
  unfold hmF at h
  obtain ⟨u, h1, h⟩ := Option.bind_eq_some_iff.1 h
  obtain ⟨v, h2, h3⟩ := Option.bind_eq_some_iff.1 h
  obtain ⟨x, k1, rfl⟩ := Option.map_eq_some_iff.1 h1
  obtain ⟨z, k3, rfl⟩ := Option.map_eq_some_iff.1 h3
  have e1 : x.2.a = σ.a := digitsF_a (x := x.1) (σ' := x.2) k1
  have e2 : v.a = x.2.a := Eq.trans (markF_a h2) rfl
  have e3 : z.2.a = v.a := digitsF_a (x := z.1) (σ' := z.2) k3
  exact e3.trans (e2.trans e1)
theorem keep_second : KeepA secondF := keep_of fun σ τ h => by
  obtain ⟨v, h2, h3⟩ := Option.bind_eq_some_iff.1 h
  obtain ⟨z, k3, rfl⟩ := Option.map_eq_some_iff.1 h3
  have e3 : z.2.a = v.a := digitsF_a (x := z.1) (σ' := z.2) k3
  exact e3.trans (markF_a h2)
theorem keep_blanks : KeepA blanksF := keep_of fun σ τ h => by
  unfold blanksF at h
  split at h
  · cases h
    rfl
  · cases h
theorem keep_zoneD (g : Int) (hg : g = 1 ∨ g = -1) (σ τ : RS) (h : zoneD g σ = some τ) : AOK τ := by
  unfold zoneD at h
  obtain ⟨x, h1, h⟩ := Option.bind_eq_some_iff.1 h
  obtain ⟨z, h2, h⟩ := Option.bind_eq_some_iff.1 h
  split at h
  · cases h
  · cases h
    unfold AOK
    show -90000 ≤ g * ((x.1 : Int) * 3600 + (z.1 : Int) * 60) ∧ g * ((x.1 : Int) * 3600 + (z.1 : Int) * 60) ≤ 90000
    rcases hg with rfl | rfl <;> constructor <;> omega
theorem keep_zone : KeepA zoneF := fun σ τ h _ => by
  unfold zoneF at h
  split at h
  · exact keep_zoneD 1 (.inl rfl) _ _ h
  · split at h
    · exact keep_zoneD (-1) (.inr rfl) _ _ h
    · cases h
theorem keep_day : KeepA dayF := keep_of fun σ τ h => by
  unfold dayF at h
  obtain ⟨x, h1, h⟩ := Option.bind_eq_some_iff.1 h
  have l1 : x.2.a = σ.a := by rw [digitF_date h1]
  split at h
  · obtain ⟨z, h2, rfl⟩ := Option.map_eq_some_iff.1 h
    have l2 : z.2.a = x.2.a := by rw [digitF_date h2]
    exact l2.trans l1
  · cases h
    exact l1
theorem keep_day2 : KeepA day2F := keep_of fun σ τ h => by
  unfold day2F at h
  split at h
  · obtain ⟨z, h2, rfl⟩ := Option.map_eq_some_iff.1 h
    have l2 : z.2.a = (dropF σ).a := by rw [digitF_date h2]
    exact l2
  · split at h
    · cases h
    · obtain ⟨z, h2, rfl⟩ := Option.map_eq_some_iff.1 h
      exact (digitsF_a (x := z.1) (σ' := z.2) h2 : z.2.a = σ.a)
theorem keep_dow : KeepA dowF := keep_of fun σ τ h => by
  unfold dowF at h
  obtain ⟨x, h1, h⟩ := Option.bind_eq_some_iff.1 h
  obtain ⟨z, h2, rfl⟩ := Option.map_eq_some_iff.1 h
  have e1 : x.2.a = σ.a := nameF_a (x := x.1) (σ' := x.2) h1
  have e2 : z.a = (skipF x.2).a := markF_a h2
  exact e2.trans e1
theorem keep_dowOpt : KeepA dowOpt := fun σ τ h k => by
  unfold dowOpt at h
  split at h
  · cases h
    exact k
  · exact keep_dow _ _ h k
theorem keep_secOpt : KeepA secOpt := fun σ τ h k => by
  unfold secOpt at h
  split at h
  · exact keep_second _ _ h k
  · cases h
    exact k
theorem keep_skip : KeepA skipO := keep_of fun σ τ h => by
  cases h
  rfl
theorem keep_chain : ∀ {fs : List (RS → Option RS)}, (∀ f ∈ fs, KeepA f) → KeepA (chainF fs)
  | [], _, σ, τ, h, k => by
    cases h
    exact k
  | f :: fs, hf, σ, τ, h, k => by
    obtain ⟨u, h1, h2⟩ := Option.bind_eq_some_iff.1 h
    exact keep_chain (fun g hg => hf g (by simp [hg])) u τ h2 (hf f (by simp) σ u h1 k)
theorem keep_pday : KeepA pdayF := keep_chain (by
  intro f hf
  simp at hf
  rcases hf with rfl | rfl | rfl | rfl | rfl
  all_goals first | exact keep_mark _ | exact keep_skip | exact keep_dowOpt | exact keep_day | exact keep_day2 | exact keep_blanks | exact keep_month | exact keep_year | exact keep_hm | exact keep_second | exact keep_secOpt | exact keep_zone)
theorem keep_pint : KeepA pintF := keep_chain (by
  intro f hf
  simp at hf
  rcases hf with rfl | rfl | rfl | rfl | rfl | rfl | rfl | rfl | rfl | rfl
  all_goals first | exact keep_mark _ | exact keep_skip | exact keep_dowOpt | exact keep_day | exact keep_day2 | exact keep_blanks | exact keep_month | exact keep_year | exact keep_hm | exact keep_second | exact keep_secOpt | exact keep_zone)
theorem keep_pmail : KeepA pmailF := keep_chain (by
  intro f hf
  simp at hf
  rcases hf with rfl | rfl | rfl | rfl | rfl | rfl | rfl | rfl | rfl | rfl | rfl | rfl | rfl
  all_goals first | exact keep_mark _ | exact keep_skip | exact keep_dowOpt | exact keep_day | exact keep_day2 | exact keep_blanks | exact keep_month | exact keep_year | exact keep_hm | exact keep_second | exact keep_secOpt | exact keep_zone)
set_option maxRecDepth 20000 in
set_option maxHeartbeats 4000000 in
theorem parsed_pint (l : List UInt8) (w : World) (ea : Nat → Addr) (hE : Errs w ea) (hA : ∀ σ τ, pintF σ = some τ → AOK σ → AOK τ) (hl : l.length ≤ 900) :
    Calls Tryz.prog 80 #[.string ⟨l.toArray⟩, .func (.func 81) #[] #[]] w fun e w' => e = .returned (parV ea ((pintF (σ0 l)).bind endF)) ∧ Below w.heap.size w w' := by
  have hmf : ∀ (fn : Fn) (first cap : Array Value) (w : World), (Instr.makeFunc fn first cap).run Tryz.prog w = .ok (.func fn first cap) w := fun _ _ _ _ => rfl
  have HE := hide hE
  have HA := hide hA
  have HL := hide hl
  clear hE hA hl
  go_enter_defers Tryz.func80, Tryz.ntmps80
  go_wp2_with fail
  have hW : Below w.heap.size w (((w.alloc (.cells #[.int .i64 0] 3)).alloc (.cells #[.nilIface] 24)).alloc (.cells #[.string ⟨l.toArray⟩, .int .i64 0, .int .i64 0, .int .i64 0, .int .i64 0, .int .i64 0, .int .i64 0, .int .i64 0, .int .i64 0] 126)) := (((Below.refl _ _).alloc (Nat.le_refl _) _).alloc (by simp) _).alloc (by simp; omega) _
  have hEF : EF (((w.alloc (.cells #[.int .i64 0] 3)).alloc (.cells #[.nilIface] 24)).alloc (.cells #[.string ⟨l.toArray⟩, .int .i64 0, .int .i64 0, .int .i64 0, .int .i64 0, .int .i64 0, .int .i64 0, .int .i64 0, .int .i64 0] 126)) (w.heap.size + 1 + 1) (ea 1) := ⟨(HE.out.below hW).cell 1 (by decide), by have h1 : 1 < w.heap.size := HE.out.low 1 (by decide); omega, (HE.out.below hW).low 1 (by decide)⟩
  refine (pint_out (ea 1) (w.heap.size + 1 + 1) _ (σ0 l) hEF (Blk.new2 w _ _ _ _) HL.out).mono ?_
  clear hW
  cases hd : pintF (σ0 l) with
  | none =>
    rintro e w1 ⟨hm1, rfl⟩
    have hB := hide (hm1.below ((((Below.refl _ _).alloc (Nat.le_refl _) _).alloc (by simp) _).alloc (by simp; omega) _) (by omega) : Below w.heap.size w w1)
    have hT : Blk w1 w.heap.size #[.int .i64 0] 3 := hm1.blk (((Blk.new w _ _).alloc _).alloc _) (by omega)
    have hQ : Blk w1 (w.heap.size + 1) #[.nilIface] 24 := hm1.blk ((Blk.new1 w _ _ _).alloc _) (by omega)
    have hcT := hT.cell
    have hcE := hQ.cell
    have HN : Hid (parV ea ((pintF (σ0 l)).bind endF) = .tuple #[.int .i64 0, .iface 167 (.pointer (some (ea 1)))]) := by
      show _ = _
      rw [hd]
      rfl
    show Leaves _ _ _ _ _ _ _
    refine leaves_cons (f := 104) (args := #[.pointer (some ⟨w.heap.size, 0, none⟩), .pointer (some ⟨w.heap.size + 1, 0, none⟩)]) (by simp) (by simp [go_sem]) ?_
    refine (catch_form ⟨w.heap.size, 0, none⟩ ⟨w.heap.size + 1, 0, none⟩ 0 .nilIface _ _ [] _ (ea 1) (hT.cell 0) (hT.frozen 0) (hQ.cell 0) (hQ.frozen 0) (by simp) ((HE.out.below hB.out).cell 1 (by decide))).mono ?_
    rintro e u' w'' ⟨rfl, rfl, rfl⟩
    have hB2 : Below w.heap.size w ((w1.setCell ⟨w.heap.size, 0, none⟩ (.int .i64 0)).setCell ⟨w.heap.size + 1, 0, none⟩ (.iface 167 (.pointer (some (ea 1))))) := (hB.out.setCell (by simp) _).setCell (by simp) _
    simp [Leaves, settle, results, Tryz.results80, go_sem, hcT, hcE]
    exact ⟨HN.out.symm, hB2⟩
  | some τ =>
    have HAO := hide (HA.out _ _ hd (aok0 l))
    have HD := hide hd
    rintro e w1 ⟨hm1, rfl, hr1⟩
    have HF1 := hide (hEF.mv hm1)
    replace hm1 := hide hm1
    replace hr1 := hide hr1
    clear hd hEF
    go_wp2_with fail
    refine (end_out (ea 1) (w.heap.size + 1 + 1) _ τ HF1.out hr1.out).mono ?_
    cases he : endF τ with
    | none =>
      rintro e w2 ⟨hm2', rfl⟩
      have hm2 := hm1.out.trans hm2'
      have hB := hide (hm2.below ((((Below.refl _ _).alloc (Nat.le_refl _) _).alloc (by simp) _).alloc (by simp; omega) _) (by omega) : Below w.heap.size w w2)
      have hT : Blk w2 w.heap.size #[.int .i64 0] 3 := hm2.blk (((Blk.new w _ _).alloc _).alloc _) (by omega)
      have hQ : Blk w2 (w.heap.size + 1) #[.nilIface] 24 := hm2.blk ((Blk.new1 w _ _ _).alloc _) (by omega)
      have hcT := hT.cell
      have hcE := hQ.cell
      have HN : Hid (parV ea ((pintF (σ0 l)).bind endF) = .tuple #[.int .i64 0, .iface 167 (.pointer (some (ea 1)))]) := by
        show _ = _
        rw [HD.out, Option.bind_some, he]
        rfl
      show Leaves _ _ _ _ _ _ _
      refine leaves_cons (f := 104) (args := #[.pointer (some ⟨w.heap.size, 0, none⟩), .pointer (some ⟨w.heap.size + 1, 0, none⟩)]) (by simp) (by simp [go_sem]) ?_
      refine (catch_form ⟨w.heap.size, 0, none⟩ ⟨w.heap.size + 1, 0, none⟩ 0 .nilIface _ _ [] _ (ea 1) (hT.cell 0) (hT.frozen 0) (hQ.cell 0) (hQ.frozen 0) (by simp) ((HE.out.below hB.out).cell 1 (by decide))).mono ?_
      rintro e u' w'' ⟨rfl, rfl, rfl⟩
      have hB2 : Below w.heap.size w ((w2.setCell ⟨w.heap.size, 0, none⟩ (.int .i64 0)).setCell ⟨w.heap.size + 1, 0, none⟩ (.iface 167 (.pointer (some (ea 1))))) := (hB.out.setCell (by simp) _).setCell (by simp) _
      simp [Leaves, settle, results, Tryz.results80, go_sem, hcT, hcE]
      exact ⟨HN.out.symm, hB2⟩
    | some τ2 =>
      have hτ : τ2 = τ := by
        unfold endF at he
        split at he
        · exact (Option.some.inj he).symm
        · cases he
      subst hτ
      rintro e w2 ⟨hm2', rfl, hr2⟩
      have hm2 := hm1.out.trans hm2'
      have HB2 := hide (hm2.below ((((Below.refl _ _).alloc (Nat.le_refl _) _).alloc (by simp) _).alloc (by simp; omega) _) (by omega) : Below w.heap.size w w2)
      have HT2 : Hid (Blk w2 w.heap.size #[.int .i64 0] 3) := hm2.blk (((Blk.new w _ _).alloc _).alloc _) (by omega)
      have HQ2 : Hid (Blk w2 (w.heap.size + 1) #[.nilIface] 24) := hm2.blk ((Blk.new1 w _ _ _).alloc _) (by omega)
      have HV : Hid (parV ea ((pintF (σ0 l)).bind endF) = momV ea τ2) := by
        show _ = _
        rw [HD.out, Option.bind_some, he]
        rfl
      replace hr2 := hide hr2
      clear he hm2' hm2 hm1
      go_wp2_with fail
      refine (moment_out (w.heap.size + 1 + 1) _ τ2 ea (HE.out.below HB2.out) hr2.out HAO.out).mono ?_
      rcases momV_form ea τ2 with ⟨T, hT⟩ | ⟨q, hT⟩
      · have HN := hide (HV.out.trans hT)
        rw [hT]
        clear hT
        rintro e w3 ⟨rfl, hb3⟩
        have hB2 := hide (hb3 : Below w2.heap.size w2 w3)
        have hT3 : Blk w3 w.heap.size #[.int .i64 0] 3 := HT2.out.below hb3 HT2.out.lt
        have hQ3 : Blk w3 (w.heap.size + 1) #[.nilIface] 24 := HQ2.out.below hb3 HQ2.out.lt
        have hcT := hT3.cell
        have hfT := hT3.frozen
        have hcE := hQ3.cell
        have hfE := hQ3.frozen
        have HB3 : Hid (Below w.heap.size w w3) := HB2.out.trans (hb3.mono HB2.out.size)
        clear hb3
        go_wp2
        refine leaves_cons (f := 104) (args := #[.pointer (some ⟨w.heap.size, 0, none⟩), .pointer (some ⟨w.heap.size + 1, 0, none⟩)]) (by simp) (by simp [go_sem]) ?_
        refine (catch_idle _ _ _).mono ?_
        rintro e u' w'' ⟨rfl, rfl, rfl⟩
        have hB4 : Below w.heap.size w ((w3.setCell ⟨w.heap.size, 0, none⟩ (.int .i64 T)).setCell ⟨w.heap.size + 1, 0, none⟩ .nilIface) := (HB3.out.setCell (by simp) _).setCell (by simp) _
        simp [Leaves, settle, results, Tryz.results80, go_sem, hcT, hcE]
        exact ⟨HN.out.symm, hB4⟩
      · have HN := hide (HV.out.trans hT)
        rw [hT]
        clear hT
        rintro e w3 ⟨rfl, hb3⟩
        have hB2 := hide (hb3 : Below w2.heap.size w2 w3)
        have hT3 : Blk w3 w.heap.size #[.int .i64 0] 3 := HT2.out.below hb3 HT2.out.lt
        have hQ3 : Blk w3 (w.heap.size + 1) #[.nilIface] 24 := HQ2.out.below hb3 HQ2.out.lt
        have hcT := hT3.cell
        have hfT := hT3.frozen
        have hcE := hQ3.cell
        have hfE := hQ3.frozen
        have HB3 : Hid (Below w.heap.size w w3) := HB2.out.trans (hb3.mono HB2.out.size)
        clear hb3
        go_wp2
        refine leaves_cons (f := 104) (args := #[.pointer (some ⟨w.heap.size, 0, none⟩), .pointer (some ⟨w.heap.size + 1, 0, none⟩)]) (by simp) (by simp [go_sem]) ?_
        refine (catch_idle _ _ _).mono ?_
        rintro e u' w'' ⟨rfl, rfl, rfl⟩
        have hB4 : Below w.heap.size w ((w3.setCell ⟨w.heap.size, 0, none⟩ (.int .i64 0)).setCell ⟨w.heap.size + 1, 0, none⟩ (.iface 167 (.pointer (some q)))) := (HB3.out.setCell (by simp) _).setCell (by simp) _
        simp [Leaves, settle, results, Tryz.results80, go_sem, hcT, hcE]
        exact ⟨HN.out.symm, hB4⟩
theorem parV_form (ea : Nat → Addr) (r : Option RS) : ∃ T V, parV ea r = .tuple #[.int .i64 T, V] := by
  unfold parV
  split
  · exact ⟨_, _, rfl⟩
  · next σ =>
    rcases momV_form ea σ with ⟨T, h⟩ | ⟨q, h⟩
    · exact ⟨_, _, h⟩
    · exact ⟨_, _, h⟩
set_option maxHeartbeats 1000000 in
theorem ParseInternal_any (l : List UInt8) (w : World) (ea : Nat → Addr) (hE : Errs w ea) (hl : l.length ≤ 900) : Calls Tryz.prog 51 #[.string ⟨l.toArray⟩] w fun e w' => e = .returned (parV ea ((pintF (σ0 l)).bind endF)) ∧ Below w.heap.size w w' := by
  have HP := hide (parsed_pint l w ea hE keep_pint hl)
  clear hE
  rcases parV_form ea ((pintF (σ0 l)).bind endF) with ⟨T, V, hV⟩
  rw [hV] at HP ⊢
  clear hV
  go_enter Tryz.func51, Tryz.ntmps51
  go_wp2_with (go_at_call 80; refine HP.out.mono ?_; rintro e w1 ⟨rfl, hb1⟩)
  go_ret2
  exact ⟨rfl, hb1⟩
end Go.Proofs.YtcmhaihoeecjoaaGreatDoor.Da
