/- A state's form as package post asks it, and as the document does: the same. -/
/- Package post: whether a message, a box, an item is in form. -/
/- Package post: whether no two boxes have the same Valid. -/
import Derived.Test.YtdbmaobjikjifaaGreatDoorRU06
import Derived.Test.YtdbmaobjikjifaaGreatDoorRU21
import Derived.Sort.OwnSorted
import Derived.Sort.Grow
import Derived.Lib.OwnBridge
section
set_option linter.unusedVariables false
set_option linter.unusedSimpArgs false
namespace Go.Proofs.YtdbmaobjikjifaaGreatDoorR
def poOver (b : Bx) : Bool := decide (100 < b.msgs.length) || decide (200000 < poBytes b)
def msgB (m : Msg) : Bool := decide (1 ≤ m.uid) && poIn m.flags 0 31 && poMom m.date && decide (m.body.length ≤ 100000)
def msgLt (x y : Msg) : Bool := decide (x.uid < y.uid)
def itLt (x y : It) : Bool := decide (x.id < y.id)
def inLt (x y : Int) : Bool := decide (x < y)
def bxLt (x y : Bx) : Bool := poLt x.user x.name y.user y.name
def sbLt (x y : Sb) : Bool := poLt x.user x.name y.user y.name
def bxB (b : Bx) : Bool := decide (0 ≤ b.user) && decide (b.user < 6) && poName b.name && decide (1 ≤ b.valid) && poIn b.next 1 2147483648 && !poOver b && risL msgLt b.msgs && b.msgs.all (fun m => msgB m && decide (m.uid < b.next))
def itB (q : It) : Bool := decide (1 ≤ q.id) && decide (1 ≤ q.fr.length) && risL inLt q.fr && decide (q.frm.length ≤ 200) && poMom q.born && poMom q.due && decide (0 ≤ q.tries) && decide (q.tries ≤ 5) && decide (q.body.length ≤ 100000)
/-- Whether no two are the same. -/
def ownV : List Int → Bool
  | [] => true
  | x :: r => !r.contains x && ownV r
def formBx (s : Stt) : Bool := decide (s.boxes.length ≤ 24) && risL bxLt s.boxes && ownV (s.boxes.map Bx.valid) && s.boxes.all (fun b => bxB b && decide (b.valid < s.nextValid) && poUser s.boxes b.user)
def formSb (s : Stt) : Bool := decide (s.subs.length ≤ 24) && risL sbLt s.subs && s.subs.all (fun x => poName x.name && poUser s.boxes x.user)
def formIt (s : Stt) : Bool := decide (s.queue.length ≤ 24) && risL itLt s.queue && s.queue.all (fun q => itB q && decide (q.id < s.nextItem) && q.fr.all (poUser s.boxes))
def formP (s : Stt) : Bool := poIn s.nextValid 1 2147483648 && poIn s.nextItem 1 2147483648 && formBx s && formSb s && formIt s
theorem risL_one {α : Type} (lt : α → α → Bool) (a : α) : risL lt [a] = true := rfl
theorem risL_two {α : Type} (lt : α → α → Bool) (a b : α) (t : List α) : risL lt (a :: b :: t) = (lt a b && risL lt (b :: t)) := rfl
theorem msgs_eq (next : Int) : ∀ (last : Int) (ms : List Msg), 0 ≤ last → poMsgs next last ms = ((match ms with | [] => true | m :: _ => decide (last < m.uid)) && risL msgLt ms && ms.all (fun m => msgB m && decide (m.uid < next)))
  | _, [], _ => rfl
  | last, m :: r, h0 => by
    unfold poMsgs
    by_cases h : last < m.uid
    · rw [msgs_eq next m.uid r (by omega)]
      have h1 : decide (1 ≤ m.uid) = true := decide_eq_true (by omega)
      rw [List.all_cons]
      have hm : msgB m = (poIn m.flags 0 31 && poMom m.date && decide (m.body.length ≤ 100000)) := by unfold msgB; rw [h1, Bool.true_and]
      have hd := decide_eq_true h
      rw [hm]
      cases r with
      | nil => simp only [List.all_nil, Bool.and_true, Bool.true_and, risL_one, hd]; ac_rfl
      | cons b t => rw [risL_two]; simp only [Bool.true_and, msgLt, hd]; ac_rfl
    · simp [h]
theorem subs_eq (s : Stt) : ∀ l : List Sb, poSubs s l = (risL sbLt l && l.all (fun x => poName x.name && poUser s.boxes x.user))
  | [] => rfl
  | x :: r => by
    unfold poSubs
    rw [subs_eq s r, List.all_cons]
    cases r with
    | nil => simp only [List.all_nil, Bool.and_true, Bool.true_and, risL_one, risL]
    | cons b t => rw [risL_two]; simp only [sbLt]; ac_rfl
theorem rise_eq : ∀ l : List Int, poRise l = risL inLt l
  | [] => rfl
  | x :: r => by
    unfold poRise
    rw [rise_eq r]
    cases r <;> rfl
theorem riseI_eq : ∀ l : List It, poRise (l.map It.id) = risL itLt l
  | [] => rfl
  | x :: r => by
    rw [List.map_cons]
    unfold poRise
    rw [riseI_eq r]
    cases r <;> rfl
theorem own_all : ∀ (b : Bx) (r : List Bx), (r.all fun c => !decide (c.valid = b.valid)) = !(r.map Bx.valid).contains b.valid
  | b, [] => rfl
  | b, c :: r => by
    rw [List.all_cons, own_all b r, List.map_cons, List.contains_cons, Bool.not_or]
    congr 2
    by_cases h : c.valid = b.valid
    · simp [h]
    · simp [h, Ne.symm h]
theorem boxes_eq : ∀ l : List Bx, poBoxes l = (risL bxLt l && ownV (l.map Bx.valid))
  | [] => rfl
  | b :: r => by
    unfold poBoxes
    rw [boxes_eq r, own_all, List.map_cons]
    have ho : ownV (b.valid :: r.map Bx.valid) = (!(r.map Bx.valid).contains b.valid && ownV (r.map Bx.valid)) := rfl
    rw [ho]
    generalize ownV (r.map Bx.valid) = o
    cases r with
    | nil => rfl
    | cons c t => rw [risL_two]; simp only [bxLt]; ac_rfl
theorem box_eq (s : Stt) (b : Bx) : poBox s b = (bxB b && decide (b.valid < s.nextValid) && poUser s.boxes b.user) := by
  unfold poBox bxB
  rw [msgs_eq b.next 0 b.msgs (by omega)]
  have h1 : (poIn b.user 0 5) = (decide (0 ≤ b.user) && decide (b.user < 6)) := by unfold poIn; congr 1; exact decide_eq_decide.2 (by omega)
  have h2 : (!poOver b) = (decide (b.msgs.length ≤ 100) && decide (poBytes b ≤ 200000)) := by
    unfold poOver
    rw [Bool.not_or]
    congr 1
    · rw [← decide_not]; exact decide_eq_decide.2 (by omega)
    · rw [← decide_not]; exact decide_eq_decide.2 (by omega)
  have h3 : ((match b.msgs with | [] => true | m :: _ => decide (0 < m.uid)) && b.msgs.all (fun m => msgB m && decide (m.uid < b.next))) = b.msgs.all (fun m => msgB m && decide (m.uid < b.next)) := by
    cases b.msgs with
    | nil => rfl
    | cons m r =>
      rw [List.all_cons]
      by_cases h : 0 < m.uid
      · simp [h]
      · have : msgB m = false := by unfold msgB; rw [decide_eq_false (by omega)]; rfl
        simp [this]
  rw [h1, h2]
  generalize decide (0 ≤ b.user) = a1
  generalize decide (b.user < 6) = a2
  generalize poName b.name = a3
  generalize decide (1 ≤ b.valid) = a4
  generalize decide (b.valid < s.nextValid) = a5
  generalize poIn b.next 1 2147483648 = a6
  generalize poUser s.boxes b.user = a7
  generalize decide (b.msgs.length ≤ 100) = a8
  generalize decide (poBytes b ≤ 200000) = a9
  rw [← h3]
  generalize (match b.msgs with | [] => true | m :: _ => decide (0 < m.uid)) = a10
  generalize risL msgLt b.msgs = a11
  generalize b.msgs.all (fun m => msgB m && decide (m.uid < b.next)) = a12
  ac_rfl
theorem item_eq (s : Stt) (q : It) : poItem s q = (itB q && decide (q.id < s.nextItem) && q.fr.all (poUser s.boxes)) := by
  unfold poItem itB
  rw [rise_eq]
  have h1 : (poIn q.tries 0 5) = (decide (0 ≤ q.tries) && decide (q.tries ≤ 5)) := rfl
  have h2 : (!q.fr.isEmpty) = decide (1 ≤ q.fr.length) := by cases q.fr <;> simp
  rw [h1, h2]
  ac_rfl
theorem formP_eq (s : Stt) : formP s = poForm s := by
  unfold formP poForm formBx formSb formIt
  rw [subs_eq, riseI_eq, boxes_eq]
  have e1 : s.boxes.all (poBox s) = s.boxes.all (fun b => bxB b && decide (b.valid < s.nextValid) && poUser s.boxes b.user) := by congr 1; funext b; exact box_eq s b
  have e2 : s.queue.all (poItem s) = s.queue.all (fun q => itB q && decide (q.id < s.nextItem) && q.fr.all (poUser s.boxes)) := by congr 1; funext q; exact item_eq s q
  rw [e1, e2]
  ac_rfl
end Go.Proofs.YtdbmaobjikjifaaGreatDoorR

end
section
set_option linter.unusedVariables false
set_option linter.unusedSimpArgs false
namespace Go.Proofs.YtdbmaobjikjifaaGreatDoorR
open Go.RowKit Go.Shelf

set_option maxRecDepth 20000 in
set_option maxHeartbeats 4000000 in
theorem pisMessage_any {v : Value} {m : Msg} {w : World} (h : MsgV w v m) : Calls Tryz.prog 74 #[v] w fun e w' => e = .returned (.bool (msgB m)) ∧ Below w.heap.size w w' := by
  obtain ⟨u, fl, d, b⟩ := m
  cases h
  dsimp only
  obtain ⟨R, HR⟩ : ∃ R, Hid (R = msgB ⟨u, fl, d, b⟩) := ⟨_, hide rfl⟩
  rw [← HR.out]
  replace HR : Hid (R = (decide (1 ≤ u) && poIn fl 0 31 && poMom d && decide (b.length ≤ 100000))) := HR
  have H1 := hide (fun W => pflg_any fl W)
  have H2 := hide (fun W => pmom_any d W)
  have H3 := hide (fun W => pbody_any b W)
  have HB := hide ((Below.refl w.heap.size w).alloc (Nat.le_refl _) (.cells #[.int .i64 u, .int .i64 fl, .int .i64 d, .string ⟨b.toArray⟩] 47))
  generalize poIn fl 0 31 = T1 at *
  generalize poMom d = T2 at *
  generalize decide (b.length ≤ 100000) = T3 at *
  by_cases h0 : 1 ≤ u
  · skip
    cases T1 with
    | true =>
      cases T2 with
      | true =>
        cases T3 with
        | true =>
          have HF : Hid (R = true) := by show _ = _; rw [HR.out]; simp [h0]
          clear HR
          go_enter Tryz.func74, Tryz.ntmps74
          go_wp2_with (first | (go_at_call 91; refine (H1.out _).mono ?_; rintro e w1 ⟨rfl, rfl⟩) | (go_at_call 77; refine (H2.out _).mono ?_; rintro e w1 ⟨rfl, rfl⟩) | (go_at_call 78; refine (H3.out _).mono ?_; rintro e w1 ⟨rfl, rfl⟩))
          exact bodyPost_ret (v := .bool true) (by simp [results, Tryz.results74, go_sem, h0] <;> omega) rfl ⟨by rw [HF.out], HB.out⟩
        | false =>
          have HF : Hid (R = false) := by show _ = _; rw [HR.out]; simp [h0]
          clear HR
          go_enter Tryz.func74, Tryz.ntmps74
          go_wp2_with (first | (go_at_call 91; refine (H1.out _).mono ?_; rintro e w1 ⟨rfl, rfl⟩) | (go_at_call 77; refine (H2.out _).mono ?_; rintro e w1 ⟨rfl, rfl⟩) | (go_at_call 78; refine (H3.out _).mono ?_; rintro e w1 ⟨rfl, rfl⟩))
          exact bodyPost_ret (v := .bool false) (by simp [results, Tryz.results74, go_sem, h0] <;> omega) rfl ⟨by rw [HF.out], HB.out⟩
      | false =>
        have HF : Hid (R = false) := by show _ = _; rw [HR.out]; simp [h0]
        clear HR
        go_enter Tryz.func74, Tryz.ntmps74
        go_wp2_with (first | (go_at_call 91; refine (H1.out _).mono ?_; rintro e w1 ⟨rfl, rfl⟩) | (go_at_call 77; refine (H2.out _).mono ?_; rintro e w1 ⟨rfl, rfl⟩) | (go_at_call 78; refine (H3.out _).mono ?_; rintro e w1 ⟨rfl, rfl⟩))
        exact bodyPost_ret (v := .bool false) (by simp [results, Tryz.results74, go_sem, h0] <;> omega) rfl ⟨by rw [HF.out], HB.out⟩
    | false =>
      have HF : Hid (R = false) := by show _ = _; rw [HR.out]; simp [h0]
      clear HR
      go_enter Tryz.func74, Tryz.ntmps74
      go_wp2_with (first | (go_at_call 91; refine (H1.out _).mono ?_; rintro e w1 ⟨rfl, rfl⟩) | (go_at_call 77; refine (H2.out _).mono ?_; rintro e w1 ⟨rfl, rfl⟩) | (go_at_call 78; refine (H3.out _).mono ?_; rintro e w1 ⟨rfl, rfl⟩))
      exact bodyPost_ret (v := .bool false) (by simp [results, Tryz.results74, go_sem, h0] <;> omega) rfl ⟨by rw [HF.out], HB.out⟩
  · skip
    have HF : Hid (R = false) := by show _ = _; rw [HR.out]; simp [h0]
    clear HR
    go_enter Tryz.func74, Tryz.ntmps74
    go_wp2_with (first | (go_at_call 91; refine (H1.out _).mono ?_; rintro e w1 ⟨rfl, rfl⟩) | (go_at_call 77; refine (H2.out _).mono ?_; rintro e w1 ⟨rfl, rfl⟩) | (go_at_call 78; refine (H3.out _).mono ?_; rintro e w1 ⟨rfl, rfl⟩))
    exact bodyPost_ret (v := .bool false) (by simp [results, Tryz.results74, go_sem, h0] <;> omega) rfl ⟨by rw [HF.out], HB.out⟩

set_option maxRecDepth 20000 in
set_option maxHeartbeats 4000000 in
theorem pisBox1_any {v : Value} {m : Msg} {W : World} (h : MsgV W v m) (pb : Nat) (c0 c1 c2 c4 : Value) (nx : Int) (hk : Blk W pb #[c0, c1, c2, .int .i64 nx, c4] 45) : Calls Tryz.prog 73 #[v, .pointer (some ⟨pb, 0, none⟩)] W fun e w' => e = .returned (.bool (msgB m && decide (m.uid < nx))) ∧ Below W.heap.size W w' := by
  obtain ⟨u, fl, d, b⟩ := m
  cases h
  dsimp only
  have HK := hide (hk.alloc (.cells #[.int .i64 u, .int .i64 fl, .int .i64 d, .string ⟨b.toArray⟩] 47))
  have HM := hide (Blk.new W #[.int .i64 u, .int .i64 fl, .int .i64 d, .string ⟨b.toArray⟩] 47)
  have H1 := hide (pisMessage_any (w := W.alloc (.cells #[.int .i64 u, .int .i64 fl, .int .i64 d, .string ⟨b.toArray⟩] 47)) (v := .agg #[.int .i64 u, .int .i64 fl, .int .i64 d, .string ⟨b.toArray⟩]) (m := ⟨u, fl, d, b⟩) rfl)
  have HB := hide ((Below.refl W.heap.size W).alloc (Nat.le_refl _) (.cells #[.int .i64 u, .int .i64 fl, .int .i64 d, .string ⟨b.toArray⟩] 47))
  clear hk
  generalize msgB ⟨u, fl, d, b⟩ = T1 at *
  obtain ⟨R, HR⟩ : ∃ R, Hid (R = (T1 && decide (u < nx))) := ⟨_, hide rfl⟩
  rw [← HR.out]
  cases T1 with
  | true =>
    by_cases h1 : u < nx
    · skip
      have HF : Hid (R = true) := by show _ = _; rw [HR.out]; simp [h1]
      clear HR
      go_enter Tryz.func73, Tryz.ntmps73
      go_wp2_with (first | (go_at_call 74; refine H1.out.mono ?_; rintro e w1 ⟨rfl, hb1⟩; have q3 := (HK.out.below hb1 HK.out.lt).cell 3; have q0 := (HM.out.below hb1 HM.out.lt).cell 0; replace HB := hide (HB.out.trans (hb1.mono HB.out.size)); clear hb1))
      exact bodyPost_ret (v := .bool true) (by simp [results, Tryz.results73, go_sem, h1] <;> omega) rfl ⟨by rw [HF.out], HB.out⟩
    · skip
      have HF : Hid (R = false) := by show _ = _; rw [HR.out]; simp [h1]
      clear HR
      go_enter Tryz.func73, Tryz.ntmps73
      go_wp2_with (first | (go_at_call 74; refine H1.out.mono ?_; rintro e w1 ⟨rfl, hb1⟩; have q3 := (HK.out.below hb1 HK.out.lt).cell 3; have q0 := (HM.out.below hb1 HM.out.lt).cell 0; replace HB := hide (HB.out.trans (hb1.mono HB.out.size)); clear hb1))
      exact bodyPost_ret (v := .bool false) (by simp [results, Tryz.results73, go_sem, h1] <;> omega) rfl ⟨by rw [HF.out], HB.out⟩
  | false =>
    have HF : Hid (R = false) := by show _ = _; rw [HR.out]; simp []
    clear HR
    go_enter Tryz.func73, Tryz.ntmps73
    go_wp2_with (first | (go_at_call 74; refine H1.out.mono ?_; rintro e w1 ⟨rfl, hb1⟩; have q3 := (HK.out.below hb1 HK.out.lt).cell 3; have q0 := (HM.out.below hb1 HM.out.lt).cell 0; replace HB := hide (HB.out.trans (hb1.mono HB.out.size)); clear hb1))
    exact bodyPost_ret (v := .bool false) (by simp [results, Tryz.results73, go_sem, ] <;> omega) rfl ⟨by rw [HF.out], HB.out⟩

theorem encP_len (s : List UInt8) : (encL s).length = s.length + 1 + Qq.cnt (splitS s) := by rw [enc_len]; rfl
theorem encP_le (s : List UInt8) : (encL s).length ≤ 2 * s.length + 2 := by
  rw [enc_len]
  have h1 := List.length_filter_le nm (splitS s)
  have h2 := splitS_len s
  omega
theorem wrapP {x : Int} (h0 : 0 ≤ x) (h1 : x ≤ 4000000000000000) : IntKind.i64.wrap x = x := by
  rw [IntKind.wrap_i64]
  omega
def sumP (ms : List Msg) : Nat := (ms.map fun m => 44 + (encL m.body).length).sum
theorem sumP_next {ms : List Msg} {k : Nat} (hk : k < ms.length) : sumP (ms.take (k + 1)) = sumP (ms.take k) + (44 + (encL ms[k].body).length) := by
  unfold sumP
  rw [List.take_succ_eq_append_getElem hk, List.map_append, List.sum_append]
  simp
theorem sumP_le {ms : List Msg} (h : ∀ m ∈ ms, m.body.length ≤ 1000000) (k : Nat) (hk : k ≤ ms.length) : sumP (ms.take k) ≤ k * 2000100 := by
  induction k with
  | zero => simp [sumP]
  | succ k ih =>
    have hk' : k < ms.length := by omega
    rw [sumP_next hk']
    have h1 := ih (by omega)
    have h2 := encP_le ms[k].body
    have h3 := h ms[k] (List.getElem_mem hk')
    omega
set_option maxRecDepth 20000 in
set_option maxHeartbeats 2000000 in
theorem pbytes_any {w : World} {v : Value} {b : Bx} (h : BxV w v b) (hl : b.msgs.length ≤ 1000000) (hbd : ∀ m ∈ b.msgs, m.body.length ≤ 1000000) :
    Calls Tryz.prog 115 #[v] w fun e w' => e = .returned (.int .i64 ((poBytes b : Nat) : Int)) ∧ Below w.heap.size w w' := by
  obtain ⟨mv, rfl, hm⟩ := h
  obtain ⟨A, c, rfl⟩ := hm.form
  have HV : Hid (poBytes b = sumP b.msgs) := rfl
  obtain ⟨u, n, va, nx, ms⟩ := b
  dsimp only at *
  generalize poBytes ⟨u, n, va, nx, ms⟩ = O at *
  have HX := hide hm
  have HBD := hide hbd
  clear hm hbd
  have HK := hide (Blk.new w #[.int .i64 u, .string ⟨n.toArray⟩, .int .i64 va, .int .i64 nx, .slice A ms.length c] 45)
  have HB := hide ((Below.refl w.heap.size w).alloc (Nat.le_refl _) (.cells #[.int .i64 u, .string ⟨n.toArray⟩, .int .i64 va, .int .i64 nx, .slice A ms.length c] 45))
  go_enter Tryz.func115, Tryz.ntmps115
  go_wp2
  obtain ⟨W0, HW0⟩ : ∃ W0, Hid (w.alloc (.cells #[.int .i64 u, .string ⟨n.toArray⟩, .int .i64 va, .int .i64 nx, .slice A ms.length c] 45) = W0) := ⟨_, hide rfl⟩
  rw [HW0.out] at HB HK ⊢
  have HX0 := hide (HX.out.below stb_msg HB.out)
  clear HX HK
  go_loopw [3, 5, 9] (fun v3 _ v9 wr => ∃ k : Nat, v9 = .int .i64 k ∧ k ≤ ms.length ∧ v3 = .int .i64 ((sumP (ms.take k) : Nat) : Int) ∧ Hid (Below W0.heap.size W0 wr)) (fun _ _ v9 _ => ms.length - (intOf v9).toNat)
  case atStart => exact ⟨0, rfl, Nat.zero_le _, rfl, Below.refl _ _⟩
  case round =>
    obtain ⟨k, rfl, hk, rfl, HBr⟩ := hrel
    by_cases hlt : k < ms.length
    · have hlt' : (k : Int) < ms.length := by omega
      obtain ⟨g, o, rfl, hg, q0, q1, q2, q3⟩ := (HX0.out.below stb_msg HBr.out).at hlt
      have q0' : wr.cell? ⟨g, o + k * 4, none⟩ = some (.int .i64 ms[k].uid) := q0
      have q1' : wr.cell? ⟨g, o + k * 4 + 1, none⟩ = some (.int .i64 ms[k].flags) := q1
      have q2' : wr.cell? ⟨g, o + k * 4 + 2, none⟩ = some (.int .i64 ms[k].date) := q2
      have q3' : wr.cell? ⟨g, o + k * 4 + 3, none⟩ = some (.string ⟨ms[k].body.toArray⟩) := q3
      have HN := hide (sumP_next hlt)
      have hp := sumP_le HBD.out k hk
      have hbl := HBD.out ms[k] (List.getElem_mem hlt)
      have hel := encP_le ms[k].body
      have HEn := hide (fun W => Qq.size_any ms[k].body W hbl)
      rw [← encP_len] at HEn
      clear q0 q1 q2 q3
      generalize ms[k] = m at *
      obtain ⟨mu, mf, md, mb⟩ := m
      dsimp only at *
      generalize sumP (ms.take k) = p at *
      generalize (encL mb).length = e at *
      have w1 : IntKind.i64.wrap (44 + (e : Int)) = 44 + (e : Int) := wrapP (by omega) (by omega)
      have w2 : IntKind.i64.wrap ((p : Int) + (44 + (e : Int))) = (p : Int) + (44 + (e : Int)) := wrapP (by omega) (by omega)
      clear hp hbl hel
      go_wp2_with (go_at_call 145; refine (HEn.out _).mono ?_; rintro en wq ⟨rfl, hbq⟩
                   have HBq := hide (HBr.out.trans ((((Below.refl wr.heap.size wr).alloc (Nat.le_refl _) _).trans (hbq.mono (by simp))).mono HBr.out.size))
                   clear hbq)
      go_roundw
      case rel => exact ⟨k + 1, by go_num, by omega, by rw [HN.out]; push_cast; rfl, HBq.out⟩
      case measure => simp [intOf] <;> omega
    · obtain rfl : k = ms.length := by omega
      have HF : Hid (O = sumP (ms.take ms.length)) := by show _ = _; rw [HV.out, List.take_length]
      generalize sumP (ms.take ms.length) = p at *
      go_wp2
      go_ret
      exact ⟨by rw [HF.out]; rfl, HB.out.trans (HBr.out.mono HB.out.size)⟩
set_option maxRecDepth 20000 in
set_option maxHeartbeats 2000000 in
theorem pover_any {w : World} {v : Value} {b : Bx} (h : BxV w v b) (hl : b.msgs.length ≤ 1000000) (hbd : ∀ m ∈ b.msgs, m.body.length ≤ 1000000) :
    Calls Tryz.prog 69 #[v] w fun e w' => e = .returned (.bool (poOver b)) ∧ Below w.heap.size w w' := by
  have hv := h
  obtain ⟨mv, rfl, hm⟩ := h
  obtain ⟨A, c, rfl⟩ := hm.form
  have HB := hide ((Below.refl w.heap.size w).alloc (Nat.le_refl _) (.cells #[.int .i64 b.user, .string ⟨b.name.toArray⟩, .int .i64 b.valid, .int .i64 b.next, .slice A b.msgs.length c] 45))
  have H1 := hide (pbytes_any (hv.below HB.out) hl hbd)
  obtain ⟨R, HR⟩ : ∃ R, Hid (R = poOver b) := ⟨_, hide rfl⟩
  rw [← HR.out]
  replace HR : Hid (R = (decide (100 < b.msgs.length) || decide (200000 < poBytes b))) := HR
  clear hm hv
  generalize poBytes b = n at *
  clear hbd
  generalize b.msgs.length = l at *
  by_cases h0 : 100 < l
  · have h0' : (100 : Int) < l := by omega
    have HF : Hid (R = true) := by show _ = _; rw [HR.out]; simp [h0]
    clear HR H1
    go_enter Tryz.func69, Tryz.ntmps69
    go_wp2
    exact bodyPost_ret (v := .bool true) (by simp [results, Tryz.results69, go_sem] <;> omega) rfl ⟨by rw [HF.out], HB.out⟩
  · have h0' : ¬ (100 : Int) < l := by omega
    by_cases h1 : 200000 < n
    · have HF : Hid (R = true) := by show _ = _; rw [HR.out]; simp [h1]
      clear HR
      go_enter Tryz.func69, Tryz.ntmps69
      go_wp2_with (go_at_call 115; refine H1.out.mono ?_; rintro e w1 ⟨rfl, hb1⟩; replace hb1 := hide hb1)
      exact bodyPost_ret (v := .bool true) (by simp [results, Tryz.results69, go_sem] <;> omega) rfl ⟨by rw [HF.out], HB.out.trans (hb1.out.mono HB.out.size)⟩
    · have HF : Hid (R = false) := by show _ = _; rw [HR.out]; simp [h0, h1]
      clear HR
      go_enter Tryz.func69, Tryz.ntmps69
      go_wp2_with (go_at_call 115; refine H1.out.mono ?_; rintro e w1 ⟨rfl, hb1⟩; replace hb1 := hide hb1)
      exact bodyPost_ret (v := .bool false) (by simp [results, Tryz.results69, go_sem] <;> omega) rfl ⟨by rw [HF.out], HB.out.trans (hb1.out.mono HB.out.size)⟩
end Go.Proofs.YtdbmaobjikjifaaGreatDoorR

end
section
set_option linter.unusedVariables false
set_option linter.unusedSimpArgs false
namespace Go.Proofs.YtdbmaobjikjifaaGreatDoorR
open Go.RowKit Go.Shelf Go.Sort
theorem ownV_iff : ∀ l : List Int, ownV l = true ↔ l.Nodup
  | [] => by simp [ownV]
  | x :: r => by
    unfold ownV
    rw [Bool.and_eq_true, ownV_iff r, List.nodup_cons]
    simp
theorem risL_iff : ∀ l : List Int, risL inLt l = true ↔ l.Pairwise (· < ·)
  | [] => by simp [risL]
  | [x] => by simp [risL]
  | x :: y :: r => by
    rw [risL_two, Bool.and_eq_true, risL_iff (y :: r), List.pairwise_cons (a := x)]
    unfold inLt
    rw [decide_eq_true_iff]
    constructor
    · rintro ⟨h1, h2⟩
      refine ⟨fun z hz => ?_, h2⟩
      rcases List.mem_cons.1 hz with rfl | hz
      · exact h1
      · have := (List.pairwise_cons.1 h2).1 z hz
        omega
    · rintro ⟨h1, h2⟩
      exact ⟨h1 y (by simp), h2⟩
/-- The numbers, sorted. -/
def sortI (zs : List Int) : List Int := zs.mergeSort fun x y => decide (x ≤ y)
theorem sortI_len (zs : List Int) : (sortI zs).length = zs.length := List.length_mergeSort zs
theorem sortI_perm (zs : List Int) : (sortI zs).Perm zs := List.mergeSort_perm zs _
theorem sortI_ord (zs : List Int) : (sortI zs).Pairwise (· ≤ ·) := by
  have h := List.pairwise_mergeSort (le := fun x y : Int => decide (x ≤ y)) (fun a b c h1 h2 => by simp at *; omega) (fun a b => by simp; omega) zs
  exact h.imp (fun h => by simpa using h)
theorem own_sorted (zs : List Int) : risL inLt (sortI zs) = ownV zs := by
  rw [Bool.eq_iff_iff, risL_iff, ownV_iff, ← (sortI_perm zs).nodup_iff]
  constructor
  · intro h
    exact h.imp (fun h => by omega)
  · intro h
    have := (sortI_ord zs).and h
    exact this.imp (fun h => by omega)
def ivP (z : Int) : Value := .int .i64 z
theorem ivP_oneCell (xs : List Int) : ∀ u ∈ xs.map ivP, u.oneCell' = true := by
  intro u hu
  obtain ⟨b, _, rfl⟩ := List.mem_map.1 hu
  rfl
theorem intInfoP : (Tryz.prog.info? 3).map (fun i => (i.zero, i.size, i.bytes)) = some (some (.int .i64 0), 1, 8) := by kernel_rfl
theorem infoP {i : Option TypeInfo} {z : Value} {n m : Nat} (h : i.map (fun i => (i.zero, i.size, i.bytes)) = some (some z, n, m)) : ∃ i0, i = some i0 ∧ i0.zero = some z ∧ i0.size = n ∧ i0.bytes = m := by
  obtain ⟨i0, hi, h⟩ := Option.map_eq_some_iff.1 h
  simp only [Prod.mk.injEq] at h
  exact ⟨i0, hi, h⟩
theorem srcI {w : World} (z : Int) {c : Nat} : Src Tryz.prog 1 34 (.slice (some ⟨w.heap.size, 0, none⟩) 1 c) 1 [ivP z] (w.alloc (.cells #[.int .i64 z] 3)) :=
  Src.ofSlice _ Tryz.underlying34 ⟨w.heap.size, 0, none⟩ 1 c [ivP z] rfl (fun j u hu => by
    rw [Go.WideShapes.add_plain, Nat.zero_add]
    match j, hu with
    | 0, hu => cases hu; exact (Blk.new w #[.int .i64 z] 3).cell 0) (ivP_oneCell [z])
theorem Rw.of_ownsP {w : World} {base : Nat} {e : TypeId} {sz b cap : Nat} (h : w.ownsRow base e sz (.slice (some ⟨b, 0, none⟩) 0 cap) 0 []) : Rw w sz (.slice (some ⟨b, 0, none⟩) 0 cap) 0 [] (some b) := by
  refine ⟨by simp, ?_⟩
  rcases h.2 with ⟨e1, _⟩ | ⟨g, cap', cur, e1, _, hg, h1, h2, h3, h4⟩
  · simp at e1
  · simp only [Value.slice.injEq, Option.some.injEq, Addr.mk.injEq, and_true, true_and] at e1
    obtain ⟨rfl, rfl⟩ := e1
    have hk : Blk w b cur e := hg
    exact .inr ⟨b, 0, cap, rfl, rfl, h1, h2, hk.lt, fun j u hu => by simp at hu, fun j hj => ⟨by rw [hk.cell, Nat.zero_add, Array.getElem?_eq_getElem (by omega)]; rfl, hk.frozen _⟩⟩
theorem below_grownP {B : Nat} {w w' : World} {g : Nat} (h : w.grownBy w' (some g)) (hg : B ≤ g) (hB : B ≤ w.heap.size) : Below B w w' := ⟨h.os, h.tape, h.output, h.size, fun k hk => h.block k (by omega) (fun e => by injection e with e; omega)⟩
theorem sortedI_below {B g o n : Nat} {d : Array Int} {os : Array Obj} {w : World} (hg : B ≤ g) (hB : B ≤ w.heap.size) : Below B w (grow (putRow (Value.int .i64) (Sort.ahead w n) g o d) os) := by
  refine ⟨rfl, rfl, rfl, by simp [grow, putRow, mapBlock, Sort.ahead], fun k hk => ?_⟩
  show ((w.heap.modify g _) ++ os)[k]? = _
  rw [Array.getElem?_append_left (by simpa using Nat.lt_of_lt_of_le hk hB), Array.getElem?_modify, if_neg (by omega)]
set_option maxHeartbeats 2000000 in
/-- slices.Sort of a row of numbers of one's own. -/
theorem psortI_any {w wr : World} {g o cap : Nat} {zs : List Int} (hb : Below w.heap.size w wr) (hg : w.heap.size ≤ g) (h : Rw wr 1 (.slice (some ⟨g, o, none⟩) zs.length cap) zs.length (zs.map ivP) (some g)) (hl : zs.length ≤ 1000000) :
    Calls Tryz.prog 66 #[.slice (some ⟨g, o, none⟩) zs.length cap] wr fun e w' => e = .returned (.tuple #[]) ∧ Below w.heap.size w w' ∧ RdE 1 IntAt w' (.slice (some ⟨g, o, none⟩) (sortI zs).length cap) (sortI zs) := by
  rcases h.2 with ⟨e, _⟩ | ⟨g', o', cap', e1, e2, h1, h2, h3, h4, h5⟩
  · cases e
  cases e1
  cases e2
  have hH : Holds (Value.int .i64) wr g o zs.toArray := fun j hj => by
    have hj' : j < zs.length := by simpa using hj
    refine ⟨?_, (h5 j (by omega)).2⟩
    rw [h4 j _ (by rw [List.getElem?_map, List.getElem?_eq_getElem hj']; rfl), getElem!_pos _ j hj]
    simp [ivP]
  refine (Tryz.slices_Sort_int g o cap zs wr hH h3 (by omega)).mono ?_
  rintro e w' ⟨he, n, os, rfl⟩
  refine ⟨he, hb.trans (sortedI_below hg hb.size), _, _, rfl, fun i hi => ⟨g, o, rfl, ?_, ?_⟩⟩
  · refine Nat.lt_of_lt_of_le h3 ?_
    simp [grow, putRow, mapBlock, Sort.ahead]
  · have hk := holds_grow (Value.int .i64) _ os g o (sortI zs).toArray (by simpa [putRow, mapBlock, Sort.ahead] using h3) (holds_putRow (Value.int .i64) _ g o zs.toArray (sortI zs).toArray (holds_ahead (Value.int .i64) wr n g o _ hH) (by simp [sortI_len]))
    have := (hk i (by simpa using hi)).1
    rw [getElem!_pos _ i (by simpa using hi)] at this
    show World.cell? _ ⟨g, o + i * 1, none⟩ = _
    rw [Nat.mul_one]
    rw [List.getElem_toArray] at this
    exact this
set_option maxRecDepth 20000 in
set_option maxHeartbeats 4000000 in
theorem pown_any {w : World} {v : Value} {l : List Bx} (hv : RdE 5 BxAt w v l) (hl : l.length ≤ 1000000) :
    Calls Tryz.prog 30 #[v] w fun e w' => e = .returned (.bool (ownV (l.map Bx.valid))) ∧ Below w.heap.size w w' := by
  have HX := hide hv
  obtain ⟨A, c, rfl⟩ := hv.form
  clear hv
  obtain ⟨i0, hi, hz0, hz1, hz2⟩ := infoP intInfoP
  have HO := hide (own_sorted (l.map Bx.valid))
  have HLen : Hid ((l.map Bx.valid).length = l.length) := List.length_map _
  obtain ⟨R, hR⟩ : ∃ R, Hid (R = ownV (l.map Bx.valid)) := ⟨_, hide rfl⟩
  rw [← hR.out] at HO ⊢
  go_enter Tryz.func30, Tryz.ntmps30
  go_wp2_with (at_make; refine wpList_make_own w rfl _ _ 34 rfl w.heap.size 3 i0 (.int .i64 0) 1 Tryz.underlying34 hi hz0 hz1 .i64 .i64 _ l.length rfl rfl (by omega) (by rw [hz2]; omega) (by simp only [maxLen]; omega) (Nat.le_refl _) ?_)
  intro w1 how1 hgr1
  have HB1 : Hid (Below w.heap.size w w1) := ⟨hgr1.os, hgr1.tape, hgr1.output, hgr1.size, fun k hk => hgr1.block k hk (by simp)⟩
  have HR1 := hide (Rw.of_ownsP how1)
  clear how1 hgr1
  go_wp2
  go_loopw [3, 5, 11] (fun v3 _ v11 wr => ∃ k : Nat, v11 = .int .i64 k ∧ k ≤ l.length ∧ Hid (Below w.heap.size w wr) ∧ ∃ g, w.heap.size ≤ g ∧ Hid (Rw wr 1 v3 k (((l.map Bx.valid).take k).map ivP) (some g))) (fun _ _ v11 _ => l.length - (intOf v11).toNat)
  case atStart => exact ⟨0, rfl, Nat.zero_le _, HB1.out, w.heap.size, Nat.le_refl _, HR1.out⟩
  case round =>
    obtain ⟨k, rfl, hk, HB, g, hgl, HR⟩ := hrel
    clear HB1 HR1
    by_cases hlt : k < l.length
    · have hlt' : (k : Int) < l.length := by omega
      obtain ⟨ga, oa, rfl, hgl2, q0, q1, q2, q3, mv, q4, qm⟩ := (HX.out.below stb_bx HB.out).at hlt
      have p0 : wr.cell? ⟨ga, oa + k * 5, none⟩ = some (.int .i64 l[k].user) := q0
      have p1 : wr.cell? ⟨ga, oa + k * 5 + 1, none⟩ = some (.string ⟨l[k].name.toArray⟩) := q1
      have p2 : wr.cell? ⟨ga, oa + k * 5 + 2, none⟩ = some (.int .i64 l[k].valid) := q2
      have p3 : wr.cell? ⟨ga, oa + k * 5 + 3, none⟩ = some (.int .i64 l[k].next) := q3
      have HN : Hid (((l.map Bx.valid).take (k + 1)).map ivP = ((l.map Bx.valid).take k).map ivP ++ [ivP l[k].valid]) := by
        show _ = _
        rw [List.take_succ_eq_append_getElem (by rw [List.length_map]; exact hlt), List.map_append]
        simp
      clear q0 q1 q2 q3
      generalize l[k] = x at *
      obtain ⟨xu, xn, xv, xx, xm⟩ := x
      obtain ⟨Am, cm, rfl⟩ := qm.form
      clear qm
      dsimp only at *
      generalize xm.length = lm at *
      generalize ((l.map Bx.valid).take k).map ivP = cs at *
      obtain ⟨A5, c5, rfl⟩ := HR.out.form
      have HBq := hide (HB.out.alloc HB.out.size (.cells #[.int .i64 xu, .string ⟨xn.toArray⟩, .int .i64 xv, .int .i64 xx, .slice Am lm cm] 45))
      have HRq := hide (HR.out.keep (S := fun _ => False) ((Mvs.refl (fun _ => False) wr).alloc (.cells #[.int .i64 xu, .string ⟨xn.toArray⟩, .int .i64 xv, .int .i64 xx, .slice Am lm cm] 45)) (fun _ _ c => c))
      have HSrc : Hid (Src Tryz.prog 1 34 (.slice (some ⟨wr.heap.size + 1, 0, none⟩) 1 1) 1 [ivP xv] ((wr.alloc (.cells #[.int .i64 xu, .string ⟨xn.toArray⟩, .int .i64 xv, .int .i64 xx, .slice Am lm cm] 45)).alloc (.cells #[.int .i64 xv] 3))) := by
        have := srcI (w := wr.alloc (.cells #[.int .i64 xu, .string ⟨xn.toArray⟩, .int .i64 xv, .int .i64 xx, .slice Am lm cm] 45)) xv (c := 1)
        rwa [World.size_alloc] at this
      go_wp2_with (at_builtin; (refine wpList_append_rw rfl _ _ 34 34 rfl 3 i0 (.int .i64 0) 1 8 Tryz.underlying34 hi hz0 hz1 hz2 rfl rfl (HRq.out.keep (S := fun _ => False) ((Mvs.refl _ _).alloc _) (fun _ _ c => c)) _ 1 _ rfl HSrc.out (by simp only [maxLen]; omega) (by omega) ?_))
      intro v6 w6 G6 hr6 hm6 hg6
      have HB6 : Hid (Below w.heap.size w w6) := below_mvs (HBq.out.alloc HBq.out.size _) hm6 (fun k hk e => by cases e; omega) (Nat.le_refl _)
      have HG6 : Hid (∃ g', G6 = some g' ∧ w.heap.size ≤ g') := by
        rcases hg6 with h | h
        · exact ⟨g, h, hgl⟩
        · exact ⟨_, h, by have := HBq.out.size; simp at this ⊢; omega⟩
      have HR6 := hide hr6
      clear hr6 hm6 hg6 HR HB HRq HBq
      go_wp2
      go_roundw
      case rel =>
        obtain ⟨g', rfl, hg'⟩ := HG6.out
        exact ⟨k + 1, by go_num, by omega, HB6.out, g', hg', by rw [HN.out]; exact HR6.out⟩
      case measure => simp [intOf] <;> omega
    · obtain rfl : k = l.length := by omega
      obtain ⟨D0, HD0⟩ : ∃ D0, Hid (D0 = l.map Bx.valid) := ⟨_, hide rfl⟩
      have hr := HR.out
      rw [List.take_of_length_le (by rw [List.length_map]; exact Nat.le_refl _), ← HD0.out] at hr
      have HL0 : Hid (D0.length = l.length) := by show _ = _; rw [HD0.out, HLen.out]
      rw [← HD0.out] at HO
      rcases id hr.2 with ⟨_, _, e⟩ | ⟨g', o, cap, e1, e2, _⟩
      · cases e
      cases e1
      subst e2
      have hso := psortI_any (w := w) (zs := D0) (g := g) (o := o) (cap := cap) (wr := wr) HB.out hgl (by rw [HL0.out]; exact hr) (by have := HL0.out; omega)
      rw [HL0.out, sortI_len, HL0.out] at hso
      have HSo := hide hso
      clear hr hso HR
      have eg : ∀ args w, (callFunc 68 args).run Tryz.prog w = .ok (.enter 68 args) w := enters_of Tryz.func68 (by kernel_rfl) rfl
      have HRs : Hid (∀ w2, RdE 1 IntAt w2 (.slice (some ⟨g, o, none⟩) l.length cap) (sortI D0) → Calls Tryz.prog 67 #[.slice (some ⟨g, o, none⟩) l.length cap, .func (.func 68) #[] #[]] w2 fun e w' => e = .returned (.bool R) ∧ Below w2.heap.size w2 w') := fun w2 h2 => by
        have := prisesint_any h2 (by rw [sortI_len, HL0.out]; exact hl) inLt ciV (fun x y => ciV_ge x y) 68 eg (fun x y u v W hu hv => by cases hu; cases hv; exact (cmpI_any x y W).mono fun e w' h => ⟨h.1, by rw [h.2]; exact Below.refl _ _⟩)
        rwa [HO.out] at this
      clear eg
      go_wp2_with (first
        | (go_at_call 66; refine HSo.out.mono ?_; rintro e w2 ⟨rfl, hb2, hr2⟩; replace hb2 := hide hb2; replace hr2 := hide hr2)
        | (go_at_call 67; refine (HRs.out _ hr2.out).mono ?_; rintro e w3 ⟨rfl, hb3⟩; replace hb3 := hide hb3))
      go_ret
      exact ⟨rfl, hb2.out.trans (hb3.out.mono hb2.out.size)⟩
end Go.Proofs.YtdbmaobjikjifaaGreatDoorR

end
