/- All mail that there is, as plain data, and what each act does to it (the document's chapter 15, row by row of its table). -/
/- How mail, and an act, lie in memory: what a slice reads as, each element as a relation says of the place where it lies. -/
/- A region that draws its order, inside a round of a range over a function: the plain orders serve; what the loads read is held until the first store comes up. -/
import Derived.Test.YtbfdbbpkpjgamaaGreatDoorU02
import Derived.Test.YtbfdbbpkpjgamaaGreatDoorU01
import Derived.Deep.RegionHeld3
import Derived.RangeFuncNested
import Derived.RangeFuncCalls
import Derived.OrdersIn
section
namespace Go.Proofs.YtbfdbbpkpjgamaaGreatDoor
structure Msg where
  uid : Int
  flags : Int
  date : Int
  body : List UInt8
structure Bx where
  user : Int
  name : List UInt8
  valid : Int
  next : Int
  msgs : List Msg
structure Sb where
  user : Int
  name : List UInt8
structure It where
  id : Int
  frm : List UInt8
  fr : List Int
  born : Int
  tries : Int
  due : Int
  body : List UInt8
structure Stt where
  boxes : List Bx
  subs : List Sb
  queue : List It
  nextValid : Int
  nextItem : Int
structure Ac where
  kind : Int
  user : Int
  n : Int
  how : Int
  flags : Int
  date : Int
  name : List UInt8
  dst : List UInt8
  frm : List UInt8
  body : List UInt8
  uids : List Int
  fr : List Int
/-- The state of nothing. -/
def stt0 : Stt := ⟨[], [], [], 0, 0⟩
def poIn (n a b : Int) : Bool := decide (a ≤ n) && decide (n ≤ b)
def poMom (t : Int) : Bool := poIn t 0 4102444799
/-- A box's place. -/
def poFind (l : List Bx) (u : Int) (n : List UInt8) : Option Nat := l.findIdx? fun b => decide (b.user = u) && decide (b.name = n)
def poUser (l : List Bx) (u : Int) : Bool := (poFind l u inboxU).isSome
def poBytes (b : Bx) : Nat := (b.msgs.map fun m => 44 + (encL m.body).length).sum
def poName (s : List UInt8) : Bool := decide (boxO s = some s)
def poMsgs (next : Int) : Int → List Msg → Bool
  | _, [] => true
  | last, m :: r => decide (last < m.uid) && decide (m.uid < next) && poIn m.flags 0 31 && poMom m.date && decide (m.body.length ≤ 100000) && poMsgs next m.uid r
def poBox (s : Stt) (b : Bx) : Bool :=
  poIn b.user 0 5 && poName b.name && decide (1 ≤ b.valid) && decide (b.valid < s.nextValid) && poIn b.next 1 2147483648 && poUser s.boxes b.user && decide (b.msgs.length ≤ 100) && poMsgs b.next 0 b.msgs && decide (poBytes b ≤ 200000)
/-- By user, then by name, byte by byte. -/
def poLt (u : Int) (n : List UInt8) (v : Int) (m : List UInt8) : Bool := decide (u < v) || (decide (u = v) && decide (n < m))
def poBoxes : List Bx → Bool
  | [] => true
  | b :: r => r.all (fun c => !decide (c.valid = b.valid)) && (match r with | [] => true | c :: _ => poLt b.user b.name c.user c.name) && poBoxes r
def poSubs (s : Stt) : List Sb → Bool
  | [] => true
  | x :: r => poName x.name && poUser s.boxes x.user && (match r with | [] => true | y :: _ => poLt x.user x.name y.user y.name) && poSubs s r
def poRise : List Int → Bool
  | [] => true
  | x :: r => (match r with | [] => true | y :: _ => decide (x < y)) && poRise r
def poItem (s : Stt) (q : It) : Bool :=
  decide (1 ≤ q.id) && decide (q.id < s.nextItem) && !q.fr.isEmpty && decide (q.frm.length ≤ 200) && poMom q.born && poMom q.due && poIn q.tries 0 5 && decide (q.body.length ≤ 100000) && q.fr.all (poUser s.boxes) && poRise q.fr
/-- A state in form. -/
def poForm (s : Stt) : Bool :=
  decide (s.boxes.length ≤ 24) && decide (s.subs.length ≤ 24) && decide (s.queue.length ≤ 24) && poIn s.nextValid 1 2147483648 && poIn s.nextItem 1 2147483648 &&
    s.boxes.all (poBox s) && poBoxes s.boxes && poSubs s s.subs && s.queue.all (poItem s) && poRise (s.queue.map It.id)
/-- A box put where it belongs. -/
def poIns (b : Bx) : List Bx → List Bx
  | [] => [b]
  | c :: r => if poLt c.user c.name b.user b.name then c :: poIns b r else b :: c :: r
/-- Messages put into a box; their numbers. -/
def poPut (b : Bx) : List Msg → Bx × List Int
  | [] => (b, [])
  | m :: r => ((poPut { b with next := b.next + 1, msgs := b.msgs ++ [{ m with uid := b.next }] } r).1, b.next :: (poPut { b with next := b.next + 1, msgs := b.msgs ++ [{ m with uid := b.next }] } r).2)
def poRoom (b : Bx) : Bool := decide (b.msgs.length ≤ 100) && decide (b.next ≤ 2147483648) && decide (poBytes b ≤ 200000)
/-- What an act answers: an error's number, or the state behind it, with the numbers and the number that it answers. -/
abbrev PoOut := Sum Nat (Stt × List Int × Int)
def poSet (s : Stt) (i : Nat) (b : Bx) : Stt := { s with boxes := s.boxes.set i b }
/-- Layer 14's Apply. -/
def poFlags (f how g : Int) : Int := if how = 0 then g else if how = 1 then ((f.toNat ||| g.toNat : Nat) : Int) else ((f.toNat &&& (31 - g.toNat) : Nat) : Int)
def poSubsAct (s : Stt) (un : Bool) (u : Int) (n : List UInt8) : PoOut :=
  let there := s.subs.any fun x => decide (x.user = u) && decide (x.name = n)
  if un then
    if there then .inr ({ s with subs := s.subs.filter fun x => !(decide (x.user = u) && decide (x.name = n)) }, [], 0) else .inl 5
  else if there then .inr (s, [], 0)
  else if 24 ≤ s.subs.length then .inl 11
  else .inr ({ s with subs := s.subs.filter (fun x => poLt x.user x.name u n) ++ ⟨u, n⟩ :: s.subs.filter (fun x => !poLt x.user x.name u n) }, [], 0)
def poMoved (u : Int) (frm dst : List UInt8) (b : Bx) : Option Bx := if b.user = u then (movO b.name frm dst).map fun n => { b with name := n } else none
def poRename (s : Stt) (u : Int) (frm dst : List UInt8) : PoOut :=
  let out := s.boxes.filter fun b => (poMoved u frm dst b).isNone
  let moved := s.boxes.filterMap (poMoved u frm dst)
  if moved.any fun b => decide (60 < b.name.length) then .inl 3
  else if moved.any fun b => out.any fun c => decide (c.user = u) && decide (c.name = b.name) then .inl 6
  else .inr ({ s with boxes := moved.foldl (fun l b => poIns b l) out }, [], 0)
def poBoxAct (s : Stt) (a : Ac) (n dst : List UInt8) (i : Nat) (b : Bx) : PoOut :=
  if a.kind = 2 then .inr ({ s with boxes := s.boxes.eraseIdx i }, [], 0)
  else if a.kind = 3 then poRename s a.user n dst
  else if a.kind = 6 then
    if !(poIn a.flags 0 31 && poMom a.date) then .inl 1
    else if 100000 < a.body.length then .inl 3
    else
      let r := poPut b [⟨0, a.flags, a.date, a.body⟩]
      if poRoom r.1 then .inr (poSet s i r.1, r.2, 0) else .inl 11
  else if a.kind = 7 then
    match poFind s.boxes a.user dst with
    | none => .inl 5
    | some k => match s.boxes[k]? with
      | none => .inl 5
      | some c =>
        let r := poPut c (b.msgs.filter fun m => a.uids.contains m.uid)
        if poRoom r.1 then .inr (poSet s k r.1, r.2, 0) else .inl 11
  else if a.kind = 8 then
    if !(poIn a.how 0 2 && poIn a.flags 0 31) then .inl 1
    else .inr (poSet s i { b with msgs := b.msgs.map fun m => if a.uids.contains m.uid then { m with flags := poFlags m.flags a.how a.flags } else m }, (b.msgs.filter fun m => a.uids.contains m.uid).map Msg.uid, 0)
  else .inr (poSet s i { b with msgs := b.msgs.filter fun m => !m.flags.toNat.testBit 3 }, (b.msgs.filter fun m => m.flags.toNat.testBit 3).map Msg.uid, 0)
def poQueue (s : Stt) (a : Ac) : PoOut :=
  let users := ([0, 1, 2, 3, 4, 5] : List Int).filter fun u => a.fr.contains u
  if !poMom a.date then .inl 1
  else if 200 < a.frm.length then .inl 4
  else if !(!a.fr.isEmpty && a.fr.all (poUser s.boxes)) then .inl 13
  else if 100000 < a.body.length then .inl 3
  else if 24 ≤ s.queue.length ∨ 2147483648 ≤ s.nextItem then .inl 11
  else .inr ({ s with queue := s.queue ++ [⟨s.nextItem, a.frm, users, a.date, 0, a.date, a.body⟩], nextItem := s.nextItem + 1 }, [], s.nextItem)
def poItemAct (s : Stt) (a : Ac) (i : Nat) (q : It) : PoOut :=
  if a.kind = 11 ∧ q.fr.contains a.user = false then .inl 5
  else if !poMom a.date then .inl 1
  else if a.kind = 11 then
    match poFind s.boxes a.user inboxU with
    | none => .inl 13
    | some k => match s.boxes[k]? with
      | none => .inl 13
      | some b =>
        let r := poPut b [⟨0, 0, a.date, q.body⟩]
        if !poRoom r.1 then .inl 11
        else
          let left := q.fr.filter fun u => !decide (u = a.user)
          .inr ({ poSet s k r.1 with queue := if left.isEmpty then s.queue.eraseIdx i else s.queue.set i { q with fr := left } }, r.2, 0)
  else if a.kind = 12 then
    if 5 ≤ q.tries then .inl 1 else .inr ({ s with queue := s.queue.set i { q with tries := q.tries + 1, due := a.date } }, [], 0)
  else
    if 0 ≤ a.user ∧ poUser s.boxes a.user = false then .inl 13
    else if 100000 < a.body.length then .inl 3
    else if 0 ≤ a.user ∧ 2147483648 ≤ s.nextItem then .inl 11
    else if 0 ≤ a.user then .inr ({ s with queue := s.queue.eraseIdx i ++ [⟨s.nextItem, [], [a.user], a.date, 0, a.date, a.body⟩], nextItem := s.nextItem + 1 }, [], s.nextItem)
    else .inr ({ s with queue := s.queue.eraseIdx i }, [], 0)
/-- An act's row, of a state in form. -/
def poAct (s : Stt) (a : Ac) : PoOut :=
  if a.kind = 10 then poQueue s a
  else if 11 ≤ a.kind then
    match s.queue.findIdx? fun q => decide (q.id = a.n) with
    | none => .inl 5
    | some i => match s.queue[i]? with
      | none => .inl 5
      | some q => poItemAct s a i q
  else if !poUser s.boxes a.user then .inl 13
  else
    match boxO a.name with
    | none => .inl 4
    | some n =>
      let two := decide (a.kind = 3) || decide (a.kind = 7)
      if (two && (boxO a.dst).isNone) || ((decide (a.kind = 2) || decide (a.kind = 3)) && decide (n = inboxU)) || (decide (a.kind = 3) && decide (boxO a.dst = some inboxU)) then .inl 4
      else
        let dst := (boxO a.dst).getD []
        if a.kind = 1 then
          if (poFind s.boxes a.user n).isSome then .inl 6
          else if 24 ≤ s.boxes.length ∨ 2147483648 ≤ s.nextValid then .inl 11
          else .inr ({ s with boxes := poIns ⟨a.user, n, s.nextValid, 1, []⟩ s.boxes, nextValid := s.nextValid + 1 }, [], 0)
        else if a.kind = 4 ∨ a.kind = 5 then poSubsAct s (decide (a.kind = 5)) a.user n
        else match poFind s.boxes a.user n with
          | none => .inl 5
          | some i => if a.kind = 7 ∧ (poFind s.boxes a.user dst).isNone = true then .inl 5 else match s.boxes[i]? with
            | none => .inl 5
            | some b => poBoxAct s a n dst i b
def poStep (s : Stt) (a : Ac) : PoOut := if !poForm s || !poIn a.kind 1 13 then .inl 2 else poAct s a
/-- New. -/
def poNew (users : Nat) : Stt := ⟨(List.range users).map fun (u : Nat) => ⟨(u : Int), inboxU, (u : Int) + 1, 1, []⟩, [], [], (users : Int) + 1, 1⟩
end Go.Proofs.YtbfdbbpkpjgamaaGreatDoor

end
section
set_option linter.unusedVariables false
namespace Go.Proofs.YtbfdbbpkpjgamaaGreatDoor
open Go.RowKit
section
variable {α : Type}
/-- A slice that reads as these: element i lies at its place as E says. -/
def RdE (sz : Nat) (E : World → Nat → Nat → α → Prop) (w : World) (v : Value) (xs : List α) : Prop :=
  ∃ A cap, v = .slice A xs.length cap ∧ ∀ i (hi : i < xs.length), ∃ g o, A = some ⟨g, o, none⟩ ∧ g < w.heap.size ∧ E w g (o + i * sz) xs[i]
/-- What E says of old memory stands. -/
def Stb (E : World → Nat → Nat → α → Prop) : Prop := ∀ (w w' : World) (g o : Nat) (x : α), g < w.heap.size → Below w.heap.size w w' → E w g o x → E w' g o x
variable {sz : Nat} {E : World → Nat → Nat → α → Prop} {w w' : World} {v : Value} {xs : List α}
theorem RdE.below (hE : Stb E) (h : RdE sz E w v xs) (hb : Below w.heap.size w w') : RdE sz E w' v xs := by
  obtain ⟨A, c, rfl, h⟩ := h
  refine ⟨A, c, rfl, fun i hi => ?_⟩
  obtain ⟨g, o, e, hg, h1⟩ := h i hi
  exact ⟨g, o, e, Nat.lt_of_lt_of_le hg hb.size, hE w w' g _ _ hg hb h1⟩
theorem RdE.form (h : RdE sz E w v xs) : ∃ A c, v = .slice A xs.length c := by
  obtain ⟨A, c, e, _⟩ := h
  exact ⟨A, c, e⟩
theorem RdE.at {A : Option Addr} {c : Nat} (h : RdE sz E w (.slice A xs.length c) xs) {i : Nat} (hi : i < xs.length) : ∃ g o, A = some ⟨g, o, none⟩ ∧ g < w.heap.size ∧ E w g (o + i * sz) xs[i] := by
  obtain ⟨A', c', e, h⟩ := h
  cases e
  exact h i hi
theorem RdE.nil (w : World) (c : Nat) (A : Option Addr) : RdE sz E w (.slice A 0 c) [] := ⟨A, c, rfl, fun i hi => by simp at hi⟩
/-- The first k. -/
theorem RdE.take {A : Option Addr} {c : Nat} (h : RdE sz E w (.slice A xs.length c) xs) (k : Nat) (hk : k ≤ xs.length) (c' : Nat) : RdE sz E w (.slice A k c') (xs.take k) := by
  refine ⟨A, c', by rw [List.length_take, Nat.min_eq_left hk], fun i hi => ?_⟩
  rw [List.length_take] at hi
  obtain ⟨g, o, e, hg, h1⟩ := h.at (i := i) (by omega)
  exact ⟨g, o, e, hg, by rw [List.getElem_take]; exact h1⟩
end
section
variable {w w' : World} {v : Value}
theorem cell_belowP {g o : Nat} {u : Value} (hb : Below w.heap.size w w') (hg : g < w.heap.size) (h : w.cell? ⟨g, o, none⟩ = some u) : w'.cell? ⟨g, o, none⟩ = some u := (hb.cell (p := ⟨g, o, none⟩) hg).trans h
def IntAt (w : World) (g o : Nat) (x : Int) : Prop := w.cell? ⟨g, o, none⟩ = some (.int .i64 x)
def StrAt (w : World) (g o : Nat) (x : List UInt8) : Prop := w.cell? ⟨g, o, none⟩ = some (.string ⟨x.toArray⟩)
def MsgAt (w : World) (g o : Nat) (m : Msg) : Prop := IntAt w g o m.uid ∧ IntAt w g (o + 1) m.flags ∧ IntAt w g (o + 2) m.date ∧ StrAt w g (o + 3) m.body
def SbAt (w : World) (g o : Nat) (x : Sb) : Prop := IntAt w g o x.user ∧ StrAt w g (o + 1) x.name
def BxAt (w : World) (g o : Nat) (b : Bx) : Prop := IntAt w g o b.user ∧ StrAt w g (o + 1) b.name ∧ IntAt w g (o + 2) b.valid ∧ IntAt w g (o + 3) b.next ∧ ∃ v, w.cell? ⟨g, o + 4, none⟩ = some v ∧ RdE 4 MsgAt w v b.msgs
def ItAt (w : World) (g o : Nat) (q : It) : Prop := IntAt w g o q.id ∧ StrAt w g (o + 1) q.frm ∧ (∃ v, w.cell? ⟨g, o + 2, none⟩ = some v ∧ RdE 1 IntAt w v q.fr) ∧ IntAt w g (o + 3) q.born ∧ IntAt w g (o + 4) q.tries ∧ IntAt w g (o + 5) q.due ∧ StrAt w g (o + 6) q.body
theorem stb_int : Stb IntAt := fun w w' g o x hg hb h => cell_belowP hb hg h
theorem stb_str : Stb StrAt := fun w w' g o x hg hb h => cell_belowP hb hg h
theorem stb_msg : Stb MsgAt := fun w w' g o x hg hb ⟨h0, h1, h2, h3⟩ => ⟨cell_belowP hb hg h0, cell_belowP hb hg h1, cell_belowP hb hg h2, cell_belowP hb hg h3⟩
theorem stb_sb : Stb SbAt := fun w w' g o x hg hb ⟨h0, h1⟩ => ⟨cell_belowP hb hg h0, cell_belowP hb hg h1⟩
theorem stb_bx : Stb BxAt := fun w w' g o x hg hb ⟨h0, h1, h2, h3, v, h4, h5⟩ => ⟨cell_belowP hb hg h0, cell_belowP hb hg h1, cell_belowP hb hg h2, cell_belowP hb hg h3, v, cell_belowP hb hg h4, h5.below stb_msg hb⟩
theorem stb_it : Stb ItAt := fun w w' g o x hg hb ⟨h0, h1, ⟨v, h2, h2'⟩, h3, h4, h5, h6⟩ => ⟨cell_belowP hb hg h0, cell_belowP hb hg h1, ⟨v, cell_belowP hb hg h2, h2'.below stb_int hb⟩, cell_belowP hb hg h3, cell_belowP hb hg h4, cell_belowP hb hg h5, cell_belowP hb hg h6⟩
/-- A state. -/
def StR (w : World) (v : Value) (s : Stt) : Prop := ∃ bv sv qv, v = .agg #[bv, sv, qv, .int .i64 s.nextValid, .int .i64 s.nextItem] ∧ RdE 5 BxAt w bv s.boxes ∧ RdE 2 SbAt w sv s.subs ∧ RdE 7 ItAt w qv s.queue
theorem StR.below {s : Stt} (h : StR w v s) (hb : Below w.heap.size w w') : StR w' v s := by
  obtain ⟨bv, sv, qv, e, h1, h2, h3⟩ := h
  exact ⟨bv, sv, qv, e, h1.below stb_bx hb, h2.below stb_sb hb, h3.below stb_it hb⟩
theorem StR.zero (w : World) : StR w (.agg #[.slice none 0 0, .slice none 0 0, .slice none 0 0, .int .i64 0, .int .i64 0]) stt0 := ⟨_, _, _, rfl, RdE.nil _ _ _, RdE.nil _ _ _, RdE.nil _ _ _⟩
/-- An act. -/
def AcR (w : World) (v : Value) (a : Ac) : Prop := ∃ uv fv, v = .agg #[.int .i64 a.kind, .int .i64 a.user, .int .i64 a.n, .int .i64 a.how, .int .i64 a.flags, .int .i64 a.date, .string ⟨a.name.toArray⟩, .string ⟨a.dst.toArray⟩, .string ⟨a.frm.toArray⟩, .string ⟨a.body.toArray⟩, uv, fv] ∧ RdE 1 IntAt w uv a.uids ∧ RdE 1 IntAt w fv a.fr
theorem AcR.below {a : Ac} (h : AcR w v a) (hb : Below w.heap.size w w') : AcR w' v a := by
  obtain ⟨uv, fv, e, h1, h2⟩ := h
  exact ⟨uv, fv, e, h1.below stb_int hb, h2.below stb_int hb⟩
end
end Go.Proofs.YtbfdbbpkpjgamaaGreatDoor

end
section
namespace Go.Proofs.YtbfdbbpkpjgamaaGreatDoor
open Go.RowKit
section
variable {P : Program} {md : Region.Mode} {ops : Array Oper} {Q : Exit → Act → World → Prop} {c : Nat} {T : World → Prop}
/-- All orders; behind each operation ahead of number c the worlds keep to T. -/
def anyL (P : Program) (md : Region.Mode) (ops : Array Oper) (Q : Exit → Act → World → Prop) (c : Nat) (T : World → Prop) : Nat → Array Bool → Act → World → Prop
  | 0, L, a, w => Region.ready md ops L = [] ∧ Q .normal a w
  | f + 1, L, a, w => (Region.ready md ops L = [] → Q .normal a w) ∧ ∀ i ∈ Region.ready md ops L, wpOp P ops Q i (fun a' w' => ((L.setIfInBounds i true).getD c true = false → T w') ∧ anyL P md ops Q c T f (L.setIfInBounds i true) a' w') a w
theorem any_of_L : ∀ (f : Nat) (L : Array Bool) (a : Act) (w : World), anyL P md ops Q c T f L a w → wpAny P md ops Q f L a w
  | 0, _, _, _, h => h
  | f + 1, _, _, _, h => ⟨h.1, fun i hi => wpOp_mono (fun a' w' h' => any_of_L f _ a' w' h'.2) (h.2 i hi)⟩
/-- Number c waits for number i. -/
def waits (md : Region.Mode) (ops : Array Oper) (c i : Nat) : Bool := match ops[c]? with
  | some o => o.after.any (fun e => Region.binds md e && e.on == i)
  | none => false
theorem takeL_all {i : Nat} {oi : Oper} {v : Value} (hi : ops[i]? = some oi) (hsel : ∀ (j : Nat) (o : Oper) cs b, ops[j]? = some o → o.op ≠ .select cs b)
    (hQ : ∀ ch a w, Q (.panic ch) (a.put oi.dst v) w → Q (.panic ch) a w) (hw : waits md ops c i = true) :
    ∀ (f : Nat) (L : Array Bool) (a : Act) (w : World), L.getD c true = false →
      (∀ j oj, ops[j]? = some oj → j ≠ i → L.getD j true = false → (∀ e ∈ oj.after, Region.binds md e = true → e.on ≠ i) → oi.apart ops oj = true) →
      i ∈ Region.ready md ops L → YieldsIf P ops T oi v a → T w →
      anyL P md ops Q c T f (L.setIfInBounds i true) (a.put oi.dst v) w → anyL P md ops Q c T (f + 1) L a w := by
  -- while i has not come up, what comes up is not c
  have hnc : ∀ (L : Array Bool) j, i ∈ Region.ready md ops L → j ∈ Region.ready md ops L → j ≠ c ∧ ∀ oj, ops[j]? = some oj → ∀ e ∈ oj.after, Region.binds md e = true → e.on ≠ i := by
    intro L j hr hj
    obtain ⟨_, oj, hoj, hall⟩ := mem_ready.1 hj
    have hno : ∀ e ∈ oj.after, Region.binds md e = true → e.on ≠ i := fun e he hb heq => by
      have h1 := hall e he hb
      have h0 := (mem_ready.1 hr).1
      rw [heq] at h1
      rcases Nat.lt_or_ge i L.size with h' | h'
      · simp [h'] at h0 h1
        rw [h0] at h1
        cases h1
      · simp [Array.getElem?_eq_none h'] at h1
    refine ⟨?_, fun oj' h => by rw [hoj] at h; cases h; exact hno⟩
    rintro rfl
    unfold waits at hw
    rw [hoj] at hw
    obtain ⟨e, he, h2⟩ := Array.any_eq_true'.1 hw
    simp only [Bool.and_eq_true, beq_iff_eq] at h2
    exact hno e he h2.1 h2.2
  have hset : ∀ (L : Array Bool) j, j ≠ c → (L.setIfInBounds j true).getD c true = L.getD c true := fun L j h => getD_set_ne true h
  intro f
  induction f with
  | zero =>
    intro L a w _ _ hr hy hT H
    refine ⟨fun h => (by rw [h] at hr; cases hr), fun j hj => ?_⟩
    by_cases hji : j = i
    · subst hji
      exact hy.wpOp hi hT ⟨fun _ => hT, H⟩
    · have := ready_mono hj hji
      rw [H.1] at this
      cases this
  | succ f ih =>
    intro L a w hc hfree hr hy hT H
    refine ⟨fun h => (by rw [h] at hr; cases hr), fun j hj => ?_⟩
    by_cases hji : j = i
    · subst hji
      exact hy.wpOp hi hT ⟨fun _ => hT, H⟩
    · obtain ⟨hjun, oj, hoj, _⟩ := mem_ready.1 hj
      obtain ⟨hjc, hno⟩ := hnc L j hr hj
      obtain ⟨hic, _⟩ := hnc L i hr hr
      have h2 := wpOp_putIf hoj (hfree j oj hoj hji hjun (hno oj hoj)) (fun cs b => hsel i oi cs b hi) (fun cs b => hsel j oj cs b hoj) hQ hy (H.2 j (ready_mono hj hji))
      have hc1 : (L.setIfInBounds j true).getD c true = false := (hset L j hjc).trans hc
      refine wpOp_mono (fun a' w' h3 => ?_) h2
      have hT' : T w' := h3.2.1 (by rw [hset _ j hjc, hset _ i hic]; exact hc)
      refine ⟨fun _ => hT', ih (L.setIfInBounds j true) a' w' hc1 (fun k ok hk hki hun hno => ?_) (ready_mono hr (Ne.symm hji)) h3.1 hT' ?_⟩
      · refine hfree k ok hk hki ?_ hno
        by_cases hjk : j = k
        · subst hjk
          exact hjun
        · rw [getD_set_ne true hjk] at hun
          exact hun
      · rw [Array.setIfInBounds_comm _ _ hji]
        exact h3.2.2
/-- What yields in whatever world is taken first, whenever it comes up. -/
theorem takeW_all {i : Nat} {oi : Oper} {v : Value} (hi : ops[i]? = some oi) (hsel : ∀ (j : Nat) (o : Oper) cs b, ops[j]? = some o → o.op ≠ .select cs b)
    (hQ : ∀ ch a w, Q (.panic ch) (a.put oi.dst v) w → Q (.panic ch) a w) (hic : i ≠ c) :
    ∀ (f : Nat) (L : Array Bool) (a : Act) (w : World), (L.getD c true = false → T w) →
      (∀ j oj, ops[j]? = some oj → j ≠ i → L.getD j true = false → (∀ e ∈ oj.after, Region.binds md e = true → e.on ≠ i) → oi.apart ops oj = true) →
      i ∈ Region.ready md ops L → YieldsIf P ops (fun _ => True) oi v a →
      anyL P md ops Q c T f (L.setIfInBounds i true) (a.put oi.dst v) w → anyL P md ops Q c T (f + 1) L a w := by
  have hset : ∀ (L : Array Bool), (L.setIfInBounds i true).getD c true = L.getD c true := fun L => getD_set_ne true hic
  intro f
  induction f with
  | zero =>
    intro L a w hT _ hr hy H
    refine ⟨fun h => (by rw [h] at hr; cases hr), fun j hj => ?_⟩
    by_cases hji : j = i
    · subst hji
      exact hy.wpOp hi trivial ⟨fun h => hT ((hset L).symm.trans h), H⟩
    · have := ready_mono hj hji
      rw [H.1] at this
      cases this
  | succ f ih =>
    intro L a w hT hfree hr hy H
    refine ⟨fun h => (by rw [h] at hr; cases hr), fun j hj => ?_⟩
    by_cases hji : j = i
    · subst hji
      exact hy.wpOp hi trivial ⟨fun h => hT ((hset L).symm.trans h), H⟩
    · obtain ⟨hjun, oj, hoj, hall⟩ := mem_ready.1 hj
      have hno : ∀ e ∈ oj.after, Region.binds md e = true → e.on ≠ i := fun e he hb heq => by
        have h1 := hall e he hb
        have h0 := (mem_ready.1 hr).1
        rw [heq] at h1
        rcases Nat.lt_or_ge i L.size with h' | h'
        · simp [h'] at h0 h1
          rw [h0] at h1
          cases h1
        · simp [Array.getElem?_eq_none h'] at h1
      have h2 := wpOp_putIf hoj (hfree j oj hoj hji hjun hno) (fun cs b => hsel i oi cs b hi) (fun cs b => hsel j oj cs b hoj) hQ hy (H.2 j (ready_mono hj hji))
      refine wpOp_mono (fun a' w' h3 => ?_) h2
      have hT' : (L.setIfInBounds j true).getD c true = false → T w' := fun h => h3.2.1 (by rw [Array.setIfInBounds_comm _ _ (Ne.symm hji), hset]; exact h)
      refine ⟨hT', ih (L.setIfInBounds j true) a' w' hT' (fun k ok hk hki hun hno => ?_) (ready_mono hr (Ne.symm hji)) h3.1 ?_⟩
      · refine hfree k ok hk hki ?_ hno
        by_cases hjk : j = k
        · subst hjk
          exact hjun
        · rw [getD_set_ne true hjk] at hun
          exact hun
      · rw [Array.setIfInBounds_comm _ _ hji]
        exact h3.2.2
theorem takeL {i : Nat} {oi : Oper} {v : Value} {f : Nat} {L : Array Bool} {a : Act} {w : World} (hi : ops[i]? = some oi) (hs : Region.noSelect ops = true) (hf : Region.free md ops L i = true) (hr : (Region.ready md ops L).contains i = true)
    (hw : waits md ops c i = true) (hc : L.getD c true = false) (hQ : ∀ ch a w, Q (.panic ch) (a.put oi.dst v) w → Q (.panic ch) a w) (hT : T w) (hy : YieldsIf P ops T oi v a)
    (h : anyL P md ops Q c T f (L.setIfInBounds i true) (a.put oi.dst v) w) : anyL P md ops Q c T (f + 1) L a w :=
  takeL_all hi (Region.noSelect_spec hs) hQ hw f L a w hc (Region.free_spec hi hf) (by simpa using hr) hy hT h
theorem takeW {i : Nat} {oi : Oper} {v : Value} {f : Nat} {L : Array Bool} {a : Act} {w : World} (hi : ops[i]? = some oi) (hs : Region.noSelect ops = true) (hf : Region.free md ops L i = true) (hr : (Region.ready md ops L).contains i = true)
    (hic : (i == c) = false) (hQ : ∀ ch a w, Q (.panic ch) (a.put oi.dst v) w → Q (.panic ch) a w) (hT : L.getD c true = false → T w) (hy : YieldsIf P ops (fun _ => True) oi v a)
    (h : anyL P md ops Q c T f (L.setIfInBounds i true) (a.put oi.dst v) w) : anyL P md ops Q c T (f + 1) L a w :=
  takeW_all hi (Region.noSelect_spec hs) hQ (by simpa using hic) f L a w hT (Region.free_spec hi hf) (by simpa using hr) hy h
def AllL (P : Program) (md : Region.Mode) (ops : Array Oper) (Q : Exit → Act → World → Prop) (c : Nat) (T : World → Prop) (f : Nat) (L : Array Bool) (a : Act) (w : World) (rs : List Nat) : Prop :=
  ∀ i ∈ rs, wpOp P ops Q i (fun a' w' => ((L.setIfInBounds i true).getD c true = false → T w') ∧ anyL P md ops Q c T f (L.setIfInBounds i true) a' w') a w
theorem AllL.nil {f : Nat} {L : Array Bool} {a : Act} {w : World} : AllL P md ops Q c T f L a w [] := fun _ h => by cases h
theorem AllL.cons {f : Nat} {L : Array Bool} {a : Act} {w : World} {i : Nat} {o : Oper} {rs : List Nat} (ho : ops[i]? = some o)
    (h : ∀ K' : Act → World → Prop, Hid (∀ a w, ((L.setIfInBounds i true).getD c true = false → T w) → (((L.setIfInBounds i true).getD c true = false → T w) → anyL P md ops Q c T f (L.setIfInBounds i true) a w) → K' a w) → if Region.wanted o (yielded ops a.tmps) = true then Oper.wp P o a w K' Q else K' (a.put o.dst undef) w)
    (hs : AllL P md ops Q c T f L a w rs) : AllL P md ops Q c T f L a w (i :: rs) := fun j hj => by
  rcases List.mem_cons.1 hj with rfl | hj
  · exact wpOp_step ho (fun K' hK => h K' (fun a w hT hW => hK a w ⟨hT, hW hT⟩))
  · exact hs j hj
theorem readyL {rs : List Nat} {f : Nat} {L : Array Bool} {a : Act} {w : World} (hr : Region.ready md ops L = rs) (hne : rs ≠ []) (h : AllL P md ops Q c T f L a w rs) : anyL P md ops Q c T (f + 1) L a w :=
  ⟨fun h0 => absurd (hr ▸ h0) hne, hr ▸ h⟩
theorem doneL {L : Array Bool} {a : Act} {w : World} (hr : Region.ready md ops L = []) (h : Q .normal a w) : ∀ f, anyL P md ops Q c T f L a w
  | 0 => ⟨hr, h⟩
  | _ + 1 => ⟨fun _ => h, by rw [hr]; simp⟩
theorem regionL (c : Nat) (T : World → Prop) {id : Nat} {a : Act} {w : World} (hm : P.follows .mixedOrders = true) (h : anyL P .any ops Q c T ops.size (Array.replicate ops.size false) a w.drew) : (Code.region id ops true).wp P Q a w :=
  wp_region_any hm (any_of_L _ _ _ _ h)
end
section
variable {P : Program} {ops : Array Oper} {Q : Exit → Act → World → Prop}
def noDefer (ops : Array Oper) : Bool := ops.all fun o => match o.op with
  | .defer _ => false
  | _ => true
theorem noDefer_spec (h : noDefer ops = true) {i : Nat} {o : Oper} (ho : ops[i]? = some o) : ∀ c, o.op ≠ .defer c := by
  intro c hc
  unfold noDefer at h
  have := Array.all_eq_true'.1 h o (Array.mem_of_getElem? ho)
  rw [hc] at this
  cases this
theorem opsIn_of_ops (hd : noDefer ops = true) (l n : Nat) (hQ : ¬ LetsOut Q) : ∀ (s : List Nat) (a : Act) (w : World), wpOps P ops Q s a w → wpOpsIn (Fence.wide.inRound l) n P ops Q s a w
  | [], _, _, h => h
  | i :: s, a, w, h => by
    have ih := opsIn_of_ops hd l n hQ s
    rw [wpOps] at h
    rw [wpOpsIn]
    cases ho : ops[i]? with
    | none =>
      rw [ho] at h
      exact ih a w h
    | some o =>
      rw [ho] at h
      simp only at h ⊢
      by_cases hw : Region.wanted o (yielded ops a.tmps) = true
      · rw [if_pos hw] at h ⊢
        replace h := h.resolve_right (fun h => hQ h.2)
        refine ⟨fun _ _ => trivial, ?_⟩
        rw [show (Fence.wide.inRound l).round = some l from rfl, Oper.semAt_some l _ o (noDefer_spec hd ho)]
        unfold Oper.wp at h
        generalize (execOp a.eval o).run P w = r at h ⊢
        cases r with
        | ok x w' =>
          cases x with
          | value v => exact ih _ _ h
          | skip => exact ih _ _ h
          | defer d => exact ih _ _ h
          | enter f args =>
            refine ⟨fun h => (by cases h), CallsIn.inRound l (callsIn_wide.2 (Calls.mono h fun e w'' he => ?_))⟩
            cases e with
            | returned v => exact ih _ _ he
            | panicked ch => exact he
            | outgrown => exact he
          | row row args => exact ⟨fun h => (by cases h), fun c cs _ => let ⟨v, w2, hq, hs⟩ := h c cs; ⟨v, w2, ih _ _ hq, stepsIn_wide.2 hs⟩⟩
          | _ => exact h.elim
        | halt x w' =>
          cases x with
          | panic v => exact h
          | _ => exact h.elim
      · rw [if_neg hw] at h ⊢
        exact ⟨fun _ _ => trivial, ih _ _ h⟩
/-- A region in a round, by its orders outside of one. -/
theorem regionI (c : Nat) (T : World → Prop) {l n id : Nat} {a : Act} {w : World} (hm : P.follows .mixedOrders = true) (hd : noDefer ops = true)
    (h : anyL P .any ops (fun e a w => e = .normal ∧ Q .normal a w) c T ops.size (Array.replicate ops.size false) a w.drew) : (Code.region id ops true).wpIn (Fence.wide.inRound l) n P Q a w := by
  refine Go.wpIn_mono (Q := fun e a w => e = .normal ∧ Q .normal a w) (wpIn_region_draw fun t => ?_) (fun e a w hq => by obtain ⟨rfl, hq⟩ := hq; exact hq)
  refine opsIn_of_ops hd l n (fun ⟨_, _, hq⟩ => by cases hq.1) _ _ _ ?_
  simp only [Region.schedule, hm, Bool.true_or, if_true]
  exact wpAny_sound ops.size t _ a _ (any_of_L _ _ _ _ h)
end
end Go.Proofs.YtbfdbbpkpjgamaaGreatDoor

end
