/- All mail that there is, as plain data, and what each act does to it (the document's chapter 15, row by row of its table). -/
/- The law of copies: its plain data. -/
/- Blocks of cells that a world holds, of whatever program. -/
import Derived.Test.YtdbmaobjikjifaaGreatDoorRU01
import Derived.WalkKit
import Derived.WalkLawsBesides
section
namespace Go.Proofs.YtdbmaobjikjifaaGreatDoorR
structure Msg where
  uid : Int
  flags : Int
  date : Int
  body : List UInt8
structure Bx where
  user : Int
  name : List UInt8
  valid : Int
  next : Int
  msgs : List Msg
structure Sb where
  user : Int
  name : List UInt8
structure It where
  id : Int
  frm : List UInt8
  fr : List Int
  born : Int
  tries : Int
  due : Int
  body : List UInt8
structure Stt where
  boxes : List Bx
  subs : List Sb
  queue : List It
  nextValid : Int
  nextItem : Int
structure Ac where
  kind : Int
  user : Int
  n : Int
  how : Int
  flags : Int
  date : Int
  name : List UInt8
  dst : List UInt8
  frm : List UInt8
  body : List UInt8
  uids : List Int
  fr : List Int
/-- The state of nothing. -/
def stt0 : Stt := ⟨[], [], [], 0, 0⟩
def poIn (n a b : Int) : Bool := decide (a ≤ n) && decide (n ≤ b)
def poMom (t : Int) : Bool := poIn t 0 4102444799
/-- A box's place. -/
def poFind (l : List Bx) (u : Int) (n : List UInt8) : Option Nat := l.findIdx? fun b => decide (b.user = u) && decide (b.name = n)
def poUser (l : List Bx) (u : Int) : Bool := (poFind l u inboxU).isSome
def poBytes (b : Bx) : Nat := (b.msgs.map fun m => 44 + (encL m.body).length).sum
def poName (s : List UInt8) : Bool := decide (boxO s = some s)
def poMsgs (next : Int) : Int → List Msg → Bool
  | _, [] => true
  | last, m :: r => decide (last < m.uid) && decide (m.uid < next) && poIn m.flags 0 31 && poMom m.date && decide (m.body.length ≤ 100000) && poMsgs next m.uid r
def poBox (s : Stt) (b : Bx) : Bool :=
  poIn b.user 0 5 && poName b.name && decide (1 ≤ b.valid) && decide (b.valid < s.nextValid) && poIn b.next 1 2147483648 && poUser s.boxes b.user && decide (b.msgs.length ≤ 100) && poMsgs b.next 0 b.msgs && decide (poBytes b ≤ 200000)
/-- By user, then by name, byte by byte. -/
def poLt (u : Int) (n : List UInt8) (v : Int) (m : List UInt8) : Bool := decide (u < v) || (decide (u = v) && decide (n < m))
def poBoxes : List Bx → Bool
  | [] => true
  | b :: r => r.all (fun c => !decide (c.valid = b.valid)) && (match r with | [] => true | c :: _ => poLt b.user b.name c.user c.name) && poBoxes r
def poSubs (s : Stt) : List Sb → Bool
  | [] => true
  | x :: r => poName x.name && poUser s.boxes x.user && (match r with | [] => true | y :: _ => poLt x.user x.name y.user y.name) && poSubs s r
def poRise : List Int → Bool
  | [] => true
  | x :: r => (match r with | [] => true | y :: _ => decide (x < y)) && poRise r
def poItem (s : Stt) (q : It) : Bool :=
  decide (1 ≤ q.id) && decide (q.id < s.nextItem) && !q.fr.isEmpty && decide (q.frm.length ≤ 200) && poMom q.born && poMom q.due && poIn q.tries 0 5 && decide (q.body.length ≤ 100000) && q.fr.all (poUser s.boxes) && poRise q.fr
/-- A state in form. -/
def poForm (s : Stt) : Bool :=
  decide (s.boxes.length ≤ 24) && decide (s.subs.length ≤ 24) && decide (s.queue.length ≤ 24) && poIn s.nextValid 1 2147483648 && poIn s.nextItem 1 2147483648 &&
    s.boxes.all (poBox s) && poBoxes s.boxes && poSubs s s.subs && s.queue.all (poItem s) && poRise (s.queue.map It.id)
/-- A box put where it belongs. -/
def poIns (b : Bx) : List Bx → List Bx
  | [] => [b]
  | c :: r => if poLt c.user c.name b.user b.name then c :: poIns b r else b :: c :: r
/-- Messages put into a box; their numbers. -/
def poPut (b : Bx) : List Msg → Bx × List Int
  | [] => (b, [])
  | m :: r => ((poPut { b with next := b.next + 1, msgs := b.msgs ++ [{ m with uid := b.next }] } r).1, b.next :: (poPut { b with next := b.next + 1, msgs := b.msgs ++ [{ m with uid := b.next }] } r).2)
def poRoom (b : Bx) : Bool := decide (b.msgs.length ≤ 100) && decide (b.next ≤ 2147483648) && decide (poBytes b ≤ 200000)
/-- What an act answers: an error's number, or the state behind it, with the numbers and the number that it answers. -/
abbrev PoOut := Sum Nat (Stt × List Int × Int)
def poSet (s : Stt) (i : Nat) (b : Bx) : Stt := { s with boxes := s.boxes.set i b }
/-- Layer 14's Apply. -/
def poFlags (f how g : Int) : Int := if how = 0 then g else if how = 1 then ((f.toNat ||| g.toNat : Nat) : Int) else ((f.toNat &&& (31 - g.toNat) : Nat) : Int)
def poSubsAct (s : Stt) (un : Bool) (u : Int) (n : List UInt8) : PoOut :=
  let there := s.subs.any fun x => decide (x.user = u) && decide (x.name = n)
  if un then
    if there then .inr ({ s with subs := s.subs.filter fun x => !(decide (x.user = u) && decide (x.name = n)) }, [], 0) else .inl 5
  else if there then .inr (s, [], 0)
  else if 24 ≤ s.subs.length then .inl 11
  else .inr ({ s with subs := s.subs.filter (fun x => poLt x.user x.name u n) ++ ⟨u, n⟩ :: s.subs.filter (fun x => !poLt x.user x.name u n) }, [], 0)
def poMoved (u : Int) (frm dst : List UInt8) (b : Bx) : Option Bx := if b.user = u then (movO b.name frm dst).map fun n => { b with name := n } else none
def poRename (s : Stt) (u : Int) (frm dst : List UInt8) : PoOut :=
  let out := s.boxes.filter fun b => (poMoved u frm dst b).isNone
  let moved := s.boxes.filterMap (poMoved u frm dst)
  if moved.any fun b => decide (60 < b.name.length) then .inl 3
  else if moved.any fun b => out.any fun c => decide (c.user = u) && decide (c.name = b.name) then .inl 6
  else .inr ({ s with boxes := moved.foldl (fun l b => poIns b l) out }, [], 0)
def poBoxAct (s : Stt) (a : Ac) (n dst : List UInt8) (i : Nat) (b : Bx) : PoOut :=
  if a.kind = 2 then .inr ({ s with boxes := s.boxes.eraseIdx i }, [], 0)
  else if a.kind = 3 then poRename s a.user n dst
  else if a.kind = 6 then
    if !(poIn a.flags 0 31 && poMom a.date) then .inl 1
    else if 100000 < a.body.length then .inl 3
    else
      let r := poPut b [⟨0, a.flags, a.date, a.body⟩]
      if poRoom r.1 then .inr (poSet s i r.1, r.2, 0) else .inl 11
  else if a.kind = 7 then
    match poFind s.boxes a.user dst with
    | none => .inl 5
    | some k => match s.boxes[k]? with
      | none => .inl 5
      | some c =>
        let r := poPut c (b.msgs.filter fun m => a.uids.contains m.uid)
        if poRoom r.1 then .inr (poSet s k r.1, r.2, 0) else .inl 11
  else if a.kind = 8 then
    if !(poIn a.how 0 2 && poIn a.flags 0 31) then .inl 1
    else .inr (poSet s i { b with msgs := b.msgs.map fun m => if a.uids.contains m.uid then { m with flags := poFlags m.flags a.how a.flags } else m }, (b.msgs.filter fun m => a.uids.contains m.uid).map Msg.uid, 0)
  else .inr (poSet s i { b with msgs := b.msgs.filter fun m => !m.flags.toNat.testBit 3 }, (b.msgs.filter fun m => m.flags.toNat.testBit 3).map Msg.uid, 0)
def poQueue (s : Stt) (a : Ac) : PoOut :=
  let users := ([0, 1, 2, 3, 4, 5] : List Int).filter fun u => a.fr.contains u
  if !poMom a.date then .inl 1
  else if 200 < a.frm.length then .inl 4
  else if !(!a.fr.isEmpty && a.fr.all (poUser s.boxes)) then .inl 13
  else if 100000 < a.body.length then .inl 3
  else if 24 ≤ s.queue.length ∨ 2147483648 ≤ s.nextItem then .inl 11
  else .inr ({ s with queue := s.queue ++ [⟨s.nextItem, a.frm, users, a.date, 0, a.date, a.body⟩], nextItem := s.nextItem + 1 }, [], s.nextItem)
def poItemAct (s : Stt) (a : Ac) (i : Nat) (q : It) : PoOut :=
  if a.kind = 11 ∧ q.fr.contains a.user = false then .inl 5
  else if !poMom a.date then .inl 1
  else if a.kind = 11 then
    match poFind s.boxes a.user inboxU with
    | none => .inl 13
    | some k => match s.boxes[k]? with
      | none => .inl 13
      | some b =>
        let r := poPut b [⟨0, 0, a.date, q.body⟩]
        if !poRoom r.1 then .inl 11
        else
          let left := q.fr.filter fun u => !decide (u = a.user)
          .inr ({ poSet s k r.1 with queue := if left.isEmpty then s.queue.eraseIdx i else s.queue.set i { q with fr := left } }, r.2, 0)
  else if a.kind = 12 then
    if 5 ≤ q.tries then .inl 1 else .inr ({ s with queue := s.queue.set i { q with tries := q.tries + 1, due := a.date } }, [], 0)
  else
    if 0 ≤ a.user ∧ poUser s.boxes a.user = false then .inl 13
    else if 100000 < a.body.length then .inl 3
    else if 0 ≤ a.user ∧ 2147483648 ≤ s.nextItem then .inl 11
    else if 0 ≤ a.user then .inr ({ s with queue := s.queue.eraseIdx i ++ [⟨s.nextItem, [], [a.user], a.date, 0, a.date, a.body⟩], nextItem := s.nextItem + 1 }, [], s.nextItem)
    else .inr ({ s with queue := s.queue.eraseIdx i }, [], 0)
/-- An act's row, of a state in form. -/
def poAct (s : Stt) (a : Ac) : PoOut :=
  if a.kind = 10 then poQueue s a
  else if 11 ≤ a.kind then
    match s.queue.findIdx? fun q => decide (q.id = a.n) with
    | none => .inl 5
    | some i => match s.queue[i]? with
      | none => .inl 5
      | some q => poItemAct s a i q
  else if !poUser s.boxes a.user then .inl 13
  else
    match boxO a.name with
    | none => .inl 4
    | some n =>
      let two := decide (a.kind = 3) || decide (a.kind = 7)
      if (two && (boxO a.dst).isNone) || ((decide (a.kind = 2) || decide (a.kind = 3)) && decide (n = inboxU)) || (decide (a.kind = 3) && decide (boxO a.dst = some inboxU)) then .inl 4
      else
        let dst := (boxO a.dst).getD []
        if a.kind = 1 then
          if (poFind s.boxes a.user n).isSome then .inl 6
          else if 24 ≤ s.boxes.length ∨ 2147483648 ≤ s.nextValid then .inl 11
          else .inr ({ s with boxes := poIns ⟨a.user, n, s.nextValid, 1, []⟩ s.boxes, nextValid := s.nextValid + 1 }, [], 0)
        else if a.kind = 4 ∨ a.kind = 5 then poSubsAct s (decide (a.kind = 5)) a.user n
        else match poFind s.boxes a.user n with
          | none => .inl 5
          | some i => if a.kind = 7 ∧ (poFind s.boxes a.user dst).isNone = true then .inl 5 else match s.boxes[i]? with
            | none => .inl 5
            | some b => poBoxAct s a n dst i b
def poStep (s : Stt) (a : Ac) : PoOut := if !poForm s || !poIn a.kind 1 13 then .inl 2 else poAct s a
/-- New. -/
def poNew (users : Nat) : Stt := ⟨(List.range users).map fun (u : Nat) => ⟨(u : Int), inboxU, (u : Int) + 1, 1, []⟩, [], [], (users : Int) + 1, 1⟩
end Go.Proofs.YtdbmaobjikjifaaGreatDoorR

end
section
set_option linter.unusedVariables false
set_option linter.unusedSimpArgs false
namespace Go.Proofs.YtdbmaobjikjifaaGreatDoorR
/-- The messages that are appended: numbers from one, flags, dates. -/
def cpM0 (k : Nat) (b : List UInt8) : Msg := ⟨(k : Int) + 1, ((k &&& 31 : Nat) : Int), (k : Int), b⟩
def cpFrom : Nat → List (List UInt8) → List Msg
  | _, [] => []
  | k, b :: r => cpM0 k b :: cpFrom (k + 1) r
theorem cpFrom_len : ∀ (bs : List (List UInt8)) (k : Nat), (cpFrom k bs).length = bs.length
  | [], _ => rfl
  | b :: r, k => by simp [cpFrom, cpFrom_len r (k + 1)]
theorem cpFrom_app : ∀ (bs : List (List UInt8)) (k : Nat) (b : List UInt8), cpFrom k (bs ++ [b]) = cpFrom k bs ++ [cpM0 (k + bs.length) b]
  | [], k, b => by simp [cpFrom]
  | c :: r, k, b => by
    have e : k + (r.length + 1) = k + 1 + r.length := by omega
    simp only [List.cons_append, cpFrom, List.length_cons, e]
    rw [cpFrom_app r (k + 1) b]
theorem cpFrom_at : ∀ (bs : List (List UInt8)) (k i : Nat) (hi : i < (cpFrom k bs).length), (cpFrom k bs)[i] = cpM0 (k + i) (bs[i]'(by rw [cpFrom_len] at hi; exact hi))
  | [], k, i, hi => by simp [cpFrom] at hi
  | c :: r, k, 0, hi => rfl
  | c :: r, k, i + 1, hi => by
    have h := cpFrom_at r (k + 1) i (by simpa [cpFrom] using hi)
    have e : k + (i + 1) = k + 1 + i := by omega
    simp only [cpFrom, List.getElem_cons_succ, e]
    exact h
theorem cpFrom_body : ∀ (bs : List (List UInt8)) (k : Nat), (∀ b ∈ bs, b.length ≤ 500) → ∀ m ∈ cpFrom k bs, m.body.length ≤ 500
  | [], k, h, m, hm => by simp [cpFrom] at hm
  | c :: r, k, h, m, hm => by
    simp only [cpFrom, List.mem_cons] at hm
    rcases hm with rfl | hm
    · exact h c (by simp)
    · exact cpFrom_body r (k + 1) (fun b hb => h b (by simp [hb])) m hm
def toU : List UInt8 := [116, 111]
/-- The state behind these appends. -/
def cpB (bs : List (List UInt8)) : Bx := ⟨0, inboxU, 1, (bs.length : Int) + 1, cpFrom 0 bs⟩
def cpT : Bx := ⟨0, toU, 2, 1, []⟩
def cpS (bs : List (List UInt8)) : Stt := ⟨[cpB bs, cpT], [], [], 3, 1⟩
theorem cp_msgs : ∀ (bs : List (List UInt8)) (k : Nat) (N : Int), (k : Int) + bs.length < N → k + bs.length ≤ 4000 → (∀ b ∈ bs, b.length ≤ 500) → poMsgs N (k : Int) (cpFrom k bs) = true
  | [], k, N, h, h1, h2 => rfl
  | c :: r, k, N, h, h1, h2 => by
    simp only [List.length_cons] at h h1
    have ih := cp_msgs r (k + 1) N (by push_cast; omega) (by omega) (fun b hb => h2 b (by simp [hb]))
    have h3 := h2 c (by simp)
    have h4 : k &&& 31 ≤ 31 := Nat.and_le_right
    push_cast at ih
    simp only [cpFrom, poMsgs, cpM0, poIn, poMom, Bool.and_eq_true, decide_eq_true_eq]
    exact ⟨⟨⟨⟨⟨by omega, by omega⟩, by omega, by omega⟩, by omega, by omega⟩, by omega⟩, ih⟩
theorem cp_sum (he : ∀ s : List UInt8, (encL s).length ≤ 2 * s.length + 2) : ∀ (ms : List Msg), (∀ m ∈ ms, m.body.length ≤ 500) → (ms.map fun m => 44 + (encL m.body).length).sum ≤ ms.length * 1046
  | [], _ => by simp
  | m :: r, h => by
    have h1 := cp_sum he r (fun x hx => h x (by simp [hx]))
    have h2 := he m.body
    have h3 := h m (by simp)
    simp only [List.map_cons, List.sum_cons, List.length_cons]
    omega
theorem cp_bytes (he : ∀ s : List UInt8, (encL s).length ≤ 2 * s.length + 2) (b : Bx) (hl : b.msgs.length ≤ 100) (h : ∀ m ∈ b.msgs, m.body.length ≤ 500) : poBytes b ≤ 200000 := by
  have := cp_sum he b.msgs h
  unfold poBytes
  omega
theorem cp_room (he : ∀ s : List UInt8, (encL s).length ≤ 2 * s.length + 2) (b : Bx) (hl : b.msgs.length ≤ 100) (hn : b.next ≤ 2147483648) (h : ∀ m ∈ b.msgs, m.body.length ≤ 500) : poRoom b = true := by
  have := cp_bytes he b hl h
  unfold poRoom
  simp only [Bool.and_eq_true, decide_eq_true_eq]
  exact ⟨⟨hl, hn⟩, this⟩
theorem cp_nm1 : poName inboxU = true := by kernel_rfl
theorem cp_nm2 : poName toU = true := by kernel_rfl
theorem cp_fI (b : Bx) (r : List Bx) (h1 : b.user = 0) (h2 : b.name = inboxU) : poFind (b :: r) 0 inboxU = some 0 := by
  unfold poFind
  simp [List.findIdx?_cons, h1, h2]
theorem cp_fT (b c : Bx) (r : List Bx) (h2 : b.name = inboxU) (h3 : c.user = 0) (h4 : c.name = toU) : poFind (b :: c :: r) 0 toU = some 1 := by
  have h : ¬ (inboxU = toU) := by decide
  unfold poFind
  simp [List.findIdx?_cons, h2, h3, h4, h]
theorem cp_user (bs : List (List UInt8)) : poUser (cpS bs).boxes 0 = true := by
  unfold poUser
  rw [show (cpS bs).boxes = cpB bs :: [cpT] from rfl, cp_fI _ _ rfl rfl]
  rfl
theorem cp_lt : poLt 0 inboxU 0 toU = true := by kernel_rfl
theorem cp_form (he : ∀ s : List UInt8, (encL s).length ≤ 2 * s.length + 2) (bs : List (List UInt8)) (hl : bs.length ≤ 20) (hb : ∀ b ∈ bs, b.length ≤ 500) : poForm (cpS bs) = true := by
  have hc : (cpFrom 0 bs).length = bs.length := cpFrom_len bs 0
  have hm := cp_msgs bs 0 ((bs.length : Int) + 1) (by push_cast; omega) (by omega) hb
  have hby : poBytes (cpB bs) ≤ 200000 := cp_bytes he _ (by show (cpFrom 0 bs).length ≤ _; omega) (cpFrom_body bs 0 hb)
  have hbt : poBytes cpT ≤ 200000 := by simp [poBytes, cpT]
  have b1 : poBox (cpS bs) (cpB bs) = true := by
    unfold poBox
    simp only [Bool.and_eq_true, decide_eq_true_eq, poIn]
    refine ⟨⟨⟨⟨⟨⟨⟨⟨?_, cp_nm1⟩, ?_⟩, ?_⟩, ?_⟩, cp_user bs⟩, ?_⟩, ?_⟩, hby⟩
    · show (0 : Int) ≤ 0 ∧ (0 : Int) ≤ 5; decide
    · show (1 : Int) ≤ 1; decide
    · show (1 : Int) < 3; decide
    · show 1 ≤ (bs.length : Int) + 1 ∧ (bs.length : Int) + 1 ≤ 2147483648; omega
    · show (cpFrom 0 bs).length ≤ 100; omega
    · exact hm
  have b2 : poBox (cpS bs) cpT = true := by
    unfold poBox
    simp only [Bool.and_eq_true, decide_eq_true_eq, poIn]
    refine ⟨⟨⟨⟨⟨⟨⟨⟨?_, cp_nm2⟩, ?_⟩, ?_⟩, ?_⟩, cp_user bs⟩, ?_⟩, ?_⟩, hbt⟩
    · show (0 : Int) ≤ 0 ∧ (0 : Int) ≤ 5; decide
    · show (1 : Int) ≤ 2; decide
    · show (2 : Int) < 3; decide
    · show (1 : Int) ≤ 1 ∧ (1 : Int) ≤ 2147483648; decide
    · show 0 ≤ 100; omega
    · rfl
  have b3 : poBoxes [cpB bs, cpT] = true := by
    simp only [poBoxes, List.all_cons, List.all_nil, cpB, cpT, cp_lt, Bool.and_true, Bool.and_self]
    rfl
  unfold poForm
  simp only [Bool.and_eq_true]
  refine ⟨⟨⟨⟨⟨⟨⟨⟨⟨?_, ?_⟩, ?_⟩, ?_⟩, ?_⟩, ?_⟩, b3⟩, rfl⟩, rfl⟩, rfl⟩
  · rfl
  · rfl
  · rfl
  · rfl
  · rfl
  · show ([cpB bs, cpT].all (poBox (cpS bs))) = true
    simp [b1, b2]
/-- Which are picked. -/
def pkd (pk : List Bool) (k : Nat) : Bool := (pk[k]?).getD false
def sel (pk : List Bool) : Nat → List (List UInt8) → List (Nat × List UInt8)
  | _, [] => []
  | k, b :: r => if pkd pk k then (k, b) :: sel pk (k + 1) r else sel pk (k + 1) r
theorem sel_app (pk : List Bool) : ∀ (bs : List (List UInt8)) (k : Nat) (b : List UInt8), sel pk k (bs ++ [b]) = sel pk k bs ++ (if pkd pk (k + bs.length) then [(k + bs.length, b)] else [])
  | [], k, b => by simp [sel]
  | c :: r, k, b => by
    have e : k + (r.length + 1) = k + 1 + r.length := by omega
    simp only [List.cons_append, sel, List.length_cons, e]
    rw [sel_app pk r (k + 1) b]
    split <;> rfl
def selU (pk : List Bool) (bs : List (List UInt8)) : List Int := ((sel pk 0 bs).map fun x => (x.1 : Int) + 1).reverse
def selW (pk : List Bool) (bs : List (List UInt8)) : List (List UInt8) := (sel pk 0 bs).map fun x => x.2
theorem selU_yes (pk : List Bool) (bs : List (List UInt8)) (b : List UInt8) (h : pkd pk bs.length = true) : selU pk (bs ++ [b]) = ((bs.length : Int) + 1) :: selU pk bs := by
  unfold selU
  rw [sel_app, Nat.zero_add, if_pos h, List.map_append, List.reverse_append]
  rfl
theorem selU_no (pk : List Bool) (bs : List (List UInt8)) (b : List UInt8) (h : pkd pk bs.length = false) : selU pk (bs ++ [b]) = selU pk bs := by
  unfold selU
  rw [sel_app, Nat.zero_add, if_neg (by rw [h]; exact Bool.false_ne_true), List.append_nil]
theorem selW_yes (pk : List Bool) (bs : List (List UInt8)) (b : List UInt8) (h : pkd pk bs.length = true) : selW pk (bs ++ [b]) = selW pk bs ++ [b] := by
  unfold selW
  rw [sel_app, Nat.zero_add, if_pos h, List.map_append]
  rfl
theorem selW_no (pk : List Bool) (bs : List (List UInt8)) (b : List UInt8) (h : pkd pk bs.length = false) : selW pk (bs ++ [b]) = selW pk bs := by
  unfold selW
  rw [sel_app, Nat.zero_add, if_neg (by rw [h]; exact Bool.false_ne_true), List.append_nil]
theorem sel_len (pk : List Bool) : ∀ (bs : List (List UInt8)) (k : Nat), (sel pk k bs).length ≤ bs.length
  | [], _ => by simp [sel]
  | c :: r, k => by
    have := sel_len pk r (k + 1)
    simp only [sel]
    split <;> simp only [List.length_cons] <;> omega
theorem selU_len (pk : List Bool) (bs : List (List UInt8)) : (selU pk bs).length ≤ bs.length := by
  unfold selU
  rw [List.length_reverse, List.length_map]
  exact sel_len pk bs 0
theorem selW_len (pk : List Bool) (bs : List (List UInt8)) : (selW pk bs).length = (sel pk 0 bs).length := by
  unfold selW
  rw [List.length_map]
theorem sel_mem (pk : List Bool) : ∀ (bs : List (List UInt8)) (k : Nat) (j : Nat), (∃ b, (j, b) ∈ sel pk k bs) ↔ k ≤ j ∧ j < k + bs.length ∧ pkd pk j = true
  | [], k, j => by simp [sel]; omega
  | c :: r, k, j => by
    have ih := sel_mem pk r (k + 1) j
    simp only [sel, List.length_cons]
    by_cases hp : pkd pk k = true
    · rw [if_pos hp]
      constructor
      · rintro ⟨b, hb⟩
        rw [List.mem_cons] at hb
        rcases hb with e | hb
        · cases e
          exact ⟨by omega, by omega, hp⟩
        · have := ih.1 ⟨b, hb⟩
          exact ⟨by omega, by omega, this.2.2⟩
      · rintro ⟨h1, h2, h3⟩
        by_cases hj : j = k
        · subst hj
          exact ⟨c, by simp⟩
        · obtain ⟨b, hb⟩ := ih.2 ⟨by omega, by omega, h3⟩
          exact ⟨b, by simp [hb]⟩
    · rw [if_neg hp, ih]
      constructor
      · rintro ⟨h1, h2, h3⟩; exact ⟨by omega, by omega, h3⟩
      · rintro ⟨h1, h2, h3⟩
        refine ⟨?_, by omega, h3⟩
        by_cases hj : j = k
        · subst hj; exact absurd h3 hp
        · omega
theorem selU_mem (pk : List Bool) (bs : List (List UInt8)) (j : Nat) (hj : j < bs.length) : ((j : Int) + 1 ∈ selU pk bs) ↔ pkd pk j = true := by
  unfold selU
  rw [List.mem_reverse, List.mem_map]
  constructor
  · rintro ⟨⟨i, b⟩, h1, h2⟩
    have e : i = j := by simp at h2; omega
    subst e
    exact ((sel_mem pk bs 0 i).1 ⟨b, h1⟩).2.2
  · intro h
    obtain ⟨b, hb⟩ := (sel_mem pk bs 0 j).2 ⟨by omega, by omega, h⟩
    exact ⟨_, hb, rfl⟩
theorem cp_filter (pk : List Bool) (us : List Int) : ∀ (bs : List (List UInt8)) (k : Nat), (∀ j, k ≤ j → j < k + bs.length → ((j : Int) + 1 ∈ us ↔ pkd pk j = true)) → (cpFrom k bs).filter (fun m => decide (m.uid ∈ us)) = (sel pk k bs).map fun x => cpM0 x.1 x.2
  | [], k, h => rfl
  | c :: r, k, h => by
    have ih := cp_filter pk us r (k + 1) (fun j h1 h2 => h j (by omega) (by simp only [List.length_cons]; omega))
    have h0 := h k (Nat.le_refl _) (by simp only [List.length_cons]; omega)
    simp only [cpFrom, sel, List.filter_cons]
    by_cases hp : pkd pk k = true
    · have h1 : (cpM0 k c).uid ∈ us := h0.2 hp
      rw [if_pos (by simp only [decide_eq_true_eq]; exact h1), if_pos hp, ih]
      rfl
    · have h1 : ¬ (cpM0 k c).uid ∈ us := fun e => hp (h0.1 e)
      rw [if_neg (by simp only [decide_eq_true_eq]; exact h1), if_neg hp, ih]
/-- Numbers given anew. -/
def rnM : Int → List Msg → List Msg
  | _, [] => []
  | n, m :: r => { m with uid := n } :: rnM (n + 1) r
theorem rnM_len : ∀ (l : List Msg) (n : Int), (rnM n l).length = l.length
  | [], _ => rfl
  | m :: r, n => by simp [rnM, rnM_len r (n + 1)]
theorem rnM_at : ∀ (l : List Msg) (n : Int) (i : Nat) (hi : i < (rnM n l).length), (rnM n l)[i] = { (l[i]'(by rw [rnM_len] at hi; exact hi)) with uid := n + (i : Int) }
  | [], n, i, hi => by simp [rnM] at hi
  | m :: r, n, 0, hi => by simp [rnM]
  | m :: r, n, i + 1, hi => by
    have h := rnM_at r (n + 1) i (by simpa [rnM] using hi)
    have e : n + ((i + 1 : Nat) : Int) = n + 1 + (i : Int) := by push_cast; omega
    simp only [rnM, List.getElem_cons_succ, e]
    exact h
theorem poPut_msgs : ∀ (l : List Msg) (b : Bx), (poPut b l).1.msgs = b.msgs ++ rnM b.next l
  | [], b => by simp [poPut, rnM]
  | m :: r, b => by
    simp only [poPut, rnM]
    rw [poPut_msgs r]
    simp
theorem poPut_keep : ∀ (l : List Msg) (b : Bx), (poPut b l).1.user = b.user ∧ (poPut b l).1.name = b.name ∧ (poPut b l).1.valid = b.valid
  | [], b => ⟨rfl, rfl, rfl⟩
  | m :: r, b => by
    simp only [poPut]
    exact poPut_keep r _
/-- The state behind one append more. -/
theorem cp_put (bs : List (List UInt8)) (b : List UInt8) : poPut (cpB bs) [⟨0, ((bs.length &&& 31 : Nat) : Int), (bs.length : Int), b⟩] = (cpB (bs ++ [b]), [(bs.length : Int) + 1]) := by
  simp only [poPut, cpB, cpFrom_app, Nat.zero_add, cpM0, List.length_append, List.length_cons, List.length_nil]
  push_cast
  rfl
theorem cp_set (bs : List (List UInt8)) (b : List UInt8) : poSet (cpS bs) 0 (cpB (bs ++ [b])) = cpS (bs ++ [b]) := rfl
/-- What is copied. -/
def cpO (pk : List Bool) (bs : List (List UInt8)) : List Msg := (sel pk 0 bs).map fun x => cpM0 x.1 x.2
def cpZ (pk : List Bool) (bs : List (List UInt8)) : Stt := ⟨[cpB bs, (poPut cpT (cpO pk bs)).1], [], [], 3, 1⟩
theorem cpO_len (pk : List Bool) (bs : List (List UInt8)) : (cpO pk bs).length = (selW pk bs).length := by
  unfold cpO selW
  simp
theorem sel_body (pk : List Bool) : ∀ (bs : List (List UInt8)) (k : Nat), ∀ x ∈ sel pk k bs, x.2 ∈ bs
  | [], k, x, hx => by simp [sel] at hx
  | c :: r, k, x, hx => by
    simp only [sel] at hx
    split at hx
    · rw [List.mem_cons] at hx
      rcases hx with rfl | hx
      · simp
      · have := sel_body pk r (k + 1) x hx; simp [this]
    · have := sel_body pk r (k + 1) x hx; simp [this]
theorem cpZ_msgs (pk : List Bool) (bs : List (List UInt8)) : (poPut cpT (cpO pk bs)).1.msgs = rnM 1 (cpO pk bs) := by
  rw [poPut_msgs]
  rfl
theorem cpO_body (pk : List Bool) (bs : List (List UInt8)) (hb : ∀ b ∈ bs, b.length ≤ 500) : ∀ m ∈ cpO pk bs, m.body.length ≤ 500 := by
  intro m hm
  unfold cpO at hm
  obtain ⟨x, hx, rfl⟩ := List.mem_map.1 hm
  exact hb _ (sel_body pk bs 0 x hx)
theorem rnM_body : ∀ (l : List Msg) (n : Int), (∀ m ∈ l, m.body.length ≤ 500) → ∀ m ∈ rnM n l, m.body.length ≤ 500
  | [], n, h, m, hm => by simp [rnM] at hm
  | x :: r, n, h, m, hm => by
    simp only [rnM, List.mem_cons] at hm
    rcases hm with rfl | hm
    · exact h x (by simp)
    · exact rnM_body r (n + 1) (fun y hy => h y (by simp [hy])) m hm
/-- One step of the walk over what is picked. -/
theorem sel_drop (pk : List Bool) (bs : List (List UInt8)) (k : Nat) (hk : k < bs.length) : sel pk k (bs.drop k) = if pkd pk k then (k, bs[k]) :: sel pk (k + 1) (bs.drop (k + 1)) else sel pk (k + 1) (bs.drop (k + 1)) := by
  rw [List.drop_eq_getElem_cons hk]
  rfl
theorem sel_end (pk : List Bool) (bs : List (List UInt8)) : sel pk bs.length (bs.drop bs.length) = [] := by
  rw [List.drop_length]
  rfl
end Go.Proofs.YtdbmaobjikjifaaGreatDoorR

end
section
namespace Go.Proofs.YtdbmaobjikjifaaGreatDoorR
open Go.RowKit

/-- Block b of w holds just these cells, none of them frozen. -/
def Blk (w : World) (b : Nat) (vs : Array Value) (t : TypeId) : Prop := w.heap[b]? = some (.cells vs t (0, 0))
section
variable {w w' : World} {b B : Nat} {vs : Array Value} {t : TypeId}
theorem Blk.cell (h : Blk w b vs t) (i : Nat) : w.cell? ⟨b, i, none⟩ = vs[i]? := by
  unfold Blk at h
  simp [World.cell?, h]
theorem Blk.frozen (h : Blk w b vs t) (i : Nat) : w.frozen? ⟨b, i, none⟩ = false := by
  unfold Blk at h
  simp [World.frozen?, h]
theorem Blk.lt (h : Blk w b vs t) : b < w.heap.size := (Array.getElem?_eq_some_iff.1 h).1
theorem Blk.below (h : Blk w b vs t) (hb : Below B w w') (hlt : b < B) : Blk w' b vs t := (hb.block b hlt).trans h
theorem Blk.set (h : Blk w b vs t) (i : Nat) (v : Value) : Blk (w.setCell ⟨b, i, none⟩ v) b (vs.setIfInBounds i v) t := by
  unfold Blk at *
  simp only [World.setCell, Array.getElem?_modify, if_true, h]
  simp
theorem Blk.set_other (h : Blk w b vs t) (a : Addr) (v : Value) (hne : a.block ≠ b) : Blk (w.setCell a v) b vs t := by
  unfold Blk at *
  rw [Below.heap_setCell _ _ _ _ (Ne.symm hne)]
  exact h
theorem Blk.alloc (h : Blk w b vs t) (o : Obj) : Blk (w.alloc o) b vs t := by
  have := h.lt
  unfold Blk at *
  rw [Below.heap_alloc _ _ _ this]
  exact h
theorem Blk.drewN (h : Blk w b vs t) (n : Nat) : Blk (w.drewN n) b vs t := h
end
theorem Blk.new (w : World) (vs : Array Value) (t : TypeId) : Blk (w.alloc (.cells vs t)) w.heap.size vs t := by
  unfold Blk World.alloc
  simp
theorem Blk.new1 (w : World) (o : Obj) (vs : Array Value) (t : TypeId) : Blk ((w.alloc o).alloc (.cells vs t)) (w.heap.size + 1) vs t := by
  have := Blk.new (w.alloc o) vs t
  rwa [World.size_alloc] at this
end Go.Proofs.YtdbmaobjikjifaaGreatDoorR

end
