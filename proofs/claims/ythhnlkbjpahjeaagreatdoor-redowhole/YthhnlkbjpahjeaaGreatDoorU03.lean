/- The numbers of errors: postbagnum.Num at nil and at each of package api's thirteen values. -/
/- A disk in memory: which blocks are its own, and what they hold. -/
/- Which names are right: by the program, and by the document. -/
import Derived.Test.YthhnlkbjpahjeaaGreatDoorU02
import Derived.Test.YthhnlkbjpahjeaaGreatDoorU01
section
namespace Go.Proofs.YthhnlkbjpahjeaaGreatDoor
open Go.RowKit

/-- The package-level variables that hold the thirteen errors, in the document's order. -/
def gno (i : Nat) : Nat := ([3, 4, 5, 6, 0, 7, 8, 2, 1, 9, 10, 11, 12] : List Nat).getD i 0

/-- A world in which the thirteen variables hold thirteen errors, at different places. -/
structure Errs (w : World) (a : Nat → Addr) : Prop where
  cell : ∀ i, i < 13 → w.cell? ⟨gno i, 0, none⟩ = some (.iface 191 (.pointer (some (a i))))
  low : ∀ i, i < 13 → gno i < w.heap.size
  ne : ∀ i j, i < 13 → j < 13 → i ≠ j → a i ≠ a j
  blk : ∀ i, i < 13 → ∃ c t, w.heap[(a i).block]? = some (.cells c t (0, 0))

theorem blk_lt {w : World} {k : Nat} {o : Obj} (h : w.heap[k]? = some o) : k < w.heap.size := (Array.getElem?_eq_some_iff.1 h).1

theorem Errs.below {w w' : World} {a : Nat → Addr} (h : Errs w a) (hb : Below w.heap.size w w') : Errs w' a where
  cell := fun i hi => by rw [hb.cell (p := ⟨gno i, 0, none⟩) (h.low i hi)]; exact h.cell i hi
  low := fun i hi => Nat.lt_of_lt_of_le (h.low i hi) hb.size
  ne := h.ne
  blk := fun i hi => by
    obtain ⟨c, t, k⟩ := h.blk i hi
    exact ⟨c, t, by rw [hb.block _ (blk_lt k)]; exact k⟩

theorem num_nil (w : World) :
    Calls Tryz.prog 13 #[.nilIface] w fun e w' => e = .returned (.int .i64 0) ∧ w' = w := by
  go_enter Tryz.func13, Tryz.ntmps13
  go_wp2
  go_ret
  exact ⟨rfl, rfl⟩

def errV (a : Nat → Addr) (i : Nat) : Value := .iface 191 (.pointer (some (a i)))

set_option maxHeartbeats 2000000 in
theorem num_err (k : Nat) (hk : k < 13) (w : World) (a : Nat → Addr) (hE : Errs w a) :
    Calls Tryz.prog 13 #[.iface 191 (.pointer (some (a k)))] w fun e w' => e = .returned (.int .i64 (k + 1)) ∧ Below w.heap.size w w' := by
  have c0 : w.cell? ⟨3, 0, none⟩ = some (.iface 191 (.pointer (some (a 0)))) := hE.cell 0 (by decide)
  have c1 : w.cell? ⟨4, 0, none⟩ = some (.iface 191 (.pointer (some (a 1)))) := hE.cell 1 (by decide)
  have c2 : w.cell? ⟨5, 0, none⟩ = some (.iface 191 (.pointer (some (a 2)))) := hE.cell 2 (by decide)
  have c3 : w.cell? ⟨6, 0, none⟩ = some (.iface 191 (.pointer (some (a 3)))) := hE.cell 3 (by decide)
  have c4 : w.cell? ⟨0, 0, none⟩ = some (.iface 191 (.pointer (some (a 4)))) := hE.cell 4 (by decide)
  have c5 : w.cell? ⟨7, 0, none⟩ = some (.iface 191 (.pointer (some (a 5)))) := hE.cell 5 (by decide)
  have c6 : w.cell? ⟨8, 0, none⟩ = some (.iface 191 (.pointer (some (a 6)))) := hE.cell 6 (by decide)
  have c7 : w.cell? ⟨2, 0, none⟩ = some (.iface 191 (.pointer (some (a 7)))) := hE.cell 7 (by decide)
  have c8 : w.cell? ⟨1, 0, none⟩ = some (.iface 191 (.pointer (some (a 8)))) := hE.cell 8 (by decide)
  have c9 : w.cell? ⟨9, 0, none⟩ = some (.iface 191 (.pointer (some (a 9)))) := hE.cell 9 (by decide)
  have c10 : w.cell? ⟨10, 0, none⟩ = some (.iface 191 (.pointer (some (a 10)))) := hE.cell 10 (by decide)
  have c11 : w.cell? ⟨11, 0, none⟩ = some (.iface 191 (.pointer (some (a 11)))) := hE.cell 11 (by decide)
  have c12 : w.cell? ⟨12, 0, none⟩ = some (.iface 191 (.pointer (some (a 12)))) := hE.cell 12 (by decide)
  have hb : Below w.heap.size w (w.alloc (.cells #[.iface 191 (.pointer (some (a 0))), .iface 191 (.pointer (some (a 1))), .iface 191 (.pointer (some (a 2))), .iface 191 (.pointer (some (a 3))), .iface 191 (.pointer (some (a 4))), .iface 191 (.pointer (some (a 5))), .iface 191 (.pointer (some (a 6))), .iface 191 (.pointer (some (a 7))), .iface 191 (.pointer (some (a 8))), .iface 191 (.pointer (some (a 9))), .iface 191 (.pointer (some (a 10))), .iface 191 (.pointer (some (a 11))), .iface 191 (.pointer (some (a 12)))] 29)) := (Below.refl _ _).alloc (Nat.le_refl _) _
  have HE : Hid (Errs (w.alloc (.cells #[.iface 191 (.pointer (some (a 0))), .iface 191 (.pointer (some (a 1))), .iface 191 (.pointer (some (a 2))), .iface 191 (.pointer (some (a 3))), .iface 191 (.pointer (some (a 4))), .iface 191 (.pointer (some (a 5))), .iface 191 (.pointer (some (a 6))), .iface 191 (.pointer (some (a 7))), .iface 191 (.pointer (some (a 8))), .iface 191 (.pointer (some (a 9))), .iface 191 (.pointer (some (a 10))), .iface 191 (.pointer (some (a 11))), .iface 191 (.pointer (some (a 12)))] 29)) a) := hE.below hb
  have HB : Hid (Below w.heap.size w (w.alloc (.cells #[.iface 191 (.pointer (some (a 0))), .iface 191 (.pointer (some (a 1))), .iface 191 (.pointer (some (a 2))), .iface 191 (.pointer (some (a 3))), .iface 191 (.pointer (some (a 4))), .iface 191 (.pointer (some (a 5))), .iface 191 (.pointer (some (a 6))), .iface 191 (.pointer (some (a 7))), .iface 191 (.pointer (some (a 8))), .iface 191 (.pointer (some (a 9))), .iface 191 (.pointer (some (a 10))), .iface 191 (.pointer (some (a 11))), .iface 191 (.pointer (some (a 12)))] 29))) := hb
  have HC : Hid (∀ n, n < 13 → (w.alloc (.cells #[.iface 191 (.pointer (some (a 0))), .iface 191 (.pointer (some (a 1))), .iface 191 (.pointer (some (a 2))), .iface 191 (.pointer (some (a 3))), .iface 191 (.pointer (some (a 4))), .iface 191 (.pointer (some (a 5))), .iface 191 (.pointer (some (a 6))), .iface 191 (.pointer (some (a 7))), .iface 191 (.pointer (some (a 8))), .iface 191 (.pointer (some (a 9))), .iface 191 (.pointer (some (a 10))), .iface 191 (.pointer (some (a 11))), .iface 191 (.pointer (some (a 12)))] 29)).cell? ⟨w.heap.size, n, none⟩ = some (.iface 191 (.pointer (some (a n))))) := by
    intro n hn
    have h : n = 0 ∨ n = 1 ∨ n = 2 ∨ n = 3 ∨ n = 4 ∨ n = 5 ∨ n = 6 ∨ n = 7 ∨ n = 8 ∨ n = 9 ∨ n = 10 ∨ n = 11 ∨ n = 12 := by omega
    rcases h with rfl | rfl | rfl | rfl | rfl | rfl | rfl | rfl | rfl | rfl | rfl | rfl | rfl <;> simp
  clear hE hb
  go_enter Tryz.func13, Tryz.ntmps13
  go_wp2_with fail
  generalize w.alloc (.cells #[.iface 191 (.pointer (some (a 0))), .iface 191 (.pointer (some (a 1))), .iface 191 (.pointer (some (a 2))), .iface 191 (.pointer (some (a 3))), .iface 191 (.pointer (some (a 4))), .iface 191 (.pointer (some (a 5))), .iface 191 (.pointer (some (a 6))), .iface 191 (.pointer (some (a 7))), .iface 191 (.pointer (some (a 8))), .iface 191 (.pointer (some (a 9))), .iface 191 (.pointer (some (a 10))), .iface 191 (.pointer (some (a 11))), .iface 191 (.pointer (some (a 12)))] 29) = W at *
  clear c0 c1 c2 c3 c4 c5 c6 c7 c8 c9 c10 c11 c12
  go_loop [24] (fun i => ∃ n : Nat, n ≤ k ∧ i = .int .i64 n) (fun i => 13 - (intOf i).toNat)
  case atStart => exact ⟨0, Nat.zero_le _, rfl⟩
  case round =>
    obtain ⟨n, hn, rfl⟩ := hrel
    have hn13 : n < 13 := by omega
    have hc := HC.out n hn13
    by_cases he : n = k
    · subst he
      go_wp2_with (go_at_call 28; refine (is_same _ _).mono ?_; rintro e w' ⟨rfl, rfl⟩)
      go_ret
      exact ⟨rfl, HB.out⟩
    · have hne := HE.out.ne k n hk hn13 (by omega)
      obtain ⟨ck, tk, bk⟩ := HE.out.blk k hk
      obtain ⟨cn, tn, bn⟩ := HE.out.blk n hn13
      have HX : Hid (∀ w' : World, w' = W → Calls Tryz.prog 28 #[.iface 191 (.pointer (some (a k))), .iface 191 (.pointer (some (a n)))] w' fun e w'' => e = .returned (.bool false) ∧ w'' = w') :=
        fun w' h => by subst h; exact is_other _ _ ck cn tk tn _ hne bk bn
      clear hne bk bn
      go_wp2_with (go_at_call 28; refine (HX.out _ rfl).mono ?_; rintro e w' ⟨rfl, rfl⟩)
      go_round
      case rel => exact ⟨n + 1, by omega, by go_num⟩
      case measure => simp [intOf]; omega
end Go.Proofs.YthhnlkbjpahjeaaGreatDoor

end
section
namespace Go.Proofs.YthhnlkbjpahjeaaGreatDoor
open Go.RowKit Go.Maps

/-- What a block is to the disk. -/
inductive Role
  | disk | names | sure | changed | nsteps | lost | file | bytes (b : Nat) | opened (b : Nat) | cap
/-- Blocks that keep their roles. -/
def Keeps (ρ ρ' : Nat → Option Role) : Prop := ∀ k r, ρ k = some r → ρ' k = some r
/-- An open step of a file: an Append at a size, of so many bytes; another one. -/
inductive SA
  | put (size len : Nat) | cut (gone : List UInt8)
/-- An open step of names: a file is made; a name is taken away. -/
inductive NA
  | mk (name : List UInt8) (f : Nat) | rm (name : List UInt8)
structure FA where
  num : Int
  bytes : List UInt8
  opn : List SA
def StepR (w : World) (ρ : Nat → Option Role) (c0 c1 c2 : Value) : SA → Prop
  | .put size len => c0 = .bool true ∧ c1 = .int .i64 len ∧ ∃ k, c2 = .func (.func 110) #[] #[pv k] ∧ Blk w k #[.int .i64 size] 3 ∧ ρ k = some .cap
  | .cut gone => c0 = .bool false ∧ c1 = .int .i64 0 ∧ ∃ k vg Gg, c2 = .func (.func 113) #[] #[pv k] ∧ Blk w k #[vg] 46 ∧ ρ k = some .cap ∧ Rw w 1 vg gone.length (gone.map bv) Gg ∧ ∀ g, Gg = some g → ρ g = some .cap
def NaR (w : World) (ρ : Nat → Option Role) (c : Value) : NA → Prop
  | .mk name f => ∃ cf cn, c = .func (.func 67) #[] #[pv cf, pv cn] ∧ Blk w cf #[pv f] 72 ∧ ρ cf = some .cap ∧ Blk w cn #[.string ⟨name.toArray⟩] 9 ∧ ρ cn = some .cap
  | .rm name => ∃ cn, c = .func (.func 132) #[] #[pv cn] ∧ Blk w cn #[.string ⟨name.toArray⟩] 9 ∧ ρ cn = some .cap
/-- The cells of the row of the names' steps. -/
def NsR (w : World) (ρ : Nat → Option Role) : List Value → List NA → Prop
  | [], [] => True
  | c :: cs, x :: r => NaR w ρ c x ∧ NsR w ρ cs r
  | _, _ => False
/-- The cells of a row of steps. -/
def StepsR (w : World) (ρ : Nat → Option Role) : List Value → List SA → Prop
  | [], [] => True
  | c0 :: c1 :: c2 :: cs, sa :: r => StepR w ρ c0 c1 c2 sa ∧ StepsR w ρ cs r
  | _, _ => False
structure FileRs (w : World) (ρ : Nat → Option Role) (b : Nat) (fa : FA) (vb vo : Value) (Gb Go : Option Nat) (cs : List Value) : Prop where
  role : ρ b = some .file
  blk : Blk w b #[.int .i64 fa.num, vb, vo] 100
  row : Rw w 1 vb fa.bytes.length (fa.bytes.map bv) Gb
  rb : ∀ g, Gb = some g → ρ g = some (.bytes b)
  orow : Rw w 3 vo fa.opn.length cs Go
  ro : ∀ g, Go = some g → ρ g = some (.opened b)
  steps : StepsR w ρ cs fa.opn
def FileR (w : World) (ρ : Nat → Option Role) (b : Nat) (fa : FA) : Prop := ∃ vb vo Gb Go cs, FileRs w ρ b fa vb vo Gb Go cs
/-- The state of a disk. -/
structure St where
  D : DataW Unit
  Ds : DataW Unit
  ch : DataW Unit
  ns : Nat
  nl : List NA
  ls : List Nat
  φ : Nat → Option FA
  created : Int
  opened : Int
  steps : Int
  armed : Int
  off : Bool
  quota : Int
  N : Nat
structure DKs (w0 w : World) (d : Nat) (ρ : Nat → Option Role) (s : St) (bn bs bc : Nat) (vs vl : Value) (Gs Gl : Option Nat) (cs : List Value) : Prop where
  below : Below w0.heap.size w0 w
  low : ∀ k r, ρ k = some r → w0.heap.size ≤ k ∧ k < w.heap.size
  blk : Blk w d #[.map (some bn), .map (some bs), vs, .map (some bc), vl, .int .i64 s.created, .int .i64 s.opened, .int .i64 s.steps, .int .i64 s.armed, .bool s.off, .int .i64 s.quota] 56
  rd : ρ d = some .disk
  rn : ρ bn = some .names
  rs : ρ bs = some .sure
  rc : ρ bc = some .changed
  names : w.ownsMap Tryz.prog 9 ptrElem bn s.N s.D
  sure : w.ownsMap Tryz.prog 9 ptrElem bs s.N s.Ds
  chg : w.ownsMap Tryz.prog 3 ptrElem bc s.N s.ch
  row : Rw w 1 vs s.ns cs Gs
  rsteps : ∀ g, Gs = some g → ρ g = some .nsteps
  lost : Rw w 1 vl s.ls.length (s.ls.map pv) Gl
  rlost : ∀ g, Gl = some g → ρ g = some .lost
  files : ∀ b fa, s.φ b = some fa → FileR w ρ b fa
  vD : ∀ kl b, s.D.atKey kl .nil = pd b → (s.φ b).isSome = true
  eD : ∀ p ∈ entriesOf s.D, ∃ b, p.2 = pd b
  nsr : NsR w ρ cs s.nl
def DK (w0 w : World) (d : Nat) (ρ : Nat → Option Role) (s : St) : Prop := ∃ bn bs bc vs vl Gs Gl cs, DKs w0 w d ρ s bn bs bc vs vl Gs Gl cs

section
variable {w w' : World} {ρ ρ' : Nat → Option Role} {b : Nat} {fa : FA} {S : Nat → Prop}
theorem StepR.keep {c0 c1 c2 : Value} {sa : SA} (h : StepR w ρ c0 c1 c2 sa) (hm : Mvs S w w') (hS : ∀ k, ρ k = some .cap → ¬ S k) (hρ : ∀ k, ρ k = some .cap → ρ' k = some .cap) : StepR w' ρ' c0 c1 c2 sa := by
  cases sa with
  | put size len =>
    obtain ⟨h0, h1, k, h2, hk, hr⟩ := h
    exact ⟨h0, h1, k, h2, hm.blk hk (hS k hr), hρ k hr⟩
  | cut gone =>
    obtain ⟨h0, h1, k, vg, Gg, h2, hk, hr, hg, hG⟩ := h
    exact ⟨h0, h1, k, vg, Gg, h2, hm.blk hk (hS k hr), hρ k hr, hg.keep hm (fun g e => hS g (hG g e)), fun g e => hρ g (hG g e)⟩
theorem StepsR.keep (hm : Mvs S w w') (hS : ∀ k, ρ k = some .cap → ¬ S k) (hρ : ∀ k, ρ k = some .cap → ρ' k = some .cap) : ∀ (cs : List Value) (sa : List SA), StepsR w ρ cs sa → StepsR w' ρ' cs sa
  | [], [], _ => trivial
  | _ :: _ :: _ :: cs, _ :: r, ⟨h1, h2⟩ => ⟨h1.keep hm hS hρ, StepsR.keep hm hS hρ cs r h2⟩
  | [], _ :: _, h => h.elim
  | [_], [], h => h.elim
  | [_, _], [], h => h.elim
  | _ :: _ :: _ :: _, [], h => h.elim
  | [_], _ :: _, h => h.elim
  | [_, _], _ :: _, h => h.elim
theorem StepsR.snoc {c0 c1 c2 : Value} {x : SA} (hx : StepR w ρ c0 c1 c2 x) : ∀ (cs : List Value) (sa : List SA), StepsR w ρ cs sa → StepsR w ρ (cs ++ [c0, c1, c2]) (sa ++ [x])
  | [], [], _ => ⟨hx, trivial⟩
  | _ :: _ :: _ :: cs, _ :: r, ⟨h1, h2⟩ => ⟨h1, StepsR.snoc hx cs r h2⟩
  | [], _ :: _, h => h.elim
  | [_], [], h => h.elim
  | [_, _], [], h => h.elim
  | _ :: _ :: _ :: _, [], h => h.elim
  | [_], _ :: _, h => h.elim
  | [_, _], _ :: _, h => h.elim
theorem NaR.keep {c : Value} {x : NA} (h : NaR w ρ c x) (hm : Mvs S w w') (hS : ∀ k, ρ k = some .cap → ¬ S k) (hρ : ∀ k, ρ k = some .cap → ρ' k = some .cap) : NaR w' ρ' c x := by
  cases x with
  | mk name f =>
    obtain ⟨cf, cn, h0, h1, h2, h3, h4⟩ := h
    exact ⟨cf, cn, h0, hm.blk h1 (hS cf h2), hρ cf h2, hm.blk h3 (hS cn h4), hρ cn h4⟩
  | rm name =>
    obtain ⟨cn, h0, h3, h4⟩ := h
    exact ⟨cn, h0, hm.blk h3 (hS cn h4), hρ cn h4⟩
theorem NsR.keep (hm : Mvs S w w') (hS : ∀ k, ρ k = some .cap → ¬ S k) (hρ : ∀ k, ρ k = some .cap → ρ' k = some .cap) : ∀ (cs : List Value) (l : List NA), NsR w ρ cs l → NsR w' ρ' cs l
  | [], [], _ => trivial
  | _ :: cs, _ :: r, ⟨h1, h2⟩ => ⟨h1.keep hm hS hρ, NsR.keep hm hS hρ cs r h2⟩
  | [], _ :: _, h => h.elim
  | _ :: _, [], h => h.elim
theorem NsR.snoc {c : Value} {x : NA} (hx : NaR w ρ c x) : ∀ (cs : List Value) (l : List NA), NsR w ρ cs l → NsR w ρ (cs ++ [c]) (l ++ [x])
  | [], [], _ => ⟨hx, trivial⟩
  | _ :: cs, _ :: r, ⟨h1, h2⟩ => ⟨h1, NsR.snoc hx cs r h2⟩
  | [], _ :: _, h => h.elim
  | _ :: _, [], h => h.elim
theorem NsR.len : ∀ (cs : List Value) (l : List NA), NsR w ρ cs l → cs.length = l.length
  | [], [], _ => rfl
  | _ :: cs, _ :: r, ⟨_, h2⟩ => congrArg (· + 1) (NsR.len cs r h2)
  | [], _ :: _, h => h.elim
  | _ :: _, [], h => h.elim
/-- A file's own blocks. -/
def Role.of (b k : Nat) : Role → Prop
  | .file => k = b
  | .bytes c => c = b
  | .opened c => c = b
  | .cap => True
  | _ => False
theorem FileR.keep (h : FileR w ρ b fa) (hm : Mvs S w w') (hS : ∀ k r, ρ k = some r → r.of b k → ¬ S k) (hρ : ∀ k r, ρ k = some r → r.of b k → ρ' k = some r) : FileR w' ρ' b fa := by
  obtain ⟨vb, vo, Gb, Go, cs, h⟩ := h
  exact ⟨vb, vo, Gb, Go, cs, hρ b _ h.role rfl, hm.blk h.blk (hS b _ h.role rfl), h.row.keep hm (fun g hg => hS g _ (h.rb g hg) rfl), fun g hg => hρ g _ (h.rb g hg) rfl,
    h.orow.keep hm (fun g hg => hS g _ (h.ro g hg) rfl), fun g hg => hρ g _ (h.ro g hg) rfl, StepsR.keep hm (fun k hk => hS k _ hk trivial) (fun k hk => hρ k _ hk trivial) _ _ h.steps⟩
theorem FileR.below (h : FileR w ρ b fa) (hb : Below w.heap.size w w') : FileR w' ρ b fa := h.keep (S := fun _ => False) (Mvs.of_below hb) (fun _ _ _ _ c => c) (fun _ _ h _ => h)
end
section
variable {w0 w w' : World} {d : Nat} {ρ : Nat → Option Role} {s : St} {S : Nat → Prop}
/-- The disk stays as it is where none of its blocks turns. -/
theorem DKs.keep {bn bs bc : Nat} {vs vl : Value} {Gs Gl : Option Nat} {cs : List Value} (h : DKs w0 w d ρ s bn bs bc vs vl Gs Gl cs) (hm : Mvs S w w') (hS : ∀ k r, ρ k = some r → ¬ S k) (h0 : ∀ k, S k → w0.heap.size ≤ k) : DKs w0 w' d ρ s bn bs bc vs vl Gs Gl cs where
  below := h.below.trans (hm.below (fun k hk c => by have := h0 k c; omega) h.below.size)
  low := fun k r hr => ⟨(h.low k r hr).1, Nat.lt_of_lt_of_le (h.low k r hr).2 hm.size⟩
  blk := hm.blk h.blk (hS _ _ h.rd)
  rd := h.rd
  rn := h.rn
  rs := h.rs
  rc := h.rc
  names := h.names.mvs hm (hS _ _ h.rn)
  sure := h.sure.mvs hm (hS _ _ h.rs)
  chg := h.chg.mvs hm (hS _ _ h.rc)
  row := h.row.keep hm (fun g hg => hS _ _ (h.rsteps g hg))
  rsteps := h.rsteps
  lost := h.lost.keep hm (fun g hg => hS _ _ (h.rlost g hg))
  rlost := h.rlost
  files := fun b fa hb => (h.files b fa hb).keep hm (fun k r hr _ => hS k r hr) (fun k r hr _ => hr)
  vD := h.vD
  eD := h.eD
  nsr := NsR.keep hm (fun k hk => hS k _ hk) (fun _ h => h) _ _ h.nsr
theorem DK.keep (h : DK w0 w d ρ s) (hm : Mvs S w w') (hS : ∀ k r, ρ k = some r → ¬ S k) (h0 : ∀ k, S k → w0.heap.size ≤ k) : DK w0 w' d ρ s := by
  obtain ⟨bn, bs, bc, vs, vl, Gs, Gl, cs, h⟩ := h
  exact ⟨bn, bs, bc, vs, vl, Gs, Gl, cs, h.keep hm hS h0⟩
theorem DK.then (h : DK w0 w d ρ s) (hb : Below w.heap.size w w') : DK w0 w' d ρ s := h.keep (S := fun _ => False) (Mvs.of_below hb) (fun _ _ _ c => c) (fun _ c => c.elim)
theorem DK.below (h : DK w0 w d ρ s) : Below w0.heap.size w0 w := by
  obtain ⟨bn, bs, bc, vs, vl, Gs, Gl, cs, h⟩ := h
  exact h.below
theorem DK.low (h : DK w0 w d ρ s) : ∀ k r, ρ k = some r → w0.heap.size ≤ k ∧ k < w.heap.size := by
  obtain ⟨bn, bs, bc, vs, vl, Gs, Gl, cs, h⟩ := h
  exact h.low
theorem DKs.ne {bn bs bc : Nat} {vs vl : Value} {Gs Gl : Option Nat} {cs : List Value} (h : DKs w0 w d ρ s bn bs bc vs vl Gs Gl cs) : bn ≠ d ∧ bs ≠ d ∧ bc ≠ d ∧ bn ≠ bs ∧ bn ≠ bc ∧ bs ≠ bc := by
  have h1 := h.rd
  have h2 := h.rn
  have h3 := h.rs
  have h4 := h.rc
  refine ⟨?_, ?_, ?_, ?_, ?_, ?_⟩ <;> intro e <;> subst e <;> simp_all
end
/-- What a call leaves: the disk's own blocks have turned alone, and its new ones are new. -/
def Turn (w w' : World) (ρ ρ' : Nat → Option Role) : Prop := Mvs (fun k => ∃ r, ρ k = some r) w w' ∧ ∀ k r, ρ' k = some r → k < w.heap.size → ∃ r', ρ k = some r'
theorem Turn.refl (w : World) (ρ : Nat → Option Role) : Turn w w ρ ρ := ⟨Mvs.refl _ _, fun _ r h _ => ⟨r, h⟩⟩
theorem Turn.trans {x y z : World} {ρ ρ' ρ'' : Nat → Option Role} (h : Turn x y ρ ρ') (k : Turn y z ρ' ρ'') : Turn x z ρ ρ'' :=
  ⟨h.1.trans' k.1 (fun i hi ⟨r, hr⟩ => h.2 i r hr hi), fun i r hr hi => by
    obtain ⟨r', hr'⟩ := k.2 i r hr (Nat.lt_of_lt_of_le hi h.1.size)
    exact h.2 i r' hr' hi⟩
end Go.Proofs.YthhnlkbjpahjeaaGreatDoor

end
section
namespace Go.Proofs.YthhnlkbjpahjeaaGreatDoor
open Go.RowKit
theorem at_str (l : List UInt8) (i : Nat) (hi : i < l.length) : ∃ c, l[i] = c ∧ ∀ h : i < (⟨l.toArray⟩ : ByteArray).size, (⟨l.toArray⟩ : ByteArray)[i]'h = c := ⟨_, rfl, fun _ => rfl⟩
def okC (c : UInt8) : Bool := decide ((97 ≤ c.toNat ∧ c.toNat ≤ 122) ∨ (48 ≤ c.toNat ∧ c.toNat ≤ 57) ∨ c.toNat = 45 ∨ c.toNat = 46)
def rightB (l : List UInt8) : Bool := l.all okC && (decide (1 ≤ l.length) && decide (l.length ≤ 24))
theorem okC_cases (c : UInt8) : (okC c = true ∧ ((97 ≤ c.toNat ∧ c.toNat ≤ 122) ∨ (48 ≤ c.toNat ∧ c.toNat ≤ 57) ∨ c.toNat = 45 ∨ c.toNat = 46)) ∨ (okC c = false ∧ ((c.toNat < 48 ∧ c.toNat ≠ 45 ∧ c.toNat ≠ 46) ∨ (57 < c.toNat ∧ c.toNat < 97) ∨ 122 < c.toNat)) := by
  unfold okC
  by_cases h : (97 ≤ c.toNat ∧ c.toNat ≤ 122) ∨ (48 ≤ c.toNat ∧ c.toNat ≤ 57) ∨ c.toNat = 45 ∨ c.toNat = 46
  · exact .inl ⟨decide_eq_true h, h⟩
  · exact .inr ⟨decide_eq_false h, by omega⟩
theorem all_drop (l : List UInt8) (i : Nat) (h : i < l.length) : (l.drop i).all okC = (okC l[i] && (l.drop (i + 1)).all okC) := by
  rw [List.drop_eq_getElem_cons h, List.all_cons]

set_option maxRecDepth 20000 in
set_option maxHeartbeats 4000000 in
theorem isRight_any (l : List UInt8) (w : World) (hs : l.length ≤ 1000000000) : Calls Tryz.prog 99 #[.string ⟨l.toArray⟩] w fun e w' => e = .returned (.bool (rightB l)) ∧ w' = w := by
  go_enter Tryz.func99, Tryz.ntmps99
  go_wp2
  go_loop [7] (fun k => ∃ i : Nat, k = .int .i64 i ∧ i ≤ l.length ∧ Hid ((l.drop i).all okC = l.all okC)) (fun k => l.length - (intOf k).toNat)
  case atStart => exact ⟨0, rfl, Nat.zero_le _, rfl⟩
  case round =>
    obtain ⟨i, rfl, hi, HK⟩ := hrel
    by_cases hlt : i < l.length
    · have hlt' : (i : Int) < l.length := by omega
      obtain ⟨c, hc, hcs⟩ := at_str l i hlt
      have hst := all_drop l i hlt
      rw [hc] at hst
      clear hc
      rcases okC_cases c with ⟨ho, hcase⟩ | ⟨ho, hcase⟩
      · have HS := hide (show (l.drop (i + 1)).all okC = l.all okC by rw [← HK.out, hst, ho]; simp)
        clear hst ho HK
        rcases hcase with hx | hx | hx | hx
        · have a0 : decide (97 ≤ (c.toNat : Int)) = true := by simp; omega
          have b0 : 97 ≤ (c.toNat : Int) := by omega
          have a1 : decide ((c.toNat : Int) ≤ 122) = true := by simp; omega
          have b1 : (c.toNat : Int) ≤ 122 := by omega
          clear hx
          go_wp2
          go_round
          case rel => exact ⟨i + 1, by go_num, by omega, HS⟩
          case measure => simp [intOf]; omega
        · have a0 : decide (97 ≤ (c.toNat : Int)) = false := by simp; omega
          have b0 : ¬ 97 ≤ (c.toNat : Int) := by omega
          have a2 : decide (48 ≤ (c.toNat : Int)) = true := by simp; omega
          have b2 : 48 ≤ (c.toNat : Int) := by omega
          have a3 : decide ((c.toNat : Int) ≤ 57) = true := by simp; omega
          have b3 : (c.toNat : Int) ≤ 57 := by omega
          clear hx
          go_wp2
          go_round
          case rel => exact ⟨i + 1, by go_num, by omega, HS⟩
          case measure => simp [intOf]; omega
        · have a0 : decide (97 ≤ (c.toNat : Int)) = false := by simp; omega
          have b0 : ¬ 97 ≤ (c.toNat : Int) := by omega
          have a2 : decide (48 ≤ (c.toNat : Int)) = false := by simp; omega
          have b2 : ¬ 48 ≤ (c.toNat : Int) := by omega
          have a4 : ((c.toNat : Int) == 45) = true := by simp; omega
          have b4 : (c.toNat : Int) = 45 := by omega
          clear hx
          go_wp2
          go_round
          case rel => exact ⟨i + 1, by go_num, by omega, HS⟩
          case measure => simp [intOf]; omega
        · have a0 : decide (97 ≤ (c.toNat : Int)) = false := by simp; omega
          have b0 : ¬ 97 ≤ (c.toNat : Int) := by omega
          have a2 : decide (48 ≤ (c.toNat : Int)) = false := by simp; omega
          have b2 : ¬ 48 ≤ (c.toNat : Int) := by omega
          have a4 : ((c.toNat : Int) == 45) = false := by simp; omega
          have b4 : ¬ (c.toNat : Int) = 45 := by omega
          have a5 : ((c.toNat : Int) == 46) = true := by simp; omega
          have b5 : (c.toNat : Int) = 46 := by omega
          clear hx
          go_wp2
          go_round
          case rel => exact ⟨i + 1, by go_num, by omega, HS⟩
          case measure => simp [intOf]; omega
      · have HN := hide (show rightB l = false by unfold rightB; rw [← HK.out, hst, ho]; simp)
        clear hst ho HK
        rcases hcase with hx | hx | hx
        · have a0 : decide (97 ≤ (c.toNat : Int)) = false := by simp; omega
          have b0 : ¬ 97 ≤ (c.toNat : Int) := by omega
          have a2 : decide (48 ≤ (c.toNat : Int)) = false := by simp; omega
          have b2 : ¬ 48 ≤ (c.toNat : Int) := by omega
          have a4 : ((c.toNat : Int) == 45) = false := by simp; omega
          have b4 : ¬ (c.toNat : Int) = 45 := by omega
          have a5 : ((c.toNat : Int) == 46) = false := by simp; omega
          have b5 : ¬ (c.toNat : Int) = 46 := by omega
          clear hx
          go_wp2
          go_ret
          exact ⟨by rw [HN.out]; rfl, rfl⟩
        · have a0 : decide (97 ≤ (c.toNat : Int)) = false := by simp; omega
          have b0 : ¬ 97 ≤ (c.toNat : Int) := by omega
          have a2 : decide (48 ≤ (c.toNat : Int)) = true := by simp; omega
          have b2 : 48 ≤ (c.toNat : Int) := by omega
          have a3 : decide ((c.toNat : Int) ≤ 57) = false := by simp; omega
          have b3 : ¬ (c.toNat : Int) ≤ 57 := by omega
          have a4 : ((c.toNat : Int) == 45) = false := by simp; omega
          have b4 : ¬ (c.toNat : Int) = 45 := by omega
          have a5 : ((c.toNat : Int) == 46) = false := by simp; omega
          have b5 : ¬ (c.toNat : Int) = 46 := by omega
          clear hx
          go_wp2
          go_ret
          exact ⟨by rw [HN.out]; rfl, rfl⟩
        · have a0 : decide (97 ≤ (c.toNat : Int)) = true := by simp; omega
          have b0 : 97 ≤ (c.toNat : Int) := by omega
          have a1 : decide ((c.toNat : Int) ≤ 122) = false := by simp; omega
          have b1 : ¬ (c.toNat : Int) ≤ 122 := by omega
          have a2 : decide (48 ≤ (c.toNat : Int)) = true := by simp; omega
          have b2 : 48 ≤ (c.toNat : Int) := by omega
          have a3 : decide ((c.toNat : Int) ≤ 57) = false := by simp; omega
          have b3 : ¬ (c.toNat : Int) ≤ 57 := by omega
          have a4 : ((c.toNat : Int) == 45) = false := by simp; omega
          have b4 : ¬ (c.toNat : Int) = 45 := by omega
          have a5 : ((c.toNat : Int) == 46) = false := by simp; omega
          have b5 : ¬ (c.toNat : Int) = 46 := by omega
          clear hx
          go_wp2
          go_ret
          exact ⟨by rw [HN.out]; rfl, rfl⟩
    · obtain rfl : i = l.length := by omega
      have hall := HK.out
      rw [List.drop_length, List.all_nil] at hall
      have HB : Hid (rightB l = (decide (1 ≤ l.length) && decide (l.length ≤ 24))) := by
        show rightB l = _
        unfold rightB
        rw [← hall]
        rfl
      clear hall HK
      by_cases h1 : 1 ≤ l.length
      · have g1 : decide (1 ≤ (l.length : Int)) = true := decide_eq_true (by omega)
        have g2 : 1 ≤ (l.length : Int) := by omega
        by_cases h2 : l.length ≤ 24
        · have g3 : decide ((l.length : Int) ≤ 24) = true := by simp; omega
          have g4 : (l.length : Int) ≤ 24 := by omega
          go_wp2
          go_ret
          exact ⟨by rw [HB.out, decide_eq_true h1, decide_eq_true h2]; rfl, rfl⟩
        · have g3 : decide ((l.length : Int) ≤ 24) = false := by simp; omega
          have g4 : ¬ (l.length : Int) ≤ 24 := by omega
          go_wp2
          go_ret
          exact ⟨by rw [HB.out, decide_eq_true h1, decide_eq_false h2]; rfl, rfl⟩
      · have g1 : decide (1 ≤ (l.length : Int)) = false := decide_eq_false (by omega)
        have g2 : ¬ 1 ≤ (l.length : Int) := by omega
        go_wp2
        go_ret
        exact ⟨by rw [HB.out, decide_eq_false h1]; rfl, rfl⟩

end Go.Proofs.YthhnlkbjpahjeaaGreatDoor

end
