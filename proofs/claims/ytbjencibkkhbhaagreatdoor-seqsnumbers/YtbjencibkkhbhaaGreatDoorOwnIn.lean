/- Append to a row that a slice reaches, inside a fence. -/
import Derived.Test.YtbjencibkkhbhaaGreatDoorOwn
import Derived.OwnWalkIn
namespace Go.Proofs.YtbjencibkkhbhaaGreatDoor
open Go.RowKit
theorem wpListIn_append_rw {F : Fence} {nn : Nat} {P : Program} {w : World} {ops : Array Oper} {rest : List Oper} {o : Oper} {a : Act} {Q : Exit → Act → World → Prop} (hgd : o.guard = none) (s x : Operand) (t tx : TypeId)
    (ho : o.op = .call { callee := .builtin .append, args := #[s, x], argTypes := #[t, tx] })
    (e : TypeId) (i : TypeInfo) (z : Value) (size bytes : Nat) (ht : P.underlying t = some (.slice e)) (hi : P.info? e = some i) (hz : i.zero = some z) (hsize : i.size = size) (hby : i.bytes = bytes) (hzs : z.cells.size = size)
    {v : Value} {n : Nat} {cs : List Value} {G : Option Nat} (hv : a.eval s = v) (h : Rw w size v n cs G) (xv : Value) (m : Nat) (news : List Value) (hx : a.eval x = xv) (hs : Src P size tx xv m news w) (h63 : n + m ≤ maxLen) (hbytes : (n + m) * bytes ≤ 140737488355328)
    (hK : ∀ v' w' G', Rw w' size v' (n + m) (cs ++ news) G' → Mvs (fun k => some k = G) w w' → (G' = G ∨ G' = some w.heap.size) → wpListIn F nn P ops Q rest (a.put o.dst v') w') : wpListIn F nn P ops Q (o :: rest) a w := by
  refine wpListIn_plain hgd fun K hK' => ?_
  obtain ⟨v', w', G', hrun, r1, r2, r3⟩ := run_append_rw (P := P) t tx o.type e i z size bytes ht hi hz hsize hby hzs h xv m news hs h63 hbytes
  unfold Oper.wpIn
  refine ⟨?_, ?_⟩
  · simp [Oper.about, ho, resolve, Target.leads, Sem.run_pure]
  · rw [Oper.semAt_plain F _ _ (by rw [ho]; intro c hc'; cases hc')]
    simp [execOp, ho, resolve, invoke, builtin, hv, hx, hrun, Result.andThen]
    exact hK' _ _ (hK v' w' G' r1 r2 r3)
end Go.Proofs.YtbjencibkkhbhaaGreatDoor
