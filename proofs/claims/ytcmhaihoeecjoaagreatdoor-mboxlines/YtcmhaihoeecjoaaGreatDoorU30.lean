/- The texts of a moment as IMAP has them, both ways. -/
/- Names of days and months, by the document. -/
import Derived.Test.YtcmhaihoeecjoaaGreatDoorU29
import Derived.Test.YtcmhaihoeecjoaaGreatDoorU11
section
namespace Go.Proofs.YtcmhaihoeecjoaaGreatDoor.Da
open Go.RowKit
theorem hourF_inv {σ τ : RS} (h : hourF σ = some τ) : ∃ ds r, ds.length = 2 ∧ Digs ds ∧ σ.l = ds ++ r ∧ τ = { σ with l := r, h := valL ds 0 } := by
  unfold hourF at h
  obtain ⟨x, h1, h2⟩ := Option.map_eq_some_iff.1 h
  obtain ⟨v, σ1⟩ := x
  obtain ⟨ds, r, a, b, c, rfl, rfl⟩ := digitsF_inv 2 0 h1
  exact ⟨ds, r, a, b, c, h2.symm⟩
theorem hourF_fwd {σ : RS} {ds r : List UInt8} (hn : ds.length = 2) (hd : Digs ds) (hl : σ.l = ds ++ r) : hourF σ = some { σ with l := r, h := valL ds 0 } := by
  unfold hourF
  rw [← hn, digitsF_fwd ds 0 hl hd]
  rfl
theorem minF_inv {σ τ : RS} (h : minF σ = some τ) : ∃ ds r, ds.length = 2 ∧ Digs ds ∧ σ.l = ds ++ r ∧ τ = { σ with l := r, mi := valL ds 0 } := by
  unfold minF at h
  obtain ⟨x, h1, h2⟩ := Option.map_eq_some_iff.1 h
  obtain ⟨v, σ1⟩ := x
  obtain ⟨ds, r, a, b, c, rfl, rfl⟩ := digitsF_inv 2 0 h1
  exact ⟨ds, r, a, b, c, h2.symm⟩
theorem minF_fwd {σ : RS} {ds r : List UInt8} (hn : ds.length = 2) (hd : Digs ds) (hl : σ.l = ds ++ r) : minF σ = some { σ with l := r, mi := valL ds 0 } := by
  unfold minF
  rw [← hn, digitsF_fwd ds 0 hl hd]
  rfl
theorem secF_inv {σ τ : RS} (h : secF σ = some τ) : ∃ ds r, ds.length = 2 ∧ Digs ds ∧ σ.l = ds ++ r ∧ τ = { σ with l := r, s := valL ds 0 } := by
  unfold secF at h
  obtain ⟨x, h1, h2⟩ := Option.map_eq_some_iff.1 h
  obtain ⟨v, σ1⟩ := x
  obtain ⟨ds, r, a, b, c, rfl, rfl⟩ := digitsF_inv 2 0 h1
  exact ⟨ds, r, a, b, c, h2.symm⟩
theorem secF_fwd {σ : RS} {ds r : List UInt8} (hn : ds.length = 2) (hd : Digs ds) (hl : σ.l = ds ++ r) : secF σ = some { σ with l := r, s := valL ds 0 } := by
  unfold secF
  rw [← hn, digitsF_fwd ds 0 hl hd]
  rfl
theorem hmF_inv {σ τ : RS} (h : hmF σ = some τ) : ∃ hs ms r, hs.length = 2 ∧ Digs hs ∧ ms.length = 2 ∧ Digs ms ∧ σ.l = hs ++ 58 :: (ms ++ r) ∧ τ = { σ with l := r, h := valL hs 0, mi := valL ms 0 } := by
  unfold hmF at h
  obtain ⟨ρ, h1, h2⟩ := Option.bind_eq_some_iff.1 h
  obtain ⟨hs, r1, a1, b1, l1, rfl⟩ := hourF_inv h1
  obtain ⟨ρ2, h3, h4⟩ := Option.bind_eq_some_iff.1 h2
  obtain ⟨c, r2, hc, l2, rfl⟩ := markF_inv h3
  obtain ⟨ms, r3, a3, b3, l3, rfl⟩ := minF_inv h4
  simp only at l1 l2 l3
  have e : c = 58 := UInt8.toNat_inj.1 hc
  exact ⟨hs, ms, r3, a1, b1, a3, b3, by rw [l1, l2, l3, e], rfl⟩
theorem hmF_fwd {σ : RS} {hs ms r : List UInt8} (a1 : hs.length = 2) (b1 : Digs hs) (a2 : ms.length = 2) (b2 : Digs ms) (hl : σ.l = hs ++ 58 :: (ms ++ r)) : hmF σ = some { σ with l := r, h := valL hs 0, mi := valL ms 0 } := by
  unfold hmF
  rw [hourF_fwd a1 b1 hl]
  simp only [Option.bind_some]
  rw [markF_fwd (x := 58) (c := 58) rfl rfl]
  simp only [Option.bind_some]
  rw [minF_fwd a2 b2 (r := r) rfl]
theorem secondF_inv {σ τ : RS} (h : secondF σ = some τ) : ∃ ss r, ss.length = 2 ∧ Digs ss ∧ σ.l = 58 :: (ss ++ r) ∧ τ = { σ with l := r, s := valL ss 0 } := by
  unfold secondF at h
  obtain ⟨ρ2, h3, h4⟩ := Option.bind_eq_some_iff.1 h
  obtain ⟨c, r2, hc, l2, rfl⟩ := markF_inv h3
  obtain ⟨ms, r3, a3, b3, l3, rfl⟩ := secF_inv h4
  simp only at l2 l3
  have e : c = 58 := UInt8.toNat_inj.1 hc
  exact ⟨ms, r3, a3, b3, by rw [l2, l3, e], rfl⟩
theorem secondF_fwd {σ : RS} {ss r : List UInt8} (a2 : ss.length = 2) (b2 : Digs ss) (hl : σ.l = 58 :: (ss ++ r)) : secondF σ = some { σ with l := r, s := valL ss 0 } := by
  unfold secondF
  rw [markF_fwd (x := 58) (c := 58) hl rfl]
  simp only [Option.bind_some]
  rw [secF_fwd a2 b2 (r := r) rfl]
/-- How far a sign leads. -/
def sgn (g : UInt8) : Int := if g = 45 then -1 else 1
theorem atF_inv {x : Nat} {σ : RS} (h : atF x σ = true) : ∃ c r, c.toNat = x ∧ σ.l = c :: r := by
  unfold atF at h
  split at h
  · cases h
  · next c r hl => exact ⟨c, r, of_decide_eq_true h, hl⟩
theorem atF_fwd {x : Nat} {σ : RS} {c : UInt8} {r : List UInt8} (hl : σ.l = c :: r) : atF x σ = decide (c.toNat = x) := by
  unfold atF
  rw [hl]
theorem zoneD_inv {g : Int} {σ τ : RS} (h : zoneD g σ = some τ) : ∃ zh zm r, zh.length = 2 ∧ Digs zh ∧ zm.length = 2 ∧ Digs zm ∧ σ.l = zh ++ (zm ++ r) ∧ valL zh 0 ≤ 23 ∧ valL zm 0 ≤ 59 ∧ τ = { σ with l := r, a := g * ((valL zh 0 : Int) * 3600 + (valL zm 0 : Int) * 60) } := by
  unfold zoneD at h
  obtain ⟨x, h1, h2⟩ := Option.bind_eq_some_iff.1 h
  obtain ⟨v, σ1⟩ := x
  obtain ⟨zh, r1, a1, b1, l1, rfl, rfl⟩ := digitsF_inv 2 0 h1
  obtain ⟨z, h3, h4⟩ := Option.bind_eq_some_iff.1 h2
  obtain ⟨v2, σ2⟩ := z
  obtain ⟨zm, r2, a2, b2, l2, rfl, rfl⟩ := digitsF_inv 2 0 h3
  split at h4
  · cases h4
  · next hn =>
    simp only at l2
    exact ⟨zh, zm, r2, a1, b1, a2, b2, by rw [l1, l2], by omega, by omega, (Option.some.inj h4).symm⟩
theorem zoneD_fwd {g : Int} {σ : RS} {zh zm r : List UInt8} (a1 : zh.length = 2) (b1 : Digs zh) (a2 : zm.length = 2) (b2 : Digs zm) (hl : σ.l = zh ++ (zm ++ r)) (h1 : valL zh 0 ≤ 23) (h2 : valL zm 0 ≤ 59) : zoneD g σ = some { σ with l := r, a := g * ((valL zh 0 : Int) * 3600 + (valL zm 0 : Int) * 60) } := by
  unfold zoneD
  have e1 := digitsF_fwd zh 0 hl b1
  rw [a1] at e1
  rw [e1]
  simp only [Option.bind_some]
  have e2 := digitsF_fwd zm 0 (σ := { σ with l := zm ++ r }) (r := r) rfl b2
  rw [a2] at e2
  rw [e2]
  simp only [Option.bind_some]
  rw [if_neg (by omega)]
theorem zoneF_inv {σ τ : RS} (h : zoneF σ = some τ) : ∃ g zh zm r, (g = 43 ∨ g = 45) ∧ zh.length = 2 ∧ Digs zh ∧ zm.length = 2 ∧ Digs zm ∧ σ.l = g :: (zh ++ (zm ++ r)) ∧ valL zh 0 ≤ 23 ∧ valL zm 0 ≤ 59 ∧ τ = { σ with l := r, a := sgn g * ((valL zh 0 : Int) * 3600 + (valL zm 0 : Int) * 60) } := by
  unfold zoneF at h
  split at h
  · next ha =>
    obtain ⟨c, r0, hc, hl⟩ := atF_inv ha
    have e : c = 43 := UInt8.toNat_inj.1 hc
    obtain ⟨zh, zm, r, a1, b1, a2, b2, l1, h1, h2, rfl⟩ := zoneD_inv h
    subst e
    simp only [dropF, hl, List.drop_succ_cons, List.drop_zero] at l1
    exact ⟨43, zh, zm, r, .inl rfl, a1, b1, a2, b2, by rw [hl, l1], h1, h2, rfl⟩
  · split at h
    · next ha =>
      obtain ⟨c, r0, hc, hl⟩ := atF_inv ha
      have e : c = 45 := UInt8.toNat_inj.1 hc
      obtain ⟨zh, zm, r, a1, b1, a2, b2, l1, h1, h2, rfl⟩ := zoneD_inv h
      subst e
      simp only [dropF, hl, List.drop_succ_cons, List.drop_zero] at l1
      exact ⟨45, zh, zm, r, .inr rfl, a1, b1, a2, b2, by rw [hl, l1], h1, h2, rfl⟩
    · cases h
theorem zoneF_fwd {σ : RS} {g : UInt8} {zh zm r : List UInt8} (hg : g = 43 ∨ g = 45) (a1 : zh.length = 2) (b1 : Digs zh) (a2 : zm.length = 2) (b2 : Digs zm) (hl : σ.l = g :: (zh ++ (zm ++ r))) (h1 : valL zh 0 ≤ 23) (h2 : valL zm 0 ≤ 59) : zoneF σ = some { σ with l := r, a := sgn g * ((valL zh 0 : Int) * 3600 + (valL zm 0 : Int) * 60) } := by
  unfold zoneF
  have hd : (dropF σ).l = zh ++ (zm ++ r) := by simp [dropF, hl]
  rcases hg with rfl | rfl
  · rw [atF_fwd hl, if_pos (by decide), zoneD_fwd a1 b1 a2 b2 hd h1 h2]
    rfl
  · rw [atF_fwd hl, if_neg (by decide), atF_fwd hl, if_pos (by decide), zoneD_fwd a1 b1 a2 b2 hd h1 h2]
    rfl
/-- A day in two places, and its number. -/
def Day2 (dd : List UInt8) (v : Nat) : Prop := (∃ c, dd = [32, c] ∧ isDig c = true ∧ v = valL [c] 0) ∨ (∃ c c2, dd = [c, c2] ∧ isDig c = true ∧ isDig c2 = true ∧ c ≠ 48 ∧ v = valL dd 0)
theorem day2F_inv {σ τ : RS} (h : day2F σ = some τ) : ∃ dd v r, Day2 dd v ∧ σ.l = dd ++ r ∧ τ = { σ with l := r, d := (v : Int) } := by
  unfold day2F at h
  split at h
  · next ha =>
    obtain ⟨c, r0, hc, hl⟩ := atF_inv ha
    have e : c = 32 := UInt8.toNat_inj.1 hc
    subst e
    obtain ⟨x, h1, h2⟩ := Option.map_eq_some_iff.1 h
    obtain ⟨n, σ1⟩ := x
    obtain ⟨c2, r, hd, l2, rfl, rfl⟩ := digitF_inv h1
    simp only [dropF, hl, List.drop_succ_cons, List.drop_zero] at l2
    refine ⟨[32, c2], c2.toNat - 48, r, .inl ⟨c2, rfl, hd, by simp [valL]⟩, by rw [hl, l2]; rfl, h2.symm⟩
  · split at h
    · cases h
    · next h48 =>
      obtain ⟨x, h1, h2⟩ := Option.map_eq_some_iff.1 h
      obtain ⟨v, σ1⟩ := x
      obtain ⟨ds, r, a1, b1, l1, rfl, rfl⟩ := digitsF_inv 2 0 h1
      obtain ⟨c, c2, rfl⟩ := two_of a1
      refine ⟨[c, c2], _, r, .inr ⟨c, c2, rfl, b1 c (by simp), b1 c2 (by simp), ?_, rfl⟩, l1, h2.symm⟩
      intro e
      apply h48
      rw [atF_fwd l1, e]
      decide
theorem dig_ne32 {c : UInt8} (h : isDig c = true) : c.toNat ≠ 32 := by
  unfold isDig at h
  simp at h
  omega
theorem day2F_fwd {σ : RS} {dd r : List UInt8} {v : Nat} (h : Day2 dd v) (hl : σ.l = dd ++ r) : day2F σ = some { σ with l := r, d := (v : Int) } := by
  unfold day2F
  rcases h with ⟨c, rfl, hd, rfl⟩ | ⟨c, c2, rfl, hd, hd2, hne, rfl⟩
  · rw [atF_fwd hl, if_pos (by decide), digitF_fwd (σ := dropF σ) (c := c) (r := r) (by simp [dropF, hl]) hd]
    simp [valL, dropF]
  · have h32 := dig_ne32 hd
    have h48 : c.toNat ≠ 48 := fun e => hne (UInt8.toNat_inj.1 e)
    rw [atF_fwd hl, if_neg (by simpa using h32), atF_fwd hl, if_neg (by simpa using h48)]
    have := digitsF_fwd [c, c2] 0 hl (by intro x hx; simp at hx; rcases hx with rfl | rfl <;> assumption)
    rw [show [c, c2].length = 2 from rfl] at this
    rw [this]
    rfl
/-- IMAP's text of a moment. -/
structure ShI (l dd : List UInt8) (v j : Nat) (ys hs ms ss : List UInt8) (g : UInt8) (zh zm : List UInt8) : Prop where
  form : l = dd ++ 45 :: (nameT monB j ++ 45 :: (ys ++ 32 :: (hs ++ 58 :: (ms ++ 58 :: (ss ++ 32 :: (g :: (zh ++ zm)))))))
  day : Day2 dd v
  mon : j < 12
  ysl : ys.length = 4
  ysd : Digs ys
  hsl : hs.length = 2
  hsd : Digs hs
  msl : ms.length = 2
  msd : Digs ms
  ssl : ss.length = 2
  ssd : Digs ss
  gs : g = 43 ∨ g = 45
  zhl : zh.length = 2
  zhd : Digs zh
  zml : zm.length = 2
  zmd : Digs zm
  zh23 : valL zh 0 ≤ 23
  zm59 : valL zm 0 ≤ 59
theorem pint_fwd {l dd ys hs ms ss zh zm : List UInt8} {v j : Nat} {g : UInt8} (h : ShI l dd v j ys hs ms ss g zh zm) :
    (pintF (σz l)).bind endF = some ⟨[], valL ys 0, (j : Int) + 1, (v : Int), valL hs 0, valL ms 0, valL ss 0, 0, sgn g * ((valL zh 0 : Int) * 3600 + (valL zm 0 : Int) * 60)⟩ := by
  unfold pintF
  rw [chain_yes (day2F_fwd h.day h.form)]
  rw [chain_yes (markF_fwd (x := 45) (c := 45) rfl rfl)]
  rw [chain_yes (monthF_fwd h.mon rfl)]
  rw [chain_yes (markF_fwd (x := 45) (c := 45) rfl rfl)]
  rw [chain_yes (yearF_fwd h.ysl h.ysd rfl)]
  rw [chain_yes (markF_fwd (x := 32) (c := 32) rfl rfl)]
  rw [chain_yes (hmF_fwd h.hsl h.hsd h.msl h.msd rfl)]
  rw [chain_yes (secondF_fwd h.ssl h.ssd rfl)]
  rw [chain_yes (markF_fwd (x := 32) (c := 32) rfl rfl)]
  rw [chain_yes (zoneF_fwd h.gs h.zhl h.zhd h.zml h.zmd (r := []) (by simp) h.zh23 h.zm59)]
  simp [chainF, endF, σz]
theorem pint_inv {l : List UInt8} {τ : RS} (h : (pintF (σz l)).bind endF = some τ) : ∃ dd v j ys hs ms ss g zh zm, ShI l dd v j ys hs ms ss g zh zm := by
  obtain ⟨ρ, h1, h2⟩ := Option.bind_eq_some_iff.1 h
  unfold pintF at h1
  obtain ⟨_, a1, h1⟩ := chain_inv h1
  obtain ⟨dd, v, r1, hdd, l1, rfl⟩ := day2F_inv a1
  obtain ⟨_, a2, h1⟩ := chain_inv h1
  obtain ⟨c2, r2, hc2, l2, rfl⟩ := markF_inv a2
  obtain ⟨_, a3, h1⟩ := chain_inv h1
  obtain ⟨j, r3, hj, l3, rfl⟩ := monthF_inv a3
  obtain ⟨_, a4, h1⟩ := chain_inv h1
  obtain ⟨c4, r4, hc4, l4, rfl⟩ := markF_inv a4
  obtain ⟨_, a5, h1⟩ := chain_inv h1
  obtain ⟨ys, r5, hy, hyd, l5, rfl⟩ := yearF_inv a5
  obtain ⟨_, a6, h1⟩ := chain_inv h1
  obtain ⟨c6, r6, hc6, l6, rfl⟩ := markF_inv a6
  obtain ⟨_, a7, h1⟩ := chain_inv h1
  obtain ⟨hs, ms, r7, k1, k2, k3, k4, l7, rfl⟩ := hmF_inv a7
  obtain ⟨_, a8, h1⟩ := chain_inv h1
  obtain ⟨ss, r8, k5, k6, l8, rfl⟩ := secondF_inv a8
  obtain ⟨_, a9, h1⟩ := chain_inv h1
  obtain ⟨c9, r9, hc9, l9, rfl⟩ := markF_inv a9
  obtain ⟨_, a10, h1⟩ := chain_inv h1
  obtain ⟨g, zh, zm, r10, hg, k7, k8, k9, k10, l10, k11, k12, rfl⟩ := zoneF_inv a10
  cases h1
  unfold endF at h2
  split at h2
  · next he =>
    simp only at l1 l2 l3 l4 l5 l6 l7 l8 l9 l10 he
    have e2 : c2 = 45 := UInt8.toNat_inj.1 hc2
    have e4 : c4 = 45 := UInt8.toNat_inj.1 hc4
    have e6 : c6 = 32 := UInt8.toNat_inj.1 hc6
    have e9 : c9 = 32 := UInt8.toNat_inj.1 hc9
    refine ⟨dd, v, j, ys, hs, ms, ss, g, zh, zm, ⟨?_, hdd, hj, hy, hyd, k1, k2, k3, k4, k5, k6, hg, k7, k8, k9, k10, k11, k12⟩⟩
    show (σz l).l = _
    rw [l1, l2, l3, l4, l5, l6, l7, l8, l9, l10, he, e2, e4, e6, e9]
    simp
  · cases h2
end Go.Proofs.YtcmhaihoeecjoaaGreatDoor.Da

end
section
namespace Go.Proofs.YtcmhaihoeecjoaaGreatDoor.Da
open Go.RowKit

set_option maxHeartbeats 2000000 in
theorem rweek_any (y m d h mi s wk : Int) (w : World) (h1 : 0 ≤ wk) (h2 : wk ≤ 6) :
    Calls Tryz.prog 44 #[.agg #[.int .i64 y, .int .i64 m, .int .i64 d, .int .i64 h, .int .i64 mi, .int .i64 s, .int .i64 wk]] w fun e w' => e = .returned (.string ⟨(wkd wk).toArray⟩) ∧ Below w.heap.size w w' := by
  have hm : wk = 0 ∨ wk = 1 ∨ wk = 2 ∨ wk = 3 ∨ wk = 4 ∨ wk = 5 ∨ wk = 6 := by omega
  clear h1 h2
  rcases hm with rfl | rfl | rfl | rfl | rfl | rfl | rfl
  all_goals
    go_enter Tryz.func44, Tryz.ntmps44
    go_wp2
    go_ret
    exact ⟨by kernel_rfl, (Below.refl _ _).alloc (Nat.le_refl _) _⟩

set_option maxHeartbeats 2000000 in
theorem rmonth_any (m : Int) (w : World) (h1 : 1 ≤ m) (h2 : m ≤ 12) :
    Calls Tryz.prog 45 #[.int .i64 m] w fun e w' => e = .returned (.string ⟨(mon m).toArray⟩) ∧ w' = w := by
  have hm : m = 1 ∨ m = 2 ∨ m = 3 ∨ m = 4 ∨ m = 5 ∨ m = 6 ∨ m = 7 ∨ m = 8 ∨ m = 9 ∨ m = 10 ∨ m = 11 ∨ m = 12 := by omega
  clear h1 h2
  rcases hm with rfl | rfl | rfl | rfl | rfl | rfl | rfl | rfl | rfl | rfl | rfl | rfl
  all_goals
    go_enter Tryz.func45, Tryz.ntmps45
    go_wp2
    go_ret
    exact ⟨by kernel_rfl, rfl⟩
end Go.Proofs.YtcmhaihoeecjoaaGreatDoor.Da

end
