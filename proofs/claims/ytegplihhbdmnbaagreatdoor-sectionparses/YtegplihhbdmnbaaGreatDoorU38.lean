/- strings.SplitN at a blank; namesOf of package section. -/
import Derived.Test.YtegplihhbdmnbaaGreatDoorU37
namespace Go.Proofs.YtegplihhbdmnbaaGreatDoor
open Go.RowKit Go.Shelf
/-- A slice that lies in a block from B on, or is nil. -/
def Lo (B : Nat) (v : Value) : Prop := ∀ A n c, v = .slice (some A) n c → B ≤ A.block
theorem RowOf.lo {α : Type} {f : α → List Value} {sz B : Nat} {w : World} {v : Value} {xs : List α} (h : RowOf f sz B w v xs) : Lo B v := by
  rintro A n c rfl
  obtain ⟨G, hr, hg⟩ := h
  rcases hr.2 with ⟨h0, _⟩ | ⟨g, o, cap, e, hv, _⟩
  · cases h0
  · cases hv
    exact hg g e
theorem ReadOf.set_other {α : Type} {f : α → List Value} {sz : Nat} {w : World} {v : Value} {xs : List α} (h : ReadOf f sz w v xs) (a : Addr) (x : Value) (hne : xs ≠ [] → ∀ A n c, v = .slice (some A) n c → A.block ≠ a.block) : ReadOf f sz (w.setCell a x) v xs := by
  obtain ⟨A, c, rfl, h⟩ := h
  refine ⟨A, c, rfl, fun i hi => ?_⟩
  obtain ⟨g, o, rfl, hg, hc⟩ := h i hi
  have hne' : g ≠ a.block := hne (fun e => by rw [e] at hi; simp at hi) _ _ _ rfl
  refine ⟨g, o, rfl, by rw [World.size_setCell]; exact hg, fun j hj => ?_⟩
  rw [World.cell?_of_block (Below.heap_setCell _ _ _ _ hne')]
  exact hc j hj
theorem ReadOf.lt0 {α : Type} {f : α → List Value} {sz : Nat} {w : World} {v : Value} {xs : List α} (h : ReadOf f sz w v xs) (hx : xs ≠ []) : ∀ A n c, v = .slice (some A) n c → A.block < w.heap.size := by
  rintro A n c rfl
  obtain ⟨A', c', e, h⟩ := h
  obtain ⟨g, o, e2, hg, _⟩ := h 0 (List.length_pos_iff.2 hx)
  subst e2
  cases e
  exact hg
theorem splitK_32 : ∀ (k : Nat) (s : List UInt8), Lib.splitK [32] 0 k s = spl k s := by
  intro k
  induction k with
  | zero => intro s; rfl
  | succ k ih =>
    intro s
    rw [Lib.splitK, spl, Lib.index_one]
    by_cases h : (32 : UInt8) ∈ s
    · obtain ⟨p, q, rfl, hp⟩ := split_at_byte s h
      rw [index_in q hp, cutV_in q hp]
      simp only
      rw [if_neg (by rw [beq_iff_eq]; omega), ih]
      congr 1
      · simp
      · congr 1
        have : (p.length : Int).toNat + [(32 : UInt8)].length = p.length + 1 := by simp
        rw [this, List.drop_append]
        simp
    · rw [index_out h, cutV_out h]
      rfl
theorem spl_min (s : List UInt8) : spl (min 21 (s.length + 1) - 1) s = spl 20 s := by
  by_cases h : 20 ≤ s.length
  · rw [show min 21 (s.length + 1) - 1 = 20 by omega]
  · exact spl_fuel _ _ s (by omega) (by omega)
set_option maxHeartbeats 2000000 in
theorem splitN_any (s : List UInt8) (w : World) (hs : s.length ≤ 1000000) :
    Calls Tryz.prog 45 #[.string ⟨s.toArray⟩, .string ⟨#[32]⟩, .int .i64 21] w fun e w' => ∃ v, e = .returned v ∧ ReadOf ssF 1 w' v (spl 20 s) ∧ Lo w.heap.size v ∧ Below w.heap.size w w' := by
  have hsz := size_lit s
  have hI : ∀ (x : ByteArray) (c : Array Value), x.size ≤ (⟨s.toArray⟩ : ByteArray).size → Calls Tryz.prog 101 #[.string x, .string ⟨#[32]⟩] (w.alloc (.cells c 9)) fun e w' => e = .returned (.int .i64 (Lib.indexB x ⟨#[32]⟩)) ∧ w' = w.alloc (.cells c 9) := fun x c _ => by
    have := Tryz.strings_Index_one x 32 (w.alloc (.cells c 9))
    rwa [← Lib.index_one] at this
  have hC : Calls Tryz.prog 100 #[.string ⟨s.toArray⟩, .string ⟨#[32]⟩] w fun e w' => e = .returned (.int .i64 (Lib.countB ⟨s.toArray⟩ ⟨#[32]⟩)) ∧ w' = w := by
    refine (Tryz.strings_Count_one ⟨s.toArray⟩ 32 w).mono fun e w' ⟨he, hw⟩ => ⟨?_, hw⟩
    rw [he]
    show _ = Ending.returned (Value.int .i64 ((Lib.count s [32] : Nat) : Int))
    rw [Lib.count_one]
    rfl
  have HG := Any.strings_genSplit_core Tryz.lays221 (by kernel_rfl) ⟨s.toArray⟩ ⟨#[32]⟩ 0 21 (min 21 (s.length + 1)) w (by omega) (by decide) (by decide) hI hC (by decide) (by decide) (by rw [if_neg (by decide), hsz]; omega)
  have HG2 : Hid (Calls Tryz.prog 70 #[.string ⟨s.toArray⟩, .string ⟨#[32]⟩, .int .i64 0, .int .i64 21] w fun e w' => ∃ v, e = .returned v ∧ ReadOf ssF 1 w' v (spl 20 s) ∧ Lo w.heap.size v ∧ Below w.heap.size w w') := by
    refine HG.mono ?_
    rintro e w' ⟨rfl, rfl⟩
    refine ⟨_, rfl, ?_, (fun A n c e => by cases e; exact Nat.le_refl _), (Below.refl _ _).alloc (Nat.le_refl _) _⟩
    have hd := Lib.splitB_data ⟨#[32]⟩ 0 (min 21 (s.length + 1) - 1) ⟨s.toArray⟩
    rw [show (⟨#[32]⟩ : ByteArray).data.toList = [32] from rfl, show (⟨s.toArray⟩ : ByteArray).data.toList = s from rfl, splitK_32, spl_min] at hd
    generalize Lib.splitB ⟨#[32]⟩ 0 (min 21 (s.length + 1) - 1) ⟨s.toArray⟩ = ps at hd ⊢
    have hl : ps.length = (spl 20 s).length := by rw [← hd, List.length_map]
    rw [hl]
    refine ⟨_, _, rfl, fun i hi => ⟨w.heap.size, 0, rfl, by simp, fun j hj => ?_⟩⟩
    obtain rfl : j = 0 := by omega
    rw [(Blk.new w _ _).cell]
    simp only [Lib.cellsOf, Nat.zero_add, Nat.mul_one, Nat.add_zero, List.getElem?_toArray]
    have hi' : i < ps.length := by omega
    rw [List.getElem?_append_left (by simpa using hi'), List.getElem?_map, List.getElem?_eq_getElem hi']
    have he : (spl 20 s)[i] = ps[i].data.toList := by
      have h1 : (spl 20 s)[i]? = (ps.map fun x => x.data.toList)[i]? := by rw [← hd]
      rw [List.getElem?_eq_getElem hi, List.getElem?_map, List.getElem?_eq_getElem hi'] at h1
      exact Option.some.inj h1
    rw [he]
    rfl
  clear HG hI hC
  go_enter Tryz.func45, Tryz.ntmps45
  go_wp2_with (go_at_call 70; refine HG2.out.mono ?_; rintro e w' ⟨v, rfl, hv, hlo, hb⟩; replace hv := hide hv; replace hb := hide hb; replace hlo := hide hlo)
  go_ret
  exact ⟨v, rfl, hv.out, hlo.out, hb.out⟩
theorem suf41 (r : List UInt8) : Lib.hasSuffix r [41] = decide (r.getLast? = some 41) ∧ (r.getLast? = some 41 → Lib.trimSuffix r [41] = r.dropLast) := by
  unfold Lib.trimSuffix Lib.hasSuffix
  rcases List.eq_nil_or_concat r with rfl | ⟨q, c, rfl⟩
  · exact ⟨rfl, fun h => by simp at h⟩
  · by_cases hc : c = 41
    · subst hc
      simp [List.isSuffixOf]
    · have hc2 : ¬ (41 : UInt8) = c := fun e => hc e.symm
      simp [List.isSuffixOf, List.isPrefixOf, hc, hc2]
def NamOut (w : World) (r : Option (List (List UInt8))) (e : Ending) (w' : World) : Prop := match r with
  | some ns => ∃ v, e = .returned (.tuple #[v, .bool true]) ∧ ReadOf ssF 1 w' v ns ∧ Lo w.heap.size v ∧ Below w.heap.size w w'
  | none => e = .returned (.tuple #[.slice none 0 0, .bool false]) ∧ Below w.heap.size w w'
set_option maxHeartbeats 2000000 in
theorem namesOf_any (l : List UInt8) (w : World) (hl : l.length ≤ 1000000) : Calls Tryz.prog 22 #[.string ⟨l.toArray⟩] w (NamOut w (namO l)) := by
  have HP : Hid (∀ W, Calls Tryz.prog 43 #[.string ⟨l.toArray⟩, .string ⟨#[40]⟩] W fun e w' => e = .returned (.tuple #[.string ⟨(Lib.trimPrefix l [40]).toArray⟩, .bool (Lib.hasPrefix l [40])]) ∧ w' = W) := fun W => Tryz.strings_CutPrefix ⟨l.toArray⟩ ⟨#[40]⟩ W
  obtain ⟨r, hr⟩ : ∃ r, Lib.trimPrefix l [40] = r := ⟨_, rfl⟩
  have hrl : r.length ≤ 1000000 := by
    rw [← hr]
    unfold Lib.trimPrefix
    split
    · rw [List.length_drop]; omega
    · exact hl
  have HS : Hid (∀ W, Calls Tryz.prog 44 #[.string ⟨r.toArray⟩, .string ⟨#[41]⟩] W fun e w' => e = .returned (.tuple #[.string ⟨(Lib.trimSuffix r [41]).toArray⟩, .bool (Lib.hasSuffix r [41])]) ∧ w' = W) := fun W => Tryz.strings_CutSuffix ⟨r.toArray⟩ ⟨#[41]⟩ W (by have := size_lit r; omega)
  rw [hr] at HP
  have hN : namO l = if Lib.hasPrefix l [40] = true ∧ Lib.hasSuffix r [41] = true then some (spl 20 (Lib.trimSuffix r [41])) else none := by
    unfold namO
    have hpre : Lib.hasPrefix l [40] = decide (l.head? = some 40) := by
      cases l with
      | nil => rfl
      | cons c t =>
        simp only [Lib.hasPrefix, List.isPrefixOf, List.head?_cons, Option.some.injEq, Bool.and_true]
        rw [Bool.eq_iff_iff, beq_iff_eq, decide_eq_true_eq]
        exact ⟨fun e => e.symm, fun e => e.symm⟩
    by_cases h1 : l.head? = some 40
    · have hr' : r = l.drop 1 := by
        rw [← hr]
        unfold Lib.trimPrefix
        rw [hpre, decide_eq_true h1]
        rfl
      rw [hpre, decide_eq_true h1, ← hr', (suf41 r).1]
      by_cases h2 : r.getLast? = some 41
      · rw [if_pos ⟨h1, h2⟩, if_pos ⟨rfl, decide_eq_true h2⟩, (suf41 r).2 h2]
      · rw [if_neg (fun e => h2 e.2), if_neg (fun e => h2 (by simpa using e.2))]
    · rw [if_neg (fun e => h1 e.1), hpre, if_neg (fun e => h1 (by simpa using e.1))]
  have hxl : (Lib.trimSuffix r [41]).length ≤ 1000000 := by
    unfold Lib.trimSuffix
    split
    · rw [List.length_take]; omega
    · exact hrl
  rw [hN]
  clear hN hr
  generalize Lib.hasPrefix l [40] = b1 at *
  generalize Lib.hasSuffix r [41] = b2 at *
  generalize Lib.trimSuffix r [41] = x at *
  cases b1 with
  | false =>
    rw [if_neg (by simp)]
    go_enter Tryz.func22, Tryz.ntmps22
    go_wp2_with (first
      | (go_at_call 43; refine (HP.out _).mono ?_; rintro e w1 ⟨rfl, rfl⟩)
      | (go_at_call 44; refine (HS.out _).mono ?_; rintro e w2 ⟨rfl, rfl⟩))
    exact bodyPost_ret (v := .tuple #[.slice none 0 0, .bool false]) (by simp [results, Tryz.results22, go_sem]) rfl ⟨rfl, Below.refl _ _⟩
  | true =>
    cases b2 with
    | false =>
      rw [if_neg (by simp)]
      go_enter Tryz.func22, Tryz.ntmps22
      go_wp2_with (first
        | (go_at_call 43; refine (HP.out _).mono ?_; rintro e w1 ⟨rfl, rfl⟩)
        | (go_at_call 44; refine (HS.out _).mono ?_; rintro e w2 ⟨rfl, rfl⟩))
      exact bodyPost_ret (v := .tuple #[.slice none 0 0, .bool false]) (by simp [results, Tryz.results22, go_sem]) rfl ⟨rfl, Below.refl _ _⟩
    | true =>
      rw [if_pos ⟨rfl, rfl⟩]
      have HX := hide (splitN_any x w hxl)
      go_enter Tryz.func22, Tryz.ntmps22
      go_wp2_with (first
        | (go_at_call 43; refine (HP.out _).mono ?_; rintro e w1 ⟨rfl, rfl⟩)
        | (go_at_call 44; refine (HS.out _).mono ?_; rintro e w2 ⟨rfl, rfl⟩)
        | (go_at_call 45; refine HX.out.mono ?_; rintro e w3 ⟨v, rfl, hv, hlo, hb⟩; replace hv := hide hv; replace hb := hide hb; replace hlo := hide hlo))
      exact bodyPost_ret (v := .tuple #[v, .bool true]) (by simp [results, Tryz.results22, go_sem]) rfl ⟨v, rfl, hv.out, hlo.out, hb.out⟩
end Go.Proofs.YtegplihhbdmnbaaGreatDoor
