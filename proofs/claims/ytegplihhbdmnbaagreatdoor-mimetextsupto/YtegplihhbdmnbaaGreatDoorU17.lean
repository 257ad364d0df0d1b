/- The reader of package mime: blanks, marks, tokens, names. -/
import Derived.Test.YtegplihhbdmnbaaGreatDoorU12
import Derived.Test.YtegplihhbdmnbaaGreatDoorU15
import Derived.Test.YtegplihhbdmnbaaGreatDoorShelf2
namespace Go.Proofs.YtegplihhbdmnbaaGreatDoor
open Go.RowKit Go.Shelf
/-- A reader that holds the rest of a text. -/
def RDm (w : World) (b : Nat) (r : List UInt8) : Prop := Blk w b #[.string ⟨r.toArray⟩] 93
/-- The panic that leads out of the reader. -/
def pnc : List PanicEntry := [{ v := .iface 9 (.string ⟨#[110, 111, 116, 32, 105, 110, 32, 102, 111, 114, 109]⟩), recovered := false }]
/-- How a step ends: it answers x and the reader holds s, or it leaves by the panic. -/
def OutM (b : Nat) (w : World) (r : Option (Value × List UInt8)) (e : Ending) (w' : World) : Prop :=
  Mvs (fun k => k = b) w w' ∧ match r with
    | some (x, s) => e = .returned x ∧ RDm w' b s
    | none => e = .panicked pnc
theorem go_panicM {fn : Func} {R : Ending → World → Prop} {a : Act} {w : World} {c : List PanicEntry} (hd : a.defers = []) (h : R (.panicked c) w) : bodyPost Tryz.prog fn R (.panic c) a w := by
  simp [bodyPost, hd, h]
theorem trimL_any (s : List UInt8) (w : World) :
    Calls Tryz.prog 75 #[.string ⟨s.toArray⟩, .string ⟨#[32, 9]⟩] w fun e w' => e = .returned (.string ⟨(skb s).toArray⟩) ∧ Below w.heap.size w w' := by
  rw [← skb_trim]
  exact Any.strings_TrimLeft_laid Tryz.lays161 (by kernel_rfl) ⟨s.toArray⟩ ⟨#[32, 9]⟩ w (by decide) (ascii_of_all (by decide))
theorem skip_any (b : Nat) (r : List UInt8) (w : World) (h : RDm w b r) :
    Calls Tryz.prog 54 #[.pointer (some ⟨b, 0, none⟩)] w fun e w' => e = .returned (.tuple #[]) ∧ Mvs (fun k => k = b) w w' ∧ RDm w' b (skb r) := by
  have HT := hide (trimL_any r)
  have hc := Blk.cell h
  have H := hide h
  generalize skb r = r2 at *
  clear h
  go_enter Tryz.func54, Tryz.ntmps54
  go_wp2_with (first
    | (go_at_call 75; refine (HT.out _).mono ?_; rintro e w1 ⟨rfl, hb1⟩; have H1 := hide (Blk.below H.out hb1 (Blk.lt H.out)); have hc1 := Blk.cell H1.out; have hf1 := Blk.frozen H1.out; replace hb1 := hide hb1))
  go_end0
  exact ⟨rfl, (Mvs.of_below hb1.out).setCell _ _ (fun _ => rfl), Blk.set H1.out 0 _⟩
theorem cutPre (r : List UInt8) (c : UInt8) (w : World) : Calls Tryz.prog 43 #[.string ⟨r.toArray⟩, .string ⟨#[c]⟩] w fun e w' => e = .returned (.tuple #[.string ⟨(Lib.trimPrefix r [c]).toArray⟩, .bool (Lib.hasPrefix r [c])]) ∧ w' = w := by
  have := Tryz.strings_CutPrefix ⟨r.toArray⟩ ⟨#[c]⟩ w
  exact this
theorem mark_any (b : Nat) (c : UInt8) (r : List UInt8) (w : World) (h : RDm w b r) :
    Calls Tryz.prog 56 #[.pointer (some ⟨b, 0, none⟩), .string ⟨#[c]⟩] w (OutM b w ((markO c r).map fun s => (.tuple #[], s))) := by
  have HC := hide (cutPre r c)
  have hc := Blk.cell h
  have hf := Blk.frozen h
  have H := hide h
  have hlt := Blk.lt h
  clear h
  by_cases hm : ∃ s, r = c :: s
  · obtain ⟨s, rfl⟩ := hm
    have e1 : Lib.trimPrefix (c :: s) [c] = s := by simp [Lib.trimPrefix, Lib.hasPrefix, List.isPrefixOf]
    have e2 : Lib.hasPrefix (c :: s) [c] = true := by simp [Lib.hasPrefix, List.isPrefixOf]
    have e3 : markO c (c :: s) = some (skb s) := by rw [markO, if_pos rfl]
    rw [e1, e2] at HC
    rw [e3]
    have HS := hide (fun w h => skip_any b s w h)
    have H1 := hide (Blk.set H.out 0 (.string ⟨s.toArray⟩))
    generalize skb s = s2 at *
    clear e1 e2 e3
    go_enter Tryz.func56, Tryz.ntmps56
    go_wp2_with (first
      | (go_at_call 43; refine (HC.out _).mono ?_; rintro e w1 ⟨rfl, rfl⟩)
      | (go_at_call 54; refine (HS.out _ H1.out).mono ?_; rintro e w2 ⟨rfl, hm2, hr2⟩; replace hm2 := hide hm2; replace hr2 := hide hr2))
    go_end0
    exact ⟨(Mvs.setCell (S := fun k => k = b) (Mvs.refl _ _) ⟨b, 0, none⟩ _ (fun _ => rfl)).trans hm2.out, rfl, hr2.out⟩
  · have e2 : Lib.hasPrefix r [c] = false := by
      cases r with
      | nil => rfl
      | cons x s =>
        have : ¬ c = x := fun e => hm ⟨s, by rw [e]⟩
        simp [Lib.hasPrefix, List.isPrefixOf, this]
    have e3 : markO c r = none := by
      cases r with
      | nil => rfl
      | cons x s => rw [markO, if_neg (fun e => hm ⟨s, by rw [e]⟩)]
    rw [e2] at HC
    rw [e3]
    generalize Lib.trimPrefix r [c] = r2 at *
    clear e2 e3 hm
    go_enter Tryz.func56, Tryz.ntmps56
    go_wp2_with (first
      | (go_at_call 43; refine (HC.out _).mono ?_; rintro e w1 ⟨rfl, rfl⟩))
    exact go_panicM rfl ⟨Mvs.refl _ _, rfl⟩
set_option maxRecDepth 20000 in
set_option maxHeartbeats 2000000 in
theorem msmall_any (l : List UInt8) (w : World) (hs : l.length ≤ 1000000) : Calls Tryz.prog 76 #[.string ⟨l.toArray⟩] w fun e w' => e = .returned (.string ⟨(l.map lowB).toArray⟩) ∧ Below w.heap.size w w' := by
  obtain ⟨W1, cap, hcv, hb1, hz1, hy1⟩ := conv_in l w
  go_enter Tryz.func76, Tryz.ntmps76
  go_wp2
  clear hcv
  go_loopw [10] (fun k wr => ∃ i : Nat, k = .int .i64 i ∧ i ≤ l.length ∧ Hid (BY wr w.heap.size (lowK l i)) ∧ Hid (Below w.heap.size w wr)) (fun k _ => l.length - (intOf k).toNat)
  case atStart => exact ⟨0, rfl, Nat.zero_le _, by rw [lowK_zero]; exact hy1, hb1⟩
  case round =>
    obtain ⟨i, rfl, hi, HY, HB⟩ := hrel
    clear hy1 hb1 hz1
    by_cases hlt : i < l.length
    · have hlt' : (i : Int) < l.length := by omega
      obtain ⟨hc, hf⟩ := HY.out i (by rw [lowK_len]; exact hlt)
      rw [lowK_at l i hlt] at hc
      obtain ⟨c, hcc⟩ : ∃ c, l[i] = c := ⟨_, rfl⟩
      rw [hcc] at hc
      by_cases h1 : 65 ≤ c.toNat
      · have a1 : decide (65 ≤ (c.toNat : Int)) = true := decide_eq_true (by omega)
        have b1 : 65 ≤ (c.toNat : Int) := by omega
        by_cases h2 : c.toNat ≤ 90
        · have a2 : decide ((c.toNat : Int) ≤ 90) = true := decide_eq_true (by omega)
          have b2 : (c.toNat : Int) ≤ 90 := by omega
          have hlow : lowB c = c + 32 := if_pos ⟨h1, h2⟩
          have hval : ((c + 32).toNat : Int) = (c.toNat : Int) + 32 := by
            rw [UInt8.toNat_add, show (32 : UInt8).toNat = 32 from rfl]
            omega
          have hsum : (c.toNat : Int) - 65 + 97 = (c.toNat : Int) + 32 := by omega
          have HN : Hid (BY (wr.setCell ⟨w.heap.size, i, none⟩ (.int .u8 ((c.toNat : Int) + 32))) w.heap.size (lowK l (i + 1))) := by
            show BY _ _ _
            have := HY.out.put i (c + 32)
            rw [hval] at this
            rw [lowK_next l i hlt, hcc, hlow]
            exact this
          clear hcc hlow hval HY
          go_wp2
          go_roundw
          case rel => exact ⟨i + 1, by go_num, by omega, HN, HB.out.setCell (p := ⟨w.heap.size, i, none⟩) (Nat.le_refl _) _⟩
          case measure => simp [intOf]; omega
        · have a2 : decide ((c.toNat : Int) ≤ 90) = false := decide_eq_false (by omega)
          have b2 : ¬ (c.toNat : Int) ≤ 90 := by omega
          have HN : Hid (BY wr w.heap.size (lowK l (i + 1))) := by
            show BY _ _ _
            rw [lowK_same l i hlt (by rw [hcc]; exact if_neg (fun h => h2 h.2))]
            exact HY.out
          clear hcc HY
          go_wp2
          go_roundw
          case rel => exact ⟨i + 1, by go_num, by omega, HN, HB⟩
          case measure => simp [intOf]; omega
      · have a1 : decide (65 ≤ (c.toNat : Int)) = false := decide_eq_false (by omega)
        have b1 : ¬ 65 ≤ (c.toNat : Int) := by omega
        have HN : Hid (BY wr w.heap.size (lowK l (i + 1))) := by
          show BY _ _ _
          rw [lowK_same l i hlt (by rw [hcc]; exact if_neg (fun h => h1 h.1))]
          exact HY.out
        clear hcc HY
        go_wp2
        go_roundw
        case rel => exact ⟨i + 1, by go_num, by omega, HN, HB⟩
        case measure => simp [intOf]; omega
    · obtain rfl : i = l.length := by omega
      have hy := HY.out
      rw [lowK_end] at hy
      have hcv := conv_out (cap := cap) hy
      rw [List.length_map] at hcv
      clear HY hy
      go_wp2
      go_ret
      exact ⟨rfl, HB.out⟩
theorem spec_idx : ∀ x, x < 128 → decide (0 ≤ Lib.indexByte specL x.toUInt8) = specL.any fun c => c.toNat == x := by decide +kernel
theorem contRune (x : Nat) (hx : x < 128) (w : World) : Calls Tryz.prog 103 #[.string ⟨#[40, 41, 60, 62, 64, 44, 59, 58, 92, 34, 47, 91, 93, 63, 61]⟩, .int .i32 (x : Nat)] w fun e w' => e = .returned (.bool (specL.any fun c => c.toNat == x)) ∧ w' = w := by
  have := Tryz.strings_ContainsRune_ascii ⟨#[40, 41, 60, 62, 64, 44, 59, 58, 92, 34, 47, 91, 93, 63, 61]⟩ (x : Nat) w (by omega) (by omega)
  rw [← spec_idx x hx]
  exact this
theorem notTok_any (x : Nat) (hx : x ≤ 1114111) (w : World) : Calls Tryz.prog 108 #[.int .i32 (x : Nat)] w fun e w' => e = .returned (.bool (notTok x)) ∧ w' = w := by
  by_cases h1 : x < 33
  · have b1 : (x : Int) < 33 := by omega
    have HV : Hid (notTok x = true) := by
      show _ = _
      unfold notTok tokR
      rw [decide_eq_false (by omega : ¬ 33 ≤ x)]
      rfl
    go_enter Tryz.func108, Tryz.ntmps108
    go_wp2
    go_ret
    exact ⟨by rw [HV.out]; rfl, rfl⟩
  · have b1 : ¬ (x : Int) < 33 := by omega
    by_cases h2 : x > 126
    · have b2 : (x : Int) > 126 := by omega
      have HV : Hid (notTok x = true) := by
        show _ = _
        unfold notTok tokR
        rw [decide_eq_false (by omega : ¬ x ≤ 126)]
        simp
      go_enter Tryz.func108, Tryz.ntmps108
      go_wp2
      go_ret
      exact ⟨by rw [HV.out]; rfl, rfl⟩
    · have b2 : ¬ (x : Int) > 126 := by omega
      have HV : Hid (notTok x = specL.any fun c => c.toNat == x) := by
        show _ = _
        unfold notTok tokR
        rw [decide_eq_true (by omega : 33 ≤ x), decide_eq_true (by omega : x ≤ 126)]
        simp
      have HC := hide (contRune x (by omega))
      generalize (specL.any fun c => c.toNat == x) = v at *
      go_enter Tryz.func108, Tryz.ntmps108
      go_wp2_with (first
        | (go_at_call 103; refine (HC.out _).mono ?_; rintro e w1 ⟨rfl, rfl⟩))
      go_ret
      exact ⟨by rw [HV.out]; rfl, rfl⟩
theorem idxTok (r : List UInt8) (w : World) : Calls Tryz.prog 102 #[.string ⟨r.toArray⟩, .func (.func 108) #[] #[]] w fun e w' => e = .returned (.int .i64 (if r.dropWhile tokB = [] then -1 else (((r.takeWhile tokB).length : Nat) : Int))) ∧ Below w.heap.size w w' := by
  rw [← idx_tok]
  refine Tryz.strings_IndexFunc_grows 108 #[] (enters_of Tryz.func108 (by kernel_rfl) rfl) notTok ⟨r.toArray⟩ w ?_
  intro W x hx _
  exact (notTok_any x hx W).mono fun e w' ⟨he, hw⟩ => ⟨he, hw ▸ Below.refl _ _⟩
theorem tw_split {t d r : List UInt8} (h : t ++ d = r) : r.take t.length = t ∧ r.drop t.length = d ∧ t.length ≤ r.length := by
  subst h
  simp
set_option maxRecDepth 20000 in
theorem token_any (b : Nat) (r : List UInt8) (w : World) (h : RDm w b r) (hl : r.length ≤ 1000000) :
    Calls Tryz.prog 77 #[.pointer (some ⟨b, 0, none⟩)] w (OutM b w ((tokO r).map fun x => (.string ⟨x.1.toArray⟩, x.2))) := by
  have HI := hide (idxTok r)
  have hc := Blk.cell h
  have H := hide h
  have hlt := Blk.lt h
  have hsz := size_lit r
  have happ := List.takeWhile_append_dropWhile (p := tokB) (l := r)
  clear h
  by_cases h0 : r.takeWhile tokB = []
  · have e3 : tokO r = none := by unfold tokO; rw [if_pos h0]
    rw [e3]
    by_cases hr : r = []
    · subst hr
      have e1 : (if ([] : List UInt8).dropWhile tokB = [] then (-1 : Int) else ((([] : List UInt8).takeWhile tokB).length : Nat)) = -1 := rfl
      rw [e1] at HI
      clear e1 e3 happ h0
      go_enter Tryz.func77, Tryz.ntmps77
      go_wp2_with (first
        | (go_at_call 102; refine (HI.out _).mono ?_; rintro e w1 ⟨rfl, hb1⟩; have hc1 := Blk.cell (Blk.below H.out hb1 (Blk.lt H.out)); replace hb1 := hide hb1))
      exact go_panicM rfl ⟨Mvs.of_below hb1.out, rfl⟩
    · have hd : r.dropWhile tokB ≠ [] := by
        intro e
        rw [h0, e] at happ
        exact hr happ.symm
      have e1 : (if r.dropWhile tokB = [] then (-1 : Int) else ((r.takeWhile tokB).length : Nat)) = 0 := by
        rw [if_neg hd, h0]
        rfl
      rw [e1] at HI
      clear e1 e3 happ h0 hd
      go_enter Tryz.func77, Tryz.ntmps77
      go_wp2_with (first
        | (go_at_call 102; refine (HI.out _).mono ?_; rintro e w1 ⟨rfl, hb1⟩; have hc1 := Blk.cell (Blk.below H.out hb1 (Blk.lt H.out)); replace hb1 := hide hb1))
      exact go_panicM rfl ⟨Mvs.of_below hb1.out, rfl⟩
  · have e3 : tokO r = some (r.takeWhile tokB, skb (r.dropWhile tokB)) := by unfold tokO; rw [if_neg h0]
    rw [e3]
    have hpos := List.length_pos_iff.2 h0
    have HS := hide (fun w h => skip_any b (r.dropWhile tokB) w h)
    have e4 : (⟨r.toArray⟩ : ByteArray).extract 0 (r.takeWhile tokB).length = ⟨(r.takeWhile tokB).toArray⟩ := by
      rw [ext_take, (tw_split happ).1]
    have e5 : (⟨r.toArray⟩ : ByteArray).extract (r.takeWhile tokB).length r.length = ⟨(r.dropWhile tokB).toArray⟩ := by
      rw [ext_drop, (tw_split happ).2.1]
    have hle : (r.takeWhile tokB).length ≤ r.length := (tw_split happ).2.2
    have hor : (r.dropWhile tokB = [] ∧ (r.takeWhile tokB).length = r.length) ∨ r.dropWhile tokB ≠ [] := by
      by_cases hd : r.dropWhile tokB = []
      · left
        refine ⟨hd, ?_⟩
        rw [hd, List.append_nil] at happ
        rw [happ]
      · exact .inr hd
    generalize skb (r.dropWhile tokB) = s2 at *
    rcases hor with ⟨hd, hq⟩ | hd
    · rw [if_pos hd] at HI
      obtain ⟨t, ht⟩ : ∃ t, r.takeWhile tokB = t := ⟨_, rfl⟩
      rw [ht] at e4 e5 hle hpos hq ⊢
      rw [hd] at e5 HS
      rw [hq] at e4 e5 hpos
      obtain ⟨n, hn⟩ : ∃ n, r.length = n := ⟨_, rfl⟩
      rw [hn] at e4 e5 hpos hsz hl
      have hpos' : ¬ ((n : Int) = 0) := by omega
      have H1 : Hid (∀ w1, RDm w1 b r → RDm (w1.setCell ⟨b, 0, none⟩ (.string ByteArray.empty)) b []) := fun w1 (h : RDm w1 b r) => Blk.set h 0 (.string ByteArray.empty)
      clear happ h0 hd e3 ht hq hle hn
      go_enter Tryz.func77, Tryz.ntmps77
      go_wp2_with (first
        | (go_at_call 102; refine (HI.out _).mono ?_; rintro e w1 ⟨rfl, hb1⟩; have h9 := Blk.below H.out hb1 (Blk.lt H.out); have hc1 := Blk.cell h9; have hf1 := Blk.frozen h9; have HR1 := hide (H1.out _ h9); clear h9; replace hb1 := hide hb1)
        | (go_at_call 54; refine (HS.out _ HR1.out).mono ?_; rintro e w2 ⟨rfl, hm2, hr2⟩; replace hm2 := hide hm2; replace hr2 := hide hr2))
      go_ret
      exact ⟨(Mvs.setCell (S := fun k => k = b) (Mvs.of_below hb1.out) ⟨b, 0, none⟩ _ (fun _ => rfl)).trans hm2.out, rfl, hr2.out⟩
    · rw [if_neg hd] at HI
      obtain ⟨t, ht⟩ : ∃ t, r.takeWhile tokB = t := ⟨_, rfl⟩
      obtain ⟨d, hdd⟩ : ∃ d, r.dropWhile tokB = d := ⟨_, rfl⟩
      rw [ht] at e4 e5 hle hpos HI ⊢
      rw [hdd] at e5 HS
      obtain ⟨k, hk⟩ : ∃ k, t.length = k := ⟨_, rfl⟩
      rw [hk] at e4 e5 hle hpos HI
      obtain ⟨n, hn⟩ : ∃ n, r.length = n := ⟨_, rfl⟩
      rw [hn] at e5 hsz hl hle
      have hpos' : ¬ ((k : Int) = 0) := by omega
      have hpos2 : ¬ ((k : Int) < 0) := by omega
      have hle' : (k : Int) ≤ n := by omega
      have H1 := hide (fun w1 (h : RDm w1 b r) => Blk.set h 0 (.string ⟨d.toArray⟩))
      clear happ h0 hd e3 ht hdd hn hk
      go_enter Tryz.func77, Tryz.ntmps77
      go_wp2_with (first
        | (go_at_call 102; refine (HI.out _).mono ?_; rintro e w1 ⟨rfl, hb1⟩; have h9 := Blk.below H.out hb1 (Blk.lt H.out); have hc1 := Blk.cell h9; have hf1 := Blk.frozen h9; have HR1 := hide (H1.out _ h9); clear h9; replace hb1 := hide hb1)
        | (go_at_call 54; refine (HS.out _ HR1.out).mono ?_; rintro e w2 ⟨rfl, hm2, hr2⟩; replace hm2 := hide hm2; replace hr2 := hide hr2))
      go_ret
      exact ⟨(Mvs.setCell (S := fun k => k = b) (Mvs.of_below hb1.out) ⟨b, 0, none⟩ _ (fun _ => rfl)).trans hm2.out, rfl, hr2.out⟩
theorem name_any (b : Nat) (r : List UInt8) (w : World) (h : RDm w b r) (hl : r.length ≤ 1000000) :
    Calls Tryz.prog 55 #[.pointer (some ⟨b, 0, none⟩)] w (OutM b w ((tokO r).map fun x => (.string ⟨(x.1.map lowB).toArray⟩, x.2))) := by
  have HT := hide (token_any b r w h hl)
  have hlt := Blk.lt h
  cases ht : tokO r with
  | none =>
    rw [ht] at HT
    clear ht h
    go_enter Tryz.func55, Tryz.ntmps55
    go_wp2_with fail
    refine HT.out.mono ?_
    rintro e w1 ⟨hm1, rfl⟩
    exact go_panicM rfl ⟨hm1, rfl⟩
  | some x =>
    obtain ⟨t, s⟩ := x
    have hlen := (tokO_len ht).1
    rw [ht] at HT
    show Calls _ _ _ _ (OutM b w (some (.string ⟨(t.map lowB).toArray⟩, s)))
    have HM := hide (fun w => msmall_any t w (by omega))
    generalize t.map lowB = t2 at *
    clear ht h hlen
    go_enter Tryz.func55, Tryz.ntmps55
    go_wp2_with fail
    refine HT.out.mono ?_
    rintro e w1 ⟨hm1, rfl, hr1⟩
    replace hm1 := hide hm1
    replace hr1 := hide hr1
    go_wp2_with (first
      | (go_at_call 76; refine (HM.out _).mono ?_; rintro e w2 ⟨rfl, hb2⟩; replace hb2 := hide hb2))
    go_ret
    exact ⟨hm1.out.then hb2.out, rfl, Blk.below hr1.out hb2.out (Blk.lt hr1.out)⟩
end Go.Proofs.YtegplihhbdmnbaaGreatDoor
