/- The library's contracts of (*strings.Builder).WriteString and WriteByte, laid by hand. -/
/- nameOf and value of package header. -/
import Derived.Shelf.Strings.BuilderK
import Derived.Test.YtegplihhbdmnbaaGreatDoorProg
import Derived.Test.YtegplihhbdmnbaaGreatDoorU06
import Derived.Shelf.Strings.SlTrimAscii
section
namespace Go.Proofs
open Go.Shelf
def Tryz.lays166_ren : Go.Shelf.Ren := ⟨fun | 166 => 60 | 240 => 83 | 276 => 117 | n => n, fun | 0 => 0 | 3 => 3 | 4 => 4 | 5 => 5 | 9 => 9 | 20 => 20 | 37 => 70 | 70 => 69 | 72 => 72 | 75 => 28 | 164 => 156 | 80 => 74 | n => n, fun | n => n⟩
theorem Tryz.lays166 : Go.Proofs.Lays.n166 Tryz.prog Tryz.lays166_ren := {
  mixed := by kernel_rfl
  f166 := Tryz.func60.trans (congrArg some (by kernel_rfl))
  f240 := Tryz.func83.trans (congrArg some (by kernel_rfl))
  f276 := Tryz.func117.trans (congrArg some (by kernel_rfl))
  t0 := Tryz.underlying0
  a0 := Tryz.isAgg0
  z0 := Tryz.sizeOf0
  v0 := Tryz.zeroValue0
  t3 := Tryz.underlying3
  a3 := Tryz.isAgg3
  z3 := Tryz.sizeOf3
  v3 := Tryz.zeroValue3
  t4 := Tryz.underlying4
  a4 := Tryz.isAgg4
  z4 := Tryz.sizeOf4
  v4 := Tryz.zeroValue4
  t9 := Tryz.underlying9
  a9 := Tryz.isAgg9
  z9 := Tryz.sizeOf9
  v9 := Tryz.zeroValue9
  t20 := Tryz.underlying20
  a20 := Tryz.isAgg20
  z20 := Tryz.sizeOf20
  v20 := Tryz.zeroValue20
  t37 := Tryz.underlying70
  a37 := Tryz.isAgg70
  z37 := Tryz.sizeOf70
  v37 := Tryz.zeroValue70
  t70 := Tryz.underlying69
  a70 := Tryz.isAgg69
  z70 := Tryz.sizeOf69
  v70 := Tryz.zeroValue69
  t72 := Tryz.underlying72
  a72 := Tryz.isAgg72
  z72 := Tryz.sizeOf72
  v72 := Tryz.zeroValue72
  t75 := Tryz.underlying28
  a75 := Tryz.isAgg28
  z75 := Tryz.sizeOf28
  v75 := Tryz.zeroValue28
  t164 := Tryz.underlying156
  a164 := Tryz.isAgg156
  z164 := Tryz.sizeOf156
  v164 := Tryz.zeroValue156 }
theorem Tryz.Builder_Extra_166 : Builder.Extra Tryz.prog Tryz.lays166_ren := {
  sizeBuilder := by kernel_rfl
  liesBuilder := by kernel_rfl
  t5 := Tryz.underlying5
  a5 := Tryz.isAgg5
  z5 := Tryz.sizeOf5
  v5 := Tryz.zeroValue5
  infoByte := by kernel_rfl
  cellsByte := by kernel_rfl
  sizeByte := by kernel_rfl
  neB5 := by decide }
def Tryz.lays167_ren : Go.Shelf.Ren := ⟨fun | 167 => 59 | 240 => 83 | 276 => 117 | n => n, fun | 0 => 0 | 3 => 3 | 4 => 4 | 5 => 5 | 9 => 9 | 20 => 20 | 37 => 70 | 70 => 69 | 72 => 72 | 75 => 28 | 164 => 156 | 80 => 74 | n => n, fun | n => n⟩
theorem Tryz.lays167 : Go.Proofs.Lays.n167 Tryz.prog Tryz.lays167_ren := {
  mixed := by kernel_rfl
  f167 := Tryz.func59.trans (congrArg some (by kernel_rfl))
  f240 := Tryz.func83.trans (congrArg some (by kernel_rfl))
  f276 := Tryz.func117.trans (congrArg some (by kernel_rfl))
  t0 := Tryz.underlying0
  a0 := Tryz.isAgg0
  z0 := Tryz.sizeOf0
  v0 := Tryz.zeroValue0
  t4 := Tryz.underlying4
  a4 := Tryz.isAgg4
  z4 := Tryz.sizeOf4
  v4 := Tryz.zeroValue4
  t5 := Tryz.underlying5
  a5 := Tryz.isAgg5
  z5 := Tryz.sizeOf5
  v5 := Tryz.zeroValue5
  t9 := Tryz.underlying9
  a9 := Tryz.isAgg9
  z9 := Tryz.sizeOf9
  v9 := Tryz.zeroValue9
  t20 := Tryz.underlying20
  a20 := Tryz.isAgg20
  z20 := Tryz.sizeOf20
  v20 := Tryz.zeroValue20
  t37 := Tryz.underlying70
  a37 := Tryz.isAgg70
  z37 := Tryz.sizeOf70
  v37 := Tryz.zeroValue70
  t70 := Tryz.underlying69
  a70 := Tryz.isAgg69
  z70 := Tryz.sizeOf69
  v70 := Tryz.zeroValue69
  t72 := Tryz.underlying72
  a72 := Tryz.isAgg72
  z72 := Tryz.sizeOf72
  v72 := Tryz.zeroValue72
  t75 := Tryz.underlying28
  a75 := Tryz.isAgg28
  z75 := Tryz.sizeOf28
  v75 := Tryz.zeroValue28
  t164 := Tryz.underlying156
  a164 := Tryz.isAgg156
  z164 := Tryz.sizeOf156
  v164 := Tryz.zeroValue156 }
theorem Tryz.Builder_Extra_167 : Builder.Extra Tryz.prog Tryz.lays167_ren := {
  sizeBuilder := by kernel_rfl
  liesBuilder := by kernel_rfl
  t5 := Tryz.underlying5
  a5 := Tryz.isAgg5
  z5 := Tryz.sizeOf5
  v5 := Tryz.zeroValue5
  infoByte := by kernel_rfl
  cellsByte := by kernel_rfl
  sizeByte := by kernel_rfl
  neB5 := by decide }
open Go.RowKit in
theorem Tryz.Builder_WriteString_k (B b : Nat) (bs : List Value) (s : ByteArray) (w : World) (h : Lib.IsBuilderF 72 5 B b bs w) (hlen : bs.length + s.size ≤ 140737488355328) (hBw : B ≤ w.heap.size) :
    Calls Tryz.prog 60 #[.pointer (some ⟨b, 0, none⟩), .string s] w fun e w' => e = .returned (.tuple #[.int .i64 s.size, .nilIface]) ∧ (Lib.BuilderAtF 72 5 B b (.pointer (some ⟨b, 0, none⟩)) (bs ++ Lib.strCells s) w' ∧ Below B w w' ∧ Lib.OthersKept 5 (some b) w w') :=
  Any.Builder_WriteString_k Tryz.lays166 Tryz.Builder_Extra_166 B b bs s w h hlen hBw
open Go.RowKit in
theorem Tryz.Builder_WriteByte_k (B b : Nat) (bs : List Value) (c : Int) (w : World) (h : Lib.IsBuilderF 72 5 B b bs w) (hlen : bs.length + 1 ≤ 140737488355328) (hBw : B ≤ w.heap.size) :
    Calls Tryz.prog 59 #[.pointer (some ⟨b, 0, none⟩), .int .u8 c] w fun e w' => e = .returned .nilIface ∧ (Lib.BuilderAtF 72 5 B b (.pointer (some ⟨b, 0, none⟩)) (bs ++ [.int .u8 c]) w' ∧ Below B w w' ∧ Lib.OthersKept 5 (some b) w w') :=
  Any.Builder_WriteByte_k Tryz.lays167 Tryz.Builder_Extra_167 B b bs c w h hlen hBw
end Go.Proofs

end
section
namespace Go.Proofs.YtegplihhbdmnbaaGreatDoor
open Go.RowKit Go.Shelf
theorem slcut_any (b : UInt8) (l : List UInt8) (w : World) (hl : l.length ≤ 1000000) :
    Calls Tryz.prog 41 #[.string ⟨l.toArray⟩, .string ⟨#[b]⟩] w fun e w' => e = .returned (.tuple #[.string ⟨(cutV b l).1.toArray⟩, .string ⟨(cutV b l).2.1.toArray⟩, .bool (cutV b l).2.2]) ∧ Below w.heap.size w w' := by
  by_cases hb : b ∈ l
  · obtain ⟨p, q, rfl, hp⟩ := split_at_byte l hb
    rw [cutV_in q hp]
    have HI : Hid (∀ w, Calls Tryz.prog 66 #[.string ⟨(p ++ b :: q).toArray⟩, .string ⟨#[b]⟩] w fun e w' => e = .returned (.int .i64 (p.length : Nat)) ∧ w' = w) := fun w => by
      have := Tryz.stringslite_Index_one ⟨(p ++ b :: q).toArray⟩ b w
      rw [show (⟨(p ++ b :: q).toArray⟩ : ByteArray).data.toList = p ++ b :: q from rfl, index_in q hp] at this
      exact this
    have e1 : (⟨(p ++ b :: q).toArray⟩ : ByteArray).extract 0 p.length = ⟨p.toArray⟩ := by rw [ext_take, List.take_left' rfl]
    have e2 : (⟨(p ++ b :: q).toArray⟩ : ByteArray).extract (p.length + 1) (p ++ b :: q).length = ⟨q.toArray⟩ := by
      rw [ext_drop, drop_mid]
    have hsz := size_lit (p ++ b :: q)
    have hll : p.length + 1 ≤ (p ++ b :: q).length := by simp
    obtain ⟨S, hS⟩ : ∃ S, p ++ b :: q = S := ⟨_, rfl⟩
    rw [hS] at HI e1 e2 hsz hll hl ⊢
    clear hS hb hp
    go_enter Tryz.func41, Tryz.ntmps41
    go_wp2_with (first
      | (go_at_call 66; refine (HI.out _).mono ?_; rintro e w2 ⟨rfl, rfl⟩))
    go_quiet (fail)
    go_wp2
    exact bodyPost_ret (v := .tuple #[.string ⟨p.toArray⟩, .string ⟨q.toArray⟩, .bool true]) (by simp [results, Tryz.results41, go_sem]) rfl ⟨rfl, bel_drewN _ _⟩
  · rw [cutV_out hb]
    have HI : Hid (∀ w, Calls Tryz.prog 66 #[.string ⟨l.toArray⟩, .string ⟨#[b]⟩] w fun e w' => e = .returned (.int .i64 (-1)) ∧ w' = w) := fun w => by
      have := Tryz.stringslite_Index_one ⟨l.toArray⟩ b w
      rw [show (⟨l.toArray⟩ : ByteArray).data.toList = l from rfl, index_out hb] at this
      exact this
    go_enter Tryz.func41, Tryz.ntmps41
    go_wp2_with (first
      | (go_at_call 66; refine (HI.out _).mono ?_; rintro e w2 ⟨rfl, rfl⟩))
    exact bodyPost_ret (v := .tuple #[.string ⟨l.toArray⟩, .string ⟨#[]⟩, .bool false]) (by simp [results, Tryz.results41, go_sem]) rfl ⟨rfl, Below.refl _ _⟩
theorem cut_any (b : UInt8) (l : List UInt8) (w : World) (hl : l.length ≤ 1000000) :
    Calls Tryz.prog 20 #[.string ⟨l.toArray⟩, .string ⟨#[b]⟩] w fun e w' => e = .returned (.tuple #[.string ⟨(cutV b l).1.toArray⟩, .string ⟨(cutV b l).2.1.toArray⟩, .bool (cutV b l).2.2]) ∧ Below w.heap.size w w' := by
  have H := hide (fun w => slcut_any b l w hl)
  generalize (cutV b l) = t at *
  obtain ⟨p, q, f⟩ := t
  go_enter Tryz.func20, Tryz.ntmps20
  go_wp2_with (first
    | (go_at_call 41; refine (H.out _).mono ?_; rintro e w2 ⟨rfl, hb2⟩; replace hb2 := hide hb2))
  exact bodyPost_ret (v := .tuple #[.string ⟨p.toArray⟩, .string ⟨q.toArray⟩, .bool f]) (by simp [results, Tryz.results20, go_sem]) rfl ⟨rfl, hb2.out⟩
/-- What nameOf answers. -/
def nameV (t : List UInt8) : List UInt8 × Bool := match nameO t with
  | some p => (p, true)
  | none => ([], false)
theorem nbB_lo {c : UInt8} (h : nbB c = true) : 33 ≤ c.toNat ∧ c.toNat ≤ 126 := by simpa [nbB] using h
theorem nbB_hi {c : UInt8} (h : nbB c = false) : c.toNat < 33 ∨ 126 < c.toNat := by
  simp [nbB] at h
  omega
theorem take_all_next {p : List UInt8} {k : Nat} (hk : k < p.length) (h : (p.take k).all nbB = true) (hc : nbB p[k] = true) : (p.take (k + 1)).all nbB = true := by
  rw [List.take_succ_eq_append_getElem hk, List.all_append, h]
  simp [hc]
set_option maxRecDepth 20000 in
set_option maxHeartbeats 1000000 in
theorem nameOf_any (t : List UInt8) (w : World) (hl : t.length ≤ 1000000) :
    Calls Tryz.prog 149 #[.string ⟨t.toArray⟩] w fun e w' => e = .returned (.tuple #[.string ⟨(nameV t).1.toArray⟩, .bool (nameV t).2]) ∧ Below w.heap.size w w' := by
  have H := hide (cut_any 58 t w hl)
  have HV : Hid (nameV t = match cutV 58 t with | (p, _, f) => if f && !p.isEmpty && p.all nbB then (p, true) else ([], false)) := by
    show _ = _
    unfold nameV nameO
    cases cutV 58 t with
    | mk p r =>
      obtain ⟨q, f⟩ := r
      simp only
      by_cases h : (f && !p.isEmpty && p.all nbB) = true
      · rw [if_pos h, if_pos h]
      · rw [if_neg h, if_neg h]
  have hpl : (cutV 58 t).1.length ≤ 1000000 := by
    cases h : cutV 58 t with
    | mk p r =>
      obtain ⟨q, f⟩ := r
      cases f with
      | true =>
        have := congrArg List.length (cutV_inv h).1
        simp at this
        show p.length ≤ _
        omega
      | false =>
        rw [(cutV_no h).1]
        exact hl
  generalize cutV 58 t = c at *
  obtain ⟨p, q, f⟩ := c
  dsimp only at H HV hpl
  cases f with
  | false =>
    have HV2 : Hid (nameV t = ([], false)) := HV.out
    rw [HV2.out]
    go_enter Tryz.func149, Tryz.ntmps149
    go_wp2_with (first
      | (go_at_call 20; refine (H.out).mono ?_; rintro e w2 ⟨rfl, hb2⟩; replace hb2 := hide hb2))
    exact bodyPost_ret (v := .tuple #[.string ⟨#[]⟩, .bool false]) (by simp [results, Tryz.results149, go_sem]) rfl ⟨rfl, hb2.out⟩
  | true =>
    cases p with
    | nil =>
      have HV2 : Hid (nameV t = ([], false)) := HV.out
      rw [HV2.out]
      go_enter Tryz.func149, Tryz.ntmps149
      go_wp2_with (first
        | (go_at_call 20; refine (H.out).mono ?_; rintro e w2 ⟨rfl, hb2⟩; replace hb2 := hide hb2))
      exact bodyPost_ret (v := .tuple #[.string ⟨#[]⟩, .bool false]) (by simp [results, Tryz.results149, go_sem]) rfl ⟨rfl, hb2.out⟩
    | cons c0 p0 =>
      have hne : (c0 :: p0).isEmpty = false := rfl
      have HV2 : Hid (nameV t = if (c0 :: p0).all nbB then (c0 :: p0, true) else ([], false)) := by
        show _ = _
        rw [HV.out]
        rfl
      generalize c0 :: p0 = p at *
      have hsz := size_lit p
      go_enter Tryz.func149, Tryz.ntmps149
      go_wp2_with (first
        | (go_at_call 20; refine (H.out).mono ?_; rintro e w2 ⟨rfl, hb2⟩; replace hb2 := hide hb2))
      go_loopw [22] (fun v wr => wr = w2 ∧ ∃ j : Nat, v = .int .i64 j ∧ j ≤ p.length ∧ Hid ((p.take j).all nbB = true)) (fun v _ => p.length - (intOf v).toNat)
      case atStart => exact ⟨rfl, 0, rfl, Nat.zero_le _, by simp [Hid]⟩
      case round =>
        obtain ⟨rfl, j, rfl, hj, HA⟩ := hrel
        by_cases hlt : j < p.length
        · obtain ⟨c, hc, hat⟩ : ∃ c, p[j] = c ∧ ∀ h : j < (⟨p.toArray⟩ : ByteArray).size, (⟨p.toArray⟩ : ByteArray)[j]'h = c := ⟨_, rfl, fun _ => rfl⟩
          have hlt' : (j : Int) < p.length := by omega
          cases hb : nbB c with
          | true =>
            have HA2 := hide (take_all_next hlt HA.out (hc ▸ hb))
            obtain ⟨g1, g2⟩ := nbB_lo hb
            have g1' : ¬ ((c.toNat : Int) < 33) := by omega
            have g2' : ¬ ((c.toNat : Int) > 126) := by omega
            clear hc hb
            go_wp2
            go_roundw
            case rel => exact ⟨trivial, j + 1, by go_num, by omega, HA2⟩
            case measure => simp [intOf]; omega
          | false =>
            have HV3 : Hid (nameV t = ([], false)) := by
              show _ = _
              rw [HV2.out, if_neg]
              intro h
              rw [List.all_eq_true] at h
              have := h _ (List.getElem_mem hlt)
              rw [hc, hb] at this
              cases this
            rcases nbB_hi hb with g | g
            · have g1' : (c.toNat : Int) < 33 := by omega
              clear hc hb HV2 HV
              go_wp2
              exact bodyPost_ret (v := .tuple #[.string ⟨#[]⟩, .bool false]) (by simp [results, Tryz.results149, go_sem]) rfl ⟨by rw [HV3.out], hb2.out⟩
            · have g0' : ¬ ((c.toNat : Int) < 33) := by omega
              have g1' : (c.toNat : Int) > 126 := by omega
              clear hc hb HV2 HV
              go_wp2
              exact bodyPost_ret (v := .tuple #[.string ⟨#[]⟩, .bool false]) (by simp [results, Tryz.results149, go_sem]) rfl ⟨by rw [HV3.out], hb2.out⟩
        · obtain rfl : j = p.length := by omega
          have HV3 : Hid (nameV t = (p, true)) := by
            show _ = _
            have := HA.out
            rw [List.take_length] at this
            rw [HV2.out, if_pos this]
          clear HV2 HV
          go_wp2
          exact bodyPost_ret (v := .tuple #[.string ⟨p.toArray⟩, .bool true]) (by simp [results, Tryz.results149, go_sem]) rfl ⟨by rw [HV3.out], hb2.out⟩
theorem trim_any (s : List UInt8) (w : World) (hl : s.length ≤ 1000000) :
    Calls Tryz.prog 150 #[.string ⟨s.toArray⟩, .string ⟨#[32, 9]⟩] w fun e w' => e = .returned (.string ⟨(Lib.trimS s [32, 9]).toArray⟩) ∧ Below w.heap.size w w' :=
  Any.strings_Trim_laid Tryz.lays160 (by kernel_rfl) ⟨s.toArray⟩ ⟨#[32, 9]⟩ w (by rw [size_lit]; omega) (by decide) (ascii_of_all (by decide))
theorem byteCells_app (x y : List UInt8) : Lib.byteCells x ++ Lib.byteCells y = Lib.byteCells (x ++ y) := by simp [Lib.byteCells]
theorem txts_len : ∀ (ls : List (List UInt8)), (ls.map txt).flatten.length ≤ ls.flatten.length
  | [] => Nat.le_refl _
  | x :: ls => by
    have h1 := txts_len ls
    have h2 := txt_len x
    simp only [List.map_cons, List.flatten_cons, List.length_append]
    omega
set_option maxRecDepth 20000 in
set_option maxHeartbeats 1000000 in
theorem value_any (s : List UInt8) (w : World) (hl : s.length ≤ 1000000) :
    Calls Tryz.prog 134 #[.string ⟨s.toArray⟩] w fun e w' => e = .returned (.string ⟨(valB s).toArray⟩) ∧ Below w.heap.size w w' := by
  have hsz := size_lit s
  have htl : ((splitS s).map txt).flatten.length ≤ 1000000 := by
    have := txts_len (splitS s)
    rw [splitS_flat] at this
    omega
  have HL := hide htl
  clear htl
  have HV : Hid (valB s = Lib.trimS ((splitS s).map txt).flatten [32, 9]) := rfl
  generalize valB s = V at *
  obtain ⟨T, hT⟩ : ∃ T, ((splitS s).map txt).flatten = T := ⟨_, rfl⟩
  have HTT := hide hT
  rw [hT] at HV HL
  clear hT
  go_enter Tryz.func134, Tryz.ntmps134
  go_wp2
  go_loopw [4] (fun v wr => ∃ (j : Nat) (pre ys : List UInt8) (l2 : List (List UInt8)), v = .int .i64 j ∧ Hid (AtL s pre l2) ∧ Hid (pre.length = j) ∧ Hid (ys ++ (l2.map txt).flatten = T) ∧ Hid (Lib.IsBuilderF 72 5 w.heap.size w.heap.size (Lib.byteCells ys) wr) ∧ Hid (Below w.heap.size w wr)) (fun v _ => s.length - (intOf v).toNat)
  case atStart => exact ⟨0, [], [], splitS s, rfl, AtL.start s, rfl, HTT.out, Lib.IsBuilderF.of (Lib.fresh_isBuilder _ _ w), (Below.refl _ _).alloc (Nat.le_refl _) _⟩
  case round =>
    obtain ⟨j, pre, ys, l2, rfl, HA, HK, HE, HB, HW⟩ := hrel
    have hjm : j + l2.flatten.length = s.length := by
      rw [HA.out.eq, List.length_append, HK.out]
    have hys : ys.length ≤ 1000000 := by
      have := congrArg List.length HE.out
      have h2 := HL.out
      rw [List.length_append] at this
      omega
    have hbs := HW.out.size
    cases l2 with
    | nil =>
      have hj : j = s.length := by simpa using hjm
      subst hj
      have HE0 : Hid (ys = T) := by
        show _ = _
        rw [← HE.out]
        simp
      have HS := hide (Tryz.Builder_String_any_k w.heap.size w.heap.size ys wr HB.out HW.out.size)
      have HTr := hide (fun w => trim_any ys w hys)
      rw [HE0.out] at HS HTr
      clear hjm HE HA HTT
      go_wp2_with (first
        | (go_at_call 34; refine (HS.out).mono ?_; rintro e w2 ⟨rfl, _, hb2, _⟩; replace hb2 := hide hb2)
        | (go_at_call 150; refine (HTr.out _).mono ?_; rintro e w3 ⟨rfl, hb3⟩; replace hb3 := hide hb3))
      go_ret
      exact ⟨by rw [HV.out]; rfl, (HW.out.trans hb2.out).trans (hb3.out.mono (HW.out.trans hb2.out).size)⟩
    | cons x r =>
      have HLn := hide (line_any HA.out hl HK.out)
      have hne : 0 < x.length := List.length_pos_iff.2 HA.out.ok.ne
      have hlt : (j : Int) < s.length := by
        simp at hjm
        omega
      have HE2 : Hid ((ys ++ txt x) ++ (r.map txt).flatten = T) := by
        show _ = _
        rw [← HE.out]
        simp
      have HWr := hide (fun w1 (h : w1 = wr) => Tryz.Builder_WriteString_k w.heap.size w.heap.size _ ⟨(txt x).toArray⟩ w1 (h ▸ HB.out) (by have := txt_len x; rw [Lib.byteCells_length, size_lit]; simp at hjm; omega) (h ▸ HW.out.size))
      have HN := hide HA.out.next
      have HK2 : Hid ((pre ++ x).length = j + x.length) := by
        show _ = _
        rw [List.length_append, HK.out]
      have hjn : j + x.length ≤ s.length := by rw [← hjm, List.flatten_cons, List.length_append]; omega
      have HTX : Hid (Lib.byteCells ys ++ Lib.strCells ⟨(txt x).toArray⟩ = Lib.byteCells (ys ++ txt x)) := byteCells_app _ _
      generalize txt x = t at *
      obtain ⟨n, hn⟩ : ∃ n, x.length = n := ⟨_, rfl⟩
      rw [hn] at HLn HK2 hjn hne
      clear hn hjm HE HA HK
      go_wp2_with (first
        | (go_at_call 131; refine (HLn.out _).mono ?_; rintro e w2 ⟨rfl, hw2⟩; replace hw2 := hide hw2)
        | (go_at_call 60; refine (HWr.out _ hw2.out).mono ?_; rintro e w3 ⟨rfl, hbl3, hb3, _⟩; replace hbl3 := hide hbl3; replace hb3 := hide hb3))
      go_roundw
      case rel => exact ⟨j + n, _, _, r, rfl, HN, HK2, HE2, (show Lib.IsBuilderF _ _ _ _ _ _ from HTX.out ▸ .inr hbl3.out), HW.out.trans (hw2.out ▸ hb3.out)⟩
      case measure => simp [intOf]; omega
end Go.Proofs.YtegplihhbdmnbaaGreatDoor

end
