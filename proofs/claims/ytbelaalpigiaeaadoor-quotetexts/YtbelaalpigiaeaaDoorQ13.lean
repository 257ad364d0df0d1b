/- QuoteTexts: the walk. -/
import Derived.Test.YtbelaalpigiaeaaDoorQ12
namespace Go.Proofs.YtbelaalpigiaeaaDoor
open Go.RowKit
theorem dec_form {s m : List UInt8} (h : decV s = some m) : encL m = s ∧ m.length ≤ s.length := by
  unfold decV at h
  split at h
  · next hc =>
    obtain ⟨t, ht⟩ := last_form hc.1
    obtain ⟨m', hm'⟩ := unq_end t
    have h2 : (unqL s).dropLast = m := Option.some.inj h
    rw [ht, hm', List.dropLast_concat] at h2
    subst h2
    refine ⟨?_, ?_⟩
    · rw [ht]
      exact unq_back t m' (by rw [← ht]; exact hc.2) hm'
    · have h3 := unq_len (splitS s)
      rw [splitS_flat] at h3
      have h4 : (unqL s).length ≤ s.length := h3
      rw [ht, hm'] at h4
      rw [ht]
      simp at h4 ⊢
      omega
  · cases h
set_option maxRecDepth 8000 in
set_option maxHeartbeats 1000000 in
theorem texts_walk (s : List UInt8) (w : World) (a : Nat → Addr) (hE : Errs w a) (hs : s.length ≤ maxLen) : Calls Tryd.prog 5 #[.string ⟨s.toArray⟩] w fun e w' => e = .returned (.bool true) ∧ Below w.heap.size w w' := by
  unfold maxLen at hs
  by_cases hl : 20000 < s.length
  · clear hE
    go_enter Tryd.func5, Tryd.ntmps5
    go_wp2_with (first
      | (go_at_call 8; refine (alive_yes _).mono ?_; rintro e w1 ⟨rfl, hb1⟩; replace hb1 := hide hb1))
    go_ret
    exact ⟨rfl, hb1.out⟩
  · have hl' : ¬ (20000 : Int) < s.length := by omega
    have HR := hide (fun w => rdecode_any s w (by omega))
    have HD := hide (fun w hg => decode_any s w (a 1) (by omega) hg)
    unfold decDT at HR
    rw [show decD s = decV s from rfl] at HR
    unfold decT at HD
    cases hd : decV s with
    | some m =>
      rw [hd] at HD HR
      obtain ⟨hm1, hm2⟩ := dec_form hd
      have HEn := hide (fun w => encode_any m w (by omega))
      rw [hm1] at HEn
      clear hm1 hd hE
      go_enter Tryd.func5, Tryd.ntmps5
      go_wp2_with (first
        | (go_at_call 8; refine (alive_yes _).mono ?_; rintro e w1 ⟨rfl, hb1⟩; replace hb1 := hide hb1)
        | (go_at_call 16; refine (HD.out _ (fun h => by cases h)).mono ?_; rintro e w2 ⟨rfl, hb2⟩; replace hb2 := hide hb2)
        | (go_at_call 17; refine (HR.out _).mono ?_; rintro e w3 ⟨rfl, hb3⟩; replace hb3 := hide hb3)
        | (go_at_call 14; refine (HEn.out _).mono ?_; rintro e w4 ⟨rfl, hb4⟩; replace hb4 := hide hb4))
      go_ret
      have b2 := hb1.out.trans (hb2.out.mono hb1.out.size)
      have b3 := b2.trans (hb3.out.mono b2.size)
      exact ⟨by simp, b3.trans (hb4.out.mono b3.size)⟩
    | none =>
      rw [hd] at HD HR
      have HE := hide hE
      clear hd hE
      go_enter Tryd.func5, Tryd.ntmps5
      go_wp2_with (first
        | (go_at_call 8; refine (alive_yes _).mono ?_; rintro e w1 ⟨rfl, hb1⟩; have HE1 := hide (HE.out.below hb1); replace hb1 := hide hb1)
        | (go_at_call 16; refine (HD.out _ (fun _ => ⟨HE1.out.low 1 (by decide), HE1.out.cell 1 (by decide)⟩)).mono ?_; rintro e w2 ⟨rfl, hb2⟩; have HE2 := hide (HE1.out.below hb2); replace hb2 := hide hb2)
        | (go_at_call 17; refine (HR.out _).mono ?_; rintro e w3 ⟨rfl, hb3⟩; have HE3 := hide (HE2.out.below hb3); replace hb3 := hide hb3)
        | (go_at_call 18; refine (num_err 1 (by decide) _ a HE3.out).mono ?_; rintro e w4 ⟨rfl, hb4⟩; replace hb4 := hide hb4))
      go_ret
      have b2 := hb1.out.trans (hb2.out.mono hb1.out.size)
      have b3 := b2.trans (hb3.out.mono b2.size)
      exact ⟨by simp, b3.trans (hb4.out.mono b3.size)⟩
end Go.Proofs.YtbelaalpigiaeaaDoor
