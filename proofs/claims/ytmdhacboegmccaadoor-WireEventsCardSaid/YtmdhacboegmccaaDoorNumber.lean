/- The law's number: what is read would be written so, and less of it ends too early. -/
import Derived.Test.YtmdhacboegmccaaDoorFront
namespace Go.Proofs.YtmdhacboegmccaaDoor
open Go Go.RowKit

theorem intB_form (v : Int) (r : List UInt8) (h1 : -9223372036854775808 ≤ v) (h2 : v ≤ 9223372036854775807) : intB (putB v ++ r) = (v, (putB v).length, 0) := by
  have e := read_put (zz v) 0 0 r (by omega) (by have := zz_lt v h1 h2; simpa using this) (by omega)
  have e' : readZ 0 0 (putB v ++ r) = (zz v, (putB v).length, 0) := by unfold putB; rw [e]; simp
  unfold intB
  rw [e', if_pos rfl, unz_zz]
theorem intB_short (v : Int) (i : Nat) (h1 : -9223372036854775808 ≤ v) (h2 : v ≤ 9223372036854775807) (hi : i < (putB v).length) : intB ((putB v).take i) = (0, 0, 30) := by
  have e := read_put (zz v) 0 0 [] (by omega) (by have := zz_lt v h1 h2; simpa using this) (by omega)
  obtain ⟨z, r, e1, e2, e3, _, e5, e6⟩ := read_back _ 0 0 _ _ (by omega) e
  have hz : z = zz v := by simpa using e2.symm
  subst hz
  have e7 := e6 i hi
  unfold intB putB
  rw [e7]
  rfl
theorem intB_back (l : List UInt8) (h : (intB l).2.2 = 0) : ∃ v r, l = putB v ++ r ∧ -9223372036854775808 ≤ v ∧ v ≤ 9223372036854775807 := by
  unfold intB at h
  by_cases h0 : (readZ 0 0 l).2.2 = 0
  · obtain ⟨z, r, e1, e2, e3, _, e5, _⟩ := read_back l 0 0 (readZ 0 0 l).1 (readZ 0 0 l).2.1 (by omega) (Prod.ext rfl (Prod.ext rfl h0))
    have hb := unz_bd z (by simpa using e3)
    exact ⟨unz z, r, by unfold putB; rw [zz_unz]; exact e1, hb.1, hb.2⟩
  · rw [if_neg h0] at h
    exact absurd h h0
theorem putB_pos (v : Int) : 1 ≤ (putB v).length := putZ_pos _

set_option maxHeartbeats 8000000 in
set_option maxRecDepth 100000 in
theorem number_form (v : Int) (r : List UInt8) (ao : Option Addr) (cap : Nat) (w : World) (h1 : -9223372036854775808 ≤ v) (h2 : v ≤ 9223372036854775807) (hb : BytesAt w ao (putB v ++ r)) (hlc : (putB v ++ r).length ≤ cap) (hcm : cap ≤ maxLen) :
    Calls Tryd.prog 13 #[.slice ao (putB v ++ r).length cap] w fun en w' => en = .returned (.bool true) ∧ Below w.heap.size w w' := by
  have HB := Lib.hid hb
  have HI := Lib.hid (int_any (putB v ++ r) ao cap w hb (Nat.le_trans hlc hcm))
  rw [intB_form v r h1 h2] at HI
  obtain ⟨L, hL⟩ : ∃ L, L = (putB v ++ r).length := ⟨_, rfl⟩
  have hpos := putB_pos v
  have hle := putB_le v h1 h2
  obtain ⟨N, hN⟩ : ∃ N, N = (putB v).length := ⟨_, rfl⟩
  have hNL : N ≤ L := by rw [hL, hN, List.length_append]; omega
  have HTK := Lib.hid (show (putB v ++ r).take N = putB v by rw [hN, List.take_left])
  rw [← hL] at hlc ⊢
  rw [← hL, ← hN] at HI
  simp only at HI
  rw [← hN] at hpos hle
  have HN := Lib.hid hN
  have HL := Lib.hid hL
  have HSH := Lib.hid (fun i hi => intB_short v i h1 h2 hi)
  rw [← hN] at HSH
  unfold maxLen at hcm
  clear hb hL hN
  have d1 : decide ((N : Int) < 1) = false := decide_eq_false (by omega)
  have d2 : decide (L < N) = false := decide_eq_false (by omega)
  have z0 : (0 : Int) ≤ (N : Int) := by omega
  have z1 : (N : Int) ≤ (cap : Int) := by omega
  have HBN := Lib.hid (show BytesAt w ao (putB v) by have := HB.out.take N; rwa [HTK.out] at this)
  have HSM := Lib.hid (fun (W : World) (a2 : Option Addr) (c2 : Nat) (hy : BytesAt W a2 (putB v)) (hz : BytesAt W ao (putB v)) => same_same (putB v) a2 ao c2 cap W (by rw [← HN.out]; unfold maxLen; omega) hy hz)
  rw [← HN.out] at HSM
  go_enter Tryd.func13, Tryd.ntmps13
  go_wp2_with fail
  refine HI.out.mono ?_; rintro en w1 ⟨rfl, rfl⟩
  go_wp2_with fail
  go_cut [34] (fun s34 wx => s34 = .bool false ∧ Below w.heap.size w wx)
  case first =>
    go_region_held3 (fun _ => True) (first | trivial | exact trivial) ((first
      | (go_at_call 14; refine (putInt_any v _ h1 h2).mono ?_; rintro e w2 ⟨v2, rfl, hx2⟩; obtain ⟨a2, c2, rfl, hy2, _, _⟩ := owned_bytes hx2.own; rw [← HN.out]; have HB2 := Lib.hid ((Below.refl w.heap.size w).drew.trans hx2.fresh))
      | (go_at_call 22; refine (HSM.out _ _ _ hy2 (HBN.out.below HB2.out)).mono ?_; rintro e w3 ⟨rfl, hb3⟩)))
    all_goals
      go_wp2_with fail
      go_meet
      exact ⟨rfl, HB2.out.trans (hb3.mono HB2.out.size)⟩
  case rest =>
    obtain ⟨rfl, hbc⟩ := hcut
    obtain ⟨W4, hW4⟩ : ∃ W4, W4 = wc := ⟨_, rfl⟩
    rw [← hW4] at hbc ⊢
    have HB4 := Lib.hid hbc
    clear hbc hW4 d1 d2
    go_wp2_with fail
    go_loopw [6] (fun i wr => ∃ k : Nat, k ≤ N ∧ i = .int .i64 k ∧ Below w.heap.size w wr) (fun i _ => N - (intOf i).toNat)
    case atStart => exact ⟨0, Nat.zero_le _, rfl, HB4.out⟩
    case round =>
      obtain ⟨k, hk, rfl, hbel⟩ := hrel
      have HBE := Lib.hid hbel
      clear hbel
      by_cases hlt : k < N
      · have k0 : (0 : Int) ≤ (k : Int) := by omega
        have k1 : (k : Int) ≤ (cap : Int) := by omega
        have hlk : ((putB v).take k).length = k := by rw [List.length_take, ← HN.out]; omega
        have HIk := int_any ((putB v).take k) ao cap wr ((HBN.out.below HBE.out).take k) (by rw [hlk]; unfold maxLen; omega)
        rw [HSH.out k hlt, hlk] at HIk
        simp only at HIk
        have HIK := Lib.hid HIk
        clear HIk hlk
        go_wp2_with fail
        refine HIK.out.mono ?_; rintro en w5 ⟨rfl, rfl⟩
        go_wp2_with fail
        go_roundw
        case rel => exact ⟨k + 1, by omega, by go_num, HBE.out⟩
        case measure => simp [intOf]; omega
      · go_wp2_with fail
        go_ret
        exact ⟨rfl, HBE.out⟩

set_option maxHeartbeats 8000000 in
set_option maxRecDepth 100000 in
theorem number_law (l : List UInt8) (ao : Option Addr) (cap : Nat) (w : World) (hb : BytesAt w ao l) (hlc : l.length ≤ cap) (hcm : cap ≤ maxLen) :
    Calls Tryd.prog 13 #[.slice ao l.length cap] w fun en w' => en = .returned (.bool true) ∧ Below w.heap.size w w' := by
  by_cases hf : (intB l).2.2 = 0
  · obtain ⟨v, r, h1, h2, h3⟩ := intB_back l hf
    rw [h1] at hb hlc ⊢
    exact number_form v r ao cap w h2 h3 hb hlc hcm
  · have HI := Lib.hid (int_any l ao cap w hb (Nat.le_trans hlc hcm))
    obtain ⟨⟨v, n, f⟩, hv⟩ : ∃ x, x = intB l := ⟨_, rfl⟩
    rw [← hv] at hf HI
    simp only at hf HI
    have hf2 : (f != 0) = true := by simpa [bne] using hf
    clear hb hv hf
    go_enter Tryd.func13, Tryd.ntmps13
    go_wp2_with fail
    refine HI.out.mono ?_; rintro en w1 ⟨rfl, rfl⟩
    go_wp2_with fail
    go_ret
    exact ⟨rfl, Below.refl _ _⟩
end Go.Proofs.YtmdhacboegmccaaDoor
