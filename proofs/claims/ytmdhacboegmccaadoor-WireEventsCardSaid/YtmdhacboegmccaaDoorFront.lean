/- The law's front: what is read would be written so, and less of it ends too early. -/
import Derived.Test.YtmdhacboegmccaaDoorTick
import Derived.Outline
namespace Go.Proofs.YtmdhacboegmccaaDoor
open Go Go.RowKit

theorem BytesAt.take {w : World} {ao : Option Addr} {l : List UInt8} (h : BytesAt w ao l) (n : Nat) : BytesAt w ao (l.take n) := by
  rcases h with h | ⟨b, o, rfl, h⟩
  · exact Or.inl (by rw [h]; simp)
  · exact Or.inr ⟨b, o, rfl, fun i hi => by
      have hi' : i < l.length := by rw [List.length_take] at hi; omega
      simpa using h i hi'⟩
theorem valOk_str {a : Val} (h : valOk a) : a.str.size ≤ 256 := by
  have h := h.1
  unfold validB at h
  split at h
  · simp only [Bool.and_eq_true] at h
    rw [str_nil h.1]
    decide
  · split at h
    · simp only [Bool.and_eq_true, decide_eq_true_eq] at h
      exact h.2
    · split at h
      · simp only [Bool.and_eq_true] at h
        rw [str_nil h.2]
        decide
      · cases h
theorem evOk_str {e : Ev} (h : evOk e) : ∀ a ∈ e.vals, a.str.size ≤ maxLen := fun a ha => Nat.le_trans (valOk_str (h.2.2.2 a ha)) (by decide)
theorem evFault_zero {e : Ev} (h : evOk e) : evFault e = 0 := (evFault_ok e (fun a ha => (h.2.2.2 a ha).2)).2 h
theorem evE_pos (e : Ev) : 1 ≤ (evE e).length := by
  have h := putZ_pos (zz (e.ty.size : Int))
  unfold evE textE putB
  simp only [List.length_append]
  omega
/-- Decode of an event's form, whatever stands behind. -/
theorem decode_form (e : Ev) (r : List UInt8) (ao : Option Addr) (cap : Nat) (w : World) (hres : ResAt w) (hb : BytesAt w ao (evE e ++ r)) (hlc : (evE e ++ r).length ≤ cap) (hcm : cap ≤ maxLen) (he : evOk e) :
    Calls Tryd.prog 17 #[.slice ao (evE e ++ r).length cap] w fun en w' => (∃ g c, en = .returned (.tuple #[evV e (some ⟨g, 0, none⟩) c, .int .i64 ((evE e).length : Nat), .int .i64 0]) ∧ w'.ownsRow w.heap.size 95 4 (.slice (some ⟨g, 0, none⟩) e.vals.length c) e.vals.length (valCells e.vals)) ∧ Below w.heap.size w w' := by
  have h := decode_ok (evE e ++ r) e r ao cap w hres hb hlc hcm (event_there e r he)
  have hn : (((evE e ++ r).length : Nat) : Int) - (r.length : Int) = ((evE e).length : Nat) := by rw [List.length_append]; omega
  rw [hn] at h
  exact h
/-- Decode of less. -/
theorem decode_short (e : Ev) (i : Nat) (ao : Option Addr) (cap : Nat) (w : World) (hres : ResAt w) (hi : i < (evE e).length) (hb : BytesAt w ao ((evE e).take i)) (hlc : i ≤ cap) (hcm : cap ≤ maxLen) (he : evOk e) :
    Calls Tryd.prog 17 #[.slice ao i cap] w fun en w' => en = .returned (.tuple #[.agg #[.string ⟨#[]⟩, .int .i64 0, .slice none 0 0], .int .i64 0, .int .i64 30]) ∧ Below w.heap.size w w' := by
  have hs := event_codec.short e i he hi
  have hl : ((evE e).take i).length = i := by rw [List.length_take]; omega
  have h := decode_no ((evE e).take i) ao cap w hres hb (by omega) hcm (by rw [hs]; decide)
  rw [hs, hl] at h
  exact h

set_option maxHeartbeats 8000000 in
set_option maxRecDepth 100000 in
theorem front_form (e : Ev) (r : List UInt8) (ao : Option Addr) (cap : Nat) (w : World) (hres : ResAt w) (hb : BytesAt w ao (evE e ++ r)) (hlc : (evE e ++ r).length ≤ cap) (hcm : cap ≤ maxLen) (he : evOk e) :
    Calls Tryd.prog 12 #[.slice ao (evE e ++ r).length cap] w fun en w' => en = .returned (.bool true) ∧ Below w.heap.size w w' := by
  have HRES := Lib.hid hres
  have HB := Lib.hid hb
  have HE := Lib.hid he
  have HD := Lib.hid (decode_form e r ao cap w hres hb hlc hcm he)
  obtain ⟨L, hL⟩ : ∃ L, L = (evE e ++ r).length := ⟨_, rfl⟩
  have hpos := evE_pos e
  have hle := evE_le e he
  obtain ⟨N, hN⟩ : ∃ N, N = (evE e).length := ⟨_, rfl⟩
  have hNL : N ≤ L := by rw [hL, hN, List.length_append]; omega
  have HTK := Lib.hid (show (evE e ++ r).take N = evE e by rw [hN, List.take_left])
  rw [← hL] at hlc ⊢
  rw [← hL, ← hN] at HD
  rw [← hN] at hpos hle
  have HN := Lib.hid hN
  have HL := Lib.hid hL
  unfold maxLen at hcm
  clear hres hb he hL hN
  go_enter Tryd.func12, Tryd.ntmps12
  go_wp2_with fail
  refine HD.out.mono ?_; rintro en w1 ⟨⟨g, c, rfl, ho⟩, hb1⟩
  simp only [evV]
  obtain ⟨W2, hW2⟩ : ∃ W2, W2 = w1.alloc (Obj.cells #[.string e.ty, .int .i64 e.time, .slice (some ⟨g, 0, none⟩) e.vals.length c] 24) := ⟨_, rfl⟩
  obtain ⟨T, hT⟩ : ∃ T, T = w1.heap.size := ⟨_, rfl⟩
  have hb2 : Below w1.heap.size w1 W2 := by rw [hW2]; exact (Below.refl _ _).alloc (Nat.le_refl _) _
  have HT2 := Lib.hid (show Cells3 W2 T (.string e.ty) (.int .i64 e.time) (.slice (some ⟨g, 0, none⟩) e.vals.length c) by rw [hW2, hT]; exact Cells3.made _ _ _ _ _)
  have HV2 := Lib.hid (((owned_vals ho).below hb2 (Nat.le_refl _)).mono hb2.size)
  have HB2 := Lib.hid (hb1.trans (hb2.mono hb1.size))
  have HW2 := Lib.hid hW2
  have HTE := Lib.hid hT
  clear ho hb1 hb2 hW2 hT
  go_upto_region 4 with fail
  rw [← HW2.out, ← HTE.out]
  have t0 := HT2.out.c0
  have t1 := HT2.out.c1
  have t2 := HT2.out.c2
  have n1 : ¬ (N : Int) < 1 := by omega
  have n2 : ¬ (L : Int) < (N : Int) := by omega
  go_wp2_with fail
  have HENC := encode_ok e (some ⟨g, 0, none⟩) c W2 (HRES.out.below HB2.out) HV2.out (evOk_str HE.out) HE.out (evFault_zero HE.out)
  simp only [evV] at HENC
  refine HENC.mono ?_; rintro en w3 ⟨v3, rfl, ho3, hb3⟩
  clear HENC t0 t1 t2
  have HB3 := Lib.hid (HB2.out.trans (hb3.mono HB2.out.size))
  obtain ⟨a3, c3, rfl, hy3, _, _⟩ := owned_bytes ho3
  have HY3 := Lib.hid hy3
  have HBw3 := Lib.hid (show BytesAt w3 ao (evE e) by have := (HB.out.below HB3.out).take N; rwa [HTK.out] at this)
  clear ho3 hb3 hy3
  rw [← HN.out]
  have z0 : (0 : Int) ≤ (N : Int) := by omega
  have z1 : (N : Int) ≤ (cap : Int) := by omega
  go_wp2_with fail
  have HSM := same_same (evE e) a3 ao c3 cap w3 (by rw [← HN.out]; unfold maxLen; omega) HY3.out HBw3.out
  rw [← HN.out] at HSM
  refine HSM.mono ?_; rintro en w4 ⟨rfl, hb4⟩
  have HB4 := Lib.hid (HB3.out.trans (hb4.mono HB3.out.size))
  clear HSM hb4
  go_wp2_with fail
  go_loopw [8] (fun i wr => ∃ k : Nat, k ≤ N ∧ i = .int .i64 k ∧ Below w.heap.size w wr) (fun i _ => N - (intOf i).toNat)
  case atStart => exact ⟨0, Nat.zero_le _, rfl, HB4.out⟩
  case round =>
    obtain ⟨k, hk, rfl, hbel⟩ := hrel
    have HBE := Lib.hid hbel
    clear hbel
    by_cases hlt : k < N
    · have k0 : (0 : Int) ≤ (k : Int) := by omega
      have k1 : (k : Int) ≤ (cap : Int) := by omega
      have HBk := Lib.hid (show BytesAt wr ao ((evE e).take k) by
        have h := ((HB.out.below HBE.out).take N).take k
        rwa [HTK.out] at h)
      go_wp2_with fail
      refine (decode_short e k ao cap wr (HRES.out.below HBE.out) (by rw [← HN.out]; exact hlt) HBk.out (by omega) (by unfold maxLen; omega) HE.out).mono ?_; rintro en w5 ⟨rfl, hb5⟩
      go_wp2_with fail
      go_roundw
      case rel => exact ⟨k + 1, by omega, by go_num, (HBE.out.trans (hb5.mono HBE.out.size)).alloc (Nat.le_trans HBE.out.size hb5.size) _⟩
      case measure => simp [intOf]; omega
    · go_wp2_with fail
      go_ret
      exact ⟨rfl, HBE.out⟩

set_option maxHeartbeats 8000000 in
set_option maxRecDepth 100000 in
theorem front_any (l : List UInt8) (ao : Option Addr) (cap : Nat) (w : World) (hres : ResAt w) (hb : BytesAt w ao l) (hlc : l.length ≤ cap) (hcm : cap ≤ maxLen) :
    Calls Tryd.prog 12 #[.slice ao l.length cap] w fun en w' => en = .returned (.bool true) ∧ Below w.heap.size w w' := by
  by_cases hf : (eventR ⟨l, 0⟩).2.fault = 0
  · obtain ⟨h1, h2⟩ := event_codec.back l hf
    obtain ⟨e, he⟩ : ∃ e, e = (eventR ⟨l, 0⟩).1 := ⟨_, rfl⟩
    obtain ⟨r, hr⟩ : ∃ r, r = (eventR ⟨l, 0⟩).2.rest := ⟨_, rfl⟩
    rw [← he] at h1 h2
    rw [← hr] at h2
    rw [h2] at hb hlc ⊢
    exact front_form e r ao cap w hres hb hlc hcm h1
  · have HD := Lib.hid (decode_no l ao cap w hres hb hlc hcm hf)
    obtain ⟨f, hfe⟩ : ∃ f, f = (eventR ⟨l, 0⟩).2.fault := ⟨_, rfl⟩
    rw [← hfe] at hf HD
    have hf2 : (f != 0) = true := by simpa [bne] using hf
    clear hres hb hfe hf
    go_enter Tryd.func12, Tryd.ntmps12
    go_wp2_with fail
    refine HD.out.mono ?_; rintro en w1 ⟨rfl, hb1⟩
    go_wp2_with fail
    go_ret
    exact ⟨rfl, hb1.alloc hb1.size _⟩
end Go.Proofs.YtmdhacboegmccaaDoor
