/- Package value: a text read that stands in quotes (what is read is left open). -/
import Derived.Test.YtaipljdpkgdheaaDoorFirstByte
namespace Go.Proofs.YtaipljdpkgdheaaDoor
open Go Go.RowKit

set_option maxHeartbeats 8000000 in
set_option maxRecDepth 100000 in
theorem unquote_no (s : ByteArray) (w : World) (hm : s.size ≤ 140737488355328) (h0 : 0 < s.size) (hh : s[0]'h0 = 34) (hn : s.size < 2 ∨ s[s.size - 1]'(by omega) ≠ 34) :
    Calls Tryd.prog 79 #[.string s] w fun e w' => e = .returned (.tuple #[.string ⟨#[]⟩, .bool false]) ∧ Below w.heap.size w w' := by
  have k0 : (0 : Int) < (s.size : Int) := by omega
  by_cases h2 : s.size < 2
  · have k1 : (s.size : Int) < 2 := by omega
    go_enter Tryd.func79, Tryd.ntmps79
    go_wp2_with fail
    go_ret2
    exact ⟨rfl, Below.refl _ _⟩
  · have k1 : ¬ (s.size : Int) < 2 := by omega
    have hl : s[s.size - 1]'(by omega) ≠ 34 := by rcases hn with h | h; omega; exact h
    have kw := IntWalk.i64_in ((s.size : Int) - 1) (by omega)
    have k2 : (0 : Int) ≤ (s.size : Int) - 1 := by omega
    have k3 : (s.size : Int) - 1 < (s.size : Int) := by omega
    have kt : ((s.size : Int) - 1).toNat = s.size - 1 := by omega
    have hne : ((s[s.size - 1]'(by omega)).toNat : Int) ≠ 34 := by
      intro h
      apply hl
      apply UInt8.toNat_inj.1
      have : (s[s.size - 1]'(by omega)).toNat = 34 := by omega
      rw [this]; rfl
    have hq : ((((s[s.size - 1]'(by omega)).toNat : Int)) != 34) = true := by rw [bne_iff_ne]; exact hne
    clear hl hn
    go_enter Tryd.func79, Tryd.ntmps79
    go_wp2_with fail
    go_ret2
    exact ⟨rfl, Below.refl _ _⟩
set_option maxHeartbeats 8000000 in
set_option maxRecDepth 100000 in
theorem unquote_yes (s : ByteArray) (w : World) (hm : s.size ≤ 140737488355328) (h0 : 0 < s.size) (hh : s[0]'h0 = 34) (h2 : 2 ≤ s.size) (hl : s[s.size - 1]'(by omega) = 34) :
    Calls Tryd.prog 79 #[.string s] w fun e w' => (∃ q b, e = .returned (.tuple #[.string q, .bool b]) ∧ q.size ≤ s.size) ∧ Below w.heap.size w w' := by
  obtain ⟨i0, hi0, iz0, iz1, iz2⟩ := info_parts Tryd.infoU8
  have k0 : (0 : Int) < (s.size : Int) := by omega
  have k1 : ¬ (s.size : Int) < 2 := by omega
  have kw := IntWalk.i64_in ((s.size : Int) - 1) (by omega)
  have k2 : (0 : Int) ≤ (s.size : Int) - 1 := by omega
  have k3 : (s.size : Int) - 1 < (s.size : Int) := by omega
  have kt : ((s.size : Int) - 1).toNat = s.size - 1 := by omega
  have k4 : (1 : Int) ≤ (s.size : Int) - 1 := by omega
  have k5 : (s.size : Int) - 1 ≤ (s.size : Int) := by omega
  go_enter Tryd.func79, Tryd.ntmps79
  go_wp2_with fail
  obtain ⟨S, hS⟩ : ∃ S : Nat, S = s.size := ⟨_, rfl⟩
  go_loopw [4, 5, 6, 7] (fun vb vr vc vz wr => ∃ (m : List UInt8) (va : Option Addr) (cap : Nat) (r : ByteArray), vr = .string r ∧ vb = .slice va m.length cap ∧ wr.ownsRow w.heap.size 5 1 (.slice va m.length cap) m.length (bytesC m) ∧ m.length + r.size ≤ s.size ∧ Below w.heap.size w wr) (fun _ vr _ _ _ => match vr with | .string r => r.size | _ => 0)
  case atStart => exact ⟨[], none, 0, _, rfl, rfl, World.ownsRow_nil _ _ _ _, by simp [ByteArray.size_extract]; omega, Below.refl _ _⟩
  case round =>
    obtain ⟨m, va, cap, r, rfl, rfl, hown, hmr, hbel⟩ := hrel
    have HO := Lib.hid hown
    have HBE := Lib.hid hbel
    have hzw := hbel.size
    have hcv := conv_owned hown
    obtain ⟨n, hn⟩ : ∃ n, n = m.length := ⟨_, rfl⟩
    have HN := Lib.hid hn
    rw [← hn] at hown hmr hcv ⊢
    have HON := Lib.hid hown
    have HCV := Lib.hid hcv
    clear hown hbel hn hcv
    cases hz : (r.toList == [])
    · have hr0 : 0 < r.size := by
        rcases Nat.eq_zero_or_pos r.size with h | h
        · have h1 : r.toList = [] := by rw [ByteArray.toList_eq]; exact List.eq_nil_of_length_eq_zero h
          rw [h1] at hz; cases hz
        · exact h
      have HC := Lib.hid (firstByte_any r wr hr0 (by omega))
      go_wp2_with fail
      refine HC.out.mono ?_; rintro e w2 ⟨⟨c, z, rfl, hz1, hz4⟩, hb2⟩
      have HB2 := Lib.hid (HBE.out.trans (hb2.mono hzw))
      have hz2 := hb2.size
      have HO2 := Lib.hid (owns_below HON.out hb2)
      clear hb2
      by_cases hz0 : z = 0
      · subst hz0
        go_wp2_with fail
        go_ret2
        exact ⟨⟨⟨#[]⟩, false, rfl, Nat.zero_le _⟩, HB2.out⟩
      · have hq : ((z : Int) == 0) = false := by rw [beq_eq_false_iff_ne]; omega
        have z0 : (0 : Int) ≤ (z : Int) := by omega
        have z1 : (z : Int) ≤ (r.size : Int) := by omega
        have z2 : z ≤ r.size := hz1
        clear hz
        go_wp2_with (at_builtin; go_must (refine wpList_append_lies _ (by rfl) _ _ _ (by rfl) w.heap.size 5 i0 _ 1 1 Tryd.underlying22 hi0 iz0 iz1 iz2 rfl (by omega) (.slice va n cap) n (bytesC m) (by rfl) (HO2.out.alloc _) ⟨_, 0, none⟩ 1 1 [.int .u8 (c.toNat : Int)] (by rfl) (by rfl) (World.news_of_block (cs := #[.int .u8 (c.toNat : Int)]) (t := 5) (fr := (0, 0)) (heap_alloc_new _ _)) (by simp [Value.oneCell']) (by omega) (by unfold maxLen; omega) (by omega) (by simp; omega) _ rfl ?_; intro g7 cap7 w7 hown7 hgrow7 hat7 hlt7))
        have HB7 := Lib.hid (Below.grown (HB2.out.alloc (by omega) (Obj.cells #[.int .u8 (c.toNat : Int)] 5)) hgrow7 (by rw [World.size_alloc]; omega) (ownBlock_lo HON.out))
        have e : (m ++ [c]).length = n + 1 := by rw [List.length_append, ← HN.out]; rfl
        have HO7 := Lib.hid (show w7.ownsRow w.heap.size 5 1 (.slice (some ⟨g7, 0, none⟩) (m ++ [c]).length cap7) (m ++ [c]).length (bytesC (m ++ [c])) by rw [e, bytesC_append]; exact hown7)
        have hre : (r.extract z r.size).size = r.size - z := by simp [ByteArray.size_extract]
        clear hown7 hgrow7 hat7 hlt7
        go_roundw
        case rel => exact ⟨m ++ [c], some ⟨g7, 0, none⟩, cap7, r.extract z r.size, rfl, by rw [e], HO7.out, by rw [e, hre]; omega, HB7.out⟩
        case measure => show (r.extract z r.size).size < r.size; omega
    · have HCV2 := HCV.out
      go_wp2_with fail
      go_ret2
      refine ⟨⟨⟨m.toArray⟩, true, rfl, ?_⟩, HBE.out⟩
      show m.length ≤ s.size
      rw [← HN.out]
      omega
end Go.Proofs.YtaipljdpkgdheaaDoor
