/- Package value: a text in quotes, for every text that may be a value (what is written is left open). -/
import Derived.Test.YtaipljdpkgdheaaDoorQuote
namespace Go.Proofs.YtaipljdpkgdheaaDoor
open Go Go.RowKit

theorem conv_quoted {w : World} {B cap n g : Nat} {m : List UInt8} (hn : n = m.length) (h : w.ownsRow B 5 1 (.slice (some ⟨g, 0, none⟩) (n + 1) cap) (n + 1) (bytesC m ++ [.int .u8 34])) : (convert 22 9 (.slice (some ⟨g, 0, none⟩) (n + 1) cap)).run Tryd.prog w = .ok (.string ⟨(m ++ [34]).toArray⟩) w := by
  subst hn
  have e : (m ++ [34]).length = m.length + 1 := by simp
  have h2 := conv_owned (w := w) (B := B) (cap := cap) (va := some ⟨g, 0, none⟩) (c := m ++ [34]) (by rw [e, bytesC_append]; exact h)
  rw [e] at h2
  exact h2
set_option maxHeartbeats 8000000 in
set_option maxRecDepth 100000 in
theorem quote_any (s : ByteArray) (w : World) (hs : s.size ≤ 256) :
    Calls Tryd.prog 61 #[.string s] w fun e w' => (∃ q : ByteArray, e = .returned (.string q) ∧ q.size ≤ 2000) ∧ Below w.heap.size w w' := by
  obtain ⟨i0, hi0, iz0, iz1, iz2⟩ := info_parts Tryd.infoU8
  have HO := Lib.hid (show (w.alloc (Obj.cells #[.int .u8 34] 5)).ownsRow w.heap.size 5 1 (.slice (some ⟨w.heap.size, 0, none⟩) 1 1) 1 (bytesC [34]) from
    ⟨by simp [bytesC], .inr ⟨w.heap.size, 1, #[.int .u8 34], rfl, Nat.le_refl _, heap_alloc_new w _, Nat.le_refl _, (show 1 ≤ maxLen by unfold maxLen; omega), by simp, by simp [bytesC]⟩⟩)
  go_enter Tryd.func61, Tryd.ntmps61
  go_wp2_with fail
  go_loopw [3, 8] (fun v i wr => ∃ (k : Nat) (m : List UInt8) (va : Option Addr) (cap : Nat), k ≤ s.size ∧ i = .int .i64 k ∧ v = .slice va m.length cap ∧ wr.ownsRow w.heap.size 5 1 (.slice va m.length cap) m.length (bytesC m) ∧ m.length ≤ 1 + 4 * k ∧ Below w.heap.size w wr) (fun _ i _ => s.size - (intOf i).toNat)
  case atStart => exact ⟨0, [34], _, 1, Nat.zero_le _, rfl, rfl, HO.out, by simp, (Below.refl _ _).alloc (Nat.le_refl _) _⟩
  case round =>
    obtain ⟨k, m, va, cap, hk, rfl, rfl, hown, hm, hbel⟩ := hrel
    have HW := Lib.hid hown
    have HBE := Lib.hid hbel
    have hzw := hbel.size
    obtain ⟨n, hn⟩ : ∃ n, n = m.length := ⟨_, rfl⟩
    have HN := Lib.hid hn
    have hnb : n ≤ 1 + 4 * k := by omega
    have hmb : m.length ≤ 100000 := by omega
    rw [← hn] at hown ⊢
    have HWN := Lib.hid hown
    clear hown hbel hm hn
    by_cases hlt : k < s.size
    · have k0 : (0 : Int) ≤ (k : Int) := by omega
      have k1 : (k : Int) < (s.size : Int) := by omega
      have HC := Lib.hid (appendByte_any w.heap.size m va cap (s[k]'hlt) wr HW.out hmb hzw)
      rw [← HN.out] at HC
      clear hmb
      go_wp2_with fail
      refine HC.out.mono ?_; rintro e w2 ⟨m2, va2, cap2, rfl, hown2, hm2, hb2⟩
      have HW2 := Lib.hid hown2
      have HB2 := Lib.hid (HBE.out.trans hb2)
      have HM2 := Lib.hid (show m2.length ≤ 1 + 4 * (k + 1) by omega)
      clear hown2 hm2 hb2
      go_wp2_with fail
      go_roundw
      case rel => exact ⟨k + 1, m2, va2, cap2, by omega, by go_num, rfl, HW2.out, HM2.out, HB2.out⟩
      case measure => simp [intOf]; omega
    · go_wp2_with (at_builtin; go_must (refine wpList_append_lies _ (by rfl) _ _ _ (by rfl) w.heap.size 5 i0 _ 1 1 Tryd.underlying22 hi0 iz0 iz1 iz2 rfl (by omega) (.slice va n cap) n (bytesC m) (by rfl) (HWN.out.alloc _) ⟨_, 0, none⟩ 1 1 [.int .u8 34] (by rfl) (by rfl) (World.news_of_block (cs := #[.int .u8 34]) (t := 5) (fr := (0, 0)) (heap_alloc_new _ _)) (by simp [Value.oneCell']) (by omega) (by unfold maxLen; omega) (by omega) (by simp; omega) _ rfl ?_; intro g2 cap2 w7 hown7 hgrow7 hat7 hlt7; have hcv := conv_quoted HN.out hown7))
      go_ret
      refine ⟨⟨⟨(m ++ [34]).toArray⟩, rfl, ?_⟩, Below.grown (HBE.out.alloc (by omega) _) hgrow7 (by rw [World.size_alloc]; omega) (ownBlock_lo HWN.out)⟩
      show (m ++ [34]).length ≤ 2000
      rw [List.length_append, ← HN.out]
      simp
      omega
end Go.Proofs.YtaipljdpkgdheaaDoor
