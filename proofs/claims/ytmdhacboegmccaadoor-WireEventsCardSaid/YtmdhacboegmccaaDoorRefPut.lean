/- The document's own answer: PutInt, same. -/
import Derived.Test.YtmdhacboegmccaaDoorEq
namespace Go.Proofs.YtmdhacboegmccaaDoor
open Go Go.RowKit

set_option maxHeartbeats 8000000 in
set_option maxRecDepth 100000 in
theorem refPut_any (n : Int) (w : World) (h1 : -9223372036854775808 ≤ n) (h2 : n ≤ 9223372036854775807) :
    Calls Tryd.prog 23 #[.int .i64 n] w fun e w' => ∃ v', e = .returned v' ∧ Ext8 w.heap.size w (.slice none 0 0) w' v' (putB n) := by
  obtain ⟨i0, hi0, hz0, hz1, hz2⟩ := info_parts Tryd.infoU8
  have hzl := zz_lt n h1 h2
  obtain ⟨z0, hz⟩ : ∃ z0, z0 = zz n := ⟨_, rfl⟩
  rw [← hz] at hzl
  have HZ := Lib.hid hz
  clear hz
  go_enter Tryd.func23, Tryd.ntmps23
  go_upto_if 9 with fail
  go_cut [3] (fun s3 wx => s3 = .int .u64 (z0 : Int) ∧ wx = w)
  case first =>
    by_cases hneg : n < 0
    · have hv : (z0 : Int) = -2 * n - 1 := by rw [HZ.out]; unfold zz; rw [if_pos hneg]; omega
      go_wp2_with fail
      go_meet
      exact ⟨by rw [hv]; congr 1; omega, rfl⟩
    · have hv : (z0 : Int) = 2 * n := by rw [HZ.out]; unfold zz; rw [if_neg hneg]; omega
      go_wp2_with fail
      go_meet
      exact ⟨by rw [hv, IntKind.wrap_u64, IntKind.wrap_u64]; congr 1; omega, rfl⟩
  case rest =>
    obtain ⟨rfl, hw⟩ := hcut
    obtain rfl : w = wc := hw.symm
    go_wp2_with fail
    go_loopw [3, 4] (fun i u wr => ∃ (z : Nat) (cur : List UInt8), i = .int .u64 z ∧ z < 2 ^ 64 ∧ Ext8 w.heap.size w (.slice none 0 0) wr u cur ∧ cur ++ putZ z = putZ z0) (fun i _ _ => (intOf i).toNat)
    case atStart => exact ⟨z0, [], rfl, hzl, Ext8.refl (owns_nil _ _), rfl⟩
    case round =>
      obtain ⟨z, cur, rfl, hz64, hext, hcur⟩ := hrel
      have hlen := congrArg List.length hcur
      rw [List.length_append] at hlen
      have hz10 := putZ_le z0 hzl
      have hcl : cur.length ≤ 10 := by omega
      have HE := Lib.hid hext
      have HC := Lib.hid hcur
      have hsz := hext.grown.size
      clear hext hcur hlen hz10
      by_cases hlt : z < 128
      · have HP := Lib.hid (putZ_small hlt)
        obtain ⟨x, hx⟩ : ∃ x, x = UInt8.ofNat z := ⟨_, rfl⟩
        rw [← hx] at HP
        obtain rfl : z = x.toNat := by rw [hx]; exact (u8_of z (by omega)).symm
        clear hx
        go_wp2_with (at_builtin; go_must (refine wpList_append_lies _ (by rfl) _ _ _ (by rfl) w.heap.size 5 i0 _ 1 1 Tryd.underlying25 hi0 hz0 hz1 hz2 rfl (by omega) _ cur.length (bytesC cur) (by rfl) (HE.out.own.alloc _) ⟨_, 0, none⟩ 1 1 (bytesC [x]) (by rfl) (by rfl) (World.news_of_block (cs := #[.int .u8 (x.toNat : Int)]) (t := 5) (fr := (0, 0)) (heap_alloc_new _ _)) (bytesC_one _) (by omega) (by unfold maxLen; omega) (by omega) (by simp; omega) _ rfl ?_; intro g cap w7 hown7 hgrow7 hat7 hlt7))
        go_ret
        refine ⟨_, rfl, ?_⟩
        have h := HE.out.trans (Ext8.app rfl hown7 hgrow7 hat7)
        have e : cur ++ [x] = putB n := by rw [← HP.out, HC.out, HZ.out]; rfl
        rw [e] at h
        exact h
      · have HP := Lib.hid (putZ_big hlt)
        obtain ⟨x, hx⟩ : ∃ x, x = UInt8.ofNat (z % 128 + 128) := ⟨_, rfl⟩
        rw [← hx] at HP
        have hxv : 128 + (z : Int) % 128 = (x.toNat : Int) := by rw [hx, u8_of _ (by omega)]; omega
        clear hx
        go_wp2_with (at_builtin; go_must (refine wpList_append_lies _ (by rfl) _ _ _ (by rfl) w.heap.size 5 i0 _ 1 1 Tryd.underlying25 hi0 hz0 hz1 hz2 rfl (by omega) _ cur.length (bytesC cur) (by rfl) (HE.out.own.alloc _) ⟨_, 0, none⟩ 1 1 (bytesC [x]) (by rfl) (by rfl) (World.news_of_block (cs := #[.int .u8 (x.toNat : Int)]) (t := 5) (fr := (0, 0)) (heap_alloc_new _ _)) (bytesC_one _) (by omega) (by unfold maxLen; omega) (by omega) (by simp; omega) _ rfl ?_; intro g cap w7 hown7 hgrow7 hat7 hlt7))
        go_roundw
        case rel => exact ⟨z / 128, cur ++ [x], by go_num, by omega, HE.out.trans (Ext8.app rfl hown7 hgrow7 hat7), by rw [List.append_assoc]; have := HP.out; rw [List.singleton_append, ← this]; exact HC.out⟩
        case measure => simp [intOf]; omega
set_option maxHeartbeats 8000000 in
set_option maxRecDepth 100000 in
theorem refSame_same (l : List UInt8) (ao bo : Option Addr) (ca cb : Nat) (w : World) (hl : l.length ≤ maxLen) (ha : BytesAt w ao l) (hb : BytesAt w bo l) :
    Calls Tryd.prog 53 #[.slice ao l.length ca, .slice bo l.length cb] w fun e w' => e = .returned (.bool true) ∧ Below w.heap.size w w' := by
  have HA := Lib.hid ha
  have HB := Lib.hid hb
  unfold maxLen at hl
  have q2 : ((l.length : Int) != (l.length : Int)) = false := by simp
  clear ha hb
  go_enter Tryd.func53, Tryd.ntmps53
  go_wp2_with fail
  go_loopw [5] (fun i wr => ∃ k d : Nat, k ≤ l.length ∧ i = .int .i64 k ∧ wr = w.drewN d) (fun i _ => l.length - (intOf i).toNat)
  case atStart => exact ⟨0, 0, Nat.zero_le _, rfl, rfl⟩
  case round =>
    obtain ⟨k, d, hk, rfl, rfl⟩ := hrel
    by_cases hlt : k < l.length
    · obtain ⟨b, o, rfl, hca⟩ : ∃ b o, ao = some ⟨b, o, none⟩ ∧ ∀ i (h : i < l.length), w.cell? ⟨b, o + i, none⟩ = some (.int .u8 (l[i].toNat : Int)) := by
        rcases HA.out with h | h
        · rw [h] at hlt; simp at hlt
        · exact h
      obtain ⟨b2, o2, rfl, hcb⟩ : ∃ b o, bo = some ⟨b, o, none⟩ ∧ ∀ i (h : i < l.length), w.cell? ⟨b, o + i, none⟩ = some (.int .u8 (l[i].toNat : Int)) := by
        rcases HB.out with h | h
        · rw [h] at hlt; simp at hlt
        · exact h
      have g1 := hca k hlt
      have g3 := hcb k hlt
      obtain ⟨x, hx⟩ : ∃ x, x = l[k] := ⟨_, rfl⟩
      rw [← hx] at g1 g3
      clear hx hca hcb
      have b1 : (0 : Int) ≤ (k : Int) := by omega
      have b2 : (k : Int) < (l.length : Int) := by omega
      go_wp2_with fail
      go_quiet (fail)
      go_wp2_with fail
      go_roundw
      case rel => exact ⟨k + 1, d + nq, by omega, by go_num, by simp [World.drewN]⟩
      case measure => simp [intOf]; omega
    · go_wp2_with fail
      go_ret
      exact ⟨rfl, below_drewN (Below.refl _ _) _⟩

set_option maxHeartbeats 8000000 in
set_option maxRecDepth 100000 in
theorem refSame_len (n m : Nat) (ao bo : Option Addr) (ca cb : Nat) (w : World) (h : n ≠ m) :
    Calls Tryd.prog 53 #[.slice ao n ca, .slice bo m cb] w fun e w' => e = .returned (.bool false) ∧ w = w' := by
  have q2 : ((n : Int) != (m : Int)) = true := by simp only [bne_iff_ne, ne_eq]; omega
  go_enter Tryd.func53, Tryd.ntmps53
  go_wp2_with fail
  go_ret
  exact ⟨rfl, rfl⟩
end Go.Proofs.YtmdhacboegmccaaDoor
