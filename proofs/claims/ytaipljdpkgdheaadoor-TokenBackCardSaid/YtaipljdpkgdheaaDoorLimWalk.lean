/- The walk of the law of limits. -/
import Derived.Test.YtaipljdpkgdheaaDoorLimSpec
import Derived.Test.YtaipljdpkgdheaaDoorStringWalk
namespace Go.Proofs.YtaipljdpkgdheaaDoor
open Go Go.RowKit

theorem scan_fault (t : ByteArray) (W : World) (ht : t.size ≤ 4096) (hT : Tabs W) {l : List UInt8} {e : Int} (h : scanR t.size [] t.data.toList = ([], l, e)) (he : ¬ e = 0) (a : Nat) (ha : t.size - l.length = a) :
    Calls Tryd.prog 9 #[.string t] W fun en w' => (∃ (va : Option Addr) (cap : Nat), en = .returned (.tuple #[.slice va 0 cap, .int .i64 (a : Int), .int .i64 e])) ∧ Below W.heap.size W w' := by
  have h1 := scan_any t W ht hT
  rw [h] at h1
  refine h1.mono ?_
  rintro en w' ⟨⟨va, ca, h2, _⟩, h3⟩
  refine ⟨⟨va, ca, ?_⟩, h3⟩
  rw [h2, scanAt, if_neg he, ha]
  rfl
theorem scan_toks (t : ByteArray) (W : World) (ht : t.size ≤ 4096) (hT : Tabs W) {x : Tk} {r : List Tk} (h : scanR t.size [] t.data.toList = (x :: r, [], 0)) (n : Nat) (hn : (x :: r).length = n) :
    Calls Tryd.prog 9 #[.string t] W fun en w' => (∃ (g cap : Nat), en = .returned (.tuple #[.slice (some ⟨g, 0, none⟩) n cap, .int .i64 0, .int .i64 0]) ∧ n ≤ cap ∧ cap ≤ 9223372036854775807 ∧ ∀ (j : Nat) (v : Value), (tkCells (x :: r))[j]? = some v → w'.cell? ⟨g, j, none⟩ = some v) ∧ Below W.heap.size W w' := by
  subst hn
  have h1 := scan_any t W ht hT
  rw [h] at h1
  refine h1.mono ?_
  rintro en w' ⟨⟨va, ca, h2, h4⟩, h3⟩
  rcases owned_case h4 with ⟨h0, _, _⟩ | ⟨g, rfl⟩
  · cases h0
  · have hc := owned_caps h4
    exact ⟨⟨g, ca, h2, hc.1, by have := hc.2; unfold maxLen at this; omega, fun j v hv => by
      have h5 := h4.cells (g := g) rfl j v hv
      have ea : (⟨g, 0, none⟩ : Addr).add j = ⟨g, j, none⟩ := by
        unfold Addr.add
        split
        · subst_vars; rfl
        · simp
      rwa [ea] at h5⟩, h3⟩
set_option maxRecDepth 100000 in
theorem scan_long (t : ByteArray) (w : World) (ht : 4096 < t.size) (ht2 : t.size ≤ 9223372036854775807) :
    Calls Tryd.prog 9 #[.string t] w fun e w' => e = .returned (.tuple #[.slice none 0 0, .int .i64 0, .int .i64 2]) ∧ w' = w := by
  have hq : (4096 : Int) < (t.size : Int) := by omega
  go_enter Tryd.func9, Tryd.ntmps9
  go_wp2_with fail
  go_ret3
  exact ⟨rfl, rfl⟩
theorem conv_new (w : World) (c : UInt8) : (convert 22 9 (.slice (some ⟨w.heap.size, 0, none⟩) 1 1)).run Tryd.prog (w.alloc (Obj.cells #[.int .u8 (c.toNat : Int)] 5)) = .ok (.string ⟨#[c]⟩) (w.alloc (Obj.cells #[.int .u8 (c.toNat : Int)] 5)) :=
  conv_owned (B := w.heap.size) (c := [c]) ⟨by simp [bytesC], .inr ⟨w.heap.size, 1, #[.int .u8 (c.toNat : Int)], rfl, Nat.le_refl _, heap_alloc_new w _, Nat.le_refl _, (show 1 ≤ maxLen by unfold maxLen; omega), by simp, by simp [bytesC]⟩⟩
theorem tmod_small (n : Int) : ∃ k : Nat, k < 40 ∧ (n.tmod 40 = (k : Int) ∨ (n.tmod 40 = -(k : Int) ∧ 0 < k)) := by
  by_cases h : 0 ≤ n
  · exact ⟨(n % 40).toNat, by omega, Or.inl (by rw [Int.tmod_eq_emod_of_nonneg h]; omega)⟩
  · obtain ⟨m, rfl⟩ : ∃ m : Int, n = -m := ⟨-n, by omega⟩
    rw [Int.neg_tmod, Int.tmod_eq_emod_of_nonneg (show 0 ≤ m by omega)]
    by_cases h0 : m % 40 = 0
    · exact ⟨0, by omega, Or.inl (by rw [h0]; rfl)⟩
    · exact ⟨(m % 40).toNat, by omega, Or.inr ⟨by omega, by omega⟩⟩
theorem bytes_append (a b : ByteArray) : (a ++ b).data.toList = a.data.toList ++ b.data.toList := by simp
theorem u8_of_small26 : ∀ j : Fin 26, IntKind.u8.wrap (97 + (j.val : Int)) = ((UInt8.ofNat (97 + j.val)).toNat : Int) ∧ letU (UInt8.ofNat (97 + j.val)) = true := by decide +kernel

def strOf : Value → Nat | .string s => s.size | _ => 0

set_option maxHeartbeats 8000000 in
set_option maxRecDepth 100000 in
theorem limits_any (n : Int) (w : World) (hT : Tabs w) :
    Calls Tryd.prog 4 #[.int .i64 n] w fun e w' => e = .returned (.bool true) ∧ Below w.heap.size w w' := by
  have HT := Lib.hid hT
  obtain ⟨k, hk40, hk⟩ := tmod_small n
  clear hT
  go_enter Tryd.func4, Tryd.ntmps4
  go_upto_if 36 with fail
  go_cut [0] from 33 (fun s0 wx => s0 = .int .i64 (k : Int) ∧ w = wx)
  case first =>
    rcases hk with hk | ⟨hk, hk0⟩
    · have k0 : ¬ (k : Int) < 0 := by omega
      go_wp2_with fail
      go_meet
      case rel => exact ⟨by first | rfl | (rw [hk]), rfl⟩
    · have k0 : -(k : Int) < 0 := by omega
      go_wp2_with fail
      go_meet
      case rel => exact ⟨by first | rfl | (rw [hk, Int.neg_neg]), rfl⟩
  case rest =>
    obtain ⟨rfl, rfl⟩ := hcut
    clear hk
    have k1 : (k : Int) < 40 := by omega
    have k2 : (0 : Int) ≤ (k : Int) := by omega
    go_wp2_with fail
    go_loopw [3, 4] (fun v3 v4 wr => ∃ (i : Nat) (x : ByteArray), i ≤ 32 ∧ v4 = .int .i64 (i : Int) ∧ v3 = .string x ∧ x.size = i ∧ (∀ b ∈ x.data.toList, letU b = true) ∧ Below w.heap.size w wr) (fun _ v4 _ => 32 - (intOf v4).toNat)
    case atStart => exact ⟨0, ⟨#[]⟩, by omega, rfl, rfl, rfl, by simp, Below.refl _ _⟩
    case round =>
      obtain ⟨i, x, hi, rfl, rfl, hxs, hxl, hbel⟩ := hrel
      have HXL := Lib.hid hxl
      have HBE := Lib.hid hbel
      have hzw := hbel.size
      clear hxl hbel
      by_cases hlt : i < 32
      · have i1 : (i : Int) < 32 := by omega
        have i0 : (0 : Int) ≤ (i : Int) := by omega
        obtain ⟨j, hj⟩ : ∃ j, j = (k + i) % 26 := ⟨_, rfl⟩
        have hj26 : j < 26 := by omega
        have e2 : ((k : Int) + (i : Int)).tmod 26 = (j : Int) := by rw [Int.tmod_eq_emod_of_nonneg (by omega)]; omega
        obtain ⟨hu, hlu⟩ := u8_of_small26 ⟨j, hj26⟩
        simp only at hu hlu
        obtain ⟨c, hc⟩ : ∃ c, c = UInt8.ofNat (97 + j) := ⟨_, rfl⟩
        rw [← hc] at hu hlu
        have HLU := Lib.hid hlu
        have hcv := conv_new wr c
        have hone : (⟨#[c]⟩ : ByteArray).size = 1 := rfl
        have hadd : ∀ w : World, (Op.stringOp .add x ⟨#[c]⟩).run Tryd.prog w = .ok (.string (x ++ ⟨#[c]⟩)) w := fun w => run_string_add_sum w _ _ (by rw [hone]; omega)
        have hj97 : (97 : Int) + (j : Int) < 123 := by omega
        have hj0 : (0 : Int) ≤ (j : Int) := by omega
        clear hj hc hlu
        go_wp2_with fail
        go_roundw
        case rel => exact ⟨i + 1, x ++ ⟨#[c]⟩, by omega, by go_num, rfl, by rw [ByteArray.size_append, hone, hxs], by
          intro b hb
          rw [bytes_append] at hb
          rcases List.mem_append.1 hb with hb | hb
          · exact HXL.out b hb
          · rw [List.mem_singleton.1 hb]; exact HLU.out, HBE.out.alloc hzw _⟩
        case measure => simp [intOf]; omega
      · have i1 : ¬ (i : Int) < 32 := by omega
        obtain rfl : i = 32 := by omega
        go_wp2_with fail
        go_loopw [5, 6] (fun v5 v6 wy => ∃ (j : Nat) (y : ByteArray), j ≤ k ∧ v6 = .int .i64 (j : Int) ∧ v5 = .string y ∧ y.data.toList = spaces j ∧ wr = wy) (fun _ v6 _ => k - (intOf v6).toNat)
        case atStart => exact ⟨0, ⟨#[]⟩, by omega, rfl, rfl, rfl, rfl⟩
        case round =>
          obtain ⟨j, y, hj, rfl, rfl, hyl, rfl⟩ := hrel
          have hys : y.size = j := by
            have h : y.data.toList.length = y.size := rfl
            rw [← h, hyl, spaces_len]
          have HYL := Lib.hid hyl
          have hone : (⟨#[32]⟩ : ByteArray).size = 1 := rfl
          clear hyl
          by_cases hlt2 : j < k
          · have j1 : (j : Int) < (k : Int) := by omega
            have hadd : ∀ w : World, (Op.stringOp .add y ⟨#[32]⟩).run Tryd.prog w = .ok (.string (y ++ ⟨#[32]⟩)) w := fun w => run_string_add_sum w _ _ (by rw [hone]; omega)
            go_wp2_with fail
            go_roundw
            case rel => exact ⟨j + 1, y ++ ⟨#[32]⟩, by omega, by go_num, rfl, by rw [bytes_append, HYL.out, spaces_succ], trivial⟩
            case measure => simp [intOf]; omega
          · have j1 : ¬ (j : Int) < (k : Int) := by omega
            obtain rfl : j = k := by omega
            go_wp2_with fail
            go_loopw [7] (fun v7 wz => ∃ (m : Nat) (z : ByteArray), m ≤ 4096 ∧ v7 = .string z ∧ z.data.toList = spaces m ∧ wr = wz) (fun v7 _ => 4096 - (strOf v7))
            case atStart => exact ⟨0, ⟨#[]⟩, by omega, rfl, rfl, rfl⟩
            case round =>
              obtain ⟨m, z, hm, rfl, hzl, rfl⟩ := hrel
              have hzs : z.size = m := by
                have h : z.data.toList.length = z.size := rfl
                rw [← h, hzl, spaces_len]
              have HZL := Lib.hid hzl
              clear hzl
              by_cases hlt3 : m < 4096
              · have m1 : (z.size : Int) < 4096 := by omega
                have hadd : ∀ w : World, (Op.stringOp .add z ⟨#[32]⟩).run Tryd.prog w = .ok (.string (z ++ ⟨#[32]⟩)) w := fun w => run_string_add_sum w _ _ (by rw [hone]; omega)
                have hms : strOf (.string (z ++ ⟨#[32]⟩)) = m + 1 := by show (z ++ ⟨#[32]⟩).size = m + 1; rw [ByteArray.size_append, hone, hzs]
                have hmz : strOf (.string z) = m := hzs
                go_wp2_with fail
                go_roundw
                case rel => exact ⟨m + 1, z ++ ⟨#[32]⟩, by omega, rfl, by rw [bytes_append, HZL.out, spaces_succ], trivial⟩
                case measure => rw [hms, hmz]; omega
              · have m1 : ¬ (z.size : Int) < 4096 := by omega
                obtain rfl : m = 4096 := by omega
                have hz1 : z.size = 4096 := hzs
                have hlx : x.data.toList.length = 32 := hxs
                have hsx : x.size = 32 := hxs
                obtain ⟨b0, r0, hxe⟩ : ∃ b r, x.data.toList = b :: r := by
                  cases h : x.data.toList with
                  | nil => rw [h] at hlx; cases hlx
                  | cons b r => exact ⟨b, r, rfl⟩
                have hb0 : letU b0 = true := HXL.out b0 (by rw [hxe]; simp)
                have hr0 : ∀ c ∈ r0, wordByte c = true := fun c hc => let_word (HXL.out c (by rw [hxe]; simp [hc]))
                have hlen0 : (b0 :: r0).length = 32 := by rw [← hxe]; exact hlx
                -- the texts
                obtain ⟨t1, ht1⟩ : ∃ t, t = y ++ x := ⟨_, rfl⟩
                obtain ⟨t2, ht2⟩ : ∃ t, t = y ++ x ++ (⟨#[57]⟩ : ByteArray) := ⟨_, rfl⟩
                obtain ⟨t6, ht6⟩ : ∃ t, t = z ++ (⟨#[32]⟩ : ByteArray) := ⟨_, rfl⟩
                obtain ⟨q, hq⟩ : ∃ q, q = z.extract 0 256 := ⟨_, rfl⟩
                have hql : q.data.toList = spaces 256 := by
                  rw [hq, ByteArray.data_extract, Array.toList_extract, HZL.out]
                  simp [List.extract, spaces]
                have hqs : q.size = 256 := by
                  have h : q.data.toList.length = q.size := rfl
                  rw [← h, hql, spaces_len]
                obtain ⟨t7, ht7⟩ : ∃ t, t = y ++ (⟨#[34]⟩ : ByteArray) ++ q ++ (⟨#[34]⟩ : ByteArray) := ⟨_, rfl⟩
                obtain ⟨t8, ht8⟩ : ∃ t, t = y ++ (⟨#[34]⟩ : ByteArray) ++ q ++ (⟨#[32, 34]⟩ : ByteArray) := ⟨_, rfl⟩
                have one9 : (⟨#[57]⟩ : ByteArray).size = 1 := rfl
                have oneq : (⟨#[34]⟩ : ByteArray).size = 1 := rfl
                have twoq : (⟨#[32, 34]⟩ : ByteArray).size = 2 := rfl
                have s1 : t1.size = j + 32 := by rw [ht1, ByteArray.size_append, hys, hsx]
                have s2 : t2.size = j + 33 := by rw [ht2, ByteArray.size_append, ByteArray.size_append, hys, hsx, one9]
                have s6 : t6.size = 4097 := by rw [ht6, ByteArray.size_append, hz1]; rfl
                have s7 : t7.size = j + 258 := by rw [ht7, ByteArray.size_append, ByteArray.size_append, ByteArray.size_append, hys, hqs, oneq]
                have s8 : t8.size = j + 259 := by rw [ht8, ByteArray.size_append, ByteArray.size_append, ByteArray.size_append, hys, hqs, oneq, twoq]
                have l1 : t1.data.toList = spaces j ++ (b0 :: r0) := by rw [ht1, bytes_append, HYL.out, hxe]
                have l2 : t2.data.toList = spaces j ++ (b0 :: (r0 ++ [57])) := by rw [ht2, bytes_append, bytes_append, HYL.out, hxe]; simp
                have l7 : t7.data.toList = spaces j ++ 34 :: (spaces 256 ++ [34]) := by rw [ht7, bytes_append, bytes_append, bytes_append, HYL.out, hql]; simp
                have l8 : t8.data.toList = spaces j ++ 34 :: (spaces 256 ++ [32, 34]) := by rw [ht8, bytes_append, bytes_append, bytes_append, HYL.out, hql]; simp
                have H1 := Lib.hid (fun W hW => scan_toks t1 W (by omega) hW (x := ⟨1, b0 :: r0, j⟩) (r := [⟨5, [], j + 32⟩]) (by rw [l1, scan_spaces, scan_word hb0 hr0 (by omega), s1, hlen0, Nat.add_sub_cancel]) 2 rfl)
                have H2 := Lib.hid (fun W hW => scan_fault t2 W (by omega) hW (by rw [l2, scan_spaces, scan_long_word hb0 (fun c hc => by
                  rcases List.mem_append.1 hc with hc | hc
                  · exact hr0 c hc
                  · rw [List.mem_singleton.1 hc]; decide) (by simp only [List.length_cons, List.length_append, List.length_nil] at hlen0 ⊢; omega)]) (by decide) j (by simp only [List.length_cons, List.length_append, List.length_nil] at hlen0 ⊢; omega))
                have H3 := Lib.hid (fun W hW => scan_toks ⟨mostL.toArray⟩ W (show 19 ≤ 4096 by omega) hW scan_most 2 rfl)
                have H4 := Lib.hid (fun W hW => scan_fault ⟨overL.toArray⟩ W (show 19 ≤ 4096 by omega) hW scan_over (by decide) 0 rfl)
                have H5 := Lib.hid (fun W hW => scan_toks z W (by omega) hW (by rw [HZL.out, ← List.append_nil (spaces 4096), scan_spaces, scan_nil, hz1]; rfl) 1 rfl)
                have H6 := Lib.hid (fun W => scan_long t6 W (by omega) (by omega))
                have H7 := Lib.hid (fun W hW => scan_toks t7 W (by omega) hW (by rw [l7, scan_spaces, scan_str256]) 2 rfl)
                have H8 := Lib.hid (fun W hW => scan_fault t8 W (by omega) hW (by rw [l8, scan_spaces, scan_str257]) (by decide) j (by simp only [List.length_cons, List.length_append, List.length_nil, spaces_len]; omega))
                have a1 : ∀ w : World, (Op.stringOp .add y x).run Tryd.prog w = .ok (.string (y ++ x)) w := fun w => run_string_add_sum w _ _ (by omega)
                have a2 : ∀ w : World, (Op.stringOp .add (y ++ x) (⟨#[57]⟩ : ByteArray)).run Tryd.prog w = .ok (.string (y ++ x ++ (⟨#[57]⟩ : ByteArray))) w := fun w => run_string_add_sum w _ _ (by rw [ByteArray.size_append, one9]; omega)
                have a6 : ∀ w : World, (Op.stringOp .add z (⟨#[32]⟩ : ByteArray)).run Tryd.prog w = .ok (.string (z ++ (⟨#[32]⟩ : ByteArray))) w := fun w => run_string_add_sum w _ _ (by rw [hone]; omega)
                have a7 : ∀ w : World, (Op.stringOp .add y (⟨#[34]⟩ : ByteArray)).run Tryd.prog w = .ok (.string (y ++ (⟨#[34]⟩ : ByteArray))) w := fun w => run_string_add_sum w _ _ (by rw [oneq]; omega)
                have a8 : ∀ w : World, (Op.stringOp .add (y ++ (⟨#[34]⟩ : ByteArray)) q).run Tryd.prog w = .ok (.string (y ++ (⟨#[34]⟩ : ByteArray) ++ q)) w := fun w => run_string_add_sum w _ _ (by rw [ByteArray.size_append, oneq]; omega)
                have a9 : ∀ w : World, (Op.stringOp .add (y ++ (⟨#[34]⟩ : ByteArray) ++ q) (⟨#[34]⟩ : ByteArray)).run Tryd.prog w = .ok (.string (y ++ (⟨#[34]⟩ : ByteArray) ++ q ++ (⟨#[34]⟩ : ByteArray))) w := fun w => run_string_add_sum w _ _ (by rw [ByteArray.size_append, ByteArray.size_append, oneq]; omega)
                have a10 : ∀ w : World, (Op.stringOp .add (y ++ (⟨#[34]⟩ : ByteArray) ++ q) (⟨#[32, 34]⟩ : ByteArray)).run Tryd.prog w = .ok (.string (y ++ (⟨#[34]⟩ : ByteArray) ++ q ++ (⟨#[32, 34]⟩ : ByteArray))) w := fun w => run_string_add_sum w _ _ (by rw [ByteArray.size_append, ByteArray.size_append, oneq, twoq]; omega)
                rw [← ht1] at a1 a2
                rw [← ht1] at ht2
                rw [← ht2] at a2
                rw [← ht6] at a6
                rw [← ht7] at a9
                rw [← ht8] at a10
                have HQ := Lib.hid hq
                have HT7 := Lib.hid ht7
                clear ht1 ht2 ht6 ht7 ht8 l1 l2 l7 l8 hb0 hr0 hlen0 hxe hq hql hlx s1 s2 s6 s7 s8
                go_wp2_with fail
                refine (H1.out _ (HT.out.below HBE.out)).mono ?_; rintro e w1 ⟨⟨g1, c1, rfl, hc1, hd1, he1⟩, hb1⟩
                have HB1 := Lib.hid (HBE.out.trans (hb1.mono hzw))
                have HC1 := Lib.hid (he1 2 (.int .i64 (j : Int)) rfl)
                have HL1 := Lib.hid (World.block_lt_of_cell? _ _ HC1.out)
                clear he1 hb1
                go_wp2_with fail
                refine (H2.out _ (HT.out.below HB1.out)).mono ?_; rintro e w2 ⟨⟨g2, c2, rfl⟩, hb2⟩
                have HB2 := Lib.hid (HB1.out.trans (hb2.mono HB1.out.size))
                have HC1_2 := Lib.hid ((hb2.cell (p := ⟨g1, 2, none⟩) HL1.out).trans HC1.out)
                have HL1_2 := Lib.hid (World.block_lt_of_cell? _ _ HC1_2.out)
                clear hb2
                go_wp2_with fail
                refine (H3.out _ (HT.out.below HB2.out)).mono ?_; rintro e w3 ⟨⟨g3, c3, rfl, hc3, hd3, he3⟩, hb3⟩
                have HB3 := Lib.hid (HB2.out.trans (hb3.mono HB2.out.size))
                have HC1_3 := Lib.hid ((hb3.cell (p := ⟨g1, 2, none⟩) HL1_2.out).trans HC1_2.out)
                have HL1_3 := Lib.hid (World.block_lt_of_cell? _ _ HC1_3.out)
                clear he3
                clear hb3
                go_wp2_with fail
                refine (H4.out _ (HT.out.below HB3.out)).mono ?_; rintro e w4 ⟨⟨g4, c4, rfl⟩, hb4⟩
                have HB4 := Lib.hid (HB3.out.trans (hb4.mono HB3.out.size))
                have HC1_4 := Lib.hid ((hb4.cell (p := ⟨g1, 2, none⟩) HL1_3.out).trans HC1_3.out)
                have HL1_4 := Lib.hid (World.block_lt_of_cell? _ _ HC1_4.out)
                clear hb4
                go_wp2_with fail
                refine (H5.out _ (HT.out.below HB4.out)).mono ?_; rintro e w5 ⟨⟨g5, c5, rfl, hc5, hd5, he5⟩, hb5⟩
                have HB5 := Lib.hid (HB4.out.trans (hb5.mono HB4.out.size))
                have HC1_5 := Lib.hid ((hb5.cell (p := ⟨g1, 2, none⟩) HL1_4.out).trans HC1_4.out)
                have HL1_5 := Lib.hid (World.block_lt_of_cell? _ _ HC1_5.out)
                have HC5 := Lib.hid (he5 2 (.int .i64 4096) rfl)
                have HL5 := Lib.hid (World.block_lt_of_cell? _ _ HC5.out)
                clear he5
                clear hb5
                go_wp2_with fail
                refine (H6.out _).mono ?_; rintro e w6 ⟨rfl, rfl⟩
                have u1 := HC1_5.out
                have u5 := HC5.out
                go_wp2_with fail
                rw [← HQ.out, ← HT7.out]
                refine (H7.out _ (HT.out.below HB5.out)).mono ?_; rintro e w7 ⟨⟨g7, c7, rfl, hc7, hd7, he7⟩, hb7⟩
                have HB7 := Lib.hid (HB5.out.trans (hb7.mono HB5.out.size))
                clear he7 hb7 u1 u5
                go_wp2_with fail
                refine (H8.out _ (HT.out.below HB7.out)).mono ?_; rintro e w8 ⟨⟨g8, c8, rfl⟩, hb8⟩
                have HB8 := Lib.hid (HB7.out.trans (hb8.mono HB7.out.size))
                clear hb8
                go_wp2_with fail
                go_ret
                exact ⟨rfl, HB8.out⟩
end Go.Proofs.YtaipljdpkgdheaaDoor
