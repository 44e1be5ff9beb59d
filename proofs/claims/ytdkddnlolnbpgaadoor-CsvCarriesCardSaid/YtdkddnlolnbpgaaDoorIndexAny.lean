/- strings.IndexAny and ContainsAny of the four special bytes, in any text. -/
import Derived.Test.YtdkddnlolnbpgaaDoorBase
import Derived.Test.YtdkddnlolnbpgaaDoorDecode
import Derived.Lib.OthersKept
import Derived.Laws.Runes
namespace Go.Proofs.YtdkddnlolnbpgaaDoor
open Go Go.RowKit

/-- The four bytes as a string. -/
abbrev specS : ByteArray := ⟨#[44, 34, 13, 10]⟩
theorem byte_none (c : UInt8) (l : List UInt8) (hl : ∀ b ∈ l, b ≠ c) : Lib.indexByte l c = -1 := by
  induction l with
  | nil => rfl
  | cons b l ih =>
    have hb := hl b (by simp)
    simp only [Lib.indexByte]
    rw [if_neg (by simpa using hb), ih (fun x hx => hl x (by simp [hx]))]
    rfl
theorem below_drewNn {B : Nat} {a w : World} (h : Below B a w) (n : Nat) : Below B a (w.drewN n) := ⟨h.os, h.tape, h.output, h.size, h.block⟩
theorem spec_lo : ∀ b ∈ specS.data.toList, b.toNat < 128 := by decide
theorem byte_hi (x : UInt8) (hx : 128 ≤ x.toNat) (a e : Nat) : Lib.indexByte (specS.extract a e).data.toList ((x.toNat : Int).toNat.toUInt8) = -1 := by
  have e1 : (x.toNat : Int).toNat.toUInt8 = x := by simp
  rw [e1]
  refine byte_none _ _ fun b hb h => ?_
  have := spec_lo b (mem_extract hb)
  rw [h] at this
  omega

set_option maxHeartbeats 8000000 in
set_option maxRecDepth 100000 in
theorem indexRune_hi (r : Int) (w : World) (h1 : 128 ≤ r) (h2 : r ≤ 1114111) :
    Calls Tryd.prog 45 #[.string specS, .int .i32 r] w fun e w' => e = .returned (.int .i64 (-1)) ∧ Below w.heap.size w w' := by
  by_cases hf : r = 65533
  · subst hf
    go_enter Tryd.func45, Tryd.ntmps45
    go_wp2_with fail
    go_loopg [] 4 (fun g wx => ∃ i : Nat, i + g = 4 ∧ wx = w.iter specS i)
    case atStart => exact ⟨0, rfl, rfl⟩
    case round =>
      obtain ⟨i, hig, rfl⟩ := hrel
      cases gk with
      | zero =>
        obtain rfl : i = 4 := by omega
        have hnx := run_next_end (P := Tryd.prog) w specS 4
        go_wp2
        go_ret
        exact ⟨rfl, (Below.refl _ _).alloc (Nat.le_refl _) _⟩
      | succ g =>
        have hi : i < 4 := by omega
        have hx : (specS[i]'hi).toNat < 128 := spec_lo _ (Array.getElem_mem_toList (xs := specS.data) hi)
        have hnx := fun ty => run_next_ascii (P := Tryd.prog) w specS i ty hi hx
        obtain ⟨x, hx2⟩ : ∃ x : UInt8, x = specS[i]'hi := ⟨_, rfl⟩
        rw [← hx2] at hx hnx
        have hne : ((x.toNat : Int) == 65533) = false := beq_eq_false_iff_ne.2 (by omega)
        clear hx2
        go_wp2
        go_roundg g
        case measure => omega
        case rel => exact ⟨i + 1, by omega, rfl⟩
  · cases hv : Lib.validRune r
    · go_enter Tryd.func45, Tryd.ntmps45
      go_wp2_with (go_at_call 63; go_must (refine (Tryd.utf8_ValidRune _ _).mono ?_; rintro e w2 ⟨rfl, hw⟩; rw [hw, hv]))
      go_ret
      exact ⟨rfl, Below.refl _ _⟩
    · obtain ⟨e1, e2, e3⟩ := encode_facts r ((validRune_eq r).trans hv) h1
      obtain ⟨E, hE⟩ : ∃ E, E = Utf8.encode r := ⟨_, rfl⟩
      rw [← hE] at e1 e2 e3
      have HCV : ∀ w, (convert 21 9 (.int .i32 r)).run Tryd.prog w = .ok (.string E) w := fun w => by rw [hE]; exact run_convert_int_string w 21 9 .i32 r (by rw [Tryd.underlying21]; rfl) Tryd.underlying9
      have e4 := e3 (by omega)
      obtain ⟨x, hx⟩ : ∃ x, x = E[E.size - 1]'(by omega) := ⟨_, rfl⟩
      rw [← hx] at e4
      have hn : E.size = 2 ∨ E.size = 3 ∨ E.size = 4 := by omega
      clear e3 hE
      rcases hn with hn | hn | hn
      · have wn : IntKind.i64.wrap 2 = 2 := by decide
        have hx1 : E[1]'(by omega) = x := by rw [hx]; congr 1; omega
        have hq : (((specS[1]'(by decide)).toNat : Int) != (x.toNat : Int)) = true := by
          rw [bne_iff_ne]
          have : (specS[1]'(by decide)).toNat = 34 := by decide
          omega
        have HB := Lib.hid (fun (a e : Nat) (W : World) => show Calls Tryd.prog 53 #[.string (specS.extract a e), .int .u8 x.toNat] W fun en w' => en = .returned (.int .i64 (-1)) ∧ w' = W from (Tryd.strings_IndexByte (specS.extract a e) x.toNat W).mono fun en w' ⟨h1, h2⟩ => ⟨by rw [h1, byte_hi x e4 a e], h2⟩)
        clear hx
        go_enter Tryd.func45, Tryd.ntmps45
        go_wp2_with (go_at_call 63; go_must (refine (Tryd.utf8_ValidRune _ _).mono ?_; rintro e w2 ⟨rfl, hw⟩; rw [hw, hv]))
        go_step3
        go_wp2_with fail
        refine wp_loop_rounds 1 ?_
        rw [rounds_succ]
        go_wp2_with fail
        go_step3
        go_wp2_with fail
        go_quiet (fail)
        go_wp2_with fail
        go_region_held3 (fun _ => True) (trivial) ((go_at_call 53; (with_reducible refine (HB.out _ _ _).mono ?_); rintro en w4 ⟨rfl, hw⟩; subst hw))
        all_goals
          go_wp2_with fail
          rw [Exit.noGoto_ret]
          simp only [go_sem]
          try rw [Exit.noGoto_ret]
          go_ret
          exact ⟨rfl, below_drewNn (Below.refl _ _) _⟩
      · have wn : IntKind.i64.wrap 3 = 3 := by decide
        have hx1 : E[2]'(by omega) = x := by rw [hx]; congr 1; omega
        have hq : (((specS[2]'(by decide)).toNat : Int) != (x.toNat : Int)) = true := by
          rw [bne_iff_ne]
          have : (specS[2]'(by decide)).toNat = 13 := by decide
          omega
        have HB := Lib.hid (fun (a e : Nat) (W : World) => show Calls Tryd.prog 53 #[.string (specS.extract a e), .int .u8 x.toNat] W fun en w' => en = .returned (.int .i64 (-1)) ∧ w' = W from (Tryd.strings_IndexByte (specS.extract a e) x.toNat W).mono fun en w' ⟨h1, h2⟩ => ⟨by rw [h1, byte_hi x e4 a e], h2⟩)
        clear hx
        go_enter Tryd.func45, Tryd.ntmps45
        go_wp2_with (go_at_call 63; go_must (refine (Tryd.utf8_ValidRune _ _).mono ?_; rintro e w2 ⟨rfl, hw⟩; rw [hw, hv]))
        go_step3
        go_wp2_with fail
        refine wp_loop_rounds 1 ?_
        rw [rounds_succ]
        go_wp2_with fail
        go_step3
        go_wp2_with fail
        go_quiet (fail)
        go_wp2_with fail
        go_region_held3 (fun _ => True) (trivial) ((go_at_call 53; (with_reducible refine (HB.out _ _ _).mono ?_); rintro en w4 ⟨rfl, hw⟩; subst hw))
        all_goals
          go_wp2_with fail
          rw [Exit.noGoto_ret]
          simp only [go_sem]
          try rw [Exit.noGoto_ret]
          go_ret
          exact ⟨rfl, below_drewNn (Below.refl _ _) _⟩
      · have wn : IntKind.i64.wrap 4 = 4 := by decide
        have hx1 : E[3]'(by omega) = x := by rw [hx]; congr 1; omega
        have hq : (((specS[3]'(by decide)).toNat : Int) != (x.toNat : Int)) = true := by
          rw [bne_iff_ne]
          have : (specS[3]'(by decide)).toNat = 10 := by decide
          omega
        have HB := Lib.hid (fun (_ _ : Nat) (W : World) => show Calls Tryd.prog 53 #[.string ByteArray.empty, .int .u8 x.toNat] W fun en w' => en = .returned (.int .i64 (-1)) ∧ w' = W from (Tryd.strings_IndexByte ByteArray.empty x.toNat W).mono fun en w' ⟨h1, h2⟩ => ⟨by rw [h1]; rfl, h2⟩)
        clear hx
        go_enter Tryd.func45, Tryd.ntmps45
        go_wp2_with (go_at_call 63; go_must (refine (Tryd.utf8_ValidRune _ _).mono ?_; rintro e w2 ⟨rfl, hw⟩; rw [hw, hv]))
        go_step3
        go_wp2_with fail
        refine wp_loop_rounds 1 ?_
        rw [rounds_succ]
        go_wp2_with fail
        go_step3
        go_wp2_with fail
        go_quiet (fail)
        go_wp2_with fail
        go_region_held3 (fun _ => True) (trivial) ((go_at_call 53; (with_reducible refine (HB.out 0 0 _).mono ?_); rintro en w4 ⟨rfl, hw⟩; subst hw))
        all_goals
          go_wp2_with fail
          rw [Exit.noGoto_ret]
          simp only [go_sem]
          try rw [Exit.noGoto_ret]
          go_ret
          exact ⟨rfl, below_drewNn (Below.refl _ _) _⟩
theorem no_hi {l : List UInt8} {i : Nat} (h : Lib.NoAny l specC i) : ∀ n, (∀ j, j < n → ∃ x : UInt8, l[i + j]? = some x ∧ 128 ≤ x.toNat) → Lib.NoAny l specC (i + n)
  | 0, _ => h
  | n + 1, hx => by
    obtain ⟨x, h1, h2⟩ := hx n (by omega)
    have hc : specC.contains x = false := by
      rw [← Bool.not_eq_true]
      intro hc
      simp [specC] at hc
      rcases hc with rfl | rfl | rfl | rfl <;> simp at h2
    exact (no_hi h n (fun j hj => hx j (by omega))).succ h1 hc

set_option maxHeartbeats 8000000 in
set_option maxRecDepth 100000 in
theorem indexAny_short (s : ByteArray) (w : World) (h8 : s.size ≤ 8) :
    Calls Tryd.prog 38 #[.string s, .string specS] w fun e w' => e = .returned (.int .i64 (Lib.indexAny s.data.toList specC)) ∧ Below w.heap.size w w' := by
  have h8z : decide ((8 : Int) < (s.size : Int)) = false := decide_eq_false (by omega)
  go_enter Tryd.func38, Tryd.ntmps38
  go_wp2_with (go_at_call 46; refine (Tryd.strings_shouldUseASCIISet _ _).mono ?_; rintro e w' ⟨rfl, hw⟩; rw [hw, h8z])
  go_loopg [9, 10] s.size (fun g _ _ wx => ∃ i : Nat, i ≤ s.size ∧ s.size ≤ i + g ∧ wx.heap[w.heap.size]? = some (.stringIter s i) ∧ Below w.heap.size w wx ∧ Lib.NoAny s.data.toList specC i)
  case atStart => exact ⟨0, by omega, by omega, World.iter_heap w s 0, (Below.refl _ _).alloc (Nat.le_refl _) _, Lib.NoAny.zero _ _⟩
  case round =>
    obtain ⟨i, hi, hig, hit, hbw, hno⟩ := hrel
    have HN := Lib.hid hno
    have HBW := Lib.hid hbw
    have HIT := Lib.hid hit
    clear hno hbw
    by_cases hlt : i < s.size
    · obtain ⟨g, rfl⟩ : ∃ g, gk = g + 1 := ⟨gk - 1, by omega⟩
      obtain ⟨x, hx⟩ : ∃ x : UInt8, x = s[i]'hlt := ⟨_, rfl⟩
      have hxl : s.data.toList[i]? = some x := by rw [hx]; exact Lib.data_getElem? s i hlt
      by_cases h128 : x.toNat < 128
      · have hnx := fun ty => Lib.run_next_ascii_at (P := Tryd.prog) wr w.heap.size s i ty hit hlt (by rw [← hx]; exact h128)
        rw [← hx] at hnx
        have HX := Lib.hid hxl
        obtain ⟨W1, hW1⟩ : ∃ W1, W1 = wr.iterAt w.heap.size s (i + 1) := ⟨_, rfl⟩
        have HI1 := Lib.hid (show W1.heap[w.heap.size]? = some (.stringIter s (i + 1)) by rw [hW1]; exact Lib.iterAt_heap wr _ s i (i + 1) hit)
        have HB1 := Lib.hid (show Below w.heap.size w W1 by rw [hW1]; exact Lib.below_iterAt HBW.out (Nat.le_refl _) s (i + 1))
        rw [← hW1] at hnx
        have hcon := Lib.contains_iff_indexByte specS.data.toList x
        have hback : ((x.toNat : Int)).toNat.toUInt8 = x := by simp
        clear hxl hx hW1 hit
        cases hin : specC.contains x
        · have hlt2 : ¬ ((0 : Int) ≤ Lib.indexByte specS.data.toList x) := by
            intro h
            rw [decide_eq_true h] at hcon
            exact absurd (hcon.symm.trans hin) (by simp)
          clear hcon
          go_wp2_with (go_at_call 45; refine (Tryd.strings_IndexRune_ascii _ _ _ (by omega) (by omega)).mono ?_; rintro e w' ⟨rfl, hw⟩; rw [hw, hback])
          go_roundg g
          case measure => omega
          case rel => exact ⟨i + 1, by omega, by omega, HI1.out, HB1.out, HN.out.succ HX.out hin⟩
        · have hge : (0 : Int) ≤ Lib.indexByte specS.data.toList x := by
            rcases Int.lt_or_le (Lib.indexByte specS.data.toList x) 0 with h | h
            · rw [decide_eq_false (by omega)] at hcon
              exact absurd (hcon.symm.trans hin) (by simp)
            · exact h
          clear hcon
          go_wp2_with (go_at_call 45; refine (Tryd.strings_IndexRune_ascii _ _ _ (by omega) (by omega)).mono ?_; rintro e w' ⟨rfl, hw⟩; rw [hw, hback])
          go_ret
          exact ⟨by rw [Lib.indexAny_hit HN.out HX.out hin]; rfl, HB1.out⟩
      · obtain ⟨d1, d2, d3, d4, d5⟩ := decode_hi s i hlt (by rw [← hx]; omega)
        have hnx := fun ty => Lib.run_next_any_at (P := Tryd.prog) wr w.heap.size s i ty hit hlt
        obtain ⟨R, hR⟩ : ∃ R, R = (Utf8.decode s i).1 := ⟨_, rfl⟩
        obtain ⟨K, hK⟩ : ∃ K, K = (Utf8.decode s i).2 := ⟨_, rfl⟩
        rw [← hR] at hnx d1 d2
        rw [← hK] at hnx d3 d4 d5
        have HN2 := Lib.hid (no_hi HN.out K (fun j hj => ⟨s[i + j]'(by omega), Lib.data_getElem? s (i + j) (by omega), d5 j (by omega) hj⟩))
        obtain ⟨W1, hW1⟩ : ∃ W1, W1 = wr.iterAt w.heap.size s (i + K) := ⟨_, rfl⟩
        have HI1 := Lib.hid (show W1.heap[w.heap.size]? = some (.stringIter s (i + K)) by rw [hW1]; exact Lib.iterAt_heap wr _ s i (i + K) hit)
        have HB1 := Lib.hid (show Below w.heap.size w W1 by rw [hW1]; exact Lib.below_iterAt HBW.out (Nat.le_refl _) s (i + K))
        rw [← hW1] at hnx
        clear hxl hx hW1 hit hR hK d5 h128
        go_wp2_with (go_at_call 45; go_must (refine (indexRune_hi _ _ (by omega) (by omega)).mono ?_; rintro e w' ⟨rfl, hw⟩))
        have HI2 := Lib.hid ((hw.block _ (Array.getElem?_eq_some_iff.1 HI1.out).1).trans HI1.out)
        have HB2 := Lib.hid (HB1.out.trans (hw.mono HB1.out.size))
        clear hw
        go_roundg g
        case measure => omega
        case rel => exact ⟨i + K, by omega, by omega, HI2.out, HB2.out, HN2.out⟩
    · obtain rfl : i = s.size := by omega
      have hnx := fun ty => Lib.run_next_end_at (P := Tryd.prog) wr w.heap.size s s.size ty hit hlt
      go_wp2
      go_ret
      exact ⟨by rw [Lib.indexAny_none (by rw [← Lib.size_eq]; exact HN.out)]; rfl, HBW.out⟩

theorem ascii_zero : ∀ w, (zeroValue 91).run Tryd.prog w = .ok (.agg (Array.replicate 256 (.bool false))) w :=
  (zero_of_info (show (Tryd.prog.info? 91).map (fun i => (i.zero, i.size)) = some (some (.agg (Array.replicate 256 (.bool false))), 256) by kernel_rfl)).1
theorem indexAny_any (s : ByteArray) (w : World) (hs : s.size ≤ 4000000000) :
    Calls Tryd.prog 38 #[.string s, .string specS] w fun e w' => e = .returned (.int .i64 (Lib.indexAny s.data.toList specC)) ∧ Below w.heap.size w w' := by
  by_cases h8 : s.size ≤ 8
  · exact indexAny_short s w h8
  · refine (Tryd.strings_IndexAny_long ascii_zero s specS w (by decide) (by omega) (by omega) (by decide) (fun j b h => spec_lo b (List.mem_of_getElem? h))).mono fun e w' ⟨h1, h2⟩ => ⟨h1, ?_⟩
    rw [h2]
    exact ((Below.refl _ _).alloc (Nat.le_refl _) _).alloc (by simp) _
end Go.Proofs.YtdkddnlolnbpgaaDoor
