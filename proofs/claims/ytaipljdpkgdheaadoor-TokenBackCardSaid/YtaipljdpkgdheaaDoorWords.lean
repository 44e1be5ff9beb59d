/- Package token: may a text be a word, a number. -/
import Derived.Test.YtaipljdpkgdheaaDoorTake
import Derived.Test.YtaipljdpkgdheaaDoorReadAll
namespace Go.Proofs.YtaipljdpkgdheaaDoor
open Go Go.RowKit

/-- May the bytes be a word? -/
def wordTB : List UInt8 → Bool
  | [] => false
  | b :: r => decide ((b :: r).length ≤ 32) && (((wordL (b :: r)).length : Int) == ((b :: r).length : Int)) && !digU b
theorem wordTB_cons {l r : List UInt8} {b : UInt8} (h : l = b :: r) : wordTB l = (decide (l.length ≤ 32) && (((wordL l).length : Int) == (l.length : Int)) && !digI (b.toNat : Int)) := by subst h; rfl
theorem ret_bool2 {a b : Bool} (h : a = b) : Ending.returned (.bool a) = .returned (.bool b) := by rw [h]
set_option maxRecDepth 100000 in
theorem isWord_any (s : ByteArray) (w : World) : Calls Tryd.prog 37 #[.string s] w fun e w' => e = .returned (.bool (wordTB s.data.toList)) ∧ Below w.heap.size w w' := by
  by_cases h : s.size = 0
  · have h0 : s.data.toList = [] := List.eq_nil_of_length_eq_zero (show s.data.toList.length = 0 from h)
    have h1 : s.toList = [] := by rw [ByteArray.toList_eq]; exact h0
    have h2 : (s.toList == []) = true := by rw [h1]; rfl
    have HE := Lib.hid (show wordTB s.data.toList = false by rw [h0]; rfl)
    clear h1 h h0
    go_enter Tryd.func37, Tryd.ntmps37
    go_wp2_with fail
    go_ret
    exact ⟨ret_bool2 HE.out.symm, Below.refl _ _⟩
  · have h2 : (s.toList == []) = false := by
      rw [ByteArray.toList_eq, beq_eq_false_iff_ne]
      intro e
      exact h (by simpa using congrArg List.length e)
    have hpos : 0 < s.size := by omega
    have hb0 : (s[0]'hpos).toNat < 256 := (s[0]'hpos).toNat_lt
    have hl := list_cons s hpos
    have hlen : s.data.toList.length = s.size := rfl
    have hw : wordLen s = (wordL s.data.toList).length := rfl
    have hE : wordTB s.data.toList = (decide (s.size ≤ 32) && (((wordL s.data.toList).length : Int) == (s.size : Int)) && !digI ((s[0]'hpos).toNat : Int)) := by
      rw [← hlen]
      exact wordTB_cons hl
    rw [← hw] at hE
    have HWR := Lib.hid (rune_u8 hb0)
    have HL := Lib.hid (wordLength_any s)
    have hp1 : (0 : Int) < (s.size : Int) := by omega
    by_cases h3 : s.size ≤ 32
    · have k3 : ¬ (32 : Int) < (s.size : Int) := by omega
      rw [decide_eq_true h3, Bool.true_and] at hE
      cases h4 : ((wordLen s : Int) == (s.size : Int))
      · rw [h4, Bool.false_and] at hE
        have HE := Lib.hid hE
        clear hl hlen hw hE h
        go_enter Tryd.func37, Tryd.ntmps37
        go_wp2_with fail
        refine (HL.out _).mono ?_; rintro e w' ⟨rfl, hb⟩
        have HB := Lib.hid hb
        clear hb
        go_wp2_with fail
        go_ret
        exact ⟨ret_bool2 HE.out.symm, HB.out⟩
      · rw [h4, Bool.true_and] at hE
        have HE := Lib.hid hE
        have HD := Lib.hid (isDigit_any ((s[0]'hpos).toNat : Int))
        clear hl hlen hw hE h
        go_enter Tryd.func37, Tryd.ntmps37
        go_wp2_with fail
        refine (HL.out _).mono ?_; rintro e w' ⟨rfl, hb⟩
        have HB := Lib.hid hb
        clear hb
        go_wp2_with fail
        refine (HD.out _).mono ?_; rintro e w2 ⟨rfl, hw2⟩; subst hw2
        go_wp2_with fail
        go_ret
        exact ⟨ret_bool2 HE.out.symm, HB.out⟩
    · have k3 : (32 : Int) < (s.size : Int) := by omega
      rw [decide_eq_false h3, Bool.false_and, Bool.false_and] at hE
      have HE := Lib.hid hE
      clear hl hlen hw hE h
      go_enter Tryd.func37, Tryd.ntmps37
      go_wp2_with fail
      go_ret
      exact ⟨ret_bool2 HE.out.symm, Below.refl _ _⟩
/-- A text of digits, read. -/
theorem read_digits (s : ByteArray) (w : World) (ht : Tabs w) (hm : s.size ≤ 140737488355328) (hd : s.data.toList.all digU = true) :
    Calls Tryd.prog 56 #[.string s] w fun e w' => (∃ (R : Val) (eR : Int), e = .returned (.tuple #[R.v, .int .i64 eR]) ∧ (eR == 0) = (match Lib.atoiAll s.data.toList with | .ok n => s.data.toList == Lib.itoa n | _ => false)) ∧ Below w.heap.size w w' := by
  have hno : ∀ (c : UInt8) (l : List UInt8), digU c = false → (s.toList == c :: l) = false := by
    intro c l hc
    rw [ByteArray.toList_eq, beq_eq_false_iff_ne]
    intro e
    rw [e, List.all_cons, hc] at hd
    cases hd
  have h1 := hno 84 [82, 85, 69] (by decide)
  have h2 := hno 70 [65, 76, 83, 69] (by decide)
  have hp : Lib.hasPrefix s.data.toList [34] = false := by
    cases hl : s.data.toList with
    | nil => rfl
    | cons c l =>
      rw [hl, List.all_cons, Bool.and_eq_true] at hd
      have : ((34 : UInt8) == c) = false := by
        rw [beq_eq_false_iff_ne]
        rintro rfl
        exact absurd hd.1 (by decide)
      simp [Lib.hasPrefix, List.isPrefixOf, this]
  cases hn : Lib.atoiAll s.data.toList with
  | ok n =>
    obtain ⟨h3, h4⟩ := Lib.atoiAll_bounds hn
    by_cases he : s = numS n
    · have hq : (s.data.toList == Lib.itoa n) = true := by rw [he]; exact beq_self_eq_true _
      refine (show Calls Tryd.prog 56 #[.string s] w fun e w' => e = .returned (.tuple #[(numV n).v, .int .i64 0]) ∧ Below w.heap.size w w' by rw [he]; exact read_num n w ht h3 h4).mono ?_
      rintro e w' ⟨k1, k2⟩
      exact ⟨⟨_, _, k1, by simp only [hq]; rfl⟩, k2⟩
    · have hq : (s.data.toList == Lib.itoa n) = false := by
        rw [beq_eq_false_iff_ne]
        intro e
        exact he (bytes_of e)
      refine (read_gen (fun a => a = numV n) (fun _ t => t = numS n) s w (fun W _ => (understand_num s n W hm h1 h2 hp hn).mono fun e w' ⟨k1, k2⟩ => ⟨⟨_, _, k1, fun _ => rfl⟩, k2⟩) (fun a ha W hW => ?_)).mono ?_
      · subst ha
        exact (show_int n W h3 h4 (ht.below hW)).mono fun e w' ⟨k1, k2⟩ => ⟨⟨_, _, k1, Or.inr ⟨rfl, rfl⟩⟩, k2⟩
      · rintro e w' ⟨⟨R, eR, k1, k2⟩, k3⟩
        refine ⟨⟨R, eR, k1, ?_⟩, k3⟩
        simp only [hq]
        rcases k2 with ⟨k2, _⟩ | ⟨_, _, k6⟩
        · rw [k2]; rfl
        · exact absurd k6 he
  | _ => exact (read_no s w (fun W hW => (understand_none s W (ht.below hW) hm h1 h2 hp (fun n h => by rw [hn] at h; cases h)).mono fun e w' ⟨⟨n, k1⟩, k2⟩ => ⟨⟨_, k1⟩, k2⟩)).mono fun e w' ⟨k1, k2⟩ => ⟨⟨_, _, k1, rfl⟩, k2⟩
theorem all_front {l : List UInt8} (h : ∀ i (hi : i < l.length), digU l[i] = true) : l.all digU = true := by
  rw [List.all_eq_true]
  intro x hx
  obtain ⟨i, hi, rfl⟩ := List.getElem_of_mem hx
  exact h i hi
theorem num_long {l : List UInt8} (h : ¬ l.length ≤ 19) : numB l = false := by unfold numB; rw [decide_eq_false h]; rfl
theorem num_other {l : List UInt8} (h : l.all digU = false) : numB l = false := by unfold numB; rw [h, Bool.and_false]; rfl
theorem num_all {l : List UInt8} (h : l.length ≤ 19) (h2 : l.all digU = true) : numB l = (match Lib.atoiAll l with | .ok n => l == Lib.itoa n | _ => false) := by unfold numB; rw [decide_eq_true h, h2]; rfl
set_option maxHeartbeats 8000000 in
set_option maxRecDepth 100000 in
theorem isNumber_any (s : ByteArray) (w : World) (ht : Tabs w) (hm : s.size ≤ 140737488355328) : Calls Tryd.prog 39 #[.string s] w fun e w' => e = .returned (.bool (numB s.data.toList)) ∧ Below w.heap.size w w' := by
  by_cases h19 : s.size ≤ 19
  · have k3 : ¬ (19 : Int) < (s.size : Int) := by omega
    have HT := Lib.hid ht
    clear ht
    go_enter Tryd.func39, Tryd.ntmps39
    go_wp2_with fail
    go_loopw [4] (fun _ w' => ∃ pos : Nat, w' = w.iter s pos ∧ pos ≤ s.size ∧ (∀ i (h : i < s.size), i < pos → digU s[i] = true)) (fun _ w' => s.size - w'.iterPos w.heap.size)
    case atStart => exact ⟨0, rfl, Nat.zero_le _, fun i _ hi => absurd hi (by omega)⟩
    case round =>
      obtain ⟨pos, rfl, hpos, hall⟩ := hrel
      have HA := Lib.hid hall
      clear hall
      by_cases hp : pos < s.size
      · by_cases hw : digU (s[pos]'hp) = true
        · have ha : (s[pos]'hp).toNat < 128 := by
            rcases Nat.lt_or_ge (s[pos]'hp).toNat 128 with h | h
            · exact h
            · unfold digU at hw
              rw [digI_high (by omega)] at hw; cases hw
          have hnx : ∀ ty, (Instr.next (.pointer (some ⟨w.heap.size, 0, none⟩)) true ty).run Tryd.prog (w.iter s pos) = _ := fun ty => run_next_ascii w s pos ty hp ha
          have HW := Lib.hid hw
          obtain ⟨c, hc⟩ : ∃ c : Nat, c = (s[pos]'hp).toNat := ⟨_, rfl⟩
          rw [← hc] at hnx
          have hd : digI (c : Int) = true := by
            rw [hc]
            exact hw
          clear hc hw ha
          go_wp2_with (go_at_call 53; refine (isDigit_any _ _).mono ?_; rintro e w' ⟨rfl, rfl⟩)
          go_roundw
          case rel =>
            refine ⟨pos + 1, rfl, by omega, fun i h hi => ?_⟩
            rcases Nat.lt_or_ge i pos with h' | h'
            · exact HA.out i h h'
            · obtain rfl : i = pos := by omega
              exact HW.out
          case measure => simp; omega
        · obtain ⟨c, hc⟩ : ∃ c : Nat, c = (Utf8.decode s pos).1 := ⟨_, rfl⟩
          have hnx : ∀ ty, (Instr.next (.pointer (some ⟨w.heap.size, 0, none⟩)) true ty).run Tryd.prog (w.iter s pos) = _ := fun ty => run_next_any w s pos ty hp
          rw [← hc] at hnx
          have hd : digI (c : Int) = false := by
            by_cases ha : (s[pos]'hp).toNat < 128
            · rw [decode_ascii s pos hp ha] at hc
              simp only at hc
              subst hc
              simpa [digU] using hw
            · have := (decode_high s pos hp (by omega)).1
              exact digI_high (by omega)
          have HE := Lib.hid (show numB s.data.toList = false by
            refine num_other ?_
            rw [← Bool.not_eq_true, List.all_eq_true]
            intro h
            refine hw (h _ ?_)
            have h1 := Lib.data_getElem? s pos hp
            exact List.mem_of_getElem? h1)
          clear hc hw
          go_wp2_with (go_at_call 53; refine (isDigit_any _ _).mono ?_; rintro e w' ⟨rfl, rfl⟩)
          go_ret
          exact ⟨ret_bool2 HE.out.symm, (Below.refl _ _).alloc (Nat.le_refl _) _⟩
      · have hnx : ∀ ty, (Instr.next (.pointer (some ⟨w.heap.size, 0, none⟩)) true ty).run Tryd.prog (w.iter s pos) = _ := fun ty => run_next_end w s pos ty hp
        have hal : s.data.toList.all digU = true := all_front fun i hi => HA.out i hi (by
          have : i < s.size := hi
          omega)
        have HR := Lib.hid (fun W hT => read_digits s W hT hm hal)
        have HE := Lib.hid (num_all (l := s.data.toList) h19 hal)
        have HBI := Lib.hid (show Below w.heap.size w (w.iter s pos) from (Below.refl _ _).alloc (Nat.le_refl _) _)
        clear hal
        go_wp2_with fail
        refine (HR.out _ (HT.out.below HBI.out)).mono ?_; rintro e w2 ⟨⟨R, eR, rfl, hq⟩, hb2⟩
        have HB2 := Lib.hid (HBI.out.trans (hb2.mono HBI.out.size))
        have HQ := Lib.hid (hq.trans HE.out.symm)
        obtain ⟨rk, rn, rs, rb⟩ := R
        simp only [Val.v]
        clear hb2 hq
        go_wp2_with fail
        go_ret
        exact ⟨ret_bool2 HQ.out, HB2.out.alloc HB2.out.size _⟩
  · have k3 : (19 : Int) < (s.size : Int) := by omega
    have HE := Lib.hid (show numB s.data.toList = false from num_long h19)
    clear ht
    go_enter Tryd.func39, Tryd.ntmps39
    go_wp2_with fail
    go_ret
    exact ⟨ret_bool2 HE.out.symm, Below.refl _ _⟩
end Go.Proofs.YtaipljdpkgdheaaDoor
