/- The document's own answer of layer 2: whether a text is a name, for every text. -/
import Derived.Test.YtmdhacboegmccaaDoorName
import Derived.Test.YtmdhacboegmccaaDoorEvFault
namespace Go.Proofs.YtmdhacboegmccaaDoor
open Go Go.RowKit

theorem refDigit_any (c : UInt8) (w : World) : Calls Tryd.prog 81 #[.int .u8 (c.toNat : Int)] w fun e w' => e = .returned (.bool (digI c.toNat)) ∧ w = w' := by
  obtain ⟨n, hn⟩ : ∃ n : Nat, n = c.toNat := ⟨_, rfl⟩
  rw [← hn]
  clear hn
  by_cases h1 : 48 ≤ (n : Int) <;> by_cases h2 : (n : Int) ≤ 57
  all_goals
    go_enter Tryd.func81, Tryd.ntmps81
    go_wp2
    go_ret
    exact ⟨by simp [digI, h1, h2], rfl⟩

set_option maxRecDepth 100000 in
theorem refInWord_any (c : UInt8) (w : World) : Calls Tryd.prog 83 #[.int .u8 (c.toNat : Int)] w fun e w' => e = .returned (.bool (wordByte c)) ∧ w = w' := by
  have HD := Lib.hid (refDigit_any c w)
  have HW := Lib.hid (show wordByte c = (digI c.toNat || lttrI c.toNat) from rfl)
  obtain ⟨n, hn⟩ : ∃ n : Nat, n = c.toNat := ⟨_, rfl⟩
  rw [← hn] at HD HW ⊢
  clear hn
  by_cases h1 : 97 ≤ (n : Int) <;> by_cases h2 : (n : Int) ≤ 122 <;> by_cases h3 : 65 ≤ (n : Int) <;> by_cases h4 : (n : Int) ≤ 90 <;> cases h5 : ((n : Int) == 95)
  all_goals
    first
      | (exfalso; omega)
      | (exfalso; simp only [beq_iff_eq] at h5; omega)
      | (have HL := Lib.hid (show wordByte c = (digI n || lttrI n) from HW.out)
         have H5 := Lib.hid h5
         go_enter Tryd.func83, Tryd.ntmps83
         go_wp2_with ((with_reducible refine HD.out.mono ?_); rintro e w' ⟨rfl, rfl⟩)
         go_ret
         exact ⟨by rw [HL.out]; simp [lttrI, h1, h2, h3, h4, H5.out] <;> (intro h; exfalso; omega), rfl⟩)

/-- Is the text a word of the language? -/
def resB (s : ByteArray) : Bool := resWords.contains s.data.toList
theorem res_in (k : Nat) (hk : k < 16) : resCells[k]? = some (.string (resWord k)) := by
  have hl : k < resWords.length := by simpa [resWords] using hk
  unfold resCells resWord
  simp [List.getD, List.getElem?_eq_getElem hl]

set_option maxHeartbeats 4000000 in
set_option maxRecDepth 100000 in
theorem refWord_any (s : ByteArray) (w : World) : Calls Tryd.prog 82 #[.string s] w fun e w' => e = .returned (.bool (resB s)) ∧ Below w.heap.size w w' := by
  obtain ⟨W1, hW1⟩ : ∃ W1, W1 = w.alloc (Obj.cells #[.string ⟨#[80, 65, 84, 84, 69, 82, 78]⟩, .string ⟨#[83, 69, 81]⟩, .string ⟨#[80, 65, 82, 84, 73, 84, 73, 79, 78]⟩, .string ⟨#[66, 89]⟩, .string ⟨#[87, 72, 69, 82, 69]⟩, .string ⟨#[87, 73, 84, 72, 73, 78]⟩, .string ⟨#[82, 69, 84, 85, 82, 78]⟩, .string ⟨#[65, 78, 68]⟩, .string ⟨#[79, 82]⟩, .string ⟨#[78, 79, 84]⟩, .string ⟨#[84, 82, 85, 69]⟩, .string ⟨#[70, 65, 76, 83, 69]⟩, .string ⟨#[84, 89, 80, 69]⟩, .string ⟨#[73, 78, 84]⟩, .string ⟨#[83, 84, 82]⟩, .string ⟨#[66, 79, 79, 76]⟩] 9) := ⟨_, rfl⟩
  have HB1 := Lib.hid (show Below w.heap.size w W1 by rw [hW1]; exact (Below.refl _ _).alloc (Nat.le_refl _) _)
  have HC := Lib.hid (show ∀ k, k < 16 → W1.cell? ⟨w.heap.size, k, none⟩ = some (.string (resWord k)) by
    intro k hk
    rw [hW1]
    have e : (w.alloc (Obj.cells #[.string ⟨#[80, 65, 84, 84, 69, 82, 78]⟩, .string ⟨#[83, 69, 81]⟩, .string ⟨#[80, 65, 82, 84, 73, 84, 73, 79, 78]⟩, .string ⟨#[66, 89]⟩, .string ⟨#[87, 72, 69, 82, 69]⟩, .string ⟨#[87, 73, 84, 72, 73, 78]⟩, .string ⟨#[82, 69, 84, 85, 82, 78]⟩, .string ⟨#[65, 78, 68]⟩, .string ⟨#[79, 82]⟩, .string ⟨#[78, 79, 84]⟩, .string ⟨#[84, 82, 85, 69]⟩, .string ⟨#[70, 65, 76, 83, 69]⟩, .string ⟨#[84, 89, 80, 69]⟩, .string ⟨#[73, 78, 84]⟩, .string ⟨#[83, 84, 82]⟩, .string ⟨#[66, 79, 79, 76]⟩] 9)).heap[w.heap.size]? = some (Obj.cells resCells 9) := heap_alloc_new _ _
    simp only [World.cell?, e]
    exact res_in k hk)
  have HW1 := Lib.hid hW1
  clear hW1
  go_enter Tryd.func82, Tryd.ntmps82
  go_upto_region 2 with fail
  rw [← HW1.out]
  go_wp2_with fail
  go_loop [4] (fun i => ∃ k : Nat, k ≤ 16 ∧ i = .int .i64 k ∧ ∀ j, j < k → (s.toList == (resWord j).toList) = false) (fun i => 16 - (intOf i).toNat)
  case atStart => exact ⟨0, Nat.zero_le _, rfl, fun j hj => absurd hj (by omega)⟩
  case round =>
    obtain ⟨k, hk, rfl, hall⟩ := hrel
    have HA := Lib.hid hall
    clear hall
    by_cases hlt : k < 16
    · have hix := HC.out k hlt
      have k0 : (0 : Int) ≤ (k : Int) := by omega
      have k1 : (k : Int) < 16 := by omega
      by_cases heq : (s.toList == (resWord k).toList) = true
      · have heq2 : ((resWord k).toList == s.toList) = true := by rw [beq_iff_eq] at heq ⊢; exact heq.symm
        have HE := Lib.hid (show resB s = true from res_hit s k hlt heq)
        clear heq
        go_wp2_with fail
        go_ret
        exact ⟨ret_bool HE.out.symm, HB1.out⟩
      · have heq' : (s.toList == (resWord k).toList) = false := by simpa using heq
        have heq2 : ((resWord k).toList == s.toList) = false := by rw [beq_eq_false_iff_ne] at heq' ⊢; exact fun e => heq' e.symm
        have HQ := Lib.hid heq'
        clear heq heq'
        go_wp2_with fail
        go_round
        case rel =>
          refine ⟨k + 1, by omega, by go_num, fun j hj => ?_⟩
          rcases Nat.lt_or_ge j k with h' | h'
          · exact HA.out j h'
          · obtain rfl : j = k := by omega
            exact HQ.out
        case measure => simp [intOf]; omega
    · have HE := Lib.hid (show resB s = false from res_miss s (fun j hj => HA.out j (by omega)))
      go_wp2_with fail
      go_ret
      exact ⟨ret_bool HE.out.symm, HB1.out⟩

theorem nameB_no {s : ByteArray} (h : s.size < 1 ∨ 32 < s.size) : nameB s = false := by
  unfold nameB isWordB
  rcases h with h | h
  · simp [show ¬ 0 < s.size by omega]
  · simp [show ¬ s.size ≤ 32 by omega]
theorem nameB_digit {s : ByteArray} (h0 : 0 < s.size) (h : digI (s[0]'h0).toNat = true) : nameB s = false := by
  have e : s.get! 0 = s[0]'h0 := get_at s 0 h0
  simp [nameB, e, h]
theorem nameB_word {s : ByteArray} (h : resB s = true) : nameB s = false := by
  unfold resB at h
  unfold nameB
  rw [h]
  simp
theorem nameB_byte {s : ByteArray} (k : Nat) (hk : k < s.size) (h : wordByte s[k] = false) : nameB s = false := by
  have hne : ¬ wordLen s = s.size := by
    intro e
    have h1 : (s.data.toList.takeWhile wordByte) = s.data.toList := (List.takeWhile_prefix wordByte).eq_of_length e
    have h2 := List.all_takeWhile (p := wordByte) (l := s.data.toList)
    rw [h1, List.all_eq_true] at h2
    have h3 := h2 s[k] (List.getElem_mem (by simpa using hk))
    rw [h] at h3
    cases h3
  simp [nameB, isWordB, hne]
theorem nameB_yes {s : ByteArray} (h0 : 0 < s.size) (h1 : s.size ≤ 32) (h2 : digI (s[0]'h0).toNat = false) (h3 : resB s = false) (h4 : ∀ i (h : i < s.size), wordByte s[i] = true) : nameB s = true := by
  have e : s.get! 0 = s[0]'h0 := get_at s 0 h0
  have hw : wordLen s = s.size := wordLen_eq s s.size (fun i h _ => h4 i h) (fun h => absurd h (by omega)) (Nat.le_refl _)
  unfold resB at h3
  unfold nameB
  rw [h3]
  simp [isWordB, e, h0, h1, h2, hw]

set_option maxHeartbeats 4000000 in
set_option maxRecDepth 100000 in
theorem refName_any (s : ByteArray) (w : World) : Calls Tryd.prog 55 #[.string s] w fun e w' => e = .returned (.bool (nameB s)) ∧ Below w.heap.size w w' := by
  by_cases hs1 : s.size < 1
  · have HE := Lib.hid (nameB_no (Or.inl hs1))
    go_enter Tryd.func55, Tryd.ntmps55
    go_wp2_with fail
    go_ret
    exact ⟨ret_bool HE.out.symm, Below.refl _ _⟩
  by_cases hs2 : 32 < s.size
  · have HE := Lib.hid (nameB_no (Or.inr hs2))
    go_enter Tryd.func55, Tryd.ntmps55
    go_wp2_with fail
    go_ret
    exact ⟨ret_bool HE.out.symm, Below.refl _ _⟩
  have h0 : 0 < s.size := by omega
  have hle : s.size ≤ 32 := by omega
  have hb0 : (s[0]'h0).toNat < 256 := (s[0]'h0).toNat_lt
  have HC0 := Lib.hid (fun w => refDigit_any (s[0]'h0) w)
  cases hd : digI (s[0]'h0).toNat
  case true =>
    have HE := Lib.hid (nameB_digit h0 hd)
    have HD := Lib.hid hd
    clear hd
    go_enter Tryd.func55, Tryd.ntmps55
    go_wp2_with ((with_reducible refine (HC0.out _).mono ?_); rintro e w' ⟨rfl, rfl⟩; rw [HD.out])
    go_ret
    exact ⟨ret_bool HE.out.symm, Below.refl _ _⟩
  have HD := Lib.hid hd
  clear hd
  cases hr : resB s
  case true =>
    have HE := Lib.hid (nameB_word hr)
    have HR := Lib.hid hr
    clear hr
    go_enter Tryd.func55, Tryd.ntmps55
    go_wp2_with (first | ((with_reducible refine (HC0.out _).mono ?_); rintro e w' ⟨rfl, rfl⟩; rw [HD.out]) | ((with_reducible refine (refWord_any s _).mono ?_); rintro e w' ⟨rfl, hb⟩; rw [HR.out]))
    go_ret
    exact ⟨ret_bool HE.out.symm, hb⟩
  have HR := Lib.hid hr
  clear hr
  go_enter Tryd.func55, Tryd.ntmps55
  go_wp2_with (first | ((with_reducible refine (HC0.out _).mono ?_); rintro e w' ⟨rfl, rfl⟩; rw [HD.out]) | ((with_reducible refine (refWord_any s _).mono ?_); rintro e w' ⟨rfl, hb⟩; rw [HR.out]))
  have HB := Lib.hid hb
  clear hb
  go_loop [3] (fun i => ∃ k : Nat, k ≤ s.size ∧ i = .int .i64 k ∧ ∀ j (h : j < s.size), j < k → wordByte s[j] = true) (fun i => s.size - (intOf i).toNat)
  case atStart => exact ⟨0, Nat.zero_le _, rfl, fun j _ hj => absurd hj (by omega)⟩
  case round =>
    obtain ⟨k, hk, rfl, hall⟩ := hrel
    have HA := Lib.hid hall
    clear hall
    by_cases hlt : k < s.size
    · have HCK := Lib.hid (fun w => refInWord_any (s[k]'hlt) w)
      cases hw : wordByte (s[k]'hlt)
      · have HE := Lib.hid (nameB_byte k hlt hw)
        have HQ := Lib.hid hw
        clear hw
        go_wp2_with ((with_reducible refine (HCK.out _).mono ?_); rintro e w' ⟨rfl, rfl⟩; rw [HQ.out])
        go_ret
        exact ⟨ret_bool HE.out.symm, HB.out⟩
      · have HQ := Lib.hid hw
        clear hw
        go_wp2_with ((with_reducible refine (HCK.out _).mono ?_); rintro e w' ⟨rfl, rfl⟩; rw [HQ.out])
        go_round
        case rel =>
          refine ⟨k + 1, by omega, by go_num, fun j h hj => ?_⟩
          rcases Nat.lt_or_ge j k with h' | h'
          · exact HA.out j h h'
          · obtain rfl : j = k := by omega
            exact HQ.out
        case measure => simp [intOf]; omega
    · have HE := Lib.hid (nameB_yes h0 hle HD.out HR.out (fun i h => HA.out i h (by omega)))
      go_wp2_with fail
      go_ret
      exact ⟨ret_bool HE.out.symm, HB.out⟩

theorem refValid_any (a : Val) (w : World) (hm : a.str.size ≤ maxLen) : Calls Tryd.prog 56 #[a.v] w fun e w' => e = .returned (.bool (validB a)) ∧ Below w.heap.size w w' := by
  obtain ⟨k, n, s, b⟩ := a
  simp only [Val.v]
  simp only at hm
  unfold maxLen at hm
  have hb := Lib.hid (fun (o : Obj) => (Below.refl w.heap.size w).alloc (Nat.le_refl _) o)
  by_cases h1 : k = 1
  · subst h1
    cases hs : (s.toList == []) <;> cases b
    all_goals
      have HE := Lib.hid hs
      go_enter Tryd.func56, Tryd.ntmps56
      go_wp2_with fail
      go_ret
      exact ⟨by simp [validB, HE.out], hb.out _⟩
  by_cases h2 : k = 2
  · subst h2
    cases hn : (n == 0) <;> cases b <;> by_cases hs : s.size ≤ 256
    all_goals
      have HE := Lib.hid hn
      have HS := Lib.hid hs
      go_enter Tryd.func56, Tryd.ntmps56
      go_wp2_with fail
      go_ret
      exact ⟨by (first | (simp [validB, HE.out, HS.out]; done) | (simp [validB, HE.out, HS.out]; omega)), hb.out _⟩
  by_cases h3 : k = 3
  · subst h3
    cases hn : (n == 0) <;> cases hs : (s.toList == [])
    all_goals
      have HE := Lib.hid hn
      have HS := Lib.hid hs
      go_enter Tryd.func56, Tryd.ntmps56
      go_wp2_with fail
      go_ret
      exact ⟨by simp [validB, HE.out, HS.out], hb.out _⟩
  have b1 : (k == 1) = false := by simpa using h1
  have b2 : (k == 2) = false := by simpa using h2
  have b3 : (k == 3) = false := by simpa using h3
  have HE := Lib.hid (show validB ⟨k, n, s, b⟩ = false by simp [validB, h1, h2, h3])
  clear h1 h2 h3
  go_enter Tryd.func56, Tryd.ntmps56
  go_wp2_with fail
  go_ret
  exact ⟨ret_bool HE.out.symm, hb.out _⟩
end Go.Proofs.YtmdhacboegmccaaDoor
