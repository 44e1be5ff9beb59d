/- Texts put together: RefName, RefPut, RefForm, RefInt, In, RefEncode, RefReader, RefText, RefValue. -/
import Derived.ChangeSlices
import Derived.Deep.Strs
import Derived.Lib.SmallJoins
import Derived.Carry
import Derived.SizedLaws
import Derived.Test.YtekaimfabadclaaDoorMrgA
import Derived.Test.YtekaimfabadclaaDoorMrgB
/- The document's own answer of layer 2: whether a text is a name, for every text. -/
namespace Go.Proofs.YtekaimfabadclaaDoor
open Go Go.RowKit

theorem refDigit_any (c : UInt8) (w : World) : Calls Tryd.prog 81 #[.int .u8 (c.toNat : Int)] w fun e w' => e = .returned (.bool (digI c.toNat)) ∧ w = w' := by
  obtain ⟨n, hn⟩ : ∃ n : Nat, n = c.toNat := ⟨_, rfl⟩
  rw [← hn]
  clear hn
  by_cases h1 : 48 ≤ (n : Int) <;> by_cases h2 : (n : Int) ≤ 57
  all_goals
    go_enter Tryd.func81, Tryd.ntmps81
    go_wp2
    go_ret
    exact ⟨by simp [digI, h1, h2], rfl⟩

set_option maxRecDepth 100000 in
theorem refInWord_any (c : UInt8) (w : World) : Calls Tryd.prog 83 #[.int .u8 (c.toNat : Int)] w fun e w' => e = .returned (.bool (wordByte c)) ∧ w = w' := by
  have HD := Lib.hid (refDigit_any c w)
  have HW := Lib.hid (show wordByte c = (digI c.toNat || lttrI c.toNat) from rfl)
  obtain ⟨n, hn⟩ : ∃ n : Nat, n = c.toNat := ⟨_, rfl⟩
  rw [← hn] at HD HW ⊢
  clear hn
  by_cases h1 : 97 ≤ (n : Int) <;> by_cases h2 : (n : Int) ≤ 122 <;> by_cases h3 : 65 ≤ (n : Int) <;> by_cases h4 : (n : Int) ≤ 90 <;> cases h5 : ((n : Int) == 95)
  all_goals
    first
      | (exfalso; omega)
      | (exfalso; simp only [beq_iff_eq] at h5; omega)
      | (have HL := Lib.hid (show wordByte c = (digI n || lttrI n) from HW.out)
         have H5 := Lib.hid h5
         go_enter Tryd.func83, Tryd.ntmps83
         go_wp2_with ((with_reducible refine HD.out.mono ?_); rintro e w' ⟨rfl, rfl⟩)
         go_ret
         exact ⟨by rw [HL.out]; simp [lttrI, h1, h2, h3, h4, H5.out] <;> (intro h; exfalso; omega), rfl⟩)

/-- Is the text a word of the language? -/
def resB (s : ByteArray) : Bool := resWords.contains s.data.toList
theorem res_in (k : Nat) (hk : k < 16) : resCells[k]? = some (.string (resWord k)) := by
  have hl : k < resWords.length := by simpa [resWords] using hk
  unfold resCells resWord
  simp [List.getD, List.getElem?_eq_getElem hl]

set_option maxHeartbeats 4000000 in
set_option maxRecDepth 100000 in
theorem refWord_any (s : ByteArray) (w : World) : Calls Tryd.prog 82 #[.string s] w fun e w' => e = .returned (.bool (resB s)) ∧ Below w.heap.size w w' := by
  obtain ⟨W1, hW1⟩ : ∃ W1, W1 = w.alloc (Obj.cells #[.string ⟨#[80, 65, 84, 84, 69, 82, 78]⟩, .string ⟨#[83, 69, 81]⟩, .string ⟨#[80, 65, 82, 84, 73, 84, 73, 79, 78]⟩, .string ⟨#[66, 89]⟩, .string ⟨#[87, 72, 69, 82, 69]⟩, .string ⟨#[87, 73, 84, 72, 73, 78]⟩, .string ⟨#[82, 69, 84, 85, 82, 78]⟩, .string ⟨#[65, 78, 68]⟩, .string ⟨#[79, 82]⟩, .string ⟨#[78, 79, 84]⟩, .string ⟨#[84, 82, 85, 69]⟩, .string ⟨#[70, 65, 76, 83, 69]⟩, .string ⟨#[84, 89, 80, 69]⟩, .string ⟨#[73, 78, 84]⟩, .string ⟨#[83, 84, 82]⟩, .string ⟨#[66, 79, 79, 76]⟩] 9) := ⟨_, rfl⟩
  have HB1 := Lib.hid (show Below w.heap.size w W1 by rw [hW1]; exact (Below.refl _ _).alloc (Nat.le_refl _) _)
  have HC := Lib.hid (show ∀ k, k < 16 → W1.cell? ⟨w.heap.size, k, none⟩ = some (.string (resWord k)) by
    intro k hk
    rw [hW1]
    have e : (w.alloc (Obj.cells #[.string ⟨#[80, 65, 84, 84, 69, 82, 78]⟩, .string ⟨#[83, 69, 81]⟩, .string ⟨#[80, 65, 82, 84, 73, 84, 73, 79, 78]⟩, .string ⟨#[66, 89]⟩, .string ⟨#[87, 72, 69, 82, 69]⟩, .string ⟨#[87, 73, 84, 72, 73, 78]⟩, .string ⟨#[82, 69, 84, 85, 82, 78]⟩, .string ⟨#[65, 78, 68]⟩, .string ⟨#[79, 82]⟩, .string ⟨#[78, 79, 84]⟩, .string ⟨#[84, 82, 85, 69]⟩, .string ⟨#[70, 65, 76, 83, 69]⟩, .string ⟨#[84, 89, 80, 69]⟩, .string ⟨#[73, 78, 84]⟩, .string ⟨#[83, 84, 82]⟩, .string ⟨#[66, 79, 79, 76]⟩] 9)).heap[w.heap.size]? = some (Obj.cells resCells 9) := heap_alloc_new _ _
    simp only [World.cell?, e]
    exact res_in k hk)
  have HW1 := Lib.hid hW1
  clear hW1
  go_enter Tryd.func82, Tryd.ntmps82
  go_upto_region 2 with fail
  rw [← HW1.out]
  go_wp2_with fail
  go_loop [4] (fun i => ∃ k : Nat, k ≤ 16 ∧ i = .int .i64 k ∧ ∀ j, j < k → (s.toList == (resWord j).toList) = false) (fun i => 16 - (intOf i).toNat)
  case atStart => exact ⟨0, Nat.zero_le _, rfl, fun j hj => absurd hj (by omega)⟩
  case round =>
    obtain ⟨k, hk, rfl, hall⟩ := hrel
    have HA := Lib.hid hall
    clear hall
    by_cases hlt : k < 16
    · have hix := HC.out k hlt
      have k0 : (0 : Int) ≤ (k : Int) := by omega
      have k1 : (k : Int) < 16 := by omega
      by_cases heq : (s.toList == (resWord k).toList) = true
      · have heq2 : ((resWord k).toList == s.toList) = true := by rw [beq_iff_eq] at heq ⊢; exact heq.symm
        have HE := Lib.hid (show resB s = true from res_hit s k hlt heq)
        clear heq
        go_wp2_with fail
        go_ret
        exact ⟨ret_bool HE.out.symm, HB1.out⟩
      · have heq' : (s.toList == (resWord k).toList) = false := by simpa using heq
        have heq2 : ((resWord k).toList == s.toList) = false := by rw [beq_eq_false_iff_ne] at heq' ⊢; exact fun e => heq' e.symm
        have HQ := Lib.hid heq'
        clear heq heq'
        go_wp2_with fail
        go_round
        case rel =>
          refine ⟨k + 1, by omega, by go_num, fun j hj => ?_⟩
          rcases Nat.lt_or_ge j k with h' | h'
          · exact HA.out j h'
          · obtain rfl : j = k := by omega
            exact HQ.out
        case measure => simp [intOf]; omega
    · have HE := Lib.hid (show resB s = false from res_miss s (fun j hj => HA.out j (by omega)))
      go_wp2_with fail
      go_ret
      exact ⟨ret_bool HE.out.symm, HB1.out⟩

theorem nameB_no {s : ByteArray} (h : s.size < 1 ∨ 32 < s.size) : nameB s = false := by
  unfold nameB isWordB
  rcases h with h | h
  · simp [show ¬ 0 < s.size by omega]
  · simp [show ¬ s.size ≤ 32 by omega]
theorem nameB_digit {s : ByteArray} (h0 : 0 < s.size) (h : digI (s[0]'h0).toNat = true) : nameB s = false := by
  have e : s.get! 0 = s[0]'h0 := get_at s 0 h0
  simp [nameB, e, h]
theorem nameB_word {s : ByteArray} (h : resB s = true) : nameB s = false := by
  unfold resB at h
  unfold nameB
  rw [h]
  simp
theorem nameB_byte {s : ByteArray} (k : Nat) (hk : k < s.size) (h : wordByte s[k] = false) : nameB s = false := by
  have hne : ¬ wordLen s = s.size := by
    intro e
    have h1 : (s.data.toList.takeWhile wordByte) = s.data.toList := (List.takeWhile_prefix wordByte).eq_of_length e
    have h2 := List.all_takeWhile (p := wordByte) (l := s.data.toList)
    rw [h1, List.all_eq_true] at h2
    have h3 := h2 s[k] (List.getElem_mem (by simpa using hk))
    rw [h] at h3
    cases h3
  simp [nameB, isWordB, hne]
theorem nameB_yes {s : ByteArray} (h0 : 0 < s.size) (h1 : s.size ≤ 32) (h2 : digI (s[0]'h0).toNat = false) (h3 : resB s = false) (h4 : ∀ i (h : i < s.size), wordByte s[i] = true) : nameB s = true := by
  have e : s.get! 0 = s[0]'h0 := get_at s 0 h0
  have hw : wordLen s = s.size := wordLen_eq s s.size (fun i h _ => h4 i h) (fun h => absurd h (by omega)) (Nat.le_refl _)
  unfold resB at h3
  unfold nameB
  rw [h3]
  simp [isWordB, e, h0, h1, h2, hw]

set_option maxHeartbeats 4000000 in
set_option maxRecDepth 100000 in
theorem refName_any (s : ByteArray) (w : World) : Calls Tryd.prog 55 #[.string s] w fun e w' => e = .returned (.bool (nameB s)) ∧ Below w.heap.size w w' := by
  by_cases hs1 : s.size < 1
  · have HE := Lib.hid (nameB_no (Or.inl hs1))
    go_enter Tryd.func55, Tryd.ntmps55
    go_wp2_with fail
    go_ret
    exact ⟨ret_bool HE.out.symm, Below.refl _ _⟩
  by_cases hs2 : 32 < s.size
  · have HE := Lib.hid (nameB_no (Or.inr hs2))
    go_enter Tryd.func55, Tryd.ntmps55
    go_wp2_with fail
    go_ret
    exact ⟨ret_bool HE.out.symm, Below.refl _ _⟩
  have h0 : 0 < s.size := by omega
  have hle : s.size ≤ 32 := by omega
  have hb0 : (s[0]'h0).toNat < 256 := (s[0]'h0).toNat_lt
  have HC0 := Lib.hid (fun w => refDigit_any (s[0]'h0) w)
  cases hd : digI (s[0]'h0).toNat
  case true =>
    have HE := Lib.hid (nameB_digit h0 hd)
    have HD := Lib.hid hd
    clear hd
    go_enter Tryd.func55, Tryd.ntmps55
    go_wp2_with ((with_reducible refine (HC0.out _).mono ?_); rintro e w' ⟨rfl, rfl⟩; rw [HD.out])
    go_ret
    exact ⟨ret_bool HE.out.symm, Below.refl _ _⟩
  have HD := Lib.hid hd
  clear hd
  cases hr : resB s
  case true =>
    have HE := Lib.hid (nameB_word hr)
    have HR := Lib.hid hr
    clear hr
    go_enter Tryd.func55, Tryd.ntmps55
    go_wp2_with (first | ((with_reducible refine (HC0.out _).mono ?_); rintro e w' ⟨rfl, rfl⟩; rw [HD.out]) | ((with_reducible refine (refWord_any s _).mono ?_); rintro e w' ⟨rfl, hb⟩; rw [HR.out]))
    go_ret
    exact ⟨ret_bool HE.out.symm, hb⟩
  have HR := Lib.hid hr
  clear hr
  go_enter Tryd.func55, Tryd.ntmps55
  go_wp2_with (first | ((with_reducible refine (HC0.out _).mono ?_); rintro e w' ⟨rfl, rfl⟩; rw [HD.out]) | ((with_reducible refine (refWord_any s _).mono ?_); rintro e w' ⟨rfl, hb⟩; rw [HR.out]))
  have HB := Lib.hid hb
  clear hb
  go_loop [3] (fun i => ∃ k : Nat, k ≤ s.size ∧ i = .int .i64 k ∧ ∀ j (h : j < s.size), j < k → wordByte s[j] = true) (fun i => s.size - (intOf i).toNat)
  case atStart => exact ⟨0, Nat.zero_le _, rfl, fun j _ hj => absurd hj (by omega)⟩
  case round =>
    obtain ⟨k, hk, rfl, hall⟩ := hrel
    have HA := Lib.hid hall
    clear hall
    by_cases hlt : k < s.size
    · have HCK := Lib.hid (fun w => refInWord_any (s[k]'hlt) w)
      cases hw : wordByte (s[k]'hlt)
      · have HE := Lib.hid (nameB_byte k hlt hw)
        have HQ := Lib.hid hw
        clear hw
        go_wp2_with ((with_reducible refine (HCK.out _).mono ?_); rintro e w' ⟨rfl, rfl⟩; rw [HQ.out])
        go_ret
        exact ⟨ret_bool HE.out.symm, HB.out⟩
      · have HQ := Lib.hid hw
        clear hw
        go_wp2_with ((with_reducible refine (HCK.out _).mono ?_); rintro e w' ⟨rfl, rfl⟩; rw [HQ.out])
        go_round
        case rel =>
          refine ⟨k + 1, by omega, by go_num, fun j h hj => ?_⟩
          rcases Nat.lt_or_ge j k with h' | h'
          · exact HA.out j h h'
          · obtain rfl : j = k := by omega
            exact HQ.out
        case measure => simp [intOf]; omega
    · have HE := Lib.hid (nameB_yes h0 hle HD.out HR.out (fun i h => HA.out i h (by omega)))
      go_wp2_with fail
      go_ret
      exact ⟨ret_bool HE.out.symm, HB.out⟩

theorem refValid_any (a : Val) (w : World) (hm : a.str.size ≤ maxLen) : Calls Tryd.prog 56 #[a.v] w fun e w' => e = .returned (.bool (validB a)) ∧ Below w.heap.size w w' := by
  obtain ⟨k, n, s, b⟩ := a
  simp only [Val.v]
  simp only at hm
  unfold maxLen at hm
  have hb := Lib.hid (fun (o : Obj) => (Below.refl w.heap.size w).alloc (Nat.le_refl _) o)
  by_cases h1 : k = 1
  · subst h1
    cases hs : (s.toList == []) <;> cases b
    all_goals
      have HE := Lib.hid hs
      go_enter Tryd.func56, Tryd.ntmps56
      go_wp2_with fail
      go_ret
      exact ⟨by simp [validB, HE.out], hb.out _⟩
  by_cases h2 : k = 2
  · subst h2
    cases hn : (n == 0) <;> cases b <;> by_cases hs : s.size ≤ 256
    all_goals
      have HE := Lib.hid hn
      have HS := Lib.hid hs
      go_enter Tryd.func56, Tryd.ntmps56
      go_wp2_with fail
      go_ret
      exact ⟨by (first | (simp [validB, HE.out, HS.out]; done) | (simp [validB, HE.out, HS.out]; omega)), hb.out _⟩
  by_cases h3 : k = 3
  · subst h3
    cases hn : (n == 0) <;> cases hs : (s.toList == [])
    all_goals
      have HE := Lib.hid hn
      have HS := Lib.hid hs
      go_enter Tryd.func56, Tryd.ntmps56
      go_wp2_with fail
      go_ret
      exact ⟨by simp [validB, HE.out, HS.out], hb.out _⟩
  have b1 : (k == 1) = false := by simpa using h1
  have b2 : (k == 2) = false := by simpa using h2
  have b3 : (k == 3) = false := by simpa using h3
  have HE := Lib.hid (show validB ⟨k, n, s, b⟩ = false by simp [validB, h1, h2, h3])
  clear h1 h2 h3
  go_enter Tryd.func56, Tryd.ntmps56
  go_wp2_with fail
  go_ret
  exact ⟨ret_bool HE.out.symm, hb.out _⟩
end Go.Proofs.YtekaimfabadclaaDoor
/- The document's own answer: PutInt, same. -/
namespace Go.Proofs.YtekaimfabadclaaDoor
open Go Go.RowKit

set_option maxHeartbeats 8000000 in
set_option maxRecDepth 100000 in
theorem refPut_any (n : Int) (w : World) (h1 : -9223372036854775808 ≤ n) (h2 : n ≤ 9223372036854775807) :
    Calls Tryd.prog 23 #[.int .i64 n] w fun e w' => ∃ v', e = .returned v' ∧ Ext8 w.heap.size w (.slice none 0 0) w' v' (putB n) := by
  obtain ⟨i0, hi0, hz0, hz1, hz2⟩ := info_parts Tryd.infoU8
  have hzl := zz_lt n h1 h2
  obtain ⟨z0, hz⟩ : ∃ z0, z0 = zz n := ⟨_, rfl⟩
  rw [← hz] at hzl
  have HZ := Lib.hid hz
  clear hz
  go_enter Tryd.func23, Tryd.ntmps23
  go_upto_if 9 with fail
  go_cut [3] (fun s3 wx => s3 = .int .u64 (z0 : Int) ∧ wx = w)
  case first =>
    by_cases hneg : n < 0
    · have hv : (z0 : Int) = -2 * n - 1 := by rw [HZ.out]; unfold zz; rw [if_pos hneg]; omega
      go_wp2_with fail
      go_meet
      exact ⟨by rw [hv]; congr 1; omega, rfl⟩
    · have hv : (z0 : Int) = 2 * n := by rw [HZ.out]; unfold zz; rw [if_neg hneg]; omega
      go_wp2_with fail
      go_meet
      exact ⟨by rw [hv, IntKind.wrap_u64, IntKind.wrap_u64]; congr 1; omega, rfl⟩
  case rest =>
    obtain ⟨rfl, hw⟩ := hcut
    obtain rfl : w = wc := hw.symm
    go_wp2_with fail
    go_loopw [3, 4] (fun i u wr => ∃ (z : Nat) (cur : List UInt8), i = .int .u64 z ∧ z < 2 ^ 64 ∧ Ext8 w.heap.size w (.slice none 0 0) wr u cur ∧ cur ++ putZ z = putZ z0) (fun i _ _ => (intOf i).toNat)
    case atStart => exact ⟨z0, [], rfl, hzl, Ext8.refl (owns_nil _ _), rfl⟩
    case round =>
      obtain ⟨z, cur, rfl, hz64, hext, hcur⟩ := hrel
      have hlen := congrArg List.length hcur
      rw [List.length_append] at hlen
      have hz10 := putZ_le z0 hzl
      have hcl : cur.length ≤ 10 := by omega
      have HE := Lib.hid hext
      have HC := Lib.hid hcur
      have hsz := hext.grown.size
      clear hext hcur hlen hz10
      by_cases hlt : z < 128
      · have HP := Lib.hid (putZ_small hlt)
        obtain ⟨x, hx⟩ : ∃ x, x = UInt8.ofNat z := ⟨_, rfl⟩
        rw [← hx] at HP
        obtain rfl : z = x.toNat := by rw [hx]; exact (u8_of z (by omega)).symm
        clear hx
        go_wp2_with (at_builtin; go_must (refine wpList_append_lies _ (by rfl) _ _ _ (by rfl) w.heap.size 5 i0 _ 1 1 Tryd.underlying25 hi0 hz0 hz1 hz2 rfl (by omega) _ cur.length (bytesC cur) (by rfl) (HE.out.own.alloc _) ⟨_, 0, none⟩ 1 1 (bytesC [x]) (by rfl) (by rfl) (World.news_of_block (cs := #[.int .u8 (x.toNat : Int)]) (t := 5) (fr := (0, 0)) (heap_alloc_new _ _)) (bytesC_one _) (by omega) (by unfold maxLen; omega) (by omega) (by simp; omega) _ rfl ?_; intro g cap w7 hown7 hgrow7 hat7 hlt7))
        go_ret
        refine ⟨_, rfl, ?_⟩
        have h := HE.out.trans (Ext8.app rfl hown7 hgrow7 hat7)
        have e : cur ++ [x] = putB n := by rw [← HP.out, HC.out, HZ.out]; rfl
        rw [e] at h
        exact h
      · have HP := Lib.hid (putZ_big hlt)
        obtain ⟨x, hx⟩ : ∃ x, x = UInt8.ofNat (z % 128 + 128) := ⟨_, rfl⟩
        rw [← hx] at HP
        have hxv : 128 + (z : Int) % 128 = (x.toNat : Int) := by rw [hx, u8_of _ (by omega)]; omega
        clear hx
        go_wp2_with (at_builtin; go_must (refine wpList_append_lies _ (by rfl) _ _ _ (by rfl) w.heap.size 5 i0 _ 1 1 Tryd.underlying25 hi0 hz0 hz1 hz2 rfl (by omega) _ cur.length (bytesC cur) (by rfl) (HE.out.own.alloc _) ⟨_, 0, none⟩ 1 1 (bytesC [x]) (by rfl) (by rfl) (World.news_of_block (cs := #[.int .u8 (x.toNat : Int)]) (t := 5) (fr := (0, 0)) (heap_alloc_new _ _)) (bytesC_one _) (by omega) (by unfold maxLen; omega) (by omega) (by simp; omega) _ rfl ?_; intro g cap w7 hown7 hgrow7 hat7 hlt7))
        go_roundw
        case rel => exact ⟨z / 128, cur ++ [x], by go_num, by omega, HE.out.trans (Ext8.app rfl hown7 hgrow7 hat7), by rw [List.append_assoc]; have := HP.out; rw [List.singleton_append, ← this]; exact HC.out⟩
        case measure => simp [intOf]; omega
set_option maxHeartbeats 8000000 in
set_option maxRecDepth 100000 in
theorem refSame_same (l : List UInt8) (ao bo : Option Addr) (ca cb : Nat) (w : World) (hl : l.length ≤ maxLen) (ha : BytesAt w ao l) (hb : BytesAt w bo l) :
    Calls Tryd.prog 53 #[.slice ao l.length ca, .slice bo l.length cb] w fun e w' => e = .returned (.bool true) ∧ Below w.heap.size w w' := by
  have HA := Lib.hid ha
  have HB := Lib.hid hb
  unfold maxLen at hl
  have q2 : ((l.length : Int) != (l.length : Int)) = false := by simp
  clear ha hb
  go_enter Tryd.func53, Tryd.ntmps53
  go_wp2_with fail
  go_loopw [5] (fun i wr => ∃ k d : Nat, k ≤ l.length ∧ i = .int .i64 k ∧ wr = w.drewN d) (fun i _ => l.length - (intOf i).toNat)
  case atStart => exact ⟨0, 0, Nat.zero_le _, rfl, rfl⟩
  case round =>
    obtain ⟨k, d, hk, rfl, rfl⟩ := hrel
    by_cases hlt : k < l.length
    · obtain ⟨b, o, rfl, hca⟩ : ∃ b o, ao = some ⟨b, o, none⟩ ∧ ∀ i (h : i < l.length), w.cell? ⟨b, o + i, none⟩ = some (.int .u8 (l[i].toNat : Int)) := by
        rcases HA.out with h | h
        · rw [h] at hlt; simp at hlt
        · exact h
      obtain ⟨b2, o2, rfl, hcb⟩ : ∃ b o, bo = some ⟨b, o, none⟩ ∧ ∀ i (h : i < l.length), w.cell? ⟨b, o + i, none⟩ = some (.int .u8 (l[i].toNat : Int)) := by
        rcases HB.out with h | h
        · rw [h] at hlt; simp at hlt
        · exact h
      have g1 := hca k hlt
      have g3 := hcb k hlt
      obtain ⟨x, hx⟩ : ∃ x, x = l[k] := ⟨_, rfl⟩
      rw [← hx] at g1 g3
      clear hx hca hcb
      have b1 : (0 : Int) ≤ (k : Int) := by omega
      have b2 : (k : Int) < (l.length : Int) := by omega
      go_wp2_with fail
      go_quiet (fail)
      go_wp2_with fail
      go_roundw
      case rel => exact ⟨k + 1, d + nq, by omega, by go_num, by simp [World.drewN]⟩
      case measure => simp [intOf]; omega
    · go_wp2_with fail
      go_ret
      exact ⟨rfl, below_drewN (Below.refl _ _) _⟩

set_option maxHeartbeats 8000000 in
set_option maxRecDepth 100000 in
theorem refSame_len (n m : Nat) (ao bo : Option Addr) (ca cb : Nat) (w : World) (h : n ≠ m) :
    Calls Tryd.prog 53 #[.slice ao n ca, .slice bo m cb] w fun e w' => e = .returned (.bool false) ∧ w = w' := by
  have q2 : ((n : Int) != (m : Int)) = true := by simp only [bne_iff_ne, ne_eq]; omega
  go_enter Tryd.func53, Tryd.ntmps53
  go_wp2_with fail
  go_ret
  exact ⟨rfl, rfl⟩
end Go.Proofs.YtekaimfabadclaaDoor
/- The document's own answer: Int, in plain maths. -/
namespace Go.Proofs.YtekaimfabadclaaDoor
open Go Go.RowKit

def accZ (l : List UInt8) : Nat → Nat
  | 0 => 0
  | k + 1 => accZ l k + (l.getD k 0).toNat % 128 * 128 ^ k
theorem accZ_step (l : List UInt8) (k : Nat) (h : k < l.length) : accZ l (k + 1) = accZ l k + l[k].toNat % 128 * 128 ^ k := by
  simp [accZ, List.getD, List.getElem?_eq_getElem h]
theorem accZ_lt (l : List UInt8) : ∀ k, accZ l k < 128 ^ k
  | 0 => by simp [accZ]
  | k + 1 => by
    have h := accZ_lt l k
    have : (l.getD k 0).toNat % 128 * 128 ^ k ≤ 127 * 128 ^ k := Nat.mul_le_mul_right _ (by omega)
    rw [accZ, Nat.pow_succ]
    omega
theorem accZ_le (l : List UInt8) (i : Nat) : ∀ k, i ≤ k → accZ l i ≤ accZ l k
  | 0, h => by rw [Nat.le_zero.1 h]; exact Nat.le_refl _
  | k + 1, h => by
    by_cases e : i = k + 1
    · rw [e]; exact Nat.le_refl _
    · exact Nat.le_trans (accZ_le l i k (by omega)) (by rw [accZ]; omega)
theorem readZ_acc (l : List UInt8) : ∀ k, k ≤ 9 → k ≤ l.length → (∀ i (h : i < l.length), i < k → 128 ≤ l[i].toNat) → readZ k (accZ l k) (l.drop k) = readZ 0 0 l
  | 0, _, _, _ => rfl
  | k + 1, h9, hk, hall => by
    have ih := readZ_acc l k (by omega) (by omega) (fun i h hi => hall i h (by omega))
    rw [readZ_step l k _ (by omega), if_neg (by omega), if_pos (hall k (by omega) (by omega)), ← accZ_step l k (by omega)] at ih
    exact ih
theorem intB_of {l : List UInt8} {z n : Nat} {f : Int} (h : readZ 0 0 l = (z, n, f)) : intB l = if f = 0 then (unz z, n, 0) else (0, 0, f) := by
  unfold intB
  rw [h]
theorem end_many (l : List UInt8) (h : 9 < l.length) (hall : ∀ i (h : i < l.length), i < 9 → 128 ≤ l[i].toNat) (h1 : 1 < l[9].toNat) : intB l = (0, 0, 31) := by
  have e := readZ_acc l 9 (by omega) (by omega) hall
  rw [readZ_step l 9 _ h, if_pos ⟨rfl, h1⟩] at e
  rw [intB_of e.symm]
  rfl
theorem end_short (l : List UInt8) (h : l.length ≤ 9) (hall : ∀ i (h : i < l.length), 128 ≤ l[i].toNat) : intB l = (0, 0, 30) := by
  have e := readZ_acc l l.length h (Nat.le_refl _) (fun i h _ => hall i h)
  rw [List.drop_length] at e
  rw [intB_of (e.symm.trans rfl : readZ 0 0 l = (0, 0, 30))]
  rfl
theorem end_lt (l : List UInt8) (k : Nat) (hk : k < l.length) (h9 : k ≤ 9) (h91 : k = 9 → l[k].toNat ≤ 1) : accZ l (k + 1) < 2 ^ 64 := by
  by_cases e : k = 9
  · have h1 := h91 e
    have h2 := accZ_lt l k
    rw [accZ_step l k hk]
    have h3 : l[k].toNat % 128 * 128 ^ k ≤ 1 * 128 ^ k := Nat.mul_le_mul_right _ (by omega)
    subst e
    omega
  · have h2 := accZ_lt l (k + 1)
    have : 128 ^ (k + 1) ≤ 128 ^ 9 := Nat.pow_le_pow_right (by decide) (by omega)
    omega
theorem end_zero (l : List UInt8) (k : Nat) (hk : k < l.length) (h9 : k ≤ 9) (hall : ∀ i (h : i < l.length), i < k → 128 ≤ l[i].toNat) (h0 : l[k].toNat = 0) (hk0 : 0 < k) : intB l = (0, 0, 31) ∧ (putZ (accZ l (k + 1))).length ≠ k + 1 := by
  have e := readZ_acc l k h9 (by omega) hall
  rw [readZ_step l k _ hk, if_neg (by omega), if_neg (by omega), if_pos ⟨h0, hk0⟩] at e
  refine ⟨by rw [intB_of e.symm]; rfl, ?_⟩
  have h2 := accZ_lt l k
  have h3 : accZ l (k + 1) = accZ l k := by rw [accZ_step l k hk, h0]; simp
  have h4 := putZ_len (k - 1) (accZ l k) (by rw [show k - 1 + 1 = k by omega]; exact h2)
  rw [h3]
  omega
theorem end_ok (l : List UInt8) (k : Nat) (hk : k < l.length) (h9 : k ≤ 9) (hall : ∀ i (h : i < l.length), i < k → 128 ≤ l[i].toNat) (hs : l[k].toNat < 128) (h91 : k = 9 → l[k].toNat ≤ 1) (h0 : ¬ (l[k].toNat = 0 ∧ 0 < k)) : intB l = (unz (accZ l (k + 1)), k + 1, 0) ∧ putB (unz (accZ l (k + 1))) = l.take (k + 1) := by
  have e := readZ_acc l k h9 (by omega) hall
  rw [readZ_step l k _ hk, if_neg (by omega), if_neg (by omega), if_neg h0, ← accZ_step l k hk] at e
  have h1 : intB l = (unz (accZ l (k + 1)), k + 1, 0) := by rw [intB_of e.symm, if_pos rfl]
  refine ⟨h1, ?_⟩
  obtain ⟨v, r, h2, h3, h4⟩ := intB_back l (by rw [h1])
  have h5 := intB_form v r h3 h4
  rw [← h2, h1] at h5
  simp only [Prod.mk.injEq] at h5
  obtain ⟨h6, h7, _⟩ := h5
  rw [h6, h7, h2, List.take_left]
end Go.Proofs.YtekaimfabadclaaDoor
/- The document's own answer: Int. -/
namespace Go.Proofs.YtekaimfabadclaaDoor
open Go Go.RowKit

set_option maxHeartbeats 8000000 in
set_option maxRecDepth 100000 in
theorem refInt_any (l : List UInt8) (ao : Option Addr) (cap : Nat) (w : World) (hb : BytesAt w ao l) (hlc : l.length ≤ cap) (hcm : cap ≤ maxLen) :
    Calls Tryd.prog 25 #[.slice ao l.length cap] w fun e w' => e = .returned (.tuple #[.int .i64 (intB l).1, .int .i64 (intB l).2.1, .int .i64 (intB l).2.2]) ∧ Below w.heap.size w w' := by
  have HB := Lib.hid hb
  have HCM := Lib.hid hcm
  unfold maxLen at hcm
  clear hb
  go_enter Tryd.func25, Tryd.ntmps25
  go_wp2_with fail
  go_loop [5] (fun i => ∃ k : Nat, k ≤ l.length ∧ k ≤ 10 ∧ i = .int .i64 k ∧ (∀ i (h : i < l.length), i < k → 128 ≤ l[i].toNat)) (fun i => l.length - (intOf i).toNat)
  case atStart => exact ⟨0, Nat.zero_le _, by omega, rfl, fun i _ h => by omega⟩
  case round =>
    obtain ⟨k, hk, hk10, rfl, hall⟩ := hrel
    have HALL := Lib.hid hall
    clear hall
    by_cases h10 : k = 10
    · subst h10
      have HE := Lib.hid (end_many l (by omega) (fun i h hi => HALL.out i h (by omega)) (by have := HALL.out 9 (by omega) (by omega); omega))
      go_wp2_with fail
      all_goals
        go_ret3
        exact ⟨by rw [HE.out]; rfl, Below.refl _ _⟩
    by_cases hkl : k = l.length
    · have HE := Lib.hid (end_short l (by omega) (fun i h => HALL.out i h (by omega)))
      have q1 : ((k : Int) == 10) = false := by simp only [beq_eq_false_iff_ne, ne_eq]; omega
      have q2 : ((k : Int) == (l.length : Int)) = true := by rw [hkl]; simp
      have q3 : ¬ (k : Int) < (l.length : Int) := by omega
      cases q4 : ((k : Int) == 9)
      all_goals
        go_wp2_with fail
        all_goals
          go_ret3
          exact ⟨by rw [HE.out]; rfl, Below.refl _ _⟩
    have hlt : k < l.length := by omega
    obtain ⟨b, o, rfl, hc⟩ : ∃ b o, ao = some ⟨b, o, none⟩ ∧ ∀ i (h : i < l.length), w.cell? ⟨b, o + i, none⟩ = some (.int .u8 (l[i].toNat : Int)) := by
      rcases HB.out with h | h
      · rw [h] at hlt; simp at hlt
      · exact h
    have hck := hc k hlt
    have HCC := Lib.hid hc
    have HK := Lib.hid (HALL.out)
    clear hc
    have k0 : (0 : Int) ≤ (k : Int) := by omega
    have k1 : (k : Int) < (l.length : Int) := by omega
    have k2 : (k : Int) < 10 := by omega
    obtain ⟨x, hx⟩ : ∃ x, x = l[k] := ⟨_, rfl⟩
    rw [← hx] at hck
    have HX := Lib.hid hx
    have hx8 := x.toNat_lt
    clear hx
    by_cases hbig : 128 ≤ x.toNat
    · go_wp2_with fail
      go_round
      case rel => exact ⟨k + 1, by omega, by omega, by go_num, fun i h hi => by
        by_cases e : i = k
        · subst e; rw [← HX.out]; exact hbig
        · exact HALL.out i h (by omega)⟩
      case measure => simp [intOf]; omega
    · have HQ := Lib.hid (show ∀ i (h : i < l.length), i < k → 128 ≤ l[i].toNat from HALL.out)
      have hb2 : ¬ (128 : Int) ≤ (x.toNat : Int) := by omega
      by_cases h9 : k = 9 ∧ 1 < x.toNat
      · have HE := Lib.hid (show intB l = (0, 0, 31) by
          obtain ⟨rfl, h1⟩ := h9
          exact end_many l hlt (fun i h hi => HALL.out i h hi) (by rw [← HX.out]; exact h1))
        obtain ⟨rfl, h91⟩ := h9
        have h9b : (((9 : Nat) : Int) == 9) = true := rfl
        have h9c : (((9 : Nat) : Int) == 10) = false := rfl
        have hx1 : (1 : Int) < (x.toNat : Int) := by omega
        clear h91
        go_wp2_with fail
        go_ret3
        exact ⟨by rw [HE.out]; rfl, Below.refl _ _⟩
      · have HN := Lib.hid h9
        have q1 : ((k : Int) == 10) = false := by simp only [beq_eq_false_iff_ne, ne_eq]; omega
        have q2 : ((k : Int) == (l.length : Int)) = false := by simp only [beq_eq_false_iff_ne, ne_eq]; omega
        have key : (((k : Int) == 9) = true ∧ ¬ (1 : Int) < (x.toNat : Int)) ∨ ((k : Int) == 9) = false := by
          by_cases e : k = 9
          · left
            exact ⟨beq_iff_eq.2 (by omega), by omega⟩
          · right
            exact beq_eq_false_iff_ne.2 (by omega)
        clear h9
        rcases key with ⟨q3, q4⟩ | q3
        case' inl =>
          have hk9 : k = 9 := by have := beq_iff_eq.1 q3; omega
          have hck9 : w.cell? ⟨b, o + 9, none⟩ = some (.int .u8 (x.toNat : Int)) := by rw [← hk9]; exact hck
          have h9l : (9 : Int) < (l.length : Int) := by omega
        all_goals
          go_upto_region 8 with fail
          have h91 : k = 9 → l[k].toNat ≤ 1 := fun e => by have := HN.out; rw [← HX.out]; omega
          have hZl := end_lt l k hlt (by omega) h91
          have hxs : l[k].toNat < 128 := by rw [← HX.out]; omega
          have HRES := Lib.hid (show (intB l = (0, 0, 31) ∧ (putZ (accZ l (k + 1))).length ≠ k + 1) ∨ (intB l = (unz (accZ l (k + 1)), k + 1, 0) ∧ putB (unz (accZ l (k + 1))) = l.take (k + 1)) by
            by_cases h0 : l[k].toNat = 0 ∧ 0 < k
            · exact Or.inl (end_zero l k hlt (by omega) HQ.out h0.1 h0.2)
            · exact Or.inr (end_ok l k hlt (by omega) HQ.out hxs h91 h0))
          clear hxs h91 hck
          go_wp2_with fail
          go_loop [6, 7, 8] (fun z t i => ∃ j : Nat, j ≤ k + 1 ∧ i = .int .i64 j ∧ z = .int .u64 (accZ l j : Nat) ∧ t = .int .u64 ((128 ^ j % 18446744073709551616 : Nat) : Int)) (fun _ _ i => k + 1 - (intOf i).toNat)
          case atStart => exact ⟨0, by omega, rfl, rfl, rfl⟩
          case round =>
            obtain ⟨j, hj, rfl, rfl, rfl⟩ := hrel
            by_cases hjk : j ≤ k
            · have hcj := HCC.out j (by omega)
              have hst := accZ_step l j (by omega)
              have hle := accZ_le l (j + 1) (k + 1) (by omega)
              have hpow : 128 ^ j ≤ 128 ^ 9 := Nat.pow_le_pow_right (by decide) (by omega)
              have hpm : 128 ^ j % 18446744073709551616 = 128 ^ j := Nat.mod_eq_of_lt (by omega)
              have hp2 : 128 ^ (j + 1) = 128 ^ j * 128 := Nat.pow_succ _ _
              obtain ⟨y, hy⟩ : ∃ y, y = l[j] := ⟨_, rfl⟩
              rw [← hy] at hcj hst
              have hy8 := y.toNat_lt
              have HP2 := Lib.hid hp2
              obtain ⟨P, hP⟩ : ∃ P, P = 128 ^ j := ⟨_, rfl⟩
              rw [hpm]
              rw [← hP] at hst hpow HP2 ⊢
              obtain ⟨M, hM⟩ : ∃ M, M = y.toNat % 128 * P := ⟨_, rfl⟩
              rw [← hM] at hst
              have HST := Lib.hid hst
              obtain ⟨A, hA⟩ : ∃ A, A = accZ l j := ⟨_, rfl⟩
              obtain ⟨A2, hA2⟩ : ∃ A2, A2 = accZ l (j + 1) := ⟨_, rfl⟩
              rw [← hA, ← hA2] at hst
              rw [← hA] at ⊢
              rw [← hA2] at hle
              have HA2 := Lib.hid hA2
              have hw1 : IntKind.u64.wrap ((y.toNat : Int) % 128 * (P : Int)) = (M : Int) := by
                rw [IntKind.wrap_u64, hM]
                rw [show (y.toNat : Int) % 128 * (P : Int) = ((y.toNat % 128 * P : Nat) : Int) by push_cast; rfl, ← hM]
                omega
              have hw2 : IntKind.u64.wrap ((A : Int) + (M : Int)) = (A2 : Int) := by rw [IntKind.wrap_u64]; omega
              obtain ⟨P2, hP2⟩ : ∃ P2, P2 = 128 ^ (j + 1) % 18446744073709551616 := ⟨_, rfl⟩
              have hw3 : IntKind.u64.wrap ((P : Int) * 128) = (P2 : Int) := by rw [IntKind.wrap_u64, hP2, HP2.out]; omega
              have HP3 := Lib.hid hP2
              have j0 : (0 : Int) ≤ (j : Int) := by omega
              have j1 : (j : Int) < (l.length : Int) := by omega
              have j2 : (j : Int) ≤ (k : Int) := by omega
              clear hy hP hM hA hA2 hP2 hst hle hpow hpm hp2 hZl
              go_wp2_with fail
              go_round
              case rel => exact ⟨j + 1, by omega, by go_num, by rw [← HA2.out], by rw [← HP3.out]⟩
              case measure => simp [intOf]; omega
            · obtain rfl : j = k + 1 := by omega
              obtain ⟨Z, hZ⟩ : ∃ Z, Z = accZ l (k + 1) := ⟨_, rfl⟩
              obtain ⟨T, hT⟩ : ∃ T, T = 128 ^ (k + 1) % 18446744073709551616 := ⟨_, rfl⟩
              rw [← hZ] at HRES hZl ⊢
              rw [← hT]
              obtain ⟨v1, v2⟩ := unz_bd Z hZl
              have HLZ := Lib.hid (show (putB (unz Z)).length = (putZ Z).length by unfold putB; rw [zz_unz])
              obtain ⟨V, hV⟩ : ∃ V, V = unz Z := ⟨_, rfl⟩
              rw [← hV] at HRES HLZ v1 v2
              have hodd : (Z % 2 = 1 ∧ -((Z : Int) / 2) - 1 = V) ∨ (¬ Z % 2 = 1 ∧ (Z : Int) / 2 = V) := by
                rw [hV]
                unfold unz
                by_cases h : Z % 2 = 1
                · left; rw [if_pos h]; exact ⟨h, by omega⟩
                · right; rw [if_neg h]; exact ⟨h, by omega⟩
              have k3 : (k : Int) + 1 ≤ (cap : Int) := by omega
              try have k8 : (10 : Int) ≤ (cap : Int) := by (have := hk9; omega)
              have k4 : (0 : Int) ≤ (k : Int) + 1 := by omega
              have k5 : ((k : Int) + 1).toNat = k + 1 := by omega
              have k14 : IntKind.i64.wrap ((k : Int) + 1) = (k : Int) + 1 := IntWalk.i64_in _ (by omega)
              have k22 : IntKind.i64.wrap 10 = 10 := by decide
              have k23 : IntKind.i64.wrap (9 + 1) = 10 := by decide
              try have k15 : (9 : Int) < (cap : Int) := by (have := hk9; omega)
              try have k16 : 10 ≤ cap := by (have := hk9; omega)
              try have k17 : ¬ cap < 10 := by (have := hk9; omega)
              try have k18 : ¬ (cap : Int) < 10 := by (have := hk9; omega)
              have HBT := Lib.hid (HB.out.take (k + 1))
              have HTL := Lib.hid (show (l.take (k + 1)).length = k + 1 by rw [List.length_take]; omega)
              clear hZ hT hV
              rcases hodd with ⟨h1, hv⟩ | ⟨h1, hv⟩
              case' inl => have q5 : ((Z : Int) % 2 == 1) = true := beq_iff_eq.2 (by omega)
              case' inr => have q5 : ((Z : Int) % 2 == 1) = false := beq_eq_false_iff_ne.2 (by omega)
              all_goals
                clear h1
                go_upto_region 17 with fail
                rcases HRES.out with ⟨hI, hne⟩ | ⟨hI, heq⟩
                · rw [← HLZ.out] at hne
                  have HSL := Lib.hid (show ∀ (a : Option Addr) (c : Nat) (W : World) (m : Nat), m = k + 1 → _ from fun a c W m hm => refSame_len (putB V).length m a (some ⟨b, o, none⟩) c cap W (by rw [hm]; exact hne))
                  have HI := Lib.hid hI
                  clear hI hne
                  go_region_held3 (fun _ => True) (first | trivial | exact trivial) ((first
                    | (go_at_call 23; refine (refPut_any V _ v1 v2).mono ?_; rintro e w2 ⟨u2, rfl, hx2⟩; obtain ⟨a2, c2, rfl, hy2, _, _⟩ := owned_bytes hx2.own; have HB2 := Lib.hid ((Below.refl w.heap.size w).drew.trans hx2.fresh))
                    | (go_at_call 53; refine (HSL.out _ _ _ _ (by omega)).mono ?_; rintro e w3 ⟨rfl, rfl⟩)))
                  all_goals
                    go_wp2_with fail
                    go_ret3
                    exact ⟨by rw [HI.out]; rfl, HB2.out⟩
                · have HLV := Lib.hid (show (putB V).length = k + 1 by rw [heq]; exact HTL.out)
                  have HSS := Lib.hid (show ∀ (a : Option Addr) (c : Nat) (W : World) (m1 m2 : Nat), m1 = k + 1 → m2 = k + 1 → BytesAt W a (putB V) → BytesAt W (some ⟨b, o, none⟩) (putB V) → Calls Tryd.prog 53 #[.slice a m1 c, .slice (some ⟨b, o, none⟩) m2 cap] W (fun e w' => e = .returned (.bool true) ∧ Below W.heap.size W w') by
                    intro a c W m1 m2 e1 e2 h1 h2
                    have h := refSame_same (putB V) a (some ⟨b, o, none⟩) c cap W (by rw [HLV.out]; unfold maxLen; omega) h1 h2
                    rw [HLV.out] at h
                    rw [e1, e2]
                    exact h)
                  rw [← heq] at HBT
                  have HI := Lib.hid hI
                  clear hI heq
                  go_region_held3 (fun _ => True) (first | trivial | exact trivial) ((first
                    | (go_at_call 23; refine (refPut_any V _ v1 v2).mono ?_; rintro e w2 ⟨u2, rfl, hx2⟩; obtain ⟨a2, c2, rfl, hy2, _, _⟩ := owned_bytes hx2.own; rw [HLV.out]; have HB2 := Lib.hid ((Below.refl w.heap.size w).drew.trans hx2.fresh))
                    | (go_at_call 53; refine (HSS.out _ _ _ _ _ (by omega) (by omega) hy2 (HBT.out.below HB2.out)).mono ?_; rintro e w3 ⟨rfl, hb3⟩)))
                  all_goals
                    go_wp2_with fail
                    go_ret3
                    exact ⟨by rw [HI.out]; first | rfl | (rw [hk9]; rfl), HB2.out.trans (hb3.mono HB2.out.size)⟩
end Go.Proofs.YtekaimfabadclaaDoor
/- An event and bytes that came in, as the walks want them. -/
namespace Go.Proofs.YtekaimfabadclaaDoor
open Go Go.ChangeShapes Go.WideShapes Go.ChangeAt Go.RowKit

theorem cellsI : Tryd.prog.cellsOf 3 = 1 := by kernel_rfl
theorem cellsI64 : Tryd.prog.cellsOf 2 = 1 := by kernel_rfl
theorem cellsStr : Tryd.prog.cellsOf 9 = 1 := by kernel_rfl
theorem cellsBool : Tryd.prog.cellsOf 4 = 1 := by kernel_rfl
theorem cellsU8 : Tryd.prog.cellsOf 5 = 1 := by kernel_rfl
theorem cellsVals : Tryd.prog.cellsOf 22 = 1 := by kernel_rfl
theorem cellsVal : Tryd.prog.cellsOf 95 = 4 := by kernel_rfl
theorem cellsEv : Tryd.prog.cellsOf 24 = 3 := by kernel_rfl
theorem bytesU8 : Tryd.prog.bytesOf 5 = 1 := by kernel_rfl

def valIn (a : Val) : Prop := a.str.size ≤ maxLen ∧ -9223372036854775808 ≤ a.int ∧ a.int ≤ 9223372036854775807
section
variable {H : Type} {enc : TypeId × Value → H} {W : World} {base : Nat} {spare : Nat → Bool} {held : Bool}
set_option maxRecDepth 100000 in
theorem val_trod {fuel : Nat} {cs : List Value} {x : DataW H × List MemPlace} (h : DataW.trod enc Tryd.prog W base spare held fuel 95 cs = some x) : ∃ a : Val, cs = a.cells ∧ valIn a := by
  obtain ⟨y0, y1, y2, y3, n, _, hl, h0, h1, h2, h3⟩ := Go.Joins.trod_struct4 Tryd.underlying95 h
  rw [cellsVal] at hl
  match cs, hl with
  | [c0, c1, c2, c3], _ =>
    simp only [cellsI, cellsI64, cellsStr, cellsBool, List.drop_zero, List.drop_succ_cons, List.take_succ_cons, List.take_zero] at h0 h1 h2 h3
    obtain ⟨k, e0, _, _⟩ := DataW.trod_int Tryd.underlying3 h0
    obtain ⟨i, e1, _, wi⟩ := DataW.trod_int Tryd.underlying2 h1
    obtain ⟨s, e2, _, ws⟩ := DataW.trod_string Tryd.underlying9 h2
    obtain ⟨b, e3, _⟩ := DataW.trod_bool Tryd.underlying4 h3
    cases e0; cases e1; cases e2; cases e3
    exact ⟨⟨k, i, s, b⟩, rfl, ws, bounds_i64 wi⟩
set_option maxRecDepth 100000 in
theorem vals_trod {fuel : Nat} {cs : List Value} {x : DataW H × List MemPlace} (h : DataW.trod enc Tryd.prog W base spare held fuel 22 cs = some x) :
    ∃ (l : List Val) (va : Option Addr) (vc : Nat), cs = [.slice va l.length vc] ∧ ValsIn W.heap.size W va l ∧ l.length ≤ maxLen ∧ ∀ a ∈ l, valIn a := by
  rcases DataW.trod_slice Tryd.underlying22 h with ⟨h0, _⟩ | ⟨a, len, cap, elems, rest, n, _, rfl, rfl, hb, hl, hm, hlen, hel, _, _⟩
  · exact ⟨[], none, 0, h0, Or.inl rfl, by simp, by simp⟩
  · have each : ∀ i, i < len → ∃ v : Val, valIn v ∧ ∀ j, j < 4 → W.cell? (a.add (i * 4 + j)) = v.cells[j]? := by
      intro i hi
      have h1 := hel i hi
      rw [List.getElem?_eq_getElem (by omega), cellsVal] at h1
      cases hc : W.cells? base (a.add (i * 4)) 4 with
      | none => rw [hc] at h1; cases h1
      | some c =>
        rw [hc] at h1
        obtain ⟨v, rfl, hv⟩ := val_trod h1
        refine ⟨v, hv, fun j hj => ?_⟩
        have h2 := (World.cells?_some hc).2.2 j hj
        rw [Addr.add_add] at h2
        exact h2
    obtain ⟨f, hf⟩ : ∃ f : Nat → Val, ∀ i, i < len → valIn (f i) ∧ ∀ j, j < 4 → W.cell? (a.add (i * 4 + j)) = (f i).cells[j]? :=
      ⟨fun i => if h : i < len then (each i h).choose else zeroVal, fun i hi => by simp only [hi, dif_pos]; exact (each i hi).choose_spec⟩
    have hll : ((List.range len).map f).length = len := by simp
    refine ⟨(List.range len).map f, some a, cap, by rw [hll], ?_, by rw [hll]; omega, ?_⟩
    · rcases Nat.eq_zero_or_pos len with h0 | h0
      · subst h0
        exact Or.inl rfl
      · obtain ⟨b, o, sp⟩ := a
        have hsp : sp = none := by
          have h3 := (hf 0 h0).2 0 (by omega)
          cases sp with
          | none => rfl
          | some x =>
            simp [World.cell?, Addr.add, Val.cells] at h3
            split at h3 <;> cases h3
        subst hsp
        have ea : ∀ k, (⟨b, o, none⟩ : Addr).add k = ⟨b, o + k, none⟩ := by
          intro k
          unfold Addr.add
          split
          · subst_vars; rfl
          · rfl
        have hlt : b < W.heap.size := by
          have h3 := (hf 0 h0).2 0 (by omega)
          rw [ea] at h3
          exact World.block_lt_of_cell? W _ h3
        refine Or.inr ⟨b, o, rfl, hlt, fun i hi => ?_⟩
        have hi' : i < len := by simpa using hi
        have h3 := (hf i hi').2
        simp only [List.getElem_map, List.getElem_range]
        have g0 := h3 0 (by omega)
        have g1 := h3 1 (by omega)
        have g2 := h3 2 (by omega)
        have g3 := h3 3 (by omega)
        rw [ea] at g0 g1 g2 g3
        exact ⟨g0, g1, g2, g3⟩
    · intro v hv
      obtain ⟨i, hi, rfl⟩ := List.mem_map.1 hv
      exact (hf i (by simpa using hi)).1
set_option maxRecDepth 100000 in
theorem event_trod {fuel : Nat} {cs : List Value} {x : DataW H × List MemPlace} (h : DataW.trod enc Tryd.prog W base spare held fuel 24 cs = some x) :
    ∃ (e : Ev) (va : Option Addr) (vc : Nat), cs = [.string e.ty, .int .i64 e.time, .slice va e.vals.length vc] ∧ ValsIn W.heap.size W va e.vals ∧ e.vals.length ≤ maxLen ∧ ∀ a ∈ e.vals, valIn a := by
  obtain ⟨y0, y1, y2, n, _, hl, h0, h1, h2⟩ := Go.Deep.trod_struct3 Tryd.underlying24 h
  rw [cellsEv] at hl
  match cs, hl with
  | [c0, c1, c2], _ =>
    simp only [cellsI64, cellsStr, cellsVals, List.drop_zero, List.drop_succ_cons, List.take_succ_cons, List.take_zero] at h0 h1 h2
    obtain ⟨s, e0, _, ws⟩ := DataW.trod_string Tryd.underlying9 h0
    obtain ⟨i, e1, _, wi⟩ := DataW.trod_int Tryd.underlying2 h1
    obtain ⟨l, va, vc, e2, hv, hm, hi⟩ := vals_trod h2
    cases e0; cases e1; cases e2
    exact ⟨⟨s, i, l⟩, va, vc, rfl, hv, hm, hi⟩
set_option maxRecDepth 100000 in
/-- Bytes that came in. -/
theorem bytes_trod {fuel : Nat} {cs : List Value} {x : DataW H × List MemPlace} (h : DataW.trod enc Tryd.prog W base spare held fuel 25 cs = some x) :
    ∃ (l : List UInt8) (ao : Option Addr) (cap : Nat), cs = [.slice ao l.length cap] ∧ BytesArg W ao cap l ∧ BytesAt W ao l ∧ l.length ≤ cap ∧ cap ≤ maxLen ∧ ((∀ n ∈ x.1.weights Tryd.prog 25, n ≤ reachBytes) → l.length ≤ reachBytes) := by
  rcases DataW.trod_slice Tryd.underlying25 h with ⟨h0, hx⟩ | ⟨a, len, cap, elems, rest, n, _, rfl, rfl, hb, hl, hm, hlen, hel, _, _⟩
  · exact ⟨[], none, 0, h0, Or.inl ⟨rfl, rfl, rfl⟩, Or.inl rfl, by simp, by simp, by simp⟩
  · have each : ∀ i, i < len → ∃ v : UInt8, W.cell? (a.add i) = some (.int .u8 (v.toNat : Int)) := by
      intro i hi
      have h1 := hel i hi
      rw [List.getElem?_eq_getElem (by omega), cellsU8, Nat.mul_one] at h1
      cases hc : W.cells? base (a.add i) 1 with
      | none => rw [hc] at h1; cases h1
      | some c =>
        rw [hc] at h1
        obtain ⟨z, e0, _, wz⟩ := DataW.trod_int Tryd.underlying5 h1
        subst e0
        have hz := bounds_u8 wz
        refine ⟨UInt8.ofNat z.toNat, ?_⟩
        rw [cell_of_cells?_one hc]
        congr 2
        simp
        omega
    obtain ⟨f, hf⟩ : ∃ f : Nat → UInt8, ∀ i, i < len → W.cell? (a.add i) = some (.int .u8 ((f i).toNat : Int)) :=
      ⟨fun i => if h : i < len then (each i h).choose else 0, fun i hi => by simp only [hi, dif_pos]; exact (each i hi).choose_spec⟩
    have hll : ((List.range len).map f).length = len := by simp
    have hw : (∀ n ∈ (DataW.slice (elems.map (·.1)) (rest.map (·.1))).weights Tryd.prog 25, n ≤ reachBytes) → ((List.range len).map f).length ≤ reachBytes := by
      intro hw
      have h1 := hw ((elems.length + rest.length) * Tryd.prog.bytesOf 5) (by simp [DataW.weights, Tryd.underlying25])
      rw [bytesU8, Nat.mul_one] at h1
      rw [hll]
      omega
    rcases Nat.eq_zero_or_pos len with h0 | h0
    · subst h0
      exact ⟨[], some a, cap, rfl, Or.inr ⟨a, rfl, fun j u hu => by simp [bytesC] at hu⟩, Or.inl rfl, by simp, hm, fun _ => by simp⟩
    · obtain ⟨b, o, sp⟩ := a
      have hsp : sp = none := by
        have h3 := hf 0 h0
        cases sp with
        | none => rfl
        | some x =>
          simp [World.cell?, Addr.add] at h3
          split at h3 <;> cases h3
      subst hsp
      have ea : ∀ k, (⟨b, o, none⟩ : Addr).add k = ⟨b, o + k, none⟩ := by
        intro k
        unfold Addr.add
        split
        · subst_vars; rfl
        · rfl
      have hcell : ∀ i (h : i < ((List.range len).map f).length), W.cell? ⟨b, o + i, none⟩ = some (.int .u8 ((((List.range len).map f)[i]).toNat : Int)) := by
        intro i hi
        have h3 := hf i (by simpa using hi)
        rw [ea] at h3
        simpa using h3
      exact ⟨(List.range len).map f, some ⟨b, o, none⟩, cap, by rw [hll], Or.inr ⟨⟨b, o, none⟩, rfl, news_of hcell⟩, Or.inr ⟨b, o, rfl, hcell⟩, by rw [hll]; exact hl, hm, hw⟩
end
end Go.Proofs.YtekaimfabadclaaDoor
/- The document's own answer: Encode, for every event. -/
namespace Go.Proofs.YtekaimfabadclaaDoor
open Go Go.RowKit

/-- 'append(b, x...)' of a row that is not empty and lies in memory. -/
theorem wpList_append_ext8 {w : World} {ops : Array Oper} {rest : List Oper} {o : Oper} {a : Act} {Q : Exit → Act → World → Prop} (hgd : o.guard = none) (s x : Operand)
    (ho : o.op = .call { callee := .builtin .append, args := #[s, x], argTypes := #[25, 25] }) (B : Nat) (v : Value) (p : List UInt8) (hs : a.eval s = v) (hown : w.ownsRow B 5 1 v p.length (bytesC p))
    (ad : Addr) (n cap : Nat) (l : List UInt8) (hn : l.length = n) (hx : a.eval x = .slice (some ad) n cap) (hc : ∀ j u, (bytesC l)[j]? = some u → w.cell? (ad.add j) = some u) (h0 : 0 < n) (hl : p.length + n ≤ 100000000) (hB : B ≤ w.heap.size)
    (h : ∀ v' w', Ext8 B w v w' v' (p ++ l) → wpList Tryd.prog ops Q rest (a.put o.dst v') w') :
    wpList Tryd.prog ops Q (o :: rest) a w := by
  obtain ⟨i0, hi0, hz0, hz1, hz2⟩ := info_parts Tryd.infoU8
  subst hn
  refine wpList_append_lies w hgd s x 25 ho B 5 i0 _ 1 1 Tryd.underlying25 hi0 hz0 hz1 hz2 rfl (by omega) v p.length (bytesC p) hs hown ad l.length cap (bytesC l) hx (by rw [bytesC_len]; omega) hc (bytesC_one _) h0 (by unfold maxLen; omega) (by omega) hB w.heap.size rfl ?_
  intro g c w' h1 h2 h3 h4
  refine h _ w' ⟨?_, h2, ?_⟩
  · rw [bytesC_append, List.length_append]; exact h1
  · rcases h3 with e | e
    · exact Or.inl (e.symm ▸ rfl)
    · exact Or.inr ⟨g, by omega, rfl⟩
/-- What PutInt made, as a row to append. -/
theorem put_arg {w w' : World} {B : Nat} {v v0 : Value} {l : List UInt8} (h : Ext8 B w v0 w' v l) (h0 : 0 < l.length) : ∃ g cap, v = .slice (some ⟨g, 0, none⟩) l.length cap ∧ ∀ j u, (bytesC l)[j]? = some u → w'.cell? ((⟨g, 0, none⟩ : Addr).add j) = some u := by
  rcases h.own.2 with ⟨e, e0⟩ | ⟨g, cap, cur, e, _⟩
  · exfalso; omega
  · obtain ⟨ao, cap', hv, ha, _⟩ := owned_arg h.own
    rw [e] at hv
    injection hv with e1 e2 e3
    rcases ha with ⟨_, _, e4⟩ | ⟨ad, e4, hc⟩
    · rw [e4] at h0; simp at h0
    · rw [e4] at e1
      cases e1
      exact ⟨g, cap, e, hc⟩

theorem evFault_name {e : Ev} (h : nameB e.ty = false) : evFault e = 20 := by unfold evFault; rw [h]; rfl
theorem evFault_time {e : Ev} (h : nameB e.ty = true) (h2 : e.time < 0 ∨ 4611686018427387904 < e.time) : evFault e = 23 := by unfold evFault; rw [if_pos h, if_pos h2]
theorem evFault_many {e : Ev} (h : nameB e.ty = true) (h2 : ¬ (e.time < 0 ∨ 4611686018427387904 < e.time)) (h3 : 16 < e.vals.length) : evFault e = 2 := by unfold evFault; rw [if_pos h, if_neg h2, if_pos h3]
theorem evFault_val {e : Ev} (h : nameB e.ty = true) (h2 : ¬ (e.time < 0 ∨ 4611686018427387904 < e.time)) (h3 : ¬ 16 < e.vals.length) {a : Val} (ha : a ∈ e.vals) (hv : validB a = false) : evFault e = 12 := by
  unfold evFault
  rw [if_pos h, if_neg h2, if_neg h3, if_neg]
  intro e
  rw [List.all_eq_true] at e
  rw [e a ha] at hv
  cases hv
theorem evFault_fine {e : Ev} (h : nameB e.ty = true) (h2 : ¬ (e.time < 0 ∨ 4611686018427387904 < e.time)) (h3 : ¬ 16 < e.vals.length) (h4 : e.vals.all validB = true) : evFault e = 0 := by
  unfold evFault
  rw [if_pos h, if_neg h2, if_neg h3, if_pos h4]

theorem row_still {v v' : Value} {b n : Nat} (h : v'.ownBlock = v.ownBlock ∨ ∃ g, n ≤ g ∧ v'.ownBlock = some g) (h1 : some b ≠ v.ownBlock) (h2 : b < n) : some b ≠ v'.ownBlock := by
  rcases h with e | ⟨g, hg, e⟩
  · rw [e]; exact h1
  · rw [e]; intro e2; cases e2; omega
/-- What Encode answers. -/
def EncTo (e : Ev) (w : World) (en : Ending) (w' : World) : Prop :=
  (evFault e = 0 ∧ ∃ v, en = .returned (.tuple #[v, .int .i64 0]) ∧ w'.ownsRow w.heap.size 5 1 v (evE e).length (bytesC (evE e))) ∨ (evFault e ≠ 0 ∧ en = .returned (.tuple #[.slice none 0 0, .int .i64 (evFault e)]))

set_option maxHeartbeats 8000000 in
set_option maxRecDepth 100000 in
theorem refEncode_any (e : Ev) (va : Option Addr) (cap : Nat) (w : World) (hva : ValsIn w.heap.size w va e.vals) (hm : ∀ a ∈ e.vals, valIn a) (hn : e.vals.length ≤ maxLen) :
    Calls Tryd.prog 27 #[evV e va cap] w fun en w' => EncTo e w en w' ∧ Below w.heap.size w w' := by
  obtain ⟨i0, hi0, hz0, hz1, hz2⟩ := info_parts Tryd.infoU8
  obtain ⟨W1, hW1⟩ : ∃ W1, W1 = w.alloc (Obj.cells #[.string e.ty, .int .i64 e.time, .slice va e.vals.length cap] 24) := ⟨_, rfl⟩
  have hb1 : Below w.heap.size w W1 := by rw [hW1]; exact (Below.refl _ _).alloc (Nat.le_refl _) _
  have HB1 := Lib.hid hb1
  have hz1' : w.heap.size + 1 = W1.heap.size := by rw [hW1]; simp
  have HV1 := Lib.hid ((hva.below hb1 (Nat.le_refl _)).mono (show w.heap.size ≤ W1.heap.size by omega))
  have HC := Lib.hid (show Cells3 W1 w.heap.size (.string e.ty) (.int .i64 e.time) (.slice va e.vals.length cap) by rw [hW1]; exact Cells3.made _ _ _ _ _)
  have HM := Lib.hid hm
  have HW1 := Lib.hid hW1
  have HEV := Lib.hid (evE_pre e)
  obtain ⟨ty, tm, vals⟩ := e
  simp only [evV] at *
  have c0 := HC.out.c0
  have c1 := HC.out.c1
  have c2 := HC.out.c2
  clear hva hm hb1 hW1
  unfold maxLen at hn
  cases hnm : nameB ty
  case false =>
    have HE := Lib.hid (evFault_name (e := ⟨ty, tm, vals⟩) hnm)
    have HN := Lib.hid hnm
    clear hnm
    go_enter Tryd.func27, Tryd.ntmps27
    go_upto_region 1 with fail
    rw [← HW1.out]
    go_wp2_with fail
    (with_reducible refine (refName_any ty _).mono ?_); rintro en w2 ⟨rfl, hb2⟩
    rw [HN.out]
    go_wp2_with fail
    go_ret2
    exact ⟨Or.inr ⟨by rw [HE.out]; decide, by rw [HE.out]; rfl⟩, HB1.out.trans (hb2.mono (by omega))⟩
  have HN := Lib.hid hnm
  clear hnm
  go_enter Tryd.func27, Tryd.ntmps27
  go_upto_region 1 with fail
  rw [← HW1.out]
  go_wp2_with fail
  (with_reducible refine (refName_any ty _).mono ?_); rintro en w2 ⟨rfl, hb2⟩
  rw [HN.out]
  have HC2 := Lib.hid (HC.out.below hb2)
  have HB2 := Lib.hid (HB1.out.trans (hb2.mono (by omega)))
  have HBB2 := Lib.hid hb2
  have HV2 := Lib.hid (HV1.out.below hb2 (Nat.le_refl _))
  have z2 := hb2.size
  clear hb2 c0 c1 c2
  have c0 := HC2.out.c0
  have c1 := HC2.out.c1
  have c2 := HC2.out.c2
  by_cases h1 : tm < 0
  · have HE := Lib.hid (evFault_time (e := ⟨ty, tm, vals⟩) HN.out (Or.inl h1))
    go_wp2_with fail
    go_ret2
    exact ⟨Or.inr ⟨by rw [HE.out]; decide, by rw [HE.out]; rfl⟩, HB2.out⟩
  by_cases h2 : 4611686018427387904 < tm
  · have HE := Lib.hid (evFault_time (e := ⟨ty, tm, vals⟩) HN.out (Or.inr h2))
    go_wp2_with fail
    go_ret2
    exact ⟨Or.inr ⟨by rw [HE.out]; decide, by rw [HE.out]; rfl⟩, HB2.out⟩
  have HT := Lib.hid (show ¬ (tm < 0 ∨ 4611686018427387904 < tm) by omega)
  by_cases h3 : 16 < vals.length
  · have HE := Lib.hid (evFault_many (e := ⟨ty, tm, vals⟩) HN.out HT.out h3)
    go_wp2_with fail
    go_ret2
    exact ⟨Or.inr ⟨by rw [HE.out]; decide, by rw [HE.out]; rfl⟩, HB2.out⟩
  have hty := (name_size HN.out).2
  have HPL := Lib.hid (evPre_le ⟨ty, tm, vals⟩ hty (by simp only; omega) (by simp only; omega))
  have HP := Lib.hid (show evPre ⟨ty, tm, vals⟩ = ((putB (ty.size : Int) ++ ty.data.toList) ++ putB tm) ++ putB vals.length by unfold evPre textE; simp only [List.append_assoc])
  go_wp2_with fail
  (with_reducible refine (refPut_any _ _ (by omega) (by omega)).mono ?_); rintro en w3 ⟨v3, rfl, hx3⟩
  have HX3 := Lib.hid hx3
  have c0 := HX3.out.grown.cell c0 (by simp [Value.ownBlock])
  have c1 := HX3.out.grown.cell c1 (by simp [Value.ownBlock])
  have c2 := HX3.out.grown.cell c2 (by simp [Value.ownBlock])
  have HL3 := Lib.hid (putB_le (ty.size : Int) (by omega) (by omega))
  have hl3 := HL3.out
  have z3 := hx3.grown.size
  have hap3 : some w.heap.size ≠ v3.ownBlock := fun e => by have := HX3.out.own.lt _ e.symm; omega
  clear hx3
  go_wp2_with (at_builtin; go_must (refine wpList_append_string_at _ (by rfl) _ _ _ _ (by rfl) w2.heap.size 5 i0 Tryd.underlying25 Tryd.underlying9 hi0 hz0 hz1 hz2 v3 (putB (ty.size : Int)).length (bytesC (putB (ty.size : Int))) (by rfl) HX3.out.own ty (by rfl) (by unfold maxLen; omega) (by omega) (by omega) ?_; intro v4 w4 hown4 hgrow4 hat4; have c1 := hgrow4.cell c1 hap3; have c2 := hgrow4.cell c2 hap3; have z4 := hgrow4.size; have HX4 := Lib.hid (HX3.out.trans (Ext8.appS rfl hown4 hgrow4 hat4)); clear hown4 hgrow4 hat4))
  have hl4 : (putB (ty.size : Int) ++ ty.data.toList).length ≤ 42 := by rw [List.length_append]; have : ty.data.toList.length = ty.size := rfl; omega
  (with_reducible refine (refPut_any _ _ (by omega) (by omega)).mono ?_); rintro en w5 ⟨v5, rfl, hx5⟩
  obtain ⟨g5, q5, rfl, hc5⟩ := put_arg hx5 (putB_pos _)
  have HX5 := Lib.hid (HX4.out.post hx5.fresh)
  have hl5 := putB_le tm (by omega) (by omega)
  have hp5 := putB_pos tm
  have c1 := hx5.grown.cell c1 (by simp [Value.ownBlock])
  have c2 := hx5.grown.cell c2 (by simp [Value.ownBlock])
  have z5 := hx5.grown.size
  have hap4 : some w.heap.size ≠ v4.ownBlock := fun e => by have := HX4.out.own.lt _ e.symm; omega
  have HC5 := Lib.hid hc5
  clear hx5 hc5
  go_wp2_with (at_builtin; go_must (refine wpList_append_ext8 (by rfl) _ _ (by rfl) w2.heap.size v4 (putB (ty.size : Int) ++ ty.data.toList) (by rfl) HX5.out.own ⟨g5, 0, none⟩ (putB tm).length q5 (putB tm) rfl (by rfl) HC5.out hp5 (by omega) (by omega) ?_; intro v6 w6 hx6; have c2 := hx6.grown.cell c2 hap4; have z6 := hx6.grown.size; have HX6 := Lib.hid (HX5.out.trans hx6); clear hx6))
  have hl6 : (putB (ty.size : Int) ++ ty.data.toList ++ putB tm).length ≤ 52 := by rw [List.length_append]; omega
  (with_reducible refine (refPut_any _ _ (by omega) (by omega)).mono ?_); rintro en w7 ⟨v7, rfl, hx7⟩
  obtain ⟨g7, q7, rfl, hc7⟩ := put_arg hx7 (putB_pos _)
  have HX7 := Lib.hid (HX6.out.post hx7.fresh)
  have hl7 := putB_le (vals.length : Int) (by omega) (by omega)
  have hp7 := putB_pos (vals.length : Int)
  have c2 := hx7.grown.cell c2 (by simp [Value.ownBlock])
  have z7 := hx7.grown.size
  have hap6 : some w.heap.size ≠ v6.ownBlock := fun e => by have := HX6.out.own.lt _ e.symm; omega
  have HC7 := Lib.hid hc7
  clear hx7 hc7
  go_wp2_with (at_builtin; go_must (refine wpList_append_ext8 (by rfl) _ _ (by rfl) w2.heap.size v6 (putB (ty.size : Int) ++ ty.data.toList ++ putB tm) (by rfl) HX7.out.own ⟨g7, 0, none⟩ (putB (vals.length : Int)).length q7 (putB (vals.length : Int)) rfl (by rfl) HC7.out hp7 (by omega) (by omega) ?_; intro v8 w8 hx8; have c2 := hx8.grown.cell c2 hap6; have z8 := hx8.grown.size; have HX8 := Lib.hid (HX7.out.trans hx8); clear hx8))
  obtain ⟨pre, hpre⟩ : ∃ pre, pre = evPre ⟨ty, tm, vals⟩ := ⟨_, rfl⟩
  rw [← HP.out, ← hpre] at HX8
  rw [← hpre] at HPL HEV
  have d2 := HC2.out.c2
  have hpl := HPL.out
  clear HP hpre HX3 HX4 HX5 HX6 HX7 c0 c1 c2 hl3 hl4 hl5 hl6 hl7 hp5 hp7 HC5 HC7 hap3 hap4 hap6
  go_loopw [4, 5] (fun v i wr => ∃ k : Nat, k ≤ vals.length ∧ i = .int .i64 k ∧ Ext8 w2.heap.size w2 (.slice none 0 0) wr v (pre ++ (vals.take k).flatMap valE) ∧ (vals.take k).all validB = true) (fun _ i _ => vals.length - (intOf i).toNat)
  case atStart => exact ⟨0, Nat.zero_le _, rfl, by simpa using HX8.out, rfl⟩
  case round =>
    obtain ⟨k, hk, rfl, hx, hall⟩ := hrel
    have HX := Lib.hid hx
    have HA := Lib.hid hall
    have zr := hx.grown.size
    have c2 := hx.grown.cell d2 (by simp [Value.ownBlock])
    have HVR := Lib.hid (HV2.out.below hx.fresh z2)
    have hcl : (pre ++ (vals.take k).flatMap valE).length ≤ 62 + 270 * 16 := by
      have h1 := vals_le (vals.take k) (fun a ha => ⟨List.all_eq_true.1 hall a ha, (HM.out a (List.mem_of_mem_take ha)).2⟩)
      rw [List.length_take] at h1
      rw [List.length_append]
      omega
    clear hx hall
    by_cases hlt : k < vals.length
    · obtain ⟨b, o, rfl, hbB, hc4⟩ : ∃ b o, va = some ⟨b, o, none⟩ ∧ b < W1.heap.size ∧ ∀ i (h : i < vals.length), wr.cell? ⟨b, o + i * 4, none⟩ = some (.int .i64 vals[i].kind) ∧ wr.cell? ⟨b, o + i * 4 + 1, none⟩ = some (.int .i64 vals[i].int) ∧ wr.cell? ⟨b, o + i * 4 + 2, none⟩ = some (.string vals[i].str) ∧ wr.cell? ⟨b, o + i * 4 + 3, none⟩ = some (.bool vals[i].bool) := by
        rcases HVR.out with h | h
        · rw [h] at hlt; simp at hlt
        · exact h
      obtain ⟨v0, v1, v2, v3⟩ := hc4 k hlt
      have hvi := HM.out _ (List.getElem_mem hlt)
      have HT2 := Lib.hid (fun h => all_take vals k hlt HA.out h)
      have HMEM := Lib.hid (List.getElem_mem hlt)
      have HVT := Lib.hid (vals_take vals k hlt)
      obtain ⟨⟨vk, vi, vs, vb⟩, hv⟩ : ∃ a, a = vals[k] := ⟨_, rfl⟩
      rw [← hv] at v0 v1 v2 v3 hvi HT2 HMEM HVT
      simp only at v0 v1 v2 v3
      obtain ⟨hm1, hm2, hm3⟩ := hvi
      simp only at hm1 hm2 hm3
      have k0 : (0 : Int) ≤ (k : Int) := by omega
      have k1 : (k : Int) < (vals.length : Int) := by omega
      clear hc4 hv
      obtain ⟨cur, hcur⟩ : ∃ cur, cur = pre ++ (vals.take k).flatMap valE := ⟨_, rfl⟩
      have HNX := Lib.hid (show pre ++ (vals.take (k + 1)).flatMap valE = cur ++ valE ⟨vk, vi, vs, vb⟩ by rw [HVT.out, hcur, List.append_assoc])
      rw [← hcur] at HX hcl
      have HCUR := Lib.hid hcur
      clear hcur
      go_upto_region 15 with fail
      obtain ⟨W2, hW2⟩ : ∃ W2, W2 = wr.alloc (Obj.cells #[.int .i64 vk, .int .i64 vi, .string vs, .bool vb] 95) := ⟨_, rfl⟩
      rw [← hW2]
      have hbW : Below wr.heap.size wr W2 := by rw [hW2]; exact (Below.refl _ _).alloc (Nat.le_refl _) _
      have zW : wr.heap.size + 1 = W2.heap.size := by rw [hW2]; simp
      have HBX := Lib.hid (show BoxV wr W2 ⟨vk, vi, vs, vb⟩ by rw [hW2]; exact BoxV.made wr ⟨vk, vi, vs, vb⟩)
      have HX2 := Lib.hid (HX.out.post hbW)
      have q0 := HBX.out.c0
      have q1 := HBX.out.c1
      have q2 := HBX.out.c2
      have q3 := HBX.out.c3
      simp only at q0 q1 q2 q3
      have hapr : some wr.heap.size ≠ u4.ownBlock := row_apart HX.out.own
      clear hW2 hbW
      have HVAL := Lib.hid (refValid_any ⟨vk, vi, vs, vb⟩ W2 hm1)
      simp only [Val.v] at HVAL
      go_wp2_with fail
      (with_reducible refine HVAL.out.mono ?_); rintro en w5 ⟨rfl, hb5⟩
      have HX5 := Lib.hid (HX2.out.post hb5)
      have HBX5 := Lib.hid (HBX.out.grown (grownBy_of_below hb5 none) (by simp))
      have z5 := hb5.size
      clear hb5 q0 q1 q2 q3
      cases hvl : validB ⟨vk, vi, vs, vb⟩
      case false =>
        have HE := Lib.hid (evFault_val (e := ⟨ty, tm, vals⟩) HN.out HT.out h3 HMEM.out hvl)
        clear hvl
        go_wp2_with fail
        go_ret2
        exact ⟨Or.inr ⟨by rw [HE.out]; decide, by rw [HE.out]; rfl⟩, HB2.out.trans (HX5.out.fresh.mono (by omega))⟩
      have HT3 := Lib.hid (HT2.out hvl)
      have q0 := HBX5.out.c0
      have q1 := HBX5.out.c1
      have q2 := HBX5.out.c2
      have q3 := HBX5.out.c3
      simp only at q0 q1 q2 q3
      have hk3 : vk = 1 ∨ vk = 2 ∨ vk = 3 := by
        unfold validB at hvl
        simp only at hvl
        split at hvl
        · exact Or.inl ‹_›
        · split at hvl
          · exact Or.inr (Or.inl ‹_›)
          · split at hvl
            · exact Or.inr (Or.inr ‹_›)
            · simp at hvl
      rcases hk3 with rfl | rfl | rfl
      · have HVE := Lib.hid (show valE ⟨1, vi, vs, vb⟩ = [1] ++ putB vi from rfl)
        have hlp := putB_le vi hm2 hm3
        have hpp := putB_pos vi
        clear hvl
        go_wp2_with (at_builtin; go_must (refine wpList_append_ext8 (by rfl) _ _ (by rfl) w2.heap.size u4 cur (by rfl) (HX5.out.own.alloc _) ⟨_, 0, none⟩ 1 1 [1] rfl (by rfl) (World.news_of_block (cs := #[.int .u8 1]) (t := 5) (fr := (0, 0)) (heap_alloc_new _ _)) (by omega) (by omega) (by simp; omega) ?_; intro v6 w6 hx6; have HX6 := Lib.hid (Ext8.trans (HX5.out.post ((Below.refl _ w5).alloc (Nat.le_refl _) _)) hx6); have hbx6 := (HBX5.out.grown (World.grownBy_alloc w5 (Obj.cells #[Value.int IntKind.u8 1] 5) none) (by simp)).grown hx6.grown hapr; have q0 := hbx6.c0; have q1 := hbx6.c1; simp only at q0 q1; have z6 := hx6.grown.size; rw [World.size_alloc] at z6; clear hx6 hbx6))
        (with_reducible refine (refPut_any _ _ hm2 hm3).mono ?_); rintro en w7 ⟨v7, rfl, hx7⟩
        obtain ⟨g7, q7, rfl, hc7⟩ := put_arg hx7 (putB_pos _)
        have HX7 := Lib.hid (HX6.out.post hx7.fresh)
        have z7 := hx7.grown.size
        have HC7 := Lib.hid hc7
        have hcl6 : (cur ++ [(1 : UInt8)]).length ≤ 5000 := by rw [List.length_append]; simp only [List.length_cons, List.length_nil]; omega
        clear hx7 hc7
        go_wp2_with (at_builtin; go_must (refine wpList_append_ext8 (by rfl) _ _ (by rfl) w2.heap.size v6 (cur ++ [1]) (by rfl) HX7.out.own ⟨g7, 0, none⟩ (putB vi).length q7 (putB vi) rfl (by rfl) HC7.out hpp (by omega) (by omega) ?_; intro v8 w8 hx8; have z8 := hx8.grown.size; have HX8 := Lib.hid (HX7.out.trans hx8); clear hx8))
        go_roundw
        case rel => exact ⟨k + 1, by omega, by go_num, by rw [HNX.out, HVE.out, ← List.append_assoc]; exact HX8.out, HT3.out⟩
        case measure => simp [intOf]; omega
      · have HVE := Lib.hid (show valE ⟨2, vi, vs, vb⟩ = [2] ++ (putB (vs.size : Int) ++ vs.data.toList) from rfl)
        have hs256 : vs.size ≤ 256 := by
          unfold validB at hvl
          rw [if_neg (by simp), if_pos rfl] at hvl
          simp only [Bool.and_eq_true, decide_eq_true_eq] at hvl
          exact hvl.2
        have hlp := putB_le (vs.size : Int) (by omega) (by omega)
        have hpp := putB_pos (vs.size : Int)
        clear hvl
        go_wp2_with (at_builtin; go_must (refine wpList_append_ext8 (by rfl) _ _ (by rfl) w2.heap.size u4 cur (by rfl) (HX5.out.own.alloc _) ⟨_, 0, none⟩ 1 1 [2] rfl (by rfl) (World.news_of_block (cs := #[.int .u8 2]) (t := 5) (fr := (0, 0)) (heap_alloc_new _ _)) (by omega) (by omega) (by simp; omega) ?_; intro v6 w6 hx6; have HX6 := Lib.hid (Ext8.trans (HX5.out.post ((Below.refl _ w5).alloc (Nat.le_refl _) _)) hx6); have hbx6 := (HBX5.out.grown (World.grownBy_alloc w5 (Obj.cells #[Value.int IntKind.u8 2] 5) none) (by simp)).grown hx6.grown hapr; have q0 := hbx6.c0; have q1 := hbx6.c1; have q2 := hbx6.c2; have q3 := hbx6.c3; simp only at q0 q1 q2 q3; have z6 := hx6.grown.size; rw [World.size_alloc] at z6; have hap6 := row_still hx6.row hapr (by simp; omega); clear hx6 hbx6))
        (with_reducible refine (refPut_any _ _ (by omega) (by omega)).mono ?_); rintro en w7 ⟨v7, rfl, hx7⟩
        obtain ⟨g7, q7, rfl, hc7⟩ := put_arg hx7 (putB_pos _)
        have HX7 := Lib.hid (HX6.out.post hx7.fresh)
        have q2 := hx7.grown.cell q2 (by simp [Value.ownBlock])
        have z7 := hx7.grown.size
        have HC7 := Lib.hid hc7
        have hcl6 : (cur ++ [(2 : UInt8)]).length ≤ 5000 := by rw [List.length_append]; simp only [List.length_cons, List.length_nil]; omega
        clear hx7 hc7
        go_upto_region 23 with (at_builtin; go_must (refine wpList_append_ext8 (by rfl) _ _ (by rfl) w2.heap.size v6 (cur ++ [2]) (by rfl) HX7.out.own ⟨g7, 0, none⟩ (putB (vs.size : Int)).length q7 (putB (vs.size : Int)) rfl (by rfl) HC7.out hpp (by omega) (by omega) ?_; intro v8 w8 hx8; have z8 := hx8.grown.size; have q2 := hx8.grown.cell q2 hap6; have HX8 := Lib.hid (HX7.out.trans hx8); clear hx8))
        have hcl8 : (cur ++ [(2 : UInt8)] ++ putB (vs.size : Int)).length ≤ 5010 := by rw [List.length_append]; omega
        go_wp2_with (at_builtin; go_must (refine wpList_append_string_at _ (by rfl) _ _ _ _ (by rfl) w2.heap.size 5 i0 Tryd.underlying25 Tryd.underlying9 hi0 hz0 hz1 hz2 v8 (cur ++ [2] ++ putB (vs.size : Int)).length (bytesC (cur ++ [2] ++ putB (vs.size : Int))) (by rfl) HX8.out.own vs (by rfl) (by unfold maxLen; omega) (by omega) (by omega) ?_; intro v9 w9 hown9 hgrow9 hat9; have z9 := hgrow9.size; have HX9 := Lib.hid (HX8.out.trans (Ext8.appS rfl hown9 hgrow9 hat9)); clear hown9 hgrow9 hat9))
        go_roundw
        case rel => exact ⟨k + 1, by omega, by go_num, by rw [HNX.out, HVE.out, ← List.append_assoc, ← List.append_assoc]; exact HX9.out, HT3.out⟩
        case measure => simp [intOf]; omega
      · clear hvl
        have hcl6 : (cur ++ [(3 : UInt8)]).length ≤ 5000 := by rw [List.length_append]; simp only [List.length_cons, List.length_nil]; omega
        cases vb
        · have HVE := Lib.hid (show valE ⟨3, vi, vs, false⟩ = [3] ++ [0] from rfl)
          go_upto_region 19 with ((at_builtin; go_must (refine wpList_append_ext8 (by rfl) _ _ (by rfl) w2.heap.size u4 cur (by rfl) (HX5.out.own.alloc _) ⟨_, 0, none⟩ 1 1 [3] rfl (by rfl) (World.news_of_block (cs := #[.int .u8 3]) (t := 5) (fr := (0, 0)) (heap_alloc_new _ _)) (by omega) (by omega) (by simp; omega) ?_; intro v6 w6 hx6; have HX6 := Lib.hid (Ext8.trans (HX5.out.post ((Below.refl _ w5).alloc (Nat.le_refl _) _)) hx6); have hbx6 := (HBX5.out.grown (World.grownBy_alloc w5 (Obj.cells #[Value.int IntKind.u8 3] 5) none) (by simp)).grown hx6.grown hapr; have q0 := hbx6.c0; have q1 := hbx6.c1; have q2 := hbx6.c2; have q3 := hbx6.c3; simp only at q0 q1 q2 q3; have z6 := hx6.grown.size; rw [World.size_alloc] at z6; have hap6 := row_still hx6.row hapr (by simp; omega); clear hx6 hbx6)))
          go_wp2_with (at_builtin; go_must (refine wpList_append_ext8 (by rfl) _ _ (by rfl) w2.heap.size v6 (cur ++ [3]) (by rfl) (HX6.out.own.alloc _) ⟨_, 0, none⟩ 1 1 [0] rfl (by rfl) (World.news_of_block (cs := #[.int .u8 0]) (t := 5) (fr := (0, 0)) (heap_alloc_new _ _)) (by omega) (by omega) (by simp; omega) ?_; intro v8 w8 hx8; have z8 := hx8.grown.size; rw [World.size_alloc] at z8; have HX8 := Lib.hid (Ext8.trans (HX6.out.post ((Below.refl _ w6).alloc (Nat.le_refl _) _)) hx8); clear hx8))
          go_roundw
          case rel => exact ⟨k + 1, by omega, by go_num, by rw [HNX.out, HVE.out, ← List.append_assoc]; exact HX8.out, HT3.out⟩
          case measure => simp [intOf]; omega
        · have HVE := Lib.hid (show valE ⟨3, vi, vs, true⟩ = [3] ++ [1] from rfl)
          go_upto_region 19 with ((at_builtin; go_must (refine wpList_append_ext8 (by rfl) _ _ (by rfl) w2.heap.size u4 cur (by rfl) (HX5.out.own.alloc _) ⟨_, 0, none⟩ 1 1 [3] rfl (by rfl) (World.news_of_block (cs := #[.int .u8 3]) (t := 5) (fr := (0, 0)) (heap_alloc_new _ _)) (by omega) (by omega) (by simp; omega) ?_; intro v6 w6 hx6; have HX6 := Lib.hid (Ext8.trans (HX5.out.post ((Below.refl _ w5).alloc (Nat.le_refl _) _)) hx6); have hbx6 := (HBX5.out.grown (World.grownBy_alloc w5 (Obj.cells #[Value.int IntKind.u8 3] 5) none) (by simp)).grown hx6.grown hapr; have q0 := hbx6.c0; have q1 := hbx6.c1; have q2 := hbx6.c2; have q3 := hbx6.c3; simp only at q0 q1 q2 q3; have z6 := hx6.grown.size; rw [World.size_alloc] at z6; have hap6 := row_still hx6.row hapr (by simp; omega); clear hx6 hbx6)))
          go_wp2_with (at_builtin; go_must (refine wpList_append_ext8 (by rfl) _ _ (by rfl) w2.heap.size v6 (cur ++ [3]) (by rfl) (HX6.out.own.alloc _) ⟨_, 0, none⟩ 1 1 [1] rfl (by rfl) (World.news_of_block (cs := #[.int .u8 1]) (t := 5) (fr := (0, 0)) (heap_alloc_new _ _)) (by omega) (by omega) (by simp; omega) ?_; intro v8 w8 hx8; have z8 := hx8.grown.size; rw [World.size_alloc] at z8; have HX8 := Lib.hid (Ext8.trans (HX6.out.post ((Below.refl _ w6).alloc (Nat.le_refl _) _)) hx8); clear hx8))
          go_roundw
          case rel => exact ⟨k + 1, by omega, by go_num, by rw [HNX.out, HVE.out, ← List.append_assoc]; exact HX8.out, HT3.out⟩
          case measure => simp [intOf]; omega
    · have HE := Lib.hid (show pre ++ (vals.take k).flatMap valE = evE ⟨ty, tm, vals⟩ by rw [HEV.out, List.take_of_length_le (by omega)])
      have HF := Lib.hid (show evFault ⟨ty, tm, vals⟩ = 0 from evFault_fine HN.out HT.out h3 (by have := HA.out; rwa [List.take_of_length_le (by omega)] at this))
      go_wp2_with fail
      go_ret2
      have h := HX.out
      rw [HE.out] at h
      exact ⟨Or.inl ⟨HF.out, _, rfl, own_base h.own (by omega)⟩, HB2.out.trans (h.fresh.mono (by omega))⟩
end Go.Proofs.YtekaimfabadclaaDoor
/- The document's own reader: fault, one, number. -/
namespace Go.Proofs.YtekaimfabadclaaDoor
open Go Go.RowKit

/-- The document's reader in memory: its bytes l, how far they are read, the first fault; r: what is left, if there is no fault. -/
structure RfAt (w : World) (rb B : Nat) (l : List UInt8) (r : Rd) : Prop where
  ex : ∃ ao cap, ∃ p : Nat, w.cell? ⟨rb, 0, none⟩ = some (.slice ao l.length cap) ∧ w.cell? ⟨rb, 1, none⟩ = some (.int .i64 p) ∧ l.length ≤ cap ∧ cap ≤ maxLen ∧ p ≤ l.length ∧ BytesOff rb B w ao l ∧ (r.fault = 0 → r.rest = l.drop p) ∧ (r.fault ≠ 0 → r.rest = [])
  c2 : w.cell? ⟨rb, 2, none⟩ = some (.int .i64 r.fault)
  f1 : w.frozen? ⟨rb, 1, none⟩ = false
  f2 : w.frozen? ⟨rb, 2, none⟩ = false
theorem RfAt.lt {w : World} {rb B : Nat} {l : List UInt8} {r : Rd} (h : RfAt w rb B l r) : rb < w.heap.size := World.block_lt_of_cell? w _ h.c2
structure RfTo (rb B : Nat) (l : List UInt8) (w w' : World) (r' : Rd) : Prop where
  grown : w.grownBy w' (some rb)
  at' : RfAt w' rb B l r'
theorem RfTo.trans {rb B : Nat} {l : List UInt8} {w w' w'' : World} {r' r'' : Rd} (h : RfTo rb B l w w' r') (k : RfTo rb B l w' w'' r'') : RfTo rb B l w w'' r'' := ⟨grownBy_trans h.grown k.grown (Or.inl rfl), k.at'⟩
theorem RfAt.below {w w' : World} {rb B : Nat} {l : List UInt8} {r : Rd} (h : RfAt w rb B l r) (hb : Below w.heap.size w w') : RfAt w' rb B l r := by
  obtain ⟨ao, cap, p, c0, c1, h1, h2, h3, h4, h5, h6⟩ := h.ex
  have hl := h.lt
  exact ⟨⟨ao, cap, p, (hb.cell (p := ⟨rb, 0, none⟩) hl).trans c0, (hb.cell (p := ⟨rb, 1, none⟩) hl).trans c1, h1, h2, h3, h4.keep (grownBy_of_below hb _), h5, h6⟩, (hb.cell (p := ⟨rb, 2, none⟩) hl).trans h.c2, (hb.frozen (p := ⟨rb, 1, none⟩) hl).trans h.f1, (hb.frozen (p := ⟨rb, 2, none⟩) hl).trans h.f2⟩
theorem RfTo.below {rb B : Nat} {l : List UInt8} {w w' w'' : World} {r' : Rd} (h : RfTo rb B l w w' r') (hb : Below w'.heap.size w' w'') : RfTo rb B l w w'' r' := ⟨grownBy_trans h.grown (grownBy_of_below hb (some rb)) (Or.inl rfl), h.at'.below hb⟩
theorem RfTo.refl {rb B : Nat} {l : List UInt8} {w : World} {r : Rd} (h : RfAt w rb B l r) : RfTo rb B l w w r := ⟨grownBy_refl _ _, h⟩
theorem RfTo.pre {rb B : Nat} {l : List UInt8} {w w1 w' : World} {r : Rd} (hb : Below w.heap.size w w1) (h : RfTo rb B l w1 w' r) : RfTo rb B l w w' r := ⟨grownBy_trans (grownBy_of_below hb (some rb)) h.grown (Or.inl rfl), h.at'⟩
/-- The first fault is told. -/
theorem RfAt.setFault {w : World} {rb B : Nat} {l : List UInt8} {r : Rd} (h : RfAt w rb B l r) (f : Int) (hf : f ≠ 0) : RfTo rb B l w (w.setCell ⟨rb, 2, none⟩ (.int .i64 f)) ⟨[], f⟩ := by
  obtain ⟨ao, cap, p, c0, c1, h1, h2, h3, h4, _, _⟩ := h.ex
  have hg := grown_set w rb 2 (.int .i64 f)
  exact ⟨hg, ⟨⟨ao, cap, p, (World.cell?_setCell_other _ _ _ _ (by intro e; cases e)).trans c0, (World.cell?_setCell_other _ _ _ _ (by intro e; cases e)).trans c1, h1, h2, h3, h4.keep hg, fun e => absurd e hf, fun _ => rfl⟩, World.cell?_setCell_same _ _ _ h.c2, (World.frozen?_setCell _ _ _ _).trans h.f1, (World.frozen?_setCell _ _ _ _).trans h.f2⟩⟩
/-- It is read on. -/
theorem RfAt.setAt {w : World} {rb B : Nat} {l : List UInt8} {r : Rd} (h : RfAt w rb B l r) (p : Nat) (hp : p ≤ l.length) (h0 : r.fault = 0) (z : Int) (hz : z = (p : Int)) : RfTo rb B l w (w.setCell ⟨rb, 1, none⟩ (.int .i64 z)) ⟨l.drop p, 0⟩ := by
  subst hz
  obtain ⟨ao, cap, q, c0, c1, h1, h2, h3, h4, _, _⟩ := h.ex
  have hg := grown_set w rb 1 (.int .i64 (p : Int))
  have c2 := h.c2
  rw [h0] at c2
  exact ⟨hg, ⟨⟨ao, cap, p, (World.cell?_setCell_other _ _ _ _ (by intro e; cases e)).trans c0, World.cell?_setCell_same _ _ _ c1, h1, h2, hp, h4.keep hg, fun _ => rfl, fun e => absurd rfl e⟩, (World.cell?_setCell_other _ _ _ _ (by intro e; cases e)).trans c2, (World.frozen?_setCell _ _ _ _).trans h.f1, (World.frozen?_setCell _ _ _ _).trans h.f2⟩⟩

set_option maxRecDepth 100000 in
theorem refFault_any (rb B : Nat) (l : List UInt8) (r : Rd) (f : Int) (hf : f ≠ 0) (w : World) (hr : RfAt w rb B l r) :
    Calls Tryd.prog 58 #[.pointer (some ⟨rb, 0, none⟩), .int .i64 f] w fun en w' => en = .returned (.tuple #[]) ∧ RfTo rb B l w w' (r.refuse f) := by
  have c2 := hr.c2
  have f2 := hr.f2
  have HR := Lib.hid hr
  have HF := Lib.hid hf
  clear hr hf
  cases h : (r.fault == 0)
  · have HE := Lib.hid (show r.refuse f = r by unfold Rd.refuse; rw [if_neg (by simpa using h)])
    go_enter Tryd.func58, Tryd.ntmps58
    go_wp2_with fail
    exact bodyPost_end (v := .tuple #[]) (by simp [results, Tryd.results58, go_sem]) rfl ⟨rfl, by rw [HE.out]; exact RfTo.refl HR.out⟩
  · have HE := Lib.hid (show r.refuse f = ⟨[], f⟩ by unfold Rd.refuse; rw [if_pos (by simpa using h)])
    go_enter Tryd.func58, Tryd.ntmps58
    go_wp2_with fail
    exact bodyPost_end (v := .tuple #[]) (by simp [results, Tryd.results58, go_sem]) rfl ⟨rfl, by rw [HE.out]; exact HR.out.setFault f HF.out⟩

/-- A byte, whatever it is. -/
def oneU (r : Rd) : Nat × Rd :=
  match r.rest with
  | [] => (0, r.refuse 30)
  | x :: t => (x.toNat, ⟨t, r.fault⟩)
theorem refuse_self {r : Rd} (f : Int) (h : r.fault ≠ 0) : r.refuse f = r := by unfold Rd.refuse; rw [if_neg h]

set_option maxHeartbeats 4000000 in
set_option maxRecDepth 100000 in
theorem refOne_any (rb B : Nat) (l : List UInt8) (r : Rd) (w : World) (hr : RfAt w rb B l r) :
    Calls Tryd.prog 84 #[.pointer (some ⟨rb, 0, none⟩)] w fun en w' => en = .returned (.int .u8 ((oneU r).1 : Nat)) ∧ RfTo rb B l w w' (oneU r).2 := by
  have c2 := hr.c2
  have HR := Lib.hid hr
  obtain ⟨ao, cap, p, c0, c1, h1, h2, h3, h4, h5, h6⟩ := hr.ex
  have f1 := hr.f1
  unfold maxLen at h2
  clear hr
  cases h : (r.fault == 0)
  · have h0 : r.fault ≠ 0 := by simpa using h
    have HE := Lib.hid (show oneU r = (0, r) by unfold oneU; rw [h6 h0]; simp only; rw [refuse_self 30 h0])
    have hn : (r.fault != 0) = true := by simpa using h0
    clear h5 h6 h4 h0
    go_enter Tryd.func84, Tryd.ntmps84
    go_wp2_with fail
    go_ret
    exact ⟨by rw [HE.out]; rfl, by rw [HE.out]; exact RfTo.refl HR.out⟩
  · have h0 : r.fault = 0 := by simpa using h
    have hn : (r.fault != 0) = false := by simpa using h0
    have HF := Lib.hid h0
    have HO := Lib.hid (h5 h0)
    have HB := Lib.hid h4
    clear h5 h6 h4 h0 h
    by_cases hp : p = l.length
    · have HE := Lib.hid (show oneU r = (0, r.refuse 30) by unfold oneU; rw [HO.out, hp, List.drop_length])
      subst hp
      go_enter Tryd.func84, Tryd.ntmps84
      go_wp2_with fail
      go_quiet (fail)
      go_wp2_with fail
      (with_reducible refine (refFault_any rb B l r 30 (by decide) _ (HR.out.below (below_drewN (Below.refl _ _) _))).mono ?_); rintro en w2 ⟨rfl, hto⟩
      go_wp2_with fail
      go_ret
      exact ⟨by rw [HE.out]; rfl, by rw [HE.out]; exact RfTo.pre (below_drewN (Below.refl _ _) _) hto⟩
    · have hlt : p < l.length := by omega
      have hpe : ((p : Int) == (l.length : Int)) = false := by rw [beq_eq_false_iff_ne]; omega
      obtain ⟨b, o, rfl, hbr, hbl, hc⟩ : ∃ b o, ao = some ⟨b, o, none⟩ ∧ b ≠ rb ∧ b < B ∧ ∀ i (h : i < l.length), w.cell? ⟨b, o + i, none⟩ = some (.int .u8 (l[i].toNat : Int)) := by
        rcases HB.out with h | h
        · rw [h] at hlt; simp at hlt
        · exact h
      have hcp := hc p hlt
      have HE := Lib.hid (show oneU r = (l[p].toNat, ⟨l.drop (p + 1), 0⟩) by unfold oneU; rw [HO.out, List.drop_eq_getElem_cons hlt]; simp only; rw [HF.out])
      obtain ⟨x, hx⟩ : ∃ x, x = l[p] := ⟨_, rfl⟩
      rw [← hx] at hcp HE
      have k0 : (0 : Int) ≤ (p : Int) := by omega
      have k1 : (p : Int) < (l.length : Int) := by omega
      have e1 : IntKind.i64.wrap ((p : Int) + 1) = (p : Int) + 1 := IntWalk.i64_in _ (by omega)
      clear hx hc hp
      go_enter Tryd.func84, Tryd.ntmps84
      go_wp2_with fail
      go_quiet (fail)
      go_upto_region 7 with fail
      have HTO := Lib.hid (RfTo.pre (below_drewN (Below.refl w.heap.size w) nq) ((HR.out.below (below_drewN (Below.refl _ _) nq)).setAt (p + 1) (by omega) HF.out ((p : Int) + 1) (by omega)))
      obtain ⟨W1, hW1⟩ : ∃ W1, W1 = (w.drewN nq).setCell ⟨rb, 1, none⟩ (.int .i64 ((p : Int) + 1)) := ⟨_, rfl⟩
      rw [← hW1] at HTO ⊢
      have c0' : W1.cell? ⟨rb, 0, none⟩ = some (.slice (some ⟨b, o, none⟩) l.length cap) := by rw [hW1, World.cell?_setCell_other _ _ _ _ (by intro e; cases e)]; exact c0
      have c1' : W1.cell? ⟨rb, 1, none⟩ = some (.int .i64 ((p : Int) + 1)) := by rw [hW1]; exact World.cell?_setCell_same _ _ _ c1
      have cp' : W1.cell? ⟨b, o + p, none⟩ = some (.int .u8 (x.toNat : Int)) := by rw [hW1, World.cell?_setCell_other _ _ _ _ (by intro e; have := congrArg Addr.block e; simp only at this; omega)]; exact hcp
      have e2 : IntKind.i64.wrap ((p : Int) + 1 - 1) = (p : Int) := by rw [IntWalk.i64_in _ (by omega)]; omega
      have hx8 := x.toNat_lt
      clear hW1 c0 c1 c2 hcp f1 e1
      go_quiet (fail)
      go_wp2_with fail
      go_ret
      exact ⟨by rw [HE.out]; rfl, by rw [HE.out]; exact HTO.out.below (below_drewN (Below.refl _ _) _)⟩
theorem number_ill {lo hi : Int} {r : Rd} (h : r.fault ≠ 0) (h2 : r.rest = []) : numberR lo hi r = (0, r) := by
  rw [numberR_int, h2, if_neg (by decide), refuse_self _ h]
/-- 's[p:]' of bytes that lie somewhere. -/
theorem cut_from (ao : Option Addr) (L cap p : Nat) (hp : p ≤ L) : ∀ W, (Instr.slice 25 (.slice ao L cap) (some (.int .i64 (p : Int))) none none).run Tryd.prog W = .ok (.slice (if cap = p then ao else ao.map (·.add p)) (L - p) (cap - p)) W := by
  intro W
  have hu : Tryd.prog.underlying 25 = some (.slice (Tryd.prog.elem 25)) := by kernel_rfl
  have he : Tryd.prog.elem 25 = 5 := by kernel_rfl
  rw [run_slice_l W 25 ao L cap hu .i64 (p : Int) (by omega) (by omega), he, Tryd.sizeOf5]
  simp only [Result.andThen, sliced, Int.toNat_natCast, Nat.mul_one]
theorem BytesOff.from {rb B : Nat} {w : World} {ao : Option Addr} {l : List UInt8} {cap : Nat} (h : BytesOff rb B w ao l) (p : Nat) (hp : p ≤ l.length) (hc : l.length ≤ cap) : BytesOff rb B w (if cap = p then ao else ao.map (·.add p)) (l.drop p) := by
  by_cases e : cap = p
  · exact Or.inl (List.drop_of_length_le (by omega))
  · rw [if_neg e]
    rcases h with h | ⟨b, o, rfl, h⟩
    · exact Or.inl (by rw [h]; simp)
    · have h2 := BytesOff.drop p (Or.inr ⟨b, o, rfl, h⟩ : BytesOff rb B w (some ⟨b, o, none⟩) l)
      have e2 : (some (⟨b, o, none⟩ : Addr)).map (·.add p) = some ⟨b, o + p, none⟩ := by simp [Addr.add]
      rw [e2]
      exact h2

set_option maxHeartbeats 4000000 in
set_option maxRecDepth 100000 in
theorem refNumber_any (rb B : Nat) (l : List UInt8) (r : Rd) (lo hi : Int) (w : World) (hr : RfAt w rb B l r) :
    Calls Tryd.prog 59 #[.pointer (some ⟨rb, 0, none⟩), .int .i64 lo, .int .i64 hi] w fun en w' => en = .returned (.int .i64 (numberR lo hi r).1) ∧ RfTo rb B l w w' (numberR lo hi r).2 := by
  have c2 := hr.c2
  have HR := Lib.hid hr
  have HN := Lib.hid (numberR_int lo hi r)
  obtain ⟨ao, cap, p, c0, c1, h1, h2, h3, h4, h5, h6⟩ := hr.ex
  have f1 := hr.f1
  clear hr
  cases h : (r.fault == 0)
  · have h0 : r.fault ≠ 0 := by simpa using h
    have HE := Lib.hid (show numberR lo hi r = (0, r) from number_ill h0 (h6 h0))
    have hn : (r.fault != 0) = true := by simpa using h0
    clear h5 h6 h4 h0
    go_enter Tryd.func59, Tryd.ntmps59
    go_wp2_with fail
    go_ret
    exact ⟨by rw [HE.out]; rfl, by rw [HE.out]; exact RfTo.refl HR.out⟩
  have h0 : r.fault = 0 := by simpa using h
  have hn : (r.fault != 0) = false := by simpa using h0
  have HF := Lib.hid h0
  have hdl : (l.drop p).length = l.length - p := List.length_drop
  have hsl := cut_from ao l.length cap p h3
  have HOF := Lib.hid (h4.from p h3 h1)
  obtain ⟨ao', hao⟩ : ∃ ao', ao' = (if cap = p then ao else ao.map (·.add p)) := ⟨_, rfl⟩
  rw [← hao] at hsl HOF
  have HINT := Lib.hid (fun (W : World) (hb : Below w.heap.size w W) => refInt_any (l.drop p) ao' (cap - p) W ((HOF.out.keep (grownBy_of_below hb _)).at') (by omega) (by omega))
  rw [h5 h0] at HN
  have HI := Lib.hid (intB_ok (l.drop p))
  rw [hdl] at HINT HI
  obtain ⟨⟨v, n, f⟩, hv⟩ : ∃ x, x = intB (l.drop p) := ⟨_, rfl⟩
  rw [← hv] at HN HI HINT
  simp only at HN HI HINT
  have HV := Lib.hid hv
  unfold maxLen at h2
  have k0 : (0 : Int) ≤ (p : Int) := by omega
  have k1 : (p : Int) ≤ (l.length : Int) := by omega
  clear hao hdl h5 h6 h4 h0 h hv
  go_enter Tryd.func59, Tryd.ntmps59
  go_wp2_with fail
  go_region_held3 (fun w' => w'.cell? ⟨rb, 0, none⟩ = some (.slice ao l.length cap) ∧ w'.cell? ⟨rb, 1, none⟩ = some (.int .i64 p))
    (first
      | go_keep
      | exact ⟨c0', c1'⟩)
    ((first
      | (go_at_call 25; (with_reducible refine (HINT.out _ (Below.refl w.heap.size w).drew).mono ?_); rintro en w4 ⟨rfl, hb4⟩; have hbD := (Below.refl w.heap.size w).drew.trans hb4; have c0' := (hbD.cell (p := ⟨rb, 0, none⟩) HR.out.lt).trans c0; have c1' := (hbD.cell (p := ⟨rb, 1, none⟩) HR.out.lt).trans c1)))
  have HB := Lib.hid hbD
  have HR4 := Lib.hid (HR.out.below hbD)
  have f1' := HR4.out.f1
  clear hbD hb4 hsl c0 c1 c2 f1 HINT HOF
  cases hf : (f == 0)
  · have hf0 : f ≠ 0 := by simpa using hf
    have HE := Lib.hid (show numberR lo hi r = (0, r.refuse f) by rw [HN.out, if_neg hf0])
    have hf2 : (f != 0) = true := by simp [bne, hf]
    have HFF := Lib.hid (refFault_any rb B l r f hf0 w4 HR4.out)
    clear hf0
    go_wp2_with fail
    (with_reducible refine HFF.out.mono ?_); rintro en w5 ⟨rfl, hto⟩
    go_wp2_with fail
    go_ret
    exact ⟨by rw [HE.out]; rfl, by rw [HE.out]; exact RfTo.pre HB.out hto⟩
  have hf0 : f = 0 := by simpa using hf
  have hf2 : (f != 0) = false := by simp [bne, hf]
  obtain ⟨g1, g2, g3, g4⟩ := HI.out hf0
  have hpn : p + n ≤ l.length := by omega
  have e1 : IntKind.i64.wrap ((p : Int) + (n : Int)) = (p : Int) + (n : Int) := IntWalk.i64_in _ (by omega)
  have HTO := Lib.hid (RfTo.pre HB.out (HR4.out.setAt (p + n) hpn HF.out ((p : Int) + (n : Int)) (by omega)))
  have HD := Lib.hid (show (l.drop p).drop n = l.drop (p + n) by rw [List.drop_drop])
  obtain ⟨W1, hW1⟩ : ∃ W1, W1 = w4.setCell ⟨rb, 1, none⟩ (.int .i64 ((p : Int) + (n : Int))) := ⟨_, rfl⟩
  rw [← hW1] at HTO
  have HW1 := Lib.hid hW1
  clear hW1
  by_cases hb1 : v < lo ∨ hi < v
  · have HE := Lib.hid (show numberR lo hi r = (0, r.refuse 31) by rw [HN.out, if_pos hf0, if_pos hb1])
    have hb2 : v < lo ∨ (lo ≤ v ∧ hi < v) := by omega
    have HFF := Lib.hid (refFault_any rb B l ⟨l.drop (p + n), 0⟩ 31 (by decide) W1 HTO.out.at')
    have HRF := Lib.hid (show r.refuse 31 = (⟨l.drop (p + n), 0⟩ : Rd).refuse 31 by unfold Rd.refuse; rw [if_pos HF.out, if_pos rfl])
    clear hb1 hf hf0
    rcases hb2 with j1 | ⟨j1, j2⟩
    all_goals
      go_upto_region 8 with fail
      rw [← HW1.out]
      go_wp2_with fail
      (with_reducible refine HFF.out.mono ?_); rintro en w5 ⟨rfl, hto⟩
      go_wp2_with fail
      go_ret
      exact ⟨by rw [HE.out]; rfl, by rw [HE.out, HRF.out]; exact HTO.out.trans hto⟩
  · have HE := Lib.hid (show numberR lo hi r = (v, ⟨l.drop (p + n), 0⟩) by rw [HN.out, if_pos hf0, if_neg hb1, HD.out, HF.out])
    have j1 : lo ≤ v := by omega
    have j2 : v ≤ hi := by omega
    clear hb1 hf hf0
    go_upto_region 8 with fail
    rw [← HW1.out]
    go_wp2_with fail
    go_ret
    exact ⟨by rw [HE.out]; rfl, by rw [HE.out]; exact HTO.out⟩
end Go.Proofs.YtekaimfabadclaaDoor
/- The document's own reader: text. -/
namespace Go.Proofs.YtekaimfabadclaaDoor
open Go Go.RowKit

theorem number_zero {lo hi : Int} {r : Rd} (h : r.fault ≠ 0 → r.rest = []) (h2 : (numberR lo hi r).2.fault ≠ 0) : (numberR lo hi r).1 = 0 ∧ (numberR lo hi r).2.rest = [] := by
  by_cases h0 : r.fault = 0
  · rw [numberR_int] at h2 ⊢
    by_cases e : (intB r.rest).2.2 = 0
    · rw [if_pos e] at h2 ⊢
      by_cases e2 : (intB r.rest).1 < lo ∨ hi < (intB r.rest).1
      · rw [if_pos e2] at h2 ⊢
        exact ⟨rfl, by unfold Rd.refuse; rw [if_pos h0]⟩
      · rw [if_neg e2] at h2
        exact absurd h0 h2
    · rw [if_neg e]
      exact ⟨rfl, by unfold Rd.refuse; rw [if_pos h0]⟩
  · rw [number_ill h0 (h h0)]
    exact ⟨rfl, h h0⟩
/-- 's[p:q]' of bytes that lie somewhere. -/
theorem cut_both (ao : Option Addr) (L cap p q : Nat) (hp : p ≤ q) (hq : q ≤ cap) (z : Int) (hz : z = (q : Int)) : ∀ W, (Instr.slice 25 (.slice ao L cap) (some (.int .i64 (p : Int))) (some (.int .i64 z)) none).run Tryd.prog W = .ok (.slice (if cap = p then ao else ao.map (·.add p)) (q - p) (cap - p)) W := by
  intro W
  subst hz
  have hu : Tryd.prog.underlying 25 = some (.slice (Tryd.prog.elem 25)) := by kernel_rfl
  have he : Tryd.prog.elem 25 = 5 := by kernel_rfl
  rw [run_slice_lh W 25 ao L cap hu .i64 .i64 (p : Int) (q : Int) (by omega) (by omega) (by omega), he, Tryd.sizeOf5]
  simp only [Result.andThen, sliced, Int.toNat_natCast, Nat.mul_one]
theorem conv_cut {rb B : Nat} {w : World} {ao : Option Addr} {l : List UInt8} (h : BytesOff rb B w ao l) (cap p n c : Nat) (hpn : p + n ≤ l.length) (hc : l.length ≤ cap) : (convert 25 9 (.slice (if cap = p then ao else ao.map (·.add p)) n c)).run Tryd.prog w = .ok (.string ⟨((l.drop p).take n).toArray⟩) w := by
  by_cases h0 : n = 0
  · subst h0
    exact conv_nil _ c w
  · rw [if_neg (by omega)]
    rcases h with h | ⟨b, o, rfl, _, _, h⟩
    · rw [h] at hpn; simp at hpn; omega
    · have e2 : (some (⟨b, o, none⟩ : Addr)).map (·.add p) = some ⟨b, o + p, none⟩ := by simp [Addr.add]
      rw [e2]
      refine conv_take (l.drop p) n b (o + p) c w (by rw [List.length_drop]; omega) (fun i hi => ?_)
      have hi' : p + i < l.length := by rw [List.length_drop] at hi; omega
      have := h (p + i) hi'
      rw [← Nat.add_assoc] at this
      rw [this]
      simp

set_option maxHeartbeats 4000000 in
set_option maxRecDepth 100000 in
theorem refText_any (rb B : Nat) (l : List UInt8) (r : Rd) (lo hi : Int) (w : World) (hr : RfAt w rb B l r) (hlo : 0 ≤ lo) (hhi : hi ≤ 1000) :
    Calls Tryd.prog 57 #[.pointer (some ⟨rb, 0, none⟩), .int .i64 lo, .int .i64 hi] w fun en w' => en = .returned (.string (textR lo hi r).1) ∧ RfTo rb B l w w' (textR lo hi r).2 := by
  have HT := Lib.hid (textR_eq lo hi r)
  have HNL := Lib.hid (numberR_lo lo hi hlo r)
  have HNUM := Lib.hid (refNumber_any rb B l r lo hi w hr)
  have HZ := Lib.hid (number_zero (lo := lo) (hi := hi) (r := r) (by obtain ⟨_, _, _, _, _, _, _, _, _, _, h⟩ := hr.ex; exact h))
  obtain ⟨⟨m, r1⟩, hm⟩ : ∃ x, x = numberR lo hi r := ⟨_, rfl⟩
  rw [← hm] at HT HNL HNUM HZ
  simp only at HT HNL HNUM HZ
  have hm0 := HNL.out.1
  obtain ⟨n, rfl⟩ : ∃ n : Nat, m = (n : Int) := ⟨m.toNat, by omega⟩
  have hn1000 : n ≤ 1000 := by have := HNL.out.2; omega
  rw [Int.toNat_natCast] at HT
  clear hm hr hm0
  go_enter Tryd.func57, Tryd.ntmps57
  go_wp2_with fail
  (with_reducible refine HNUM.out.mono ?_); rintro en w1 ⟨rfl, hto1⟩
  have HTO1 := Lib.hid hto1
  have HR := Lib.hid hto1.at'
  have c2 := HR.out.c2
  obtain ⟨ao, cap, p, c0, c1, h1, h2, h3, h4, h5, h6⟩ := HR.out.ex
  have f1 := HR.out.f1
  clear hto1
  unfold maxLen at h2
  cases h : (r1.fault == 0)
  · have h0 : r1.fault ≠ 0 := by simpa using h
    have hz := HZ.out h0
    have hn0 : n = 0 := by omega
    have HE := Lib.hid (show textR lo hi r = (⟨#[]⟩, r1) by
      rw [HT.out, hz.2, hn0]
      simp only [List.length_nil]
      rw [if_neg (by omega)]
      obtain ⟨rs, fs⟩ := r1
      simp only at hz ⊢
      rw [hz.2]
      rfl)
    have hn : (r1.fault != 0) = true := by simpa using h0
    clear h5 h6 h4 h0 hz hn0
    go_wp2_with fail
    go_ret
    exact ⟨by rw [HE.out]; rfl, by rw [HE.out]; exact HTO1.out⟩
  have h0 : r1.fault = 0 := by simpa using h
  have hn : (r1.fault != 0) = false := by simpa using h0
  have HF := Lib.hid h0
  have HRS := Lib.hid (h5 h0)
  have hrl : r1.rest.length = l.length - p := by rw [h5 h0, List.length_drop]
  have HOF := Lib.hid h4
  have e1 : IntKind.i64.wrap ((l.length : Int) - (p : Int)) = (l.length : Int) - (p : Int) := IntWalk.i64_in _ (by omega)
  clear h5 h6 h4 h0 h
  by_cases hlt : l.length - p < n
  · have HE := Lib.hid (show textR lo hi r = (⟨#[]⟩, r1.refuse 30) by rw [HT.out, if_pos (by omega)])
    have hq : (l.length : Int) - (p : Int) < (n : Int) := by omega
    have HFF := Lib.hid (fun d => refFault_any rb B l r1 30 (by decide) (w1.drewN d) (HR.out.below (below_drewN (Below.refl _ _) _)))
    clear hrl hlt
    go_wp2_with fail
    go_quiet (fail)
    go_wp2_with fail
    (with_reducible refine (HFF.out _).mono ?_); rintro en w2 ⟨rfl, hto⟩
    go_wp2_with fail
    go_ret
    exact ⟨by rw [HE.out]; rfl, by rw [HE.out]; exact HTO1.out.trans (RfTo.pre (below_drewN (Below.refl _ _) _) hto)⟩
  · have hpn : p + n ≤ l.length := by omega
    have HE := Lib.hid (show textR lo hi r = (⟨((l.drop p).take n).toArray⟩, ⟨l.drop (p + n), 0⟩) by rw [HT.out, if_neg (by omega), HRS.out, HF.out, List.drop_drop])
    have hq : (n : Int) ≤ (l.length : Int) - (p : Int) := by omega
    have e2 : IntKind.i64.wrap ((p : Int) + (n : Int)) = (p : Int) + (n : Int) := IntWalk.i64_in _ (by omega)
    have e3 : IntKind.i64.wrap ((p : Int) + (n : Int) - (n : Int)) = (p : Int) := by rw [IntWalk.i64_in _ (by omega)]; omega
    have HSL := Lib.hid (cut_both ao l.length cap p (p + n) (by omega) (by omega) ((p : Int) + (n : Int)) (by omega))
    clear hrl hlt
    go_wp2_with fail
    go_quiet (fail)
    go_upto_region 8 with fail
    have HTO := Lib.hid (RfTo.pre (below_drewN (Below.refl w1.heap.size w1) nq) ((HR.out.below (below_drewN (Below.refl _ _) nq)).setAt (p + n) hpn HF.out ((p : Int) + (n : Int)) (by omega)))
    obtain ⟨W1, hW1⟩ : ∃ W1, W1 = (w1.drewN nq).setCell ⟨rb, 1, none⟩ (.int .i64 ((p : Int) + (n : Int))) := ⟨_, rfl⟩
    have HOF1 := Lib.hid (show BytesOff rb B W1 ao l by rw [hW1]; exact (HOF.out.keep (grownBy_of_below (below_drewN (Below.refl _ _) nq) _)).keep (grown_set _ _ _ _))
    rw [← hW1] at HTO ⊢
    have c0' : W1.cell? ⟨rb, 0, none⟩ = some (.slice ao l.length cap) := by rw [hW1, World.cell?_setCell_other _ _ _ _ (by intro e; cases e)]; exact c0
    have c1' : W1.cell? ⟨rb, 1, none⟩ = some (.int .i64 ((p : Int) + (n : Int))) := by rw [hW1]; exact World.cell?_setCell_same _ _ _ c1
    have hcv : ∀ d, (convert 25 9 (.slice (if cap = p then ao else ao.map (·.add p)) n (cap - p))).run Tryd.prog (W1.drewN d) = .ok (.string ⟨((l.drop p).take n).toArray⟩) (W1.drewN d) := fun d => conv_cut (HOF1.out.keep (grownBy_of_below (below_drewN (Below.refl _ _) d) _)) cap p n (cap - p) hpn h1
    have hcv0 : (convert 25 9 (.slice (if cap = p then ao else ao.map (·.add p)) n (cap - p))).run Tryd.prog W1 = .ok (.string ⟨((l.drop p).take n).toArray⟩) W1 := conv_cut HOF1.out cap p n (cap - p) hpn h1
    have hsl := HSL.out
    rw [Nat.add_sub_cancel_left] at hsl
    obtain ⟨ao', hao⟩ : ∃ ao', ao' = (if cap = p then ao else ao.map (·.add p)) := ⟨_, rfl⟩
    obtain ⟨S, hS⟩ : ∃ S : ByteArray, S = ⟨((l.drop p).take n).toArray⟩ := ⟨_, rfl⟩
    rw [← hao, ← hS] at hcv hcv0
    rw [← hao] at hsl
    rw [← hS] at HE
    clear hao hS hW1 c0 c1 c2 f1 e1 e2
    go_quiet (fail)
    go_wp2_with fail
    go_ret
    exact ⟨by rw [HE.out]; rfl, by rw [HE.out]; exact HTO1.out.trans (HTO.out.below (below_drewN (Below.refl _ _) _))⟩
end Go.Proofs.YtekaimfabadclaaDoor
/- The document's own reader: value. -/
namespace Go.Proofs.YtekaimfabadclaaDoor
open Go Go.RowKit

theorem RfAt.keep {w w' : World} {rb B : Nat} {l : List UInt8} {r : Rd} (h : RfAt w rb B l r) (hh : w'.heap[rb]? = w.heap[rb]?) (hk : ∀ k, k < B → w'.heap[k]? = w.heap[k]?) : RfAt w' rb B l r := by
  obtain ⟨ao, cap, p, c0, c1, h1, h2, h3, h4, h5, h6⟩ := h.ex
  have e : ∀ j : Nat, w'.cell? ⟨rb, j, none⟩ = w.cell? ⟨rb, j, none⟩ := fun j => World.cell?_of_block (w := w) hh
  have ef : ∀ j : Nat, w'.frozen? ⟨rb, j, none⟩ = w.frozen? ⟨rb, j, none⟩ := fun j => World.frozen?_of_block (w := w) hh
  refine ⟨⟨ao, cap, p, (e 0).trans c0, (e 1).trans c1, h1, h2, h3, ?_, h5, h6⟩, (e 2).trans h.c2, (ef 1).trans h.f1, (ef 2).trans h.f2⟩
  rcases h4 with h | ⟨b, o, rfl, g1, g2, g3⟩
  · exact Or.inl h
  · exact Or.inr ⟨b, o, rfl, g1, g2, fun i hi => (World.cell?_of_block (w := w) (hk b g2)).trans (g3 i hi)⟩
theorem RfTo.set {rb B : Nat} {l : List UInt8} {w w' : World} {r : Rd} {a : Addr} (h : RfTo rb B l w w' r) (hB : B ≤ w.heap.size) (hrb : rb < w.heap.size) (ha : w.heap.size ≤ a.block) (x : Value) : RfTo rb B l w (w'.setCell a x) r := by
  have hk : ∀ k, k < w.heap.size → (w'.setCell a x).heap[k]? = w'.heap[k]? := fun k hk => Below.heap_setCell _ _ _ _ (by omega)
  refine ⟨⟨h.grown.os, h.grown.tape, h.grown.output, by simpa [World.setCell] using h.grown.size, fun k h1 h2 => (hk k h1).trans (h.grown.block k h1 h2)⟩, h.at'.keep (hk rb hrb) (fun k h1 => hk k (by omega))⟩
theorem Cells4.toF {rb B : Nat} {l : List UInt8} {w w' : World} {b : Nat} {v0 v1 v2 v3 : Value} {r : Rd} (h : Cells4 w b v0 v1 v2 v3) (ht : RfTo rb B l w w' r) (hne : b ≠ rb) : Cells4 w' b v0 v1 v2 v3 := h.keep (ht.grown.block b h.lt (fun e => hne (Option.some.inj e)))

theorem value_eq (r : Rd) : valueR r = tailR (singleR 1 3 r).1 (singleR 1 3 r).2 := rfl
theorem one_nil {r : Rd} (h : r.rest = []) : oneU r = (0, r.refuse 30) := by unfold oneU; rw [h]
theorem one_cons {r : Rd} {x : UInt8} {t : List UInt8} (h : r.rest = x :: t) : oneU r = (x.toNat, ⟨t, r.fault⟩) := by unfold oneU; rw [h]
theorem single_nil {lo hi : Nat} {r : Rd} (h : r.rest = []) : singleR lo hi r = (0, r.refuse 30) := by unfold singleR; rw [h]
theorem single_cons {lo hi : Nat} {r : Rd} {x : UInt8} {t : List UInt8} (h : r.rest = x :: t) : singleR lo hi r = if x.toNat < lo ∨ hi < x.toNat then (0, r.refuse 31) else (x.toNat, ⟨t, r.fault⟩) := by unfold singleR; rw [h]
theorem value_short {r : Rd} (h : r.fault ≠ 0 → r.rest = []) (h2 : (oneU r).2.fault ≠ 0) : (valueR r).2 = (oneU r).2 ∧ (valueR r).2.fault ≠ 0 := by
  have hr : r.rest = [] := by
    cases hl : r.rest with
    | nil => rfl
    | cons x t =>
      rw [one_cons hl] at h2
      rw [h h2] at hl
      cases hl
  have e : (valueR r).2 = (oneU r).2 := by rw [value_eq, single_nil hr, one_nil hr]; rfl
  exact ⟨e, by rw [e]; exact h2⟩
theorem refuse_zero (l : List UInt8) (f : Int) : (⟨l, 0⟩ : Rd).refuse f = ⟨[], f⟩ := refuse_ok l f
/-- A kind was read. -/
theorem one_kind {r : Rd} (h : (oneU r).2.fault = 0) : ∃ (x : UInt8) (t : List UInt8), r.rest = x :: t ∧ r.fault = 0 ∧ oneU r = (x.toNat, ⟨t, 0⟩) := by
  cases hl : r.rest with
  | nil =>
    rw [one_nil hl] at h
    unfold Rd.refuse at h
    split at h
    · cases h
    · contradiction
  | cons x t =>
    rw [one_cons hl] at h ⊢
    exact ⟨x, t, rfl, h, by rw [h]⟩
theorem value_of {r : Rd} {x : UInt8} {t : List UInt8} (h : r.rest = x :: t) (h0 : r.fault = 0) (h1 : 1 ≤ x.toNat ∧ x.toNat ≤ 3) : valueR r = tailR x.toNat ⟨t, 0⟩ := by
  rw [value_eq, single_cons h, if_neg (by omega), h0]
theorem value_other {r : Rd} {x : UInt8} {t : List UInt8} (h : r.rest = x :: t) (h0 : r.fault = 0) (h1 : ¬ (1 ≤ x.toNat ∧ x.toNat ≤ 3)) : (valueR r).2 = ⟨[], 31⟩ := by
  rw [value_eq, single_cons h, if_pos (by omega)]
  obtain ⟨l, f⟩ := r
  simp only at h0
  subst h0
  rfl
theorem single_le1 {t : List UInt8} (h : (oneU ⟨t, 0⟩).1 ≤ 1) : singleR 0 1 ⟨t, 0⟩ = oneU ⟨t, 0⟩ := by
  cases t with
  | nil => rfl
  | cons y t =>
    rw [one_cons (r := ⟨y :: t, 0⟩) rfl] at h ⊢
    rw [single_cons (r := ⟨y :: t, 0⟩) rfl, if_neg (by simp only at h; omega)]
theorem single_gt1 {t : List UInt8} (h : 1 < (oneU ⟨t, 0⟩).1) : singleR 0 1 ⟨t, 0⟩ = (0, (oneU ⟨t, 0⟩).2.refuse 31) := by
  cases t with
  | nil => exact absurd h (by decide)
  | cons y t =>
    rw [one_cons (r := ⟨y :: t, 0⟩) rfl] at h ⊢
    rw [single_cons (r := ⟨y :: t, 0⟩) rfl, if_pos (by simp only at h; omega), refuse_zero, refuse_zero]

/-- What value answers. -/
def ValTo (r : Rd) (en : Ending) : Prop := ∃ a : Val, en = .returned a.v ∧ ((valueR r).2.fault = 0 → a = (valueR r).1)

set_option maxHeartbeats 8000000 in
set_option maxRecDepth 100000 in
theorem refValue_any (rb B : Nat) (l : List UInt8) (r : Rd) (w : World) (hr : RfAt w rb B l r) (hB : B ≤ w.heap.size) :
    Calls Tryd.prog 60 #[.pointer (some ⟨rb, 0, none⟩)] w fun en w' => ValTo r en ∧ RfTo rb B l w w' (valueR r).2 := by
  have hrl := hr.lt
  have h6 : r.fault ≠ 0 → r.rest = [] := by obtain ⟨_, _, _, _, _, _, _, _, _, _, h⟩ := hr.ex; exact h
  obtain ⟨W0, hW0⟩ : ∃ W0, W0 = w.alloc (Obj.cells #[.int .i64 0, .int .i64 0, .string ⟨#[]⟩, .bool false] 95) := ⟨_, rfl⟩
  have hb0 : Below w.heap.size w W0 := by rw [hW0]; exact (Below.refl _ _).alloc (Nat.le_refl _) _
  have HB0 := Lib.hid hb0
  have HR0 := Lib.hid (hr.below hb0)
  have HA0 := Lib.hid (show Cells4 W0 w.heap.size (.int .i64 0) (.int .i64 0) (.string ⟨#[]⟩) (.bool false) by rw [hW0]; exact Cells4.made _ _ _ _ _ _)
  have hz0 : w.heap.size < W0.heap.size := by rw [hW0]; simp
  have HW0 := Lib.hid hW0
  have HS := Lib.hid (refOne_any rb B l r W0 HR0.out)
  have HSH := Lib.hid (value_short h6)
  have HOK := Lib.hid (one_kind (r := r))
  have hne : w.heap.size ≠ rb := by omega
  obtain ⟨⟨kn, r1⟩, hkr⟩ : ∃ x, x = oneU r := ⟨_, rfl⟩
  rw [← hkr] at HS HSH HOK
  simp only at HS HSH HOK
  obtain ⟨k, hk⟩ : ∃ k : Int, k = (kn : Int) := ⟨_, rfl⟩
  rw [← hk] at HS
  have hk0 : 0 ≤ k := by omega
  have hk255 : k ≤ 255 := by
    have : kn ≤ 255 := by
      have h := congrArg Prod.fst hkr
      simp only at h
      rw [h]
      unfold oneU
      split
      · simp
      · rename_i x t _
        have := x.toNat_lt
        simp only
        omega
    omega
  have HK := Lib.hid hk
  clear hr hb0 hW0 hkr hk h6
  go_enter Tryd.func60, Tryd.ntmps60
  go_upto_region 1 with fail
  rw [← HW0.out]
  go_wp2_with fail
  (with_reducible refine HS.out.mono ?_); rintro e w1 ⟨rfl, hto1⟩
  have HTO1 := Lib.hid hto1
  have HA1 := Lib.hid (HA0.out.toF hto1 hne)
  have hz1 : w.heap.size < w1.heap.size := Nat.lt_of_lt_of_le hz0 hto1.grown.size
  have c2 := hto1.at'.c2
  clear hto1
  cases h : (r1.fault == 0)
  · have h0 : r1.fault ≠ 0 := by simpa using h
    have HE := Lib.hid (HSH.out h0)
    have hn : (r1.fault != 0) = true := by simpa using h0
    have HTO := Lib.hid (RfTo.pre HB0.out HTO1.out)
    have a0 := HA1.out.c0
    have b0 := HA1.out.f0
    have a1 := HA1.out.c1
    have b1 := HA1.out.f1
    have a2 := HA1.out.c2
    have b2 := HA1.out.f2
    have a3 := HA1.out.c3
    have b3 := HA1.out.f3
    clear h0
    go_wp2_with fail
    refine bodyPost_ret (v := .agg #[.int .i64 0, .int .i64 0, .string ⟨#[]⟩, .bool false]) (by simp [results, Tryd.results60, go_sem, a0, a1, a2, a3]) rfl ⟨⟨⟨0, 0, ⟨#[]⟩, false⟩, rfl, fun e => absurd e HE.out.2⟩, ?_⟩
    rw [HE.out.1]
    exact (((HTO.out.set hB hrl (Nat.le_refl _) _).set hB hrl (Nat.le_refl _) _).set hB hrl (Nat.le_refl _) _).set hB hrl (Nat.le_refl _) _
  have h0 : r1.fault = 0 := by simpa using h
  have hn : (r1.fault != 0) = false := by simpa using h0
  have HKX := Lib.hid (HOK.out h0)
  clear h0 h HSH HOK
  obtain ⟨W2, hW2⟩ : ∃ W2, W2 = w1.alloc (Obj.cells #[.int .i64 k, .int .i64 0, .string ⟨#[]⟩, .bool false] 95) := ⟨_, rfl⟩
  have hb2 : Below w1.heap.size w1 W2 := by rw [hW2]; exact (Below.refl _ _).alloc (Nat.le_refl _) _
  have HTO2 := Lib.hid ((RfTo.pre HB0.out HTO1.out).below hb2)
  have HA2 := Lib.hid (show Cells4 W2 w.heap.size (.int .i64 0) (.int .i64 0) (.string ⟨#[]⟩) (.bool false) by rw [hW2]; exact HA1.out.alloc _)
  obtain ⟨V, hV⟩ : ∃ V, V = w1.heap.size := ⟨_, rfl⟩
  have HV2 := Lib.hid (show Cells4 W2 V (.int .i64 k) (.int .i64 0) (.string ⟨#[]⟩) (.bool false) by rw [hW2, hV]; exact Cells4.made _ _ _ _ _ _)
  have hVw : w.heap.size < V := by omega
  have HW2 := Lib.hid hW2
  have HVE := Lib.hid hV
  have hVr : V ≠ rb := by omega
  have hVA : V ≠ w.heap.size := by omega
  have hAV : w.heap.size ≠ V := by omega
  clear hb2 hW2 hV
  obtain ⟨x, t, hx, hf0, hox⟩ := HKX.out
  have hr1 : r1 = ⟨t, 0⟩ := congrArg Prod.snd hox
  have hk1 : kn = x.toNat := congrArg Prod.fst hox
  have hkx : k = (x.toNat : Int) := by rw [HK.out, hk1]
  have HR1 := Lib.hid hr1
  have HX := Lib.hid hx
  have HF0 := Lib.hid hf0
  have HKX2 := Lib.hid hkx
  clear hr1 hx hf0 hkx hox hk1
  have hkk : k = 1 ∨ k = 2 ∨ k = 3 ∨ ¬ (1 ≤ k ∧ k ≤ 3) := by omega
  rcases hkk with rfl | rfl | rfl | hko
  · have HE := Lib.hid (show valueR r = (⟨1, (numberR (-9223372036854775808) 9223372036854775807 r1).1, ⟨#[]⟩, false⟩, (numberR (-9223372036854775808) 9223372036854775807 r1).2) by rw [value_of HX.out HF0.out (by have := HKX2.out; omega), show x.toNat = 1 by have := HKX2.out; omega, ← HR1.out]; rfl)
    have HC := Lib.hid (refNumber_any rb B l r1 (-9223372036854775808) 9223372036854775807 W2 HTO2.out.at')
    go_upto_region 5 with fail
    rw [← HW2.out, ← HVE.out]
    go_wp2_with fail
    (with_reducible refine HC.out.mono ?_); rintro e w3 ⟨rfl, hto3⟩
    have HA3 := Lib.hid (HA2.out.toF hto3 hne)
    have HV3 := Lib.hid (HV2.out.toF hto3 hVr)
    have HTO3 := Lib.hid (HTO2.out.trans hto3)
    clear hto3
    have a0 := HA3.out.c0
    have b0 := HA3.out.f0
    have v0 := HV3.out.c0
    have a1 := HA3.out.c1
    have b1 := HA3.out.f1
    have v1 := HV3.out.c1
    have a2 := HA3.out.c2
    have b2 := HA3.out.f2
    have v2 := HV3.out.c2
    have a3 := HA3.out.c3
    have b3 := HA3.out.f3
    have v3 := HV3.out.c3
    have g1 := HV3.out.f1
    have g2 := HV3.out.f2
    have g3 := HV3.out.f3
    go_wp2_with fail
    refine bodyPost_ret (v := .agg #[.int .i64 1, .int .i64 (numberR (-9223372036854775808) 9223372036854775807 r1).1, .string ⟨#[]⟩, .bool false]) (by simp [results, Tryd.results60, go_sem, a0, a1, a2, a3]) rfl ⟨⟨⟨1, (numberR (-9223372036854775808) 9223372036854775807 r1).1, ⟨#[]⟩, false⟩, rfl, fun _ => by rw [HE.out]⟩, ?_⟩
    rw [HE.out]
    exact (((((HTO3.out.set hB hrl (Nat.le_of_lt hVw) _).set hB hrl (Nat.le_refl _) _).set hB hrl (Nat.le_refl _) _).set hB hrl (Nat.le_refl _) _).set hB hrl (Nat.le_refl _) _)
  · have HE := Lib.hid (show valueR r = (⟨2, 0, (textR 0 256 r1).1, false⟩, (textR 0 256 r1).2) by rw [value_of HX.out HF0.out (by have := HKX2.out; omega), show x.toNat = 2 by have := HKX2.out; omega, ← HR1.out]; rfl)
    have HC := Lib.hid (refText_any rb B l r1 0 256 W2 HTO2.out.at' (by omega) (by omega))
    go_upto_region 5 with fail
    rw [← HW2.out, ← HVE.out]
    go_wp2_with fail
    (with_reducible refine HC.out.mono ?_); rintro e w3 ⟨rfl, hto3⟩
    have HA3 := Lib.hid (HA2.out.toF hto3 hne)
    have HV3 := Lib.hid (HV2.out.toF hto3 hVr)
    have HTO3 := Lib.hid (HTO2.out.trans hto3)
    clear hto3
    have a0 := HA3.out.c0
    have b0 := HA3.out.f0
    have v0 := HV3.out.c0
    have a1 := HA3.out.c1
    have b1 := HA3.out.f1
    have v1 := HV3.out.c1
    have a2 := HA3.out.c2
    have b2 := HA3.out.f2
    have v2 := HV3.out.c2
    have a3 := HA3.out.c3
    have b3 := HA3.out.f3
    have v3 := HV3.out.c3
    have g1 := HV3.out.f1
    have g2 := HV3.out.f2
    have g3 := HV3.out.f3
    go_wp2_with fail
    refine bodyPost_ret (v := .agg #[.int .i64 2, .int .i64 0, .string (textR 0 256 r1).1, .bool false]) (by simp [results, Tryd.results60, go_sem, a0, a1, a2, a3]) rfl ⟨⟨⟨2, 0, (textR 0 256 r1).1, false⟩, rfl, fun _ => by rw [HE.out]⟩, ?_⟩
    rw [HE.out]
    exact (((((HTO3.out.set hB hrl (Nat.le_of_lt hVw) _).set hB hrl (Nat.le_refl _) _).set hB hrl (Nat.le_refl _) _).set hB hrl (Nat.le_refl _) _).set hB hrl (Nat.le_refl _) _)
  · have HC := Lib.hid (refOne_any rb B l r1 W2 HTO2.out.at')
    have HVO := Lib.hid (show valueR r = (⟨3, 0, ⟨#[]⟩, (singleR 0 1 r1).1 == 1⟩, (singleR 0 1 r1).2) by rw [value_of HX.out HF0.out (by have := HKX2.out; omega), show x.toNat = 3 by have := HKX2.out; omega, ← HR1.out]; rfl)
    have HL1 := Lib.hid (show (oneU r1).1 ≤ 1 → singleR 0 1 r1 = oneU r1 by rw [HR1.out]; exact single_le1)
    have HG1 := Lib.hid (show 1 < (oneU r1).1 → singleR 0 1 r1 = (0, (oneU r1).2.refuse 31) by rw [HR1.out]; exact single_gt1)
    obtain ⟨⟨y, r2⟩, hy⟩ : ∃ q, q = oneU r1 := ⟨_, rfl⟩
    rw [← hy] at HC HL1 HG1
    simp only at HC HL1 HG1
    clear hy
    go_upto_region 5 with fail
    rw [← HW2.out, ← HVE.out]
    go_wp2_with fail
    (with_reducible refine HC.out.mono ?_); rintro e w3 ⟨rfl, hto3⟩
    have HA3 := Lib.hid (HA2.out.toF hto3 hne)
    have HV3 := Lib.hid (HV2.out.toF hto3 hVr)
    have HTO3 := Lib.hid (HTO2.out.trans hto3)
    have hz3 := hto3.grown.size
    clear hto3
    by_cases hy1 : 1 < y
    · have HE := Lib.hid (show valueR r = (⟨3, 0, ⟨#[]⟩, false⟩, r2.refuse 31) by rw [HVO.out, HG1.out hy1]; rfl)
      have hy2 : (1 : Int) < (y : Int) := by omega
      have hy3 : ((y : Int) == 1) = false := by rw [beq_eq_false_iff_ne]; omega
      go_wp2_with fail
      (with_reducible refine (refFault_any rb B l r2 31 (by decide) w3 HTO3.out.at').mono ?_); rintro e w4 ⟨rfl, hto4⟩
      have HA4 := Lib.hid (HA3.out.toF hto4 hne)
      have HV4 := Lib.hid (HV3.out.toF hto4 hVr)
      have HTO4 := Lib.hid (HTO3.out.trans hto4)
      clear hto4
      have a0 := HA4.out.c0
      have b0 := HA4.out.f0
      have v0 := HV4.out.c0
      have a1 := HA4.out.c1
      have b1 := HA4.out.f1
      have v1 := HV4.out.c1
      have a2 := HA4.out.c2
      have b2 := HA4.out.f2
      have v2 := HV4.out.c2
      have a3 := HA4.out.c3
      have b3 := HA4.out.f3
      have v3 := HV4.out.c3
      have g1 := HV4.out.f1
      have g2 := HV4.out.f2
      have g3 := HV4.out.f3
      go_wp2_with fail
      refine bodyPost_ret (v := .agg #[.int .i64 3, .int .i64 0, .string ⟨#[]⟩, .bool false]) (by simp [results, Tryd.results60, go_sem, a0, a1, a2, a3]) rfl ⟨⟨⟨3, 0, ⟨#[]⟩, false⟩, rfl, fun _ => by rw [HE.out]⟩, ?_⟩
      rw [HE.out]
      exact (((((HTO4.out.set hB hrl (Nat.le_of_lt hVw) _).set hB hrl (Nat.le_refl _) _).set hB hrl (Nat.le_refl _) _).set hB hrl (Nat.le_refl _) _).set hB hrl (Nat.le_refl _) _)
    · have hyy : y = 0 ∨ y = 1 := by omega
      rcases hyy with rfl | rfl
      · have HE := Lib.hid (show valueR r = (⟨3, 0, ⟨#[]⟩, false⟩, r2) by rw [HVO.out, HL1.out (by omega)]; rfl)
        have a0 := HA3.out.c0
        have b0 := HA3.out.f0
        have v0 := HV3.out.c0
        have a1 := HA3.out.c1
        have b1 := HA3.out.f1
        have v1 := HV3.out.c1
        have a2 := HA3.out.c2
        have b2 := HA3.out.f2
        have v2 := HV3.out.c2
        have a3 := HA3.out.c3
        have b3 := HA3.out.f3
        have v3 := HV3.out.c3
        have g1 := HV3.out.f1
        have g2 := HV3.out.f2
        have g3 := HV3.out.f3
        go_wp2_with fail
        refine bodyPost_ret (v := .agg #[.int .i64 3, .int .i64 0, .string ⟨#[]⟩, .bool false]) (by simp [results, Tryd.results60, go_sem, a0, a1, a2, a3]) rfl ⟨⟨⟨3, 0, ⟨#[]⟩, false⟩, rfl, fun _ => by rw [HE.out]⟩, ?_⟩
        rw [HE.out]
        exact (((((HTO3.out.set hB hrl (Nat.le_of_lt hVw) _).set hB hrl (Nat.le_refl _) _).set hB hrl (Nat.le_refl _) _).set hB hrl (Nat.le_refl _) _).set hB hrl (Nat.le_refl _) _)
      · have HE := Lib.hid (show valueR r = (⟨3, 0, ⟨#[]⟩, true⟩, r2) by rw [HVO.out, HL1.out (by omega)]; rfl)
        have a0 := HA3.out.c0
        have b0 := HA3.out.f0
        have v0 := HV3.out.c0
        have a1 := HA3.out.c1
        have b1 := HA3.out.f1
        have v1 := HV3.out.c1
        have a2 := HA3.out.c2
        have b2 := HA3.out.f2
        have v2 := HV3.out.c2
        have a3 := HA3.out.c3
        have b3 := HA3.out.f3
        have v3 := HV3.out.c3
        have g1 := HV3.out.f1
        have g2 := HV3.out.f2
        have g3 := HV3.out.f3
        go_wp2_with fail
        refine bodyPost_ret (v := .agg #[.int .i64 3, .int .i64 0, .string ⟨#[]⟩, .bool true]) (by simp [results, Tryd.results60, go_sem, a0, a1, a2, a3]) rfl ⟨⟨⟨3, 0, ⟨#[]⟩, true⟩, rfl, fun _ => by rw [HE.out]⟩, ?_⟩
        rw [HE.out]
        exact (((((HTO3.out.set hB hrl (Nat.le_of_lt hVw) _).set hB hrl (Nat.le_refl _) _).set hB hrl (Nat.le_refl _) _).set hB hrl (Nat.le_refl _) _).set hB hrl (Nat.le_refl _) _)
  · have HE := Lib.hid (show (valueR r).2 = ⟨[], 31⟩ from value_other HX.out HF0.out (by have := HKX2.out; omega))
    have HRR := Lib.hid (show r1.refuse 31 = ⟨[], 31⟩ by rw [HR1.out]; exact refuse_zero t 31)
    have q1 : (k == 1) = false := by rw [beq_eq_false_iff_ne]; omega
    have q2 : (k == 2) = false := by rw [beq_eq_false_iff_ne]; omega
    have q3 : (k == 3) = false := by rw [beq_eq_false_iff_ne]; omega
    have HC := Lib.hid (refFault_any rb B l r1 31 (by decide) W2 HTO2.out.at')
    clear hko
    go_upto_region 5 with fail
    rw [← HW2.out, ← HVE.out]
    go_wp2_with fail
    (with_reducible refine HC.out.mono ?_); rintro e w3 ⟨rfl, hto3⟩
    have HA3 := Lib.hid (HA2.out.toF hto3 hne)
    have HV3 := Lib.hid (HV2.out.toF hto3 hVr)
    have HTO3 := Lib.hid (HTO2.out.trans hto3)
    clear hto3
    have a0 := HA3.out.c0
    have b0 := HA3.out.f0
    have v0 := HV3.out.c0
    have a1 := HA3.out.c1
    have b1 := HA3.out.f1
    have v1 := HV3.out.c1
    have a2 := HA3.out.c2
    have b2 := HA3.out.f2
    have v2 := HV3.out.c2
    have a3 := HA3.out.c3
    have b3 := HA3.out.f3
    have v3 := HV3.out.c3
    have g1 := HV3.out.f1
    have g2 := HV3.out.f2
    have g3 := HV3.out.f3
    go_wp2_with fail
    refine bodyPost_ret (v := .agg #[.int .i64 k, .int .i64 0, .string ⟨#[]⟩, .bool false]) (by simp [results, Tryd.results60, go_sem, a0, a1, a2, a3]) rfl ⟨⟨⟨k, 0, ⟨#[]⟩, false⟩, rfl, fun e => by rw [HE.out] at e; cases e⟩, ?_⟩
    rw [HE.out, ← HRR.out]
    exact ((((HTO3.out.set hB hrl (Nat.le_refl _) _).set hB hrl (Nat.le_refl _) _).set hB hrl (Nat.le_refl _) _).set hB hrl (Nat.le_refl _) _)
end Go.Proofs.YtekaimfabadclaaDoor
