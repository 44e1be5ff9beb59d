/- Package token: how long a sign is. -/
import Derived.Test.YtaipljdpkgdheaaDoorSmall
namespace Go.Proofs.YtaipljdpkgdheaaDoor
open Go Go.RowKit

theorem sign_eq (b : UInt8) (r : List UInt8) : signR (b :: r) = if b = 46 then (if r.head? = some 46 then 2 else 1)
    else if b = 33 ∨ b = 60 ∨ b = 62 then (if r.head? = some 61 then 2 else 1)
    else if b = 40 ∨ b = 41 ∨ b = 91 ∨ b = 93 ∨ b = 123 ∨ b = 125 ∨ b = 44 ∨ b = 43 ∨ b = 45 ∨ b = 42 ∨ b = 61 then 1
    else 0 := rfl
theorem sign_two_eq {b k m : UInt8} {r : List UInt8} (hk : b = k) (hm : k = 46 ∧ m = 46 ∨ (k = 33 ∨ k = 60 ∨ k = 62) ∧ m = 61) : signR (b :: r) = if r.head? = some m then 2 else 1 := by
  subst hk
  rcases hm with ⟨rfl, rfl⟩ | ⟨rfl | rfl | rfl, rfl⟩ <;> rfl
theorem list_cons (s : ByteArray) (hs : 0 < s.size) : s.data.toList = s[0]'hs :: s.data.toList.drop 1 := by
  have h := rest_cons (t := s) (q := 0) hs
  unfold restB at h
  rw [List.drop_zero] at h
  exact h
set_option maxRecDepth 100000 in
theorem sign_two (s : ByteArray) (w : World) (R : Nat) (hR : R = signR s.data.toList) (hs : 0 < s.size) (k m : UInt8) (hk : s[0]'hs = k) (hm : k = 46 ∧ m = 46 ∨ (k = 33 ∨ k = 60 ∨ k = 62) ∧ m = 61) :
    Calls Tryd.prog 41 #[.string s] w fun e w' => e = .returned (.int .i64 (R : Int)) ∧ w = w' := by
  rw [list_cons s hs, sign_two_eq hk hm] at hR
  have hb : (s[0]'hs).toNat = k.toNat := by rw [hk]
  by_cases h1 : 1 < s.size
  · have hhead : (s.data.toList.drop 1).head? = some (s[1]'h1) := by
      rw [List.head?_drop]
      exact Lib.data_getElem? s 1 h1
    by_cases h2 : s[1]'h1 = m
    · have HE := Lib.hid (show R = 2 by rw [hR, if_pos (by rw [hhead, h2])])
      have hb2 : (s[1]'h1).toNat = m.toNat := by rw [h2]
      have k1 : (1 : Int) < (s.size : Int) := by omega
      clear hhead h2 hk hR
      rcases hm with ⟨rfl, rfl⟩ | ⟨rfl | rfl | rfl, rfl⟩
      all_goals
        go_enter Tryd.func41, Tryd.ntmps41
        go_wp2_with fail
        go_ret
        exact ⟨by rw [HE.out]; rfl, rfl⟩
    · have HE := Lib.hid (show R = 1 by rw [hR, if_neg (by rw [hhead]; intro e; exact h2 (Option.some.inj e))])
      have hb2 := fun n hn => u8_ne (c := s[1]'h1) (k := m) h2 (n := n) hn
      have k1 : (1 : Int) < (s.size : Int) := by omega
      clear hhead h2 hk hR
      rcases hm with ⟨rfl, rfl⟩ | ⟨rfl | rfl | rfl, rfl⟩
      · have hb3 := hb2 46 rfl
        clear hb2
        go_enter Tryd.func41, Tryd.ntmps41
        go_wp2_with fail
        go_ret
        exact ⟨by rw [HE.out]; rfl, rfl⟩
      all_goals
        have hb3 := hb2 61 rfl
        clear hb2
        go_enter Tryd.func41, Tryd.ntmps41
        go_wp2_with fail
        go_ret
        exact ⟨by rw [HE.out]; rfl, rfl⟩
  · have HE := Lib.hid (show R = 1 by
      have : s.data.toList.drop 1 = [] := List.drop_eq_nil_of_le (show s.size ≤ 1 by omega)
      rw [hR, this, if_neg (by simp)])
    have k1 : ¬ (1 : Int) < (s.size : Int) := by omega
    clear hk hR
    rcases hm with ⟨rfl, rfl⟩ | ⟨rfl | rfl | rfl, rfl⟩
    all_goals
      go_enter Tryd.func41, Tryd.ntmps41
      go_wp2_with fail
      go_ret
      exact ⟨by rw [HE.out]; rfl, rfl⟩
set_option maxRecDepth 100000 in
theorem sign_one (s : ByteArray) (w : World) (R : Nat) (hR : R = signR s.data.toList) (hs : 0 < s.size) (k : UInt8) (hk : s[0]'hs = k) (hm : k = 40 ∨ k = 41 ∨ k = 91 ∨ k = 93 ∨ k = 123 ∨ k = 125 ∨ k = 44 ∨ k = 43 ∨ k = 45 ∨ k = 42 ∨ k = 61) :
    Calls Tryd.prog 41 #[.string s] w fun e w' => e = .returned (.int .i64 (R : Int)) ∧ w = w' := by
  have HE := Lib.hid (show R = 1 by
    rw [hR, list_cons s hs, hk]
    rcases hm with rfl | rfl | rfl | rfl | rfl | rfl | rfl | rfl | rfl | rfl | rfl <;> rfl)
  have hb : (s[0]'hs).toNat = k.toNat := by rw [hk]
  clear hk hR
  rcases hm with rfl | rfl | rfl | rfl | rfl | rfl | rfl | rfl | rfl | rfl | rfl
  all_goals
    go_enter Tryd.func41, Tryd.ntmps41
    go_wp2_with fail
    go_ret
    exact ⟨by rw [HE.out]; rfl, rfl⟩
set_option maxRecDepth 100000 in
theorem sign_any (s : ByteArray) (w : World) (hs : 0 < s.size) :
    Calls Tryd.prog 41 #[.string s] w fun e w' => e = .returned (.int .i64 ((signR s.data.toList : Nat) : Int)) ∧ w = w' := by
  obtain ⟨R, hR⟩ : ∃ R, R = signR s.data.toList := ⟨_, rfl⟩
  rw [← hR]
  by_cases h1 : s[0]'hs = 46
  · exact sign_two s w R hR hs 46 46 h1 (Or.inl ⟨rfl, rfl⟩)
  by_cases h2 : s[0]'hs = 33 ∨ s[0]'hs = 60 ∨ s[0]'hs = 62
  · rcases h2 with h | h | h
    · exact sign_two s w R hR hs _ 61 h (by simp)
    · exact sign_two s w R hR hs _ 61 h (by simp)
    · exact sign_two s w R hR hs _ 61 h (by simp)
  by_cases h3 : s[0]'hs = 40 ∨ s[0]'hs = 41 ∨ s[0]'hs = 91 ∨ s[0]'hs = 93 ∨ s[0]'hs = 123 ∨ s[0]'hs = 125 ∨ s[0]'hs = 44 ∨ s[0]'hs = 43 ∨ s[0]'hs = 45 ∨ s[0]'hs = 42 ∨ s[0]'hs = 61
  · exact sign_one s w R hR hs _ rfl h3
  have HE := Lib.hid (show R = 0 by rw [hR, list_cons s hs, sign_eq, if_neg h1, if_neg h2, if_neg h3])
  simp only [not_or] at h2 h3
  obtain ⟨a1, a2, a3⟩ := h2
  obtain ⟨c1, c2, c3, c4, c5, c6, c7, c8, c9, c10, c11⟩ := h3
  have e0 := u8_ne h1 (n := 46) rfl
  have e1 := u8_ne a1 (n := 33) rfl
  have e2 := u8_ne a2 (n := 60) rfl
  have e3 := u8_ne a3 (n := 62) rfl
  have d1 := u8_ne c1 (n := 40) rfl
  have d2 := u8_ne c2 (n := 41) rfl
  have d3 := u8_ne c3 (n := 91) rfl
  have d4 := u8_ne c4 (n := 93) rfl
  have d5 := u8_ne c5 (n := 123) rfl
  have d6 := u8_ne c6 (n := 125) rfl
  have d7 := u8_ne c7 (n := 44) rfl
  have d8 := u8_ne c8 (n := 43) rfl
  have d9 := u8_ne c9 (n := 45) rfl
  have d10 := u8_ne c10 (n := 42) rfl
  have d11 := u8_ne c11 (n := 61) rfl
  clear h1 a1 a2 a3 c1 c2 c3 c4 c5 c6 c7 c8 c9 c10 c11 hR
  go_enter Tryd.func41, Tryd.ntmps41
  go_wp2_with fail
  go_ret
  exact ⟨by rw [HE.out]; rfl, rfl⟩
end Go.Proofs.YtaipljdpkgdheaaDoor
