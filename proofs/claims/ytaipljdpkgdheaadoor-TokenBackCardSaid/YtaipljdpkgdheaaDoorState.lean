/- Package token: what the scanner stands ahead of; how it goes by a comment; how it takes a token. -/
import Derived.Test.YtaipljdpkgdheaaDoorQuoted
namespace Go.Proofs.YtaipljdpkgdheaaDoor
open Go Go.RowKit

/-- What stands first: 7 the end, 1 a blank, 2 a comment, 3 a word, 4 a number, 5 a string, 6 a sign, 0 none. -/
def stateR : List UInt8 → Int
  | [] => 7
  | b :: r =>
    if blankU b then 1
    else if b = 45 ∧ r.head? = some 45 then 2
    else if letU b then 3
    else if digU b then 4
    else if b = 34 then 5
    else if signR (b :: r) ≠ 0 then 6
    else 0
theorem rune_u8 {c : Nat} (h : c < 256) : wrap32 (c : Int) = (c : Int) := by
  unfold wrap32
  omega
set_option maxHeartbeats 8000000 in
set_option maxRecDepth 100000 in
theorem state_any (t : ByteArray) (p rb : Nat) (w : World) (hr : ReadAt w rb t p) (hk : p ≤ t.size) :
    Calls Tryd.prog 34 #[.pointer (some ⟨rb, 0, none⟩)] w fun e w' => e = .returned (.int .i64 (stateR (restB t p))) ∧ Below w.heap.size w w' := by
  obtain ⟨R, hR⟩ : ∃ R, R = stateR (restB t p) := ⟨_, rfl⟩
  rw [← hR]
  have c0 := hr.c0
  have c1 := hr.c1
  have q0 : (0 : Int) ≤ (p : Int) := by omega
  have q1 : (p : Int) ≤ (t.size : Int) := by omega
  have hes := rest_size t p
  have hel := rest_extract t p
  obtain ⟨s, hs⟩ : ∃ s, s = t.extract p t.size := ⟨_, rfl⟩
  rw [← hs] at hes hel
  rw [← hel] at hR
  by_cases h0 : s.size = 0
  · have HE := Lib.hid (show R = 7 by
      rw [hR, List.eq_nil_of_length_eq_zero (show s.data.toList.length = 0 from h0)]
      rfl)
    have h1 : s.toList = [] := by rw [ByteArray.toList_eq]; exact List.eq_nil_of_length_eq_zero (by simpa using h0)
    have h2 : ((t.extract p t.size).toList == []) = true := by rw [← hs, h1]; rfl
    clear hr hR hs hes hel h0 h1
    go_enter Tryd.func34, Tryd.ntmps34
    go_wp2_with fail
    go_region_held3 (fun w' => w'.cell? ⟨rb, 0, none⟩ = some (.string t) ∧ w'.cell? ⟨rb, 1, none⟩ = some (.int .i64 p)) (go_keep) (fail)
    all_goals
      go_wp2_with fail
      go_ret
      exact ⟨by rw [HE.out]; rfl, (Below.refl _ _).drew⟩
  · have hpos : 0 < s.size := by omega
    have h2 : ((t.extract p t.size).toList == []) = false := by
      rw [← hs, ByteArray.toList_eq, beq_eq_false_iff_ne]
      intro e
      exact h0 (by simpa using congrArg List.length e)
    have hl := list_cons s hpos
    have hb0 : (s[0]'hpos).toNat < 256 := (s[0]'hpos).toNat_lt
    obtain ⟨b, hb⟩ : ∃ b, b = s[0]'hpos := ⟨_, rfl⟩
    obtain ⟨r, hrr⟩ : ∃ r, r = s.data.toList.drop 1 := ⟨_, rfl⟩
    rw [← hb, ← hrr] at hl
    rw [← hb] at hb0
    have HL := Lib.hid hl
    have H1 := Lib.hid (fun W => isBlank_any b W)
    have H2 := Lib.hid (fun W => Tryd.strings_HasPrefix s ⟨#[45, 45]⟩ W)
    have H3 := Lib.hid (fun W => isLetter_any (b.toNat : Int) W)
    have H4 := Lib.hid (fun W => isDigit_any (b.toNat : Int) W)
    have H6 := Lib.hid (fun W => sign_any s W hpos)
    have hpre : Lib.hasPrefix s.data.toList [45, 45] = decide (b = 45 ∧ r.head? = some 45) := by
      rw [hl]
      cases r with
      | nil => simp [Lib.hasPrefix, List.isPrefixOf]
      | cons d r =>
        simp only [Lib.hasPrefix, List.isPrefixOf, List.head?_cons, Option.some.injEq, Bool.and_true]
        rw [Bool.eq_iff_iff, Bool.and_eq_true, beq_iff_eq, beq_iff_eq, decide_eq_true_iff]
        exact ⟨fun h => ⟨h.1.symm, h.2.symm⟩, fun h => ⟨h.1.symm, h.2.symm⟩⟩
    rw [hpre] at H2
    rw [show lttrI (b.toNat : Int) = letU b from rfl] at H3
    rw [show digI (b.toNat : Int) = digU b from rfl] at H4
    have hR2 : R = if blankU b then 1 else if b = 45 ∧ r.head? = some 45 then 2 else if letU b then 3 else if digU b then 4 else if b = 34 then 5 else if signR (b :: r) ≠ 0 then 6 else 0 := by rw [hR, hl]; rfl
    rw [hl] at H6
    have HSX := Lib.hid hs
    have HBX := Lib.hid hb
    have HWR := Lib.hid (rune_u8 hb0)
    have k0 : (0 : Int) < (s.size : Int) := by omega
    clear hr hR hel hes h0 hl hrr hpre
    cases e1 : blankU b
    · rw [e1] at H1 hR2
      by_cases e2 : b = 45 ∧ r.head? = some 45
      · rw [decide_eq_true e2] at H2
        have HE := Lib.hid (show R = 2 by rw [hR2, if_neg (by simp), if_pos e2])
        clear e1 e2 hR2 hs hb
        go_enter Tryd.func34, Tryd.ntmps34
        go_wp2_with fail
        go_region_held3 (fun w' => w'.cell? ⟨rb, 0, none⟩ = some (.string t) ∧ w'.cell? ⟨rb, 1, none⟩ = some (.int .i64 p)) (go_keep) (fail)
        all_goals
          rw [← HSX.out] at h2 ⊢
          go_wp2_with fail
          rw [← HBX.out]
          refine (H1.out _).mono ?_; rintro e w2 ⟨rfl, hw⟩; subst hw
          go_wp2_with fail
          refine (H2.out _).mono ?_; rintro e w2 ⟨rfl, hw⟩; subst hw
          go_wp2_with fail
          go_ret
          exact ⟨by rw [HE.out]; rfl, (Below.refl _ _).drew⟩
      · rw [decide_eq_false e2] at H2
        rw [if_neg (by simp), if_neg e2] at hR2
        clear e2
        cases e3 : letU b
        · rw [e3] at H3 hR2
          cases e4 : digU b
          · rw [e4] at H4 hR2
            by_cases e5 : b = 34
            · have HE := Lib.hid (show R = 5 by rw [hR2, if_neg (by simp), if_neg (by simp), if_pos e5])
              have k5 : (((s[0]'hpos).toNat : Int) == 34) = true := by rw [← HBX.out, e5]; rfl
              clear e1 e3 e4 e5 hR2 hs hb
              go_enter Tryd.func34, Tryd.ntmps34
              go_wp2_with fail
              go_region_held3 (fun w' => w'.cell? ⟨rb, 0, none⟩ = some (.string t) ∧ w'.cell? ⟨rb, 1, none⟩ = some (.int .i64 p)) (go_keep) (fail)
              all_goals
                rw [← HSX.out] at h2 ⊢
                go_wp2_with fail
                rw [← HBX.out]
                refine (H1.out _).mono ?_; rintro e w2 ⟨rfl, hw⟩; subst hw
                go_wp2_with fail
                refine (H2.out _).mono ?_; rintro e w2 ⟨rfl, hw⟩; subst hw
                go_wp2_with fail
                rw [← HBX.out, HWR.out]
                refine (H3.out _).mono ?_; rintro e w2 ⟨rfl, hw⟩; subst hw
                go_wp2_with fail
                rw [← HBX.out, HWR.out]
                refine (H4.out _).mono ?_; rintro e w2 ⟨rfl, hw⟩; subst hw
                go_wp2_with fail
                go_ret
                exact ⟨by rw [HE.out]; rfl, (Below.refl _ _).drew⟩
            · have k5 := u8_ne (c := s[0]'hpos) (k := 34) (by rw [← HBX.out]; exact e5) (n := 34) rfl
              obtain ⟨n, hn⟩ : ∃ n, n = signR (b :: r) := ⟨_, rfl⟩
              rw [← hn] at H6 hR2
              by_cases e6 : n = 0
              · have HE := Lib.hid (show R = 0 by rw [hR2, if_neg (by simp), if_neg (by simp), if_neg e5, if_neg (by simp [e6])])
                subst e6
                clear e1 e3 e4 e5 hR2 hs hb hn
                go_enter Tryd.func34, Tryd.ntmps34
                go_wp2_with fail
                go_region_held3 (fun w' => w'.cell? ⟨rb, 0, none⟩ = some (.string t) ∧ w'.cell? ⟨rb, 1, none⟩ = some (.int .i64 p)) (go_keep) (fail)
                all_goals
                  rw [← HSX.out] at h2 ⊢
                  go_wp2_with fail
                  rw [← HBX.out]
                  refine (H1.out _).mono ?_; rintro e w2 ⟨rfl, hw⟩; subst hw
                  go_wp2_with fail
                  refine (H2.out _).mono ?_; rintro e w2 ⟨rfl, hw⟩; subst hw
                  go_wp2_with fail
                  rw [← HBX.out, HWR.out]
                  refine (H3.out _).mono ?_; rintro e w2 ⟨rfl, hw⟩; subst hw
                  go_wp2_with fail
                  rw [← HBX.out, HWR.out]
                  refine (H4.out _).mono ?_; rintro e w2 ⟨rfl, hw⟩; subst hw
                  go_wp2_with fail
                  refine (H6.out _).mono ?_; rintro e w2 ⟨rfl, hw⟩; subst hw
                  go_wp2_with fail
                  go_ret
                  exact ⟨by rw [HE.out]; rfl, (Below.refl _ _).drew⟩
              · have HE := Lib.hid (show R = 6 by rw [hR2, if_neg (by simp), if_neg (by simp), if_neg e5, if_pos e6])
                have k6 : (0 : Int) < (n : Int) := by omega
                clear e1 e3 e4 e5 hR2 hs hb hn e6
                go_enter Tryd.func34, Tryd.ntmps34
                go_wp2_with fail
                go_region_held3 (fun w' => w'.cell? ⟨rb, 0, none⟩ = some (.string t) ∧ w'.cell? ⟨rb, 1, none⟩ = some (.int .i64 p)) (go_keep) (fail)
                all_goals
                  rw [← HSX.out] at h2 ⊢
                  go_wp2_with fail
                  rw [← HBX.out]
                  refine (H1.out _).mono ?_; rintro e w2 ⟨rfl, hw⟩; subst hw
                  go_wp2_with fail
                  refine (H2.out _).mono ?_; rintro e w2 ⟨rfl, hw⟩; subst hw
                  go_wp2_with fail
                  rw [← HBX.out, HWR.out]
                  refine (H3.out _).mono ?_; rintro e w2 ⟨rfl, hw⟩; subst hw
                  go_wp2_with fail
                  rw [← HBX.out, HWR.out]
                  refine (H4.out _).mono ?_; rintro e w2 ⟨rfl, hw⟩; subst hw
                  go_wp2_with fail
                  refine (H6.out _).mono ?_; rintro e w2 ⟨rfl, hw⟩; subst hw
                  go_wp2_with fail
                  go_ret
                  exact ⟨by rw [HE.out]; rfl, (Below.refl _ _).drew⟩
          · rw [e4] at H4 hR2
            have HE := Lib.hid (show R = 4 by rw [hR2, if_neg (by simp), if_pos rfl])
            clear e1 e3 e4 hR2 hs hb
            go_enter Tryd.func34, Tryd.ntmps34
            go_wp2_with fail
            go_region_held3 (fun w' => w'.cell? ⟨rb, 0, none⟩ = some (.string t) ∧ w'.cell? ⟨rb, 1, none⟩ = some (.int .i64 p)) (go_keep) (fail)
            all_goals
              rw [← HSX.out] at h2 ⊢
              go_wp2_with fail
              rw [← HBX.out]
              refine (H1.out _).mono ?_; rintro e w2 ⟨rfl, hw⟩; subst hw
              go_wp2_with fail
              refine (H2.out _).mono ?_; rintro e w2 ⟨rfl, hw⟩; subst hw
              go_wp2_with fail
              rw [← HBX.out, HWR.out]
              refine (H3.out _).mono ?_; rintro e w2 ⟨rfl, hw⟩; subst hw
              go_wp2_with fail
              rw [← HBX.out, HWR.out]
              refine (H4.out _).mono ?_; rintro e w2 ⟨rfl, hw⟩; subst hw
              go_wp2_with fail
              go_ret
              exact ⟨by rw [HE.out]; rfl, (Below.refl _ _).drew⟩
        · rw [e3] at H3 hR2
          have HE := Lib.hid (show R = 3 by rw [hR2, if_pos rfl])
          clear e1 e3 hR2 hs hb
          go_enter Tryd.func34, Tryd.ntmps34
          go_wp2_with fail
          go_region_held3 (fun w' => w'.cell? ⟨rb, 0, none⟩ = some (.string t) ∧ w'.cell? ⟨rb, 1, none⟩ = some (.int .i64 p)) (go_keep) (fail)
          all_goals
            rw [← HSX.out] at h2 ⊢
            go_wp2_with fail
            rw [← HBX.out]
            refine (H1.out _).mono ?_; rintro e w2 ⟨rfl, hw⟩; subst hw
            go_wp2_with fail
            refine (H2.out _).mono ?_; rintro e w2 ⟨rfl, hw⟩; subst hw
            go_wp2_with fail
            rw [← HBX.out, HWR.out]
            refine (H3.out _).mono ?_; rintro e w2 ⟨rfl, hw⟩; subst hw
            go_wp2_with fail
            go_ret
            exact ⟨by rw [HE.out]; rfl, (Below.refl _ _).drew⟩
    · rw [e1] at H1 hR2
      have HE := Lib.hid (show R = 1 by rw [hR2, if_pos rfl])
      clear e1 hR2 hs hb
      go_enter Tryd.func34, Tryd.ntmps34
      go_wp2_with fail
      go_region_held3 (fun w' => w'.cell? ⟨rb, 0, none⟩ = some (.string t) ∧ w'.cell? ⟨rb, 1, none⟩ = some (.int .i64 p)) (go_keep) (fail)
      all_goals
        rw [← HSX.out] at h2 ⊢
        go_wp2_with fail
        rw [← HBX.out]
        refine (H1.out _).mono ?_; rintro e w2 ⟨rfl, hw⟩; subst hw
        go_wp2_with fail
        go_ret
        exact ⟨by rw [HE.out]; rfl, (Below.refl _ _).drew⟩
end Go.Proofs.YtaipljdpkgdheaaDoor
