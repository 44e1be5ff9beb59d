/- Package token: the next token. -/
import Derived.Test.YtaipljdpkgdheaaDoorNextSpec
namespace Go.Proofs.YtaipljdpkgdheaaDoor
open Go Go.RowKit

set_option maxHeartbeats 8000000 in
set_option maxRecDepth 100000 in
theorem next_any (t : ByteArray) (p rb : Nat) (w : World) (hr : ReadAt w rb t p) (hk : p ≤ t.size) (ht : t.size ≤ 4096) (hT : Tabs w) (hf : Far rb) :
    Calls Tryd.prog 21 #[.pointer (some ⟨rb, 0, none⟩)] w fun e w' => e = .returned (nextV t.size (nextR (restB t p))) ∧ ReadTo rb w w' (nextAt t.size (nextR (restB t p))) := by
  obtain ⟨T, hTT⟩ : ∃ T, T = nextR (restB t p) := ⟨_, rfl⟩
  rw [← hTT]
  have HTT := Lib.hid hTT
  have HR := Lib.hid hr
  have HTAB := Lib.hid hT
  have hrl := hr.lt
  clear hr hT hTT
  obtain ⟨W1, hW1⟩ : ∃ W1, W1 = w.alloc (Obj.cells #[.int .i64 0, .string ⟨#[]⟩, .int .i64 0] 28) := ⟨_, rfl⟩
  have HB1 := Lib.hid (show Below w.heap.size w W1 by rw [hW1]; exact (Below.refl _ _).alloc (Nat.le_refl _) _)
  have HC1 := Lib.hid (show Cells3 W1 w.heap.size (.int .i64 0) (.string ⟨#[]⟩) (.int .i64 0) by rw [hW1]; exact Cells3.made _ _ _ _ _)
  have HW1 := Lib.hid hW1
  clear hW1
  go_enter Tryd.func21, Tryd.ntmps21
  go_wp2_with fail
  rw [← HW1.out]
  refine wp_scope_back 0 (fun a' w' => ∃ (q : Nat) (u4 u5 u6 u7 u8 u9 u10 u11 u12 u13 u14 u15 u16 u17 u18 u19 u20 u21 u22 u23 u24 u25 u26 u27 u28 u29 u30 u31 u32 u33 u34 u35 u36 u37 u38 u39 u40 u41 u42 u43 u44 u45 u46 u47 u48 u49 u50 u51 u52 u53 u54 u55 u56 u57 u58 u59 u60 u61 u62 u63 u64 u65 u66 u67 u68 u69 u70 u71 u72 u73 u74 u75 : Value), a' = { tmps := (.pointer (some ⟨rb, 0, none⟩) :: undef :: .pointer (some ⟨w.heap.size, 0, none⟩) :: .int .i64 0 :: u4 :: u5 :: u6 :: u7 :: u8 :: u9 :: u10 :: u11 :: u12 :: u13 :: u14 :: u15 :: u16 :: u17 :: u18 :: u19 :: u20 :: u21 :: u22 :: u23 :: u24 :: u25 :: u26 :: u27 :: u28 :: u29 :: u30 :: u31 :: u32 :: u33 :: u34 :: u35 :: u36 :: u37 :: u38 :: u39 :: u40 :: u41 :: u42 :: u43 :: u44 :: u45 :: u46 :: u47 :: u48 :: u49 :: u50 :: u51 :: u52 :: u53 :: u54 :: u55 :: u56 :: u57 :: u58 :: u59 :: u60 :: u61 :: u62 :: u63 :: u64 :: u65 :: u66 :: u67 :: u68 :: u69 :: u70 :: u71 :: u72 :: u73 :: u74 :: u75 :: [] : List Value).toArray, defers := [] } ∧ ReadTo rb w w' q ∧ Cells3 w' w.heap.size (.int .i64 0) (.string ⟨#[]⟩) (.int .i64 0) ∧ q ≤ t.size ∧ nextR (restB t q) = T) (fun _ w' => t.size - placeOf rb w') rfl ?pass ?first
  case first =>
    intro hp
    refine wp_seq (wp_label ?_)
    exact hp _ _ ⟨p, _, _, _, _, _, _, _, _, _, _, _, _, _, _, _, _, _, _, _, _, _, _, _, _, _, _, _, _, _, _, _, _, _, _, _, _, _, _, _, _, _, _, _, _, _, _, _, _, _, _, _, _, _, _, _, _, _, _, _, _, _, _, _, _, _, _, _, _, _, _, _, _, rfl, (ReadTo.stay HR.out).below HB1.out, HC1.out, hk, HTT.out.symm⟩
  case pass =>
    rintro a wr ⟨q, u4, u5, u6, u7, u8, u9, u10, u11, u12, u13, u14, u15, u16, u17, u18, u19, u20, u21, u22, u23, u24, u25, u26, u27, u28, u29, u30, u31, u32, u33, u34, u35, u36, u37, u38, u39, u40, u41, u42, u43, u44, u45, u46, u47, u48, u49, u50, u51, u52, u53, u54, u55, u56, u57, u58, u59, u60, u61, u62, u63, u64, u65, u66, u67, u68, u69, u70, u71, u72, u73, u74, u75, rfl, hto, htok, hq, hnx⟩
    have HTO := Lib.hid hto
    have HTOK := Lib.hid htok
    have HRD := Lib.hid (hto.place HR.out)
    have HNX := Lib.hid hnx
    have hzw := hto.size
    have c0 := HRD.out.c0
    have c1 := HRD.out.c1
    have q0 : (0 : Int) ≤ (q : Int) := by omega
    have q1 : (q : Int) ≤ (t.size : Int) := by omega
    have hrl2 := rest_len t q
    have hes := rest_size t q
    have hne : rb ≠ w.heap.size := by omega
    have HS := Lib.hid (state_any t q rb wr.drew (HRD.out.below (Below.refl _ _).drew) hq)
    clear hto htok hnx
    rcases state_cases (restB t q) with hst | hst | hst | hst | hst | hst | hst | hst
    all_goals rw [hst] at HS
    -- nothing that may stand there
    · have HE := Lib.hid (show T = faultX (restB t q) 50 by rw [← HNX.out, one_none hst])
      clear hst
      go_wp2_with fail
      go_region_held3 (fun w' => w'.cell? ⟨rb, 0, none⟩ = some (.string t) ∧ w'.cell? ⟨rb, 1, none⟩ = some (.int .i64 q)) (go_keep) (fail)
      all_goals
        go_wp2_with fail
        refine HS.out.mono ?_; rintro e w2 ⟨rfl, hb2⟩
        have hB2 : Below wr.heap.size wr w2 := (Below.refl wr.heap.size wr).drew.trans hb2
        have HTO2 := Lib.hid (HTO.out.below hB2)
        have HTK2 := Lib.hid (HTOK.out.keep (hB2.block _ HTOK.out.lt))
        have HRD2 := Lib.hid (HRD.out.below hB2)
        clear hb2 hB2
        have HTK4 := Lib.hid HTK2.out
        have t0 := HTK4.out.c0
        have t1 := HTK4.out.c1
        have t2 := HTK4.out.c2
        have g0 := HTK4.out.f0
        have g1 := HTK4.out.f1
        have g2 := HTK4.out.f2
        go_wp2_with fail
        simp only [Exit.jump]
        refine bodyPost_ret (v := .tuple #[.agg #[.int .i64 0, .string ⟨#[]⟩, .int .i64 0], .int .i64 50]) (by simp [results, Tryd.results21, go_sem, t0, t1, t2]) rfl ⟨by rw [HE.out]; exact nextV_no (by decide), ?_⟩
        rw [HE.out, nextAt_no (by decide), place_of hq]
        exact read_own3 HTO2.out (Nat.le_refl _) _ _ _
    -- a blank
    · obtain ⟨hn0, hn1⟩ := state_blank hst
      have hlt : q < t.size := by
        have := List.length_pos_iff.2 hn0
        omega
      have HE := Lib.hid (show nextR (restB t (q + 1)) = T by rw [← HNX.out, hn1, rest_drop])
      clear hst hn0 hn1
      go_wp2_with fail
      go_region_held3 (fun w' => w'.cell? ⟨rb, 0, none⟩ = some (.string t) ∧ w'.cell? ⟨rb, 1, none⟩ = some (.int .i64 q)) (go_keep) (fail)
      all_goals
        go_wp2_with fail
        refine HS.out.mono ?_; rintro e w2 ⟨rfl, hb2⟩
        have hB2 : Below wr.heap.size wr w2 := (Below.refl wr.heap.size wr).drew.trans hb2
        have HTO2 := Lib.hid (HTO.out.below hB2)
        have HTK2 := Lib.hid (HTOK.out.keep (hB2.block _ HTOK.out.lt))
        have HRD2 := Lib.hid (HRD.out.below hB2)
        clear hb2 hB2
        have d1 := HRD2.out.c1
        have e1 := HRD2.out.f1
        have HT3 := Lib.hid (HTO2.out.trans (ReadTo.of (rb := rb) (q := q + 1) (Below.refl _ w2)))
        have HK3 := Lib.hid (HTK2.out.rd (ReadTo.of (rb := rb) (q := q + 1) (Below.refl _ w2)) hne)
        go_wp2_with fail
        go_step3
        rw [show (q : Int) + 1 = ((q + 1 : Nat) : Int) by omega]
        refine ⟨rfl, ⟨q + 1, _, _, _, _, _, _, _, _, _, _, _, _, _, _, _, _, _, _, _, _, _, _, _, _, _, _, _, _, _, _, _, _, _, _, _, _, _, _, _, _, _, _, _, _, _, _, _, _, _, _, _, _, _, _, _, _, _, _, _, _, _, _, _, _, _, _, _, _, _, _, _, _, rfl, HT3.out, HK3.out, by omega, HE.out⟩, ?_⟩
        rw [place_at (HT3.out.place HR.out), place_at HRD.out]
        omega
    -- a comment
    · obtain ⟨hn0, hn1⟩ := state_line hst
      obtain ⟨q2, hq2⟩ : ∃ q2, q2 = t.size - (lineD (restB t q)).length := ⟨_, rfl⟩
      have HE := Lib.hid (show nextR (restB t q2) = T by
        rw [← HNX.out, hn1, hq2, rest_suffix ((line_suffix _).trans (rest_is_suffix t q))])
      have hlt2 : q < q2 := by omega
      have hle2 : q2 ≤ t.size := by omega
      have HP := Lib.hid (fun W hR => passComment_any t q rb W hR hq ht)
      rw [← hq2] at HP
      clear hst hn0 hn1 hq2
      go_wp2_with fail
      go_region_held3 (fun w' => w'.cell? ⟨rb, 0, none⟩ = some (.string t) ∧ w'.cell? ⟨rb, 1, none⟩ = some (.int .i64 q)) (go_keep) (fail)
      all_goals
        go_wp2_with fail
        refine HS.out.mono ?_; rintro e w2 ⟨rfl, hb2⟩
        have hB2 : Below wr.heap.size wr w2 := (Below.refl wr.heap.size wr).drew.trans hb2
        have HTO2 := Lib.hid (HTO.out.below hB2)
        have HTK2 := Lib.hid (HTOK.out.keep (hB2.block _ HTOK.out.lt))
        have HRD2 := Lib.hid (HRD.out.below hB2)
        clear hb2 hB2
        go_wp2_with fail
        refine (HP.out _ HRD2.out).mono ?_; rintro e w3 ⟨rfl, hto3⟩
        have HT3 := Lib.hid (HTO2.out.trans hto3)
        have HK3 := Lib.hid (HTK2.out.rd hto3 hne)
        clear hto3
        go_wp2_with fail
        go_step3
        refine ⟨rfl, ⟨q2, _, _, _, _, _, _, _, _, _, _, _, _, _, _, _, _, _, _, _, _, _, _, _, _, _, _, _, _, _, _, _, _, _, _, _, _, _, _, _, _, _, _, _, _, _, _, _, _, _, _, _, _, _, _, _, _, _, _, _, _, _, _, _, _, _, _, _, _, _, _, _, _, rfl, HT3.out, HK3.out, hle2, HE.out⟩, ?_⟩
        rw [place_at (HT3.out.place HR.out), place_at HRD.out]
        omega
    -- a word
    · obtain ⟨b, r, hl, hb, hn1⟩ := one_word hst
      obtain ⟨n, hn⟩ : ∃ n, n = (wordL (restB t q)).length := ⟨_, rfl⟩
      have hnl := word_len (restB t q)
      rw [← hn] at hnl
      have n0 : (0 : Int) ≤ (n : Int) := by omega
      have n1 : (n : Int) ≤ ((t.size - q : Nat) : Int) := by omega
      have HL := Lib.hid (show ∀ W, Calls Tryd.prog 36 #[.string (t.extract q t.size)] W fun e w' => e = .returned (.int .i64 (n : Int)) ∧ Below W.heap.size W w' from fun W => by
        have h := wordLength_any (t.extract q t.size) W
        unfold wordLen at h
        rw [rest_extract] at h
        rw [hn]
        exact h)
      have hcut := front_cut t q n
      have hsz := front_size t q n hnl
      obtain ⟨x, hx⟩ : ∃ x, x = (t.extract q t.size).extract 0 n := ⟨_, rfl⟩
      rw [← hx] at hcut hsz
      have HX := Lib.hid hx
      have hxl : x.data.toList = wordL (restB t q) := by rw [hcut, hn, word_take]
      have HXL := Lib.hid hxl
      have HIW := Lib.hid (fun W => isWord_any x W)
      rw [hxl, wordT_word hl hb, ← hn] at HIW
      have HN1 := Lib.hid hn1
      have HN := Lib.hid hn
      clear hst hl hb hn1 hn hx hxl hcut
      by_cases h32 : n ≤ 32
      · have HE := Lib.hid (show T = ⟨1, wordL (restB t q), restB t q, (restB t q).drop n, 0⟩ by rw [← HNX.out, HN1.out, ← HN.out, if_pos h32])
        rw [decide_eq_true h32] at HIW
        have HTAKE := Lib.hid (fun W hR => take_any t x 1 q rb W hR (by omega) (by omega))
        rw [hsz] at HTAKE
        go_wp2_with fail
        go_region_held3 (fun w' => w'.cell? ⟨rb, 0, none⟩ = some (.string t) ∧ w'.cell? ⟨rb, 1, none⟩ = some (.int .i64 q)) (go_keep) (fail)
        all_goals
          go_wp2_with fail
          refine HS.out.mono ?_; rintro e w2 ⟨rfl, hb2⟩
          have hB2 : Below wr.heap.size wr w2 := (Below.refl wr.heap.size wr).drew.trans hb2
          have HTO2 := Lib.hid (HTO.out.below hB2)
          have HTK2 := Lib.hid (HTOK.out.keep (hB2.block _ HTOK.out.lt))
          have HRD2 := Lib.hid (HRD.out.below hB2)
          clear hb2 hB2
          go_wp2_with fail
          refine (HL.out _).mono ?_; rintro e w3 ⟨rfl, hb3⟩
          have HTO3 := Lib.hid (HTO2.out.below hb3)
          have HTK3 := Lib.hid (HTK2.out.keep (hb3.block _ HTK2.out.lt))
          have HRD3 := Lib.hid (HRD2.out.below hb3)
          clear hb3
          go_upto_region 9 with fail
          rw [← HX.out]
          go_wp2_with fail
          refine (HIW.out _).mono ?_; rintro e w4 ⟨rfl, hb4⟩
          have HTO4 := Lib.hid (HTO3.out.below hb4)
          have HTK4 := Lib.hid (HTK3.out.keep (hb4.block _ HTK3.out.lt))
          have HRD4 := Lib.hid (HRD3.out.below hb4)
          clear hb4
          go_wp2_with fail
          refine (HTAKE.out _ HRD4.out).mono ?_; rintro e w5 ⟨rfl, hto5⟩
          have HTO5 := Lib.hid (HTO4.out.trans hto5)
          have HTK4 := Lib.hid (HTK4.out.rd hto5 hne)
          clear hto5
          have t0 := HTK4.out.c0
          have t1 := HTK4.out.c1
          have t2 := HTK4.out.c2
          have g0 := HTK4.out.f0
          have g1 := HTK4.out.f1
          have g2 := HTK4.out.f2
          go_wp2_with fail
          simp only [Exit.jump]
          refine bodyPost_ret (v := .tuple #[.agg #[.int .i64 1, .string x, .int .i64 (q : Int)], .int .i64 0]) (by simp [results, Tryd.results21, go_sem, t0, t1, t2]) rfl ⟨by rw [HE.out]; exact nextV_ok HXL.out (by omega), ?_⟩
          rw [HE.out, nextAt_ok, List.length_drop, show t.size - ((restB t q).length - n) = q + n by omega]
          exact read_own3 HTO5.out (Nat.le_refl _) _ _ _
      · have HE := Lib.hid (show T = faultX (restB t q) 51 by rw [← HNX.out, HN1.out, ← HN.out, if_neg h32])
        rw [decide_eq_false h32] at HIW
        go_wp2_with fail
        go_region_held3 (fun w' => w'.cell? ⟨rb, 0, none⟩ = some (.string t) ∧ w'.cell? ⟨rb, 1, none⟩ = some (.int .i64 q)) (go_keep) (fail)
        all_goals
          go_wp2_with fail
          refine HS.out.mono ?_; rintro e w2 ⟨rfl, hb2⟩
          have hB2 : Below wr.heap.size wr w2 := (Below.refl wr.heap.size wr).drew.trans hb2
          have HTO2 := Lib.hid (HTO.out.below hB2)
          have HTK2 := Lib.hid (HTOK.out.keep (hB2.block _ HTOK.out.lt))
          have HRD2 := Lib.hid (HRD.out.below hB2)
          clear hb2 hB2
          go_wp2_with fail
          refine (HL.out _).mono ?_; rintro e w3 ⟨rfl, hb3⟩
          have HTO3 := Lib.hid (HTO2.out.below hb3)
          have HTK3 := Lib.hid (HTK2.out.keep (hb3.block _ HTK2.out.lt))
          clear hb3
          go_upto_region 9 with fail
          rw [← HX.out]
          go_wp2_with fail
          refine (HIW.out _).mono ?_; rintro e w4 ⟨rfl, hb4⟩
          have HTO4 := Lib.hid (HTO3.out.below hb4)
          have HTK4 := Lib.hid (HTK3.out.keep (hb4.block _ HTK3.out.lt))
          clear hb4
          have t0 := HTK4.out.c0
          have t1 := HTK4.out.c1
          have t2 := HTK4.out.c2
          have g0 := HTK4.out.f0
          have g1 := HTK4.out.f1
          have g2 := HTK4.out.f2
          go_wp2_with fail
          simp only [Exit.jump]
          refine bodyPost_ret (v := .tuple #[.agg #[.int .i64 0, .string ⟨#[]⟩, .int .i64 0], .int .i64 51]) (by simp [results, Tryd.results21, go_sem, t0, t1, t2]) rfl ⟨by rw [HE.out]; exact nextV_no (by decide), ?_⟩
          rw [HE.out, nextAt_no (by decide), place_of hq]
          exact read_own3 HTO4.out (Nat.le_refl _) _ _ _
    -- a number
    · obtain ⟨b, r, hl, hb, hn1⟩ := one_number hst
      obtain ⟨n, hn⟩ : ∃ n, n = (wordL (restB t q)).length := ⟨_, rfl⟩
      have hnl := word_len (restB t q)
      rw [← hn] at hnl
      have n0 : (0 : Int) ≤ (n : Int) := by omega
      have n1 : (n : Int) ≤ ((t.size - q : Nat) : Int) := by omega
      have HL := Lib.hid (show ∀ W, Calls Tryd.prog 36 #[.string (t.extract q t.size)] W fun e w' => e = .returned (.int .i64 (n : Int)) ∧ Below W.heap.size W w' from fun W => by
        have h := wordLength_any (t.extract q t.size) W
        unfold wordLen at h
        rw [rest_extract] at h
        rw [hn]
        exact h)
      have hcut := front_cut t q n
      have hsz := front_size t q n hnl
      obtain ⟨x, hx⟩ : ∃ x, x = (t.extract q t.size).extract 0 n := ⟨_, rfl⟩
      rw [← hx] at hcut hsz
      have HX := Lib.hid hx
      have hxl : x.data.toList = wordL (restB t q) := by rw [hcut, hn, word_take]
      have HXL := Lib.hid hxl
      have HIW := Lib.hid (fun W hW => isNumber_any x W hW (by omega))
      rw [hxl] at HIW
      have HN1 := Lib.hid hn1
      have HN := Lib.hid hn
      clear hst hl hb hn1 hn hx hxl hcut
      cases h32 : numB (wordL (restB t q))
      · have HE := Lib.hid (show T = faultX (restB t q) 51 by rw [← HNX.out, HN1.out, if_neg (by rw [h32]; simp)])
        rw [h32] at HIW
        clear h32
        go_wp2_with fail
        go_region_held3 (fun w' => w'.cell? ⟨rb, 0, none⟩ = some (.string t) ∧ w'.cell? ⟨rb, 1, none⟩ = some (.int .i64 q)) (go_keep) (fail)
        all_goals
          go_wp2_with fail
          refine HS.out.mono ?_; rintro e w2 ⟨rfl, hb2⟩
          have hB2 : Below wr.heap.size wr w2 := (Below.refl wr.heap.size wr).drew.trans hb2
          have HTO2 := Lib.hid (HTO.out.below hB2)
          have HTK2 := Lib.hid (HTOK.out.keep (hB2.block _ HTOK.out.lt))
          have HRD2 := Lib.hid (HRD.out.below hB2)
          clear hb2 hB2
          go_wp2_with fail
          refine (HL.out _).mono ?_; rintro e w3 ⟨rfl, hb3⟩
          have HTO3 := Lib.hid (HTO2.out.below hb3)
          have HTK3 := Lib.hid (HTK2.out.keep (hb3.block _ HTK2.out.lt))
          clear hb3
          go_upto_region 14 with fail
          rw [← HX.out]
          go_wp2_with fail
          refine (HIW.out _ (tabs_to HTAB.out hf HTO3.out)).mono ?_; rintro e w4 ⟨rfl, hb4⟩
          have HTO4 := Lib.hid (HTO3.out.below hb4)
          have HTK4 := Lib.hid (HTK3.out.keep (hb4.block _ HTK3.out.lt))
          clear hb4
          have t0 := HTK4.out.c0
          have t1 := HTK4.out.c1
          have t2 := HTK4.out.c2
          have g0 := HTK4.out.f0
          have g1 := HTK4.out.f1
          have g2 := HTK4.out.f2
          go_wp2_with fail
          simp only [Exit.jump]
          refine bodyPost_ret (v := .tuple #[.agg #[.int .i64 0, .string ⟨#[]⟩, .int .i64 0], .int .i64 51]) (by simp [results, Tryd.results21, go_sem, t0, t1, t2]) rfl ⟨by rw [HE.out]; exact nextV_no (by decide), ?_⟩
          rw [HE.out, nextAt_no (by decide), place_of hq]
          exact read_own3 HTO4.out (Nat.le_refl _) _ _ _
      · have HE := Lib.hid (show T = ⟨2, wordL (restB t q), restB t q, (restB t q).drop n, 0⟩ by rw [← HNX.out, HN1.out, if_pos h32, ← HN.out])
        rw [h32] at HIW
        have HTAKE := Lib.hid (fun W hR => take_any t x 2 q rb W hR (by omega) (by omega))
        rw [hsz] at HTAKE
        clear h32
        go_wp2_with fail
        go_region_held3 (fun w' => w'.cell? ⟨rb, 0, none⟩ = some (.string t) ∧ w'.cell? ⟨rb, 1, none⟩ = some (.int .i64 q)) (go_keep) (fail)
        all_goals
          go_wp2_with fail
          refine HS.out.mono ?_; rintro e w2 ⟨rfl, hb2⟩
          have hB2 : Below wr.heap.size wr w2 := (Below.refl wr.heap.size wr).drew.trans hb2
          have HTO2 := Lib.hid (HTO.out.below hB2)
          have HTK2 := Lib.hid (HTOK.out.keep (hB2.block _ HTOK.out.lt))
          have HRD2 := Lib.hid (HRD.out.below hB2)
          clear hb2 hB2
          go_wp2_with fail
          refine (HL.out _).mono ?_; rintro e w3 ⟨rfl, hb3⟩
          have HTO3 := Lib.hid (HTO2.out.below hb3)
          have HTK3 := Lib.hid (HTK2.out.keep (hb3.block _ HTK2.out.lt))
          have HRD3 := Lib.hid (HRD2.out.below hb3)
          clear hb3
          go_upto_region 14 with fail
          rw [← HX.out]
          go_wp2_with fail
          refine (HIW.out _ (tabs_to HTAB.out hf HTO3.out)).mono ?_; rintro e w4 ⟨rfl, hb4⟩
          have HTO4 := Lib.hid (HTO3.out.below hb4)
          have HTK4 := Lib.hid (HTK3.out.keep (hb4.block _ HTK3.out.lt))
          have HRD4 := Lib.hid (HRD3.out.below hb4)
          clear hb4
          go_wp2_with fail
          refine (HTAKE.out _ HRD4.out).mono ?_; rintro e w5 ⟨rfl, hto5⟩
          have HTO5 := Lib.hid (HTO4.out.trans hto5)
          have HTK4 := Lib.hid (HTK4.out.rd hto5 hne)
          clear hto5
          have t0 := HTK4.out.c0
          have t1 := HTK4.out.c1
          have t2 := HTK4.out.c2
          have g0 := HTK4.out.f0
          have g1 := HTK4.out.f1
          have g2 := HTK4.out.f2
          go_wp2_with fail
          simp only [Exit.jump]
          refine bodyPost_ret (v := .tuple #[.agg #[.int .i64 2, .string x, .int .i64 (q : Int)], .int .i64 0]) (by simp [results, Tryd.results21, go_sem, t0, t1, t2]) rfl ⟨by rw [HE.out]; exact nextV_ok HXL.out (by omega), ?_⟩
          rw [HE.out, nextAt_ok, List.length_drop, show t.size - ((restB t q).length - n) = q + n by omega]
          exact read_own3 HTO5.out (Nat.le_refl _) _ _ _
    -- a string
    · obtain ⟨r, hl, hn1⟩ := one_string hst
      have hlt : q < t.size := by
        rw [hl] at hrl2
        simp only [List.length_cons] at hrl2
        omega
      have hr : r = restB t (q + 1) := by
        have h := rest_cons hlt
        rw [hl] at h
        exact (List.cons.inj h).2
      have HQ := Lib.hid (fun W hR => quoted_any t q rb W hR hlt ht)
      rw [← hr] at HQ
      obtain ⟨X, hX⟩ : ∃ X, X = strR [] r := ⟨_, rfl⟩
      rw [← hX] at HQ hn1
      by_cases h0 : X.err = 0
      · have hh : X.here = true := by rw [hX]; exact strR_here _ _ _ (Nat.le_refl _) (by rw [← hX]; exact h0)
        have HE := Lib.hid (show T = ⟨3, X.bytes, restB t q, X.rest, 0⟩ by rw [← HNX.out, hn1, if_pos h0])
        rw [quotedV_ok h0, quotAt_here hh] at HQ
        clear hst hl hn1 hr hX h0 hh
        go_wp2_with fail
        go_region_held3 (fun w' => w'.cell? ⟨rb, 0, none⟩ = some (.string t) ∧ w'.cell? ⟨rb, 1, none⟩ = some (.int .i64 q)) (go_keep) (fail)
        all_goals
          go_wp2_with fail
          refine HS.out.mono ?_; rintro e w2 ⟨rfl, hb2⟩
          have hB2 : Below wr.heap.size wr w2 := (Below.refl wr.heap.size wr).drew.trans hb2
          have HTO2 := Lib.hid (HTO.out.below hB2)
          have HTK2 := Lib.hid (HTOK.out.keep (hB2.block _ HTOK.out.lt))
          have HRD2 := Lib.hid (HRD.out.below hB2)
          clear hb2 hB2
          go_wp2_with fail
          refine (HQ.out _ HRD2.out).mono ?_; rintro e w5 ⟨rfl, hto5⟩
          have HTO5 := Lib.hid (HTO2.out.trans hto5)
          have HTK4 := Lib.hid (HTK2.out.rd hto5 hne)
          clear hto5
          have t0 := HTK4.out.c0
          have t1 := HTK4.out.c1
          have t2 := HTK4.out.c2
          have g0 := HTK4.out.f0
          have g1 := HTK4.out.f1
          have g2 := HTK4.out.f2
          go_wp2_with fail
          simp only [Exit.jump]
          refine bodyPost_ret (v := .tuple #[.agg #[.int .i64 3, .string ⟨X.bytes.toArray⟩, .int .i64 (q : Int)], .int .i64 0]) (by simp [results, Tryd.results21, go_sem, t0, t1, t2]) rfl ⟨by rw [HE.out]; exact nextV_ok rfl (by omega), ?_⟩
          rw [HE.out, nextAt_ok]
          exact read_own3 HTO5.out (Nat.le_refl _) _ _ _
      · have HE := Lib.hid (show T = faultX (if X.here then X.rest else restB t q) X.err by rw [← HNX.out, hn1, if_neg h0])
        have HAT := Lib.hid (show t.size - (if X.here then X.rest else restB t q).length = quotAt t.size q X by
          unfold quotAt
          cases X.here
          · simp only [Bool.false_eq_true, if_false]; omega
          · simp only [if_true])
        have H0 := Lib.hid h0
        rw [quotedV_no h0] at HQ
        clear hst hl hn1 hr hX h0
        go_wp2_with fail
        go_region_held3 (fun w' => w'.cell? ⟨rb, 0, none⟩ = some (.string t) ∧ w'.cell? ⟨rb, 1, none⟩ = some (.int .i64 q)) (go_keep) (fail)
        all_goals
          go_wp2_with fail
          refine HS.out.mono ?_; rintro e w2 ⟨rfl, hb2⟩
          have hB2 : Below wr.heap.size wr w2 := (Below.refl wr.heap.size wr).drew.trans hb2
          have HTO2 := Lib.hid (HTO.out.below hB2)
          have HTK2 := Lib.hid (HTOK.out.keep (hB2.block _ HTOK.out.lt))
          have HRD2 := Lib.hid (HRD.out.below hB2)
          clear hb2 hB2
          go_wp2_with fail
          refine (HQ.out _ HRD2.out).mono ?_; rintro e w5 ⟨rfl, hto5⟩
          have HTO5 := Lib.hid (HTO2.out.trans hto5)
          have HTK4 := Lib.hid (HTK2.out.rd hto5 hne)
          clear hto5
          have t0 := HTK4.out.c0
          have t1 := HTK4.out.c1
          have t2 := HTK4.out.c2
          have g0 := HTK4.out.f0
          have g1 := HTK4.out.f1
          have g2 := HTK4.out.f2
          go_wp2_with fail
          simp only [Exit.jump]
          refine bodyPost_ret (v := .tuple #[.agg #[.int .i64 0, .string ⟨#[]⟩, .int .i64 0], .int .i64 X.err]) (by simp [results, Tryd.results21, go_sem, t0, t1, t2]) rfl ⟨by rw [HE.out]; exact nextV_no H0.out, ?_⟩
          rw [HE.out, nextAt_no H0.out, HAT.out]
          exact read_own3 HTO5.out (Nat.le_refl _) _ _ _
    -- a sign
    · obtain ⟨b, r, hl, hn1⟩ := one_sign hst
      obtain ⟨n, hn⟩ : ∃ n, n = signR (restB t q) := ⟨_, rfl⟩
      have hnl := (sign_le (restB t q)).1
      rw [← hn] at hnl hn1
      have n0 : (0 : Int) ≤ (n : Int) := by omega
      have n1 : (n : Int) ≤ ((t.size - q : Nat) : Int) := by omega
      have HL := Lib.hid (show ∀ W, Calls Tryd.prog 41 #[.string (t.extract q t.size)] W fun e w' => e = .returned (.int .i64 (n : Int)) ∧ W = w' from fun W => by
        have h := sign_any (t.extract q t.size) W (by rw [hl] at hrl2; simp only [List.length_cons] at hrl2; omega)
        rw [rest_extract, ← hn] at h
        exact h)
      have hcut := front_cut t q n
      have hsz := front_size t q n hnl
      obtain ⟨x, hx⟩ : ∃ x, x = (t.extract q t.size).extract 0 n := ⟨_, rfl⟩
      rw [← hx] at hcut hsz
      have HX := Lib.hid hx
      have HXL := Lib.hid hcut
      have HE := Lib.hid (show T = ⟨4, (restB t q).take n, restB t q, (restB t q).drop n, 0⟩ by rw [← HNX.out, hn1])
      have HTAKE := Lib.hid (fun W hR => take_any t x 4 q rb W hR (by omega) (by omega))
      rw [hsz] at HTAKE
      clear hst hl hn1 hn hx hcut
      go_wp2_with fail
      go_region_held3 (fun w' => w'.cell? ⟨rb, 0, none⟩ = some (.string t) ∧ w'.cell? ⟨rb, 1, none⟩ = some (.int .i64 q)) (go_keep) (fail)
      all_goals
        go_wp2_with fail
        refine HS.out.mono ?_; rintro e w2 ⟨rfl, hb2⟩
        have hB2 : Below wr.heap.size wr w2 := (Below.refl wr.heap.size wr).drew.trans hb2
        have HTO2 := Lib.hid (HTO.out.below hB2)
        have HTK2 := Lib.hid (HTOK.out.keep (hB2.block _ HTOK.out.lt))
        have HRD2 := Lib.hid (HRD.out.below hB2)
        clear hb2 hB2
        go_wp2_with fail
        refine (HL.out _).mono ?_; rintro e w3 ⟨rfl, hw3⟩; subst hw3
        go_wp2_with fail
        rw [← HX.out]
        refine (HTAKE.out _ HRD2.out).mono ?_; rintro e w5 ⟨rfl, hto5⟩
        have HTO5 := Lib.hid (HTO2.out.trans hto5)
        have HTK4 := Lib.hid (HTK2.out.rd hto5 hne)
        clear hto5
        have t0 := HTK4.out.c0
        have t1 := HTK4.out.c1
        have t2 := HTK4.out.c2
        have g0 := HTK4.out.f0
        have g1 := HTK4.out.f1
        have g2 := HTK4.out.f2
        go_wp2_with fail
        simp only [Exit.jump]
        refine bodyPost_ret (v := .tuple #[.agg #[.int .i64 4, .string x, .int .i64 (q : Int)], .int .i64 0]) (by simp [results, Tryd.results21, go_sem, t0, t1, t2]) rfl ⟨by rw [HE.out]; exact nextV_ok HXL.out (by omega), ?_⟩
        rw [HE.out, nextAt_ok, List.length_drop, show t.size - ((restB t q).length - n) = q + n by omega]
        exact read_own3 HTO5.out (Nat.le_refl _) _ _ _
    -- the end
    · obtain ⟨hl, hn1⟩ := one_end hst
      have hqe : t.size - ([] : List UInt8).length = q := by
        rw [hl] at hrl2
        simp only [List.length_nil] at hrl2 ⊢
        omega
      have HE := Lib.hid (show T = ⟨5, [], [], [], 0⟩ by rw [← HNX.out, hn1])
      have HTAKE := Lib.hid (fun W hR => take_any t ⟨#[]⟩ 5 q rb W hR (by omega) (show 0 ≤ 4096 by omega))
      have HQE := Lib.hid hqe
      clear hst hl hn1 hqe
      go_wp2_with fail
      go_region_held3 (fun w' => w'.cell? ⟨rb, 0, none⟩ = some (.string t) ∧ w'.cell? ⟨rb, 1, none⟩ = some (.int .i64 q)) (go_keep) (fail)
      all_goals
        go_wp2_with fail
        refine HS.out.mono ?_; rintro e w2 ⟨rfl, hb2⟩
        have hB2 : Below wr.heap.size wr w2 := (Below.refl wr.heap.size wr).drew.trans hb2
        have HTO2 := Lib.hid (HTO.out.below hB2)
        have HTK2 := Lib.hid (HTOK.out.keep (hB2.block _ HTOK.out.lt))
        have HRD2 := Lib.hid (HRD.out.below hB2)
        clear hb2 hB2
        go_wp2_with fail
        refine (HTAKE.out _ HRD2.out).mono ?_; rintro e w5 ⟨rfl, hto5⟩
        have HTO5 := Lib.hid (HTO2.out.trans hto5)
        have HTK4 := Lib.hid (HTK2.out.rd hto5 hne)
        clear hto5
        have t0 := HTK4.out.c0
        have t1 := HTK4.out.c1
        have t2 := HTK4.out.c2
        have g0 := HTK4.out.f0
        have g1 := HTK4.out.f1
        have g2 := HTK4.out.f2
        go_wp2_with fail
        simp only [Exit.jump]
        refine bodyPost_ret (v := .tuple #[.agg #[.int .i64 5, .string ⟨#[]⟩, .int .i64 (q : Int)], .int .i64 0]) (by simp [results, Tryd.results21, go_sem, t0, t1, t2]) rfl ⟨by rw [HE.out]; exact nextV_ok rfl HQE.out, ?_⟩
        rw [HE.out, nextAt_ok, HQE.out]
        exact read_own3 HTO5.out (Nat.le_refl _) _ _ _
end Go.Proofs.YtaipljdpkgdheaaDoor
