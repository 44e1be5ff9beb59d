/- Package token: a string is read. -/
import Derived.Test.YtaipljdpkgdheaaDoorTokV
import Derived.Deep.RegionLaw
namespace Go.Proofs.YtaipljdpkgdheaaDoor
open Go Go.RowKit

theorem rest_size (t : ByteArray) (q : Nat) : (t.extract q t.size).size = t.size - q := by rw [ByteArray.size_extract]; omega
theorem quotAt_here {n p : Nat} {X : StrX} (h : X.here = true) : quotAt n p X = n - X.rest.length := by rw [quotAt, if_pos h]
theorem quotAt_open {n p : Nat} {X : StrX} (h : X.here = false) : quotAt n p X = p := by rw [quotAt, if_neg (by rw [h]; simp)]
theorem quotV_bad {p : Nat} {b r : List UInt8} {e : Int} {h : Bool} (he : ¬ e = 0) : Ending.returned (.tuple #[.agg #[.int .i64 0, .string ⟨#[]⟩, .int .i64 0], .int .i64 e]) = .returned (quotV p ⟨b, r, e, h⟩) := by
  unfold quotV
  rw [if_neg he]
  rfl
theorem read_own3 {rb q B : Nat} {w0 w : World} (h : ReadTo rb w0 w q) (hB : w0.heap.size ≤ B) (a b c : Value) : ReadTo rb w0 (((w.setCell ⟨B, 0, none⟩ a).setCell ⟨B, 1, none⟩ b).setCell ⟨B, 2, none⟩ c) q :=
  below_own (below_own (below_own h (by omega) 0 a) (by omega) 1 b) (by omega) 2 c

set_option maxHeartbeats 8000000 in
set_option maxRecDepth 100000 in
theorem quoted_any (t : ByteArray) (p rb : Nat) (w : World) (hr : ReadAt w rb t p) (hk : p < t.size) (ht : t.size ≤ 4096) :
    Calls Tryd.prog 40 #[.pointer (some ⟨rb, 0, none⟩)] w fun e w' => e = .returned (quotV p (strR [] (restB t (p + 1)))) ∧ ReadTo rb w w' (quotAt t.size p (strR [] (restB t (p + 1)))) := by
  obtain ⟨i0, hi0, iz0, iz1, iz2⟩ := info_parts Tryd.infoU8
  obtain ⟨X, hX⟩ : ∃ X, X = strR [] (restB t (p + 1)) := ⟨_, rfl⟩
  rw [← hX]
  have HX := Lib.hid hX
  have HR := Lib.hid hr
  have hrl := hr.lt
  obtain ⟨W1, hW1⟩ : ∃ W1, W1 = w.alloc (Obj.cells #[.int .i64 0, .string ⟨#[]⟩, .int .i64 0] 28) := ⟨_, rfl⟩
  have HB1 := Lib.hid (show Below w.heap.size w W1 by rw [hW1]; exact (Below.refl _ _).alloc (Nat.le_refl _) _)
  have HRD1 := Lib.hid (hr.below HB1.out)
  have HQ1 := Lib.hid (show QS rb w W1 p (.slice none 0 0) [] from ⟨(ReadTo.stay hr).below HB1.out, World.ownsRow_nil _ _ _ _, by rw [hW1]; exact Cells3.made _ _ _ _ _⟩)
  have c1 := HRD1.out.c1
  have f1 := HRD1.out.f1
  have HW1 := Lib.hid hW1
  have HS := Lib.hid (show QS rb w (W1.setCell ⟨rb, 1, none⟩ (.int .i64 ((p : Int) + 1))) (p + 1) (.slice none 0 0) [] from by
    have h := HQ1.out.set hrl (p + 1)
    exact_mod_cast h)
  clear hX hr hW1
  go_enter Tryd.func40, Tryd.ntmps40
  go_upto_region 1 with fail
  rw [← HW1.out]
  go_wp2_with fail
  go_loopg [5] (t.size + 1) (fun g v5 wx => ∃ (acc : List UInt8) (va : Option Addr) (cp q : Nat), v5 = .slice va acc.length cp ∧ QS rb w wx q (.slice va acc.length cp) acc ∧ q ≤ t.size ∧ strR acc (restB t q) = X ∧ acc.length ≤ 256 ∧ t.size - q < g)
  case atStart => exact ⟨[], none, 0, p + 1, rfl, HS.out, by omega, HX.out.symm, by decide, by omega⟩
  case round =>
    obtain ⟨acc, va, cp, q, rfl, hs, hq, hx, hal, hlg⟩ := hrel
    obtain ⟨g, rfl⟩ : ∃ g, gk = g + 1 := ⟨gk - 1, by omega⟩
    have HQ := Lib.hid hs
    have HRD := Lib.hid (hs.rd.place HR.out)
    have HXX := Lib.hid hx
    have d0 := HRD.out.c0
    have d1 := HRD.out.c1
    have e1 := HRD.out.f1
    have q0 : (0 : Int) ≤ (q : Int) := by omega
    obtain ⟨n, hn⟩ : ∃ n, n = acc.length := ⟨_, rfl⟩
    rw [← hn] at HQ hal ⊢
    have HN := Lib.hid hn
    clear hs hx hn c1 f1
    by_cases hlt : q < t.size
    · have hc := rest_cons hlt
      have k1 : (q : Int) < (t.size : Int) := by omega
      by_cases hb : t[q]'hlt = 34
      · have HE := Lib.hid (show X = ⟨acc, restB t (q + 1), 0, true⟩ by rw [← HXX.out, hc, hb, strR_end])
        have k2 : (t[q]'hlt).toNat = (34 : UInt8).toNat := by rw [hb]
        obtain ⟨V, hV⟩ : ∃ V, V = (wr.setCell ⟨rb, 1, none⟩ (.int .i64 ((q : Int) + 1))).drew.drew := ⟨_, rfl⟩
        have hv : QS rb w V (q + 1) (.slice va n cp) acc := by
          rw [hV]
          have h := (HQ.out.set hrl (q + 1)).below (Below.refl _ _).drew.drew
          exact_mod_cast h
        have HV := Lib.hid hV
        have HVQ := Lib.hid hv
        have t0 := hv.tok.c0
        have t1 := hv.tok.c1
        have t2 := hv.tok.c2
        have g0 := hv.tok.f0
        have g1 := hv.tok.f1
        have g2 := hv.tok.f2
        have hcv : (convert 22 9 (.slice va n cp)).run Tryd.prog V = .ok (.string ⟨acc.toArray⟩) V := by
          have h := hv.own
          rw [HN.out] at h ⊢
          exact conv_owned h
        clear hc hb hV hv
        go_wp2_with fail
        go_region_held3 (fun w' => w'.cell? ⟨rb, 0, none⟩ = some (.string t) ∧ w'.cell? ⟨rb, 1, none⟩ = some (.int .i64 q)) (go_keep) (fail)
        all_goals
          go_wp2_with fail
          go_region_held3 (fun w' => w'.cell? ⟨rb, 0, none⟩ = some (.string t) ∧ w'.cell? ⟨rb, 1, none⟩ = some (.int .i64 q)) (go_keep) (fail)
        all_goals
          go_upto_region 7 with fail
          rw [← HV.out]
          go_wp2_with fail
          refine bodyPost_ret (v := .tuple #[.agg #[.int .i64 3, .string ⟨acc.toArray⟩, .int .i64 p], .int .i64 0]) (by simp [results, Tryd.results40, go_sem, t0, t1, t2]) rfl ⟨by rw [HE.out]; rfl, ?_⟩
          rw [HE.out, quotAt_here rfl, place_of (by omega)]
          exact read_own3 HVQ.out.rd (Nat.le_refl _) _ _ _
      · have HB := Lib.hid hb
        have b1 := u8_ne hb (n := 34) rfl
        obtain ⟨⟨c, m, e⟩, hcr⟩ : ∃ x, x = charR (restB t q) := ⟨_, rfl⟩
        have HCH := Lib.hid (show ∀ W, Calls Tryd.prog 57 #[.string (t.extract q t.size)] W fun en w' => en = .returned (.tuple #[.int .u8 (c.toNat : Int), .int .i64 (m : Int), .int .i64 e]) ∧ W = w' from fun W => by
          have h := character_any (t.extract q t.size) W (by rw [rest_size]; omega)
          rw [rest_extract, ← hcr] at h
          exact h)
        have HCR := Lib.hid hcr
        have HC := Lib.hid hc
        clear hb hc hcr
        by_cases h52 : e = 52
        · subst h52
          have HE := Lib.hid (show X = ⟨[], [], 52, false⟩ by rw [← HXX.out, HC.out, strR_open HB.out (by rw [← HC.out, ← HCR.out])])
          obtain ⟨V, hV⟩ : ∃ V, V = (wr.setCell ⟨rb, 1, none⟩ (.int .i64 (p : Int))).drew.drew.drew := ⟨_, rfl⟩
          have hv : QS rb w V p (.slice va n cp) acc := by
            rw [hV]
            exact (HQ.out.set hrl p).below (Below.refl _ _).drew.drew.drew
          have HV := Lib.hid hV
          have HVQ := Lib.hid hv
          have t0 := hv.tok.c0
          have t1 := hv.tok.c1
          have t2 := hv.tok.c2
          have g0 := hv.tok.f0
          have g1 := hv.tok.f1
          have g2 := hv.tok.f2
          clear hV hv
          go_wp2_with fail
          go_region_held3 (fun w' => w'.cell? ⟨rb, 0, none⟩ = some (.string t) ∧ w'.cell? ⟨rb, 1, none⟩ = some (.int .i64 q)) (go_keep) (fail)
          all_goals
            go_wp2_with fail
            go_region_held3 (fun w' => w'.cell? ⟨rb, 0, none⟩ = some (.string t) ∧ w'.cell? ⟨rb, 1, none⟩ = some (.int .i64 q)) (go_keep) (fail)
          all_goals
            go_wp2_with fail
            go_region_held3 (fun w' => w'.cell? ⟨rb, 0, none⟩ = some (.string t) ∧ w'.cell? ⟨rb, 1, none⟩ = some (.int .i64 q)) (go_keep) ((go_at_call 57; (with_reducible refine (HCH.out _).mono ?_); rintro en w2 ⟨rfl, hw⟩; subst hw))
          all_goals
            go_upto_region 18 with fail
            rw [← HV.out]
            go_wp2_with fail
            refine bodyPost_ret (v := .tuple #[.agg #[.int .i64 0, .string ⟨#[]⟩, .int .i64 0], .int .i64 52]) (by simp [results, Tryd.results40, go_sem, t0, t1, t2]) rfl ⟨by rw [HE.out]; rfl, ?_⟩
            rw [HE.out, quotAt_open rfl]
            exact read_own3 HVQ.out.rd (Nat.le_refl _) _ _ _
        · have k52 : (e == 52) = false := beq_eq_false_iff_ne.2 h52
          by_cases h00 : e = 0
          · subst h00
            by_cases h256 : n = 256
            · have HE := Lib.hid (show X = ⟨[], [], 51, false⟩ by rw [← HXX.out, HC.out, strR_long HB.out (by rw [← HC.out, ← HCR.out]) (by rw [← HN.out, h256])])
              have k256 : (n : Int) = 256 := by omega
              obtain ⟨V, hV⟩ : ∃ V, V = (wr.setCell ⟨rb, 1, none⟩ (.int .i64 (p : Int))).drew.drew.drew := ⟨_, rfl⟩
              have hv : QS rb w V p (.slice va n cp) acc := by
                rw [hV]
                exact (HQ.out.set hrl p).below (Below.refl _ _).drew.drew.drew
              have HV := Lib.hid hV
              have HVQ := Lib.hid hv
              have t0 := hv.tok.c0
              have t1 := hv.tok.c1
              have t2 := hv.tok.c2
              have g0 := hv.tok.f0
              have g1 := hv.tok.f1
              have g2 := hv.tok.f2
              clear hV hv h52 h256
              go_wp2_with fail
              go_region_held3 (fun w' => w'.cell? ⟨rb, 0, none⟩ = some (.string t) ∧ w'.cell? ⟨rb, 1, none⟩ = some (.int .i64 q)) (go_keep) (fail)
              all_goals
                go_wp2_with fail
                go_region_held3 (fun w' => w'.cell? ⟨rb, 0, none⟩ = some (.string t) ∧ w'.cell? ⟨rb, 1, none⟩ = some (.int .i64 q)) (go_keep) (fail)
              all_goals
                go_wp2_with fail
                go_region_held3 (fun w' => w'.cell? ⟨rb, 0, none⟩ = some (.string t) ∧ w'.cell? ⟨rb, 1, none⟩ = some (.int .i64 q)) (go_keep) ((go_at_call 57; (with_reducible refine (HCH.out _).mono ?_); rintro en w2 ⟨rfl, hw⟩; subst hw))
              all_goals
                go_upto_region 14 with fail
                rw [← HV.out]
                go_wp2_with fail
                refine bodyPost_ret (v := .tuple #[.agg #[.int .i64 0, .string ⟨#[]⟩, .int .i64 0], .int .i64 51]) (by simp [results, Tryd.results40, go_sem, t0, t1, t2]) rfl ⟨by rw [HE.out]; rfl, ?_⟩
                rw [HE.out, quotAt_open rfl]
                exact read_own3 HVQ.out.rd (Nat.le_refl _) _ _ _
            · have hm := char_size (l := restB t q) (by rw [← HCR.out])
              rw [← HCR.out, rest_len] at hm
              simp only at hm
              have HE := Lib.hid (show strR (acc ++ [c]) (restB t (q + m)) = X by
                rw [← HXX.out, HC.out, strR_more HB.out (by rw [← HC.out, ← HCR.out]) (by rw [← HN.out]; exact h256), ← HC.out, ← HCR.out, rest_drop])
              have k256 : ¬ (n : Int) = 256 := by omega
              have hn2 : n < 256 := by omega
              obtain ⟨V, hV⟩ : ∃ V, V = wr.drew.drew.drew := ⟨_, rfl⟩
              have hv : QS rb w V q (.slice va n cp) acc := by
                rw [hV]
                exact HQ.out.below (Below.refl _ _).drew.drew.drew
              have HV := Lib.hid hV
              have HVQ := Lib.hid hv
              have HO := Lib.hid (show V.ownsRow (w.heap.size + 1) 5 1 (.slice va n cp) n (bytesC acc) by have h := hv.own; rw [← HN.out] at h; exact h)
              have hvz := hv.tok.lt
              clear hV hv h52 h256 k52
              go_wp2_with fail
              go_region_held3 (fun w' => w'.cell? ⟨rb, 0, none⟩ = some (.string t) ∧ w'.cell? ⟨rb, 1, none⟩ = some (.int .i64 q)) (go_keep) (fail)
              all_goals
                go_wp2_with fail
                go_region_held3 (fun w' => w'.cell? ⟨rb, 0, none⟩ = some (.string t) ∧ w'.cell? ⟨rb, 1, none⟩ = some (.int .i64 q)) (go_keep) (fail)
              all_goals
                go_wp2_with fail
                go_region_held3 (fun w' => w'.cell? ⟨rb, 0, none⟩ = some (.string t) ∧ w'.cell? ⟨rb, 1, none⟩ = some (.int .i64 q)) (go_keep) ((go_at_call 57; (with_reducible refine (HCH.out _).mono ?_); rintro en w2 ⟨rfl, hw⟩; subst hw))
              all_goals
                go_upto_region 15 with fail
                rw [← HV.out]
                go_wp2_with (at_builtin; go_must (refine wpList_append_lies _ (by rfl) _ _ _ (by rfl) (w.heap.size + 1) 5 i0 _ 1 1 Tryd.underlying22 hi0 iz0 iz1 iz2 rfl (by omega) (.slice va n cp) n (bytesC acc) (by rfl) (HO.out.alloc _) ⟨_, 0, none⟩ 1 1 [.int .u8 (c.toNat : Int)] (by rfl) (by rfl) (World.news_of_block (cs := #[.int .u8 (c.toNat : Int)]) (t := 5) (fr := (0, 0)) (heap_alloc_new _ _)) (by simp [Value.oneCell']) (by omega) (by unfold maxLen; omega) (by omega) (by simp; omega) _ rfl ?_; intro g2 cap2 w7 hown7 hgrow7 hat7 hlt7; have hq7 := QS.grown (HVQ.out.below ((Below.refl _ V).alloc (Nat.le_refl _) (Obj.cells #[.int .u8 (c.toNat : Int)] 5))) hgrow7 (v' := .slice (some ⟨g2, 0, none⟩) (n + 1) cap2) (acc' := acc ++ [c]) (by rw [List.length_append, ← HN.out, bytesC_append]; exact hown7); have hr7 := hq7.rd.place HR.out; have z1 := hr7.c1; have zf := hr7.f1))
                have HQ8 := Lib.hid (hq7.set hrl (q + m))
                clear hown7 hgrow7 hat7 hq7 hr7
                go_roundg g
                case rel => exact ⟨acc ++ [c], some ⟨g2, 0, none⟩, cap2, q + m, by rw [List.length_append, ← HN.out]; rfl, by rw [List.length_append, ← HN.out]; exact_mod_cast HQ8.out, by omega, HE.out, by rw [List.length_append, ← HN.out]; simp only [List.length_cons, List.length_nil]; omega, by omega⟩
                case measure => omega
          · have k0 : (e != 0) = true := by simp [bne, beq_eq_false_iff_ne.2 h00]
            have HE := Lib.hid (show X = ⟨[], restB t q, e, true⟩ by rw [← HXX.out, HC.out, strR_bad HB.out (by rw [← HC.out, ← HCR.out]; exact h52) (by rw [← HC.out, ← HCR.out]; exact h00), ← HC.out, ← HCR.out])
            have H0 := Lib.hid h00
            obtain ⟨V, hV⟩ : ∃ V, V = wr.drew.drew.drew := ⟨_, rfl⟩
            have hv : QS rb w V q (.slice va n cp) acc := by
              rw [hV]
              exact HQ.out.below (Below.refl _ _).drew.drew.drew
            have HV := Lib.hid hV
            have HVQ := Lib.hid hv
            have t0 := hv.tok.c0
            have t1 := hv.tok.c1
            have t2 := hv.tok.c2
            have g0 := hv.tok.f0
            have g1 := hv.tok.f1
            have g2 := hv.tok.f2
            clear hV hv h52 h00
            go_wp2_with fail
            go_region_held3 (fun w' => w'.cell? ⟨rb, 0, none⟩ = some (.string t) ∧ w'.cell? ⟨rb, 1, none⟩ = some (.int .i64 q)) (go_keep) (fail)
            all_goals
              go_wp2_with fail
              go_region_held3 (fun w' => w'.cell? ⟨rb, 0, none⟩ = some (.string t) ∧ w'.cell? ⟨rb, 1, none⟩ = some (.int .i64 q)) (go_keep) (fail)
            all_goals
              go_wp2_with fail
              go_region_held3 (fun w' => w'.cell? ⟨rb, 0, none⟩ = some (.string t) ∧ w'.cell? ⟨rb, 1, none⟩ = some (.int .i64 q)) (go_keep) ((go_at_call 57; (with_reducible refine (HCH.out _).mono ?_); rintro en w2 ⟨rfl, hw⟩; subst hw))
            all_goals
              go_upto_region 11 with fail
              rw [← HV.out]
              go_wp2_with fail
              refine bodyPost_ret (v := .tuple #[.agg #[.int .i64 0, .string ⟨#[]⟩, .int .i64 0], .int .i64 e]) (by simp [results, Tryd.results40, go_sem, t0, t1, t2]) rfl ⟨by rw [HE.out, quotV_bad H0.out], ?_⟩
              rw [HE.out, quotAt_here rfl, place_of hq]
              exact read_own3 HVQ.out.rd (Nat.le_refl _) _ _ _
    · have HE := Lib.hid (show X = ⟨[], [], 52, false⟩ by
        have h0 : restB t q = [] := List.eq_nil_of_length_eq_zero (by rw [rest_len]; omega)
        rw [← HXX.out, h0, strR_nil])
      have k1 : ¬ (q : Int) < (t.size : Int) := by omega
      obtain ⟨V, hV⟩ : ∃ V, V = (wr.setCell ⟨rb, 1, none⟩ (.int .i64 (p : Int))).drew := ⟨_, rfl⟩
      have hv : QS rb w V p (.slice va n cp) acc := by
        rw [hV]
        exact (HQ.out.set hrl p).below (Below.refl _ _).drew
      have HV := Lib.hid hV
      have HVQ := Lib.hid hv
      have t0 := hv.tok.c0
      have t1 := hv.tok.c1
      have t2 := hv.tok.c2
      have g0 := hv.tok.f0
      have g1 := hv.tok.f1
      have g2 := hv.tok.f2
      clear hV hv
      go_wp2_with fail
      go_region_held3 (fun w' => w'.cell? ⟨rb, 0, none⟩ = some (.string t) ∧ w'.cell? ⟨rb, 1, none⟩ = some (.int .i64 q)) (go_keep) (fail)
      all_goals
        go_upto_region 18 with fail
        rw [← HV.out]
        go_wp2_with fail
        refine bodyPost_ret (v := .tuple #[.agg #[.int .i64 0, .string ⟨#[]⟩, .int .i64 0], .int .i64 52]) (by simp [results, Tryd.results40, go_sem, t0, t1, t2]) rfl ⟨by rw [HE.out]; rfl, ?_⟩
        rw [HE.out, quotAt_open rfl]
        exact read_own3 HVQ.out.rd (Nat.le_refl _) _ _ _
end Go.Proofs.YtaipljdpkgdheaaDoor
