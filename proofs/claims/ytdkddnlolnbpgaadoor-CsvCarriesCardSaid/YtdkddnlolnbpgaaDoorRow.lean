/- Package csv, the reader's row. -/
import Derived.Test.YtdkddnlolnbpgaaDoorEnd
import Derived.Deep.RegionLaw
namespace Go.Proofs.YtdkddnlolnbpgaaDoor
open Go Go.RowKit

def strC (l : List (List UInt8)) : List Value := l.map fun c => Value.string ⟨c.toArray⟩
theorem strC_len (l : List (List UInt8)) : (strC l).length = l.length := by simp [strC]
theorem strC_snoc (l : List (List UInt8)) (c : List UInt8) : strC (l ++ [c]) = strC l ++ [Value.string ⟨c.toArray⟩] := by simp [strC]
theorem Tryd.infoStr : (Tryd.prog.info? 9).map (fun i => (i.zero, i.size, i.bytes)) = some (some (.string ⟨#[]⟩), 1, 16) := by kernel_rfl
theorem quoted_suffix : ∀ (acc l : List UInt8) {c r : List UInt8}, quotedG acc l = some (c, r) → r <:+ l
  | _, [], _, _, h => by simp [quotedG] at h
  | acc, [b], c, r, h => by
    unfold quotedG at h
    split at h
    · cases h; exact List.nil_suffix
    · cases h
  | acc, b :: d :: t, c, r, h => by
    unfold quotedG at h
    split at h
    · split at h
      · exact (quoted_suffix _ _ h).trans ((List.suffix_cons d t).trans (List.suffix_cons b _))
      · cases h; exact List.suffix_cons b _
    · exact (quoted_suffix _ _ h).trans (List.suffix_cons b _)
theorem cell_suffix {l c r : List UInt8} (h : cellR l = some (c, r)) : r <:+ l := by
  unfold cellR at h
  split at h
  · exact (quoted_suffix _ _ h).trans (List.drop_suffix _ _)
  · cases h
    exact List.dropWhile_suffix _
theorem row_suffix : ∀ (n : Nat) (acc : List (List UInt8)) (l : List UInt8), l.length ≤ n → (rowR acc l).2.1 <:+ l := by
  intro n
  induction n with
  | zero =>
    intro acc l hl
    obtain rfl : l = [] := List.eq_nil_of_length_eq_zero (by omega)
    have hc : cellR [] = some ([], []) := by decide
    rw [rowR_last hc (by decide)]
    exact end_suffix _
  | succ n ih =>
    intro acc l hl
    cases hc : cellR l with
    | none => rw [rowR_quote hc]; exact List.suffix_refl _
    | some x =>
      obtain ⟨c, r⟩ := x
      have h1 := cell_len hc
      have hs := cell_suffix hc
      cases hp : Lib.hasPrefix r [44]
      · rw [rowR_last hc hp]
        exact (end_suffix r).trans hs
      · rw [rowR_more hc hp]
        obtain ⟨r', rfl⟩ := (prefix_one _ _).1 hp
        simp only [List.drop_one, List.tail_cons, List.length_cons] at h1 ⊢
        exact (ih _ r' (by omega)).trans ((List.suffix_cons _ _).trans hs)
theorem owned_form {w : World} {base e size n : Nat} {v : Value} {xs : List Value} (h : w.ownsRow base e size v n xs) : ∃ va cap, v = .slice va n cap := by
  rcases h.2 with ⟨e, h0⟩ | ⟨g, cap', cur, e, _⟩
  · exact ⟨none, 0, by rw [e, h0]⟩
  · exact ⟨_, _, e⟩
/-- What the call owns, as a string. -/
theorem conv_owned {w : World} {B cap : Nat} {va : Option Addr} {c : List UInt8} (h : w.ownsRow B 5 1 (.slice va c.length cap) c.length (bytesC c)) : (convert 55 9 (.slice va c.length cap)).run Tryd.prog w = .ok (.string ⟨c.toArray⟩) w := by
  rcases owned_case h with ⟨h0, rfl, rfl⟩ | ⟨g, rfl⟩
  · obtain rfl := List.eq_nil_of_length_eq_zero h0
    rw [run_convert_bytes_string w 55 9 5 none _ 0 Tryd.underlying55 Tryd.underlying5 Tryd.underlying9]
    rfl
  · refine run_convert_bytes_back (P := Tryd.prog) w 55 9 5 ⟨g, 0, none⟩ cap c Tryd.underlying55 Tryd.underlying5 Tryd.underlying9 (fun j hj => ?_)
    have hc := h.cells (g := g) rfl j (.int .u8 (c[j].toNat : Int)) (by rw [bytesC_get c j hj])
    rw [hc]
theorem quote_size : (⟨#[34]⟩ : ByteArray).size = 1 := rfl
theorem quoted_two (acc r : List UInt8) : quotedG acc (34 :: 34 :: r) = quotedG (acc ++ [34]) r := by rw [quotedG, if_pos rfl, if_pos rfl]
theorem quoted_end {acc l : List UInt8} (h1 : Lib.hasPrefix l [34] = true) (h2 : Lib.hasPrefix l [34, 34] = false) : quotedG acc l = some (acc, l.drop 1) := by
  obtain ⟨r, rfl⟩ := (prefix_one _ _).1 h1
  cases r with
  | nil => simp [quotedG]
  | cons b r =>
    have hb : ¬ b = 34 := by
      intro h
      rw [h] at h2
      simp [Lib.hasPrefix, List.isPrefixOf] at h2
    rw [quotedG, if_pos rfl, if_neg hb]
    rfl
theorem quoted_byte {acc : List UInt8} {b : UInt8} {r : List UInt8} (h : ¬ b = 34) : quotedG acc (b :: r) = quotedG (acc ++ [b]) r := by
  cases r with
  | nil => simp [quotedG, h]
  | cons d r => rw [quotedG, if_neg h]
theorem rest_cons {t : ByteArray} {q : Nat} (h : q < t.size) : restB t q = (t[q]'h) :: restB t (q + 1) := by
  have h1 := rest_head h
  have h2 := rest_drop t q 1
  cases hl : restB t q with
  | nil => rw [hl] at h1; cases h1
  | cons a l =>
    rw [hl] at h1 h2
    simp only [List.head?_cons, Option.some.injEq] at h1
    simp only [List.drop_one, List.tail_cons] at h2
    rw [h1, h2]

set_option maxHeartbeats 8000000 in
set_option maxRecDepth 100000 in
theorem row_any (t : ByteArray) (p rb : Nat) (w : World) (hr : ReadAt w rb t p) (hk : p ≤ t.size) (ht : t.size ≤ 65536) :
    Calls Tryd.prog 17 #[.pointer (some ⟨rb, 0, none⟩)] w fun e w' => ∃ va cap, e = .returned (.tuple #[.slice va (rowR [] (restB t p)).1.length cap, .int .i64 (rowR [] (restB t p)).2.2]) ∧ w'.ownsRow w.heap.size 9 1 (.slice va (rowR [] (restB t p)).1.length cap) (rowR [] (restB t p)).1.length (strC (rowR [] (restB t p)).1) ∧ ReadTo rb w w' (t.size - (rowR [] (restB t p)).2.1.length) := by
  obtain ⟨i0, hi0, iz0, iz1, iz2⟩ := info_parts Tryd.infoU8
  obtain ⟨s0, hs0, hy0, hy1, hy2⟩ := info_parts Tryd.infoStr
  obtain ⟨R, hR⟩ : ∃ R, R = rowR [] (restB t p) := ⟨_, rfl⟩
  rw [← hR]
  have HRR := Lib.hid hR
  have hrl := hr.lt
  have HR := Lib.hid hr
  clear hR hr
  go_enter Tryd.func17, Tryd.ntmps17
  go_wp2_with fail
  go_step3
  go_wp2_with fail
  go_step3
  go_wp2_with fail
  go_loopg [4] (t.size + 1) (fun g v wx => ∃ (acc : List (List UInt8)) (va : Option Addr) (cp q : Nat), v = .slice va acc.length cp ∧ wx.ownsRow w.heap.size 9 1 (.slice va acc.length cp) acc.length (strC acc) ∧ ReadTo rb w wx q ∧ q ≤ t.size ∧ rowR acc (restB t q) = R ∧ acc.length + (restB t q).length ≤ t.size ∧ (restB t q).length < g)
  case atStart => exact ⟨[], none, 0, p, rfl, World.ownsRow_nil _ _ _ _, ReadTo.stay HR.out, hk, HRR.out.symm, by rw [rest_len]; simp, by rw [rest_len]; omega⟩
  case round =>
    obtain ⟨acc, va, cp, q, rfl, hown, hto, hq, hrow, hal, hlg⟩ := hrel
    obtain ⟨g, rfl⟩ : ∃ g, gk = g + 1 := ⟨gk - 1, by omega⟩
    have HO := Lib.hid hown
    have HTO := Lib.hid hto
    have HROW := Lib.hid hrow
    have HRD := Lib.hid (hto.place HR.out)
    have d1 := HRD.out.c1
    have hzr := hto.size
    have hrlw := HRD.out.lt
    have hl := rest_len t q
    have ha2 : acc.length ≤ 65536 := by omega
    obtain ⟨n, hn⟩ : ∃ n, n = acc.length := ⟨_, rfl⟩
    rw [← hn] at HO hal ha2 ⊢
    have HN := Lib.hid hn
    clear hown hto hrow hn
    cases h34 : Lib.hasPrefix (restB t q) [34]
    · have HC := Lib.hid (show cellR (restB t q) = some (plainL (restB t q), plainD (restB t q)) by unfold cellR; rw [h34]; rfl)
      have H34 := Lib.hid h34
      have hps := plain_size t q hq
      have HPD := Lib.hid (show restB t (q + (plainL (restB t q)).length) = plainD (restB t q) by rw [← rest_drop, plain_drop])
      obtain ⟨c, hc⟩ : ∃ c, c = plainL (restB t q) := ⟨_, rfl⟩
      obtain ⟨D, hD⟩ : ∃ D, D = plainD (restB t q) := ⟨_, rfl⟩
      have HPL := Lib.hid hc
      rw [← hc] at hps HPD HC
      rw [← hD] at HPD HC
      clear h34 hc hD
      go_wp2_with fail
      refine (pass_no t ⟨#[34]⟩ q rb _ HRD.out hq H34.out).mono ?_; rintro e w2 ⟨rfl, hb2⟩
      have HRD2 := Lib.hid (HRD.out.below hb2)
      have HTO2 := Lib.hid (HTO.out.below hb2)
      have HO2 := Lib.hid (owns_below HO.out hb2)
      clear hb2
      go_wp2_with fail
      refine (plain_any t q rb _ HRD2.out hq ht).mono ?_; rintro e w3 ⟨rfl, hto3⟩
      rw [← HPL.out] at hto3 ⊢
      have HTO3 := Lib.hid (HTO2.out.trans hto3)
      have HO3 := Lib.hid (own_to hto3 HO2.out hrl)
      have hz3 := HTO3.out.size
      clear hto3
      obtain ⟨q2, hq2⟩ : ∃ q2, q2 = q + c.length := ⟨_, rfl⟩
      rw [← hq2] at HTO3 HPD hps
      obtain ⟨s, hs⟩ : ∃ s : ByteArray, s = ⟨c.toArray⟩ := ⟨_, rfl⟩
      rw [← hs]
      have HS := Lib.hid hs
      have HQ2 := Lib.hid hq2
      clear hs hq2
      go_wp2_with (at_builtin; go_must (refine wpList_append_lies _ (by rfl) _ _ _ (by rfl) w.heap.size 9 s0 _ 1 16 Tryd.underlying28 hs0 hy0 hy1 hy2 rfl (by omega) (.slice va n cp) n (strC acc) (by rfl) (HO3.out.alloc _) ⟨_, 0, none⟩ 1 1 [.string s] (by rfl) (by rfl) (World.news_of_block (cs := #[.string s]) (t := 9) (fr := (0, 0)) (heap_alloc_new _ _)) (by simp [Value.oneCell']) (by omega) (by unfold maxLen; omega) (by omega) (by simp; omega) _ rfl ?_; intro g2 cap2 w7 hown7 hgrow7 hat7 hlt7))
      have HTO7 := Lib.hid ((HTO3.out.below ((Below.refl _ w3).alloc (Nat.le_refl _) (Obj.cells #[Value.string s] 9))).grown hgrow7 (ownBlock_lo HO3.out))
      have HO7 := Lib.hid (show w7.ownsRow w.heap.size 9 1 (.slice (some ⟨g2, 0, none⟩) (n + 1) cap2) (n + 1) (strC (acc ++ [c])) by rw [strC_snoc, ← HS.out]; exact hown7)
      have HRD7 := Lib.hid (HTO7.out.place HR.out)
      clear hown7 hgrow7 hat7 hlt7
      cases h44 : Lib.hasPrefix (restB t q2) [44]
      · have HF := Lib.hid (show R = (acc ++ [c], endR (restB t q2)) by rw [← HROW.out, rowR_last HC.out (by rw [← HPD.out]; exact h44), HPD.out])
        have H44 := Lib.hid h44
        clear h44
        refine (pass_no t ⟨#[44]⟩ q2 rb _ HRD7.out hps H44.out).mono ?_; rintro e w8 ⟨rfl, hb8⟩
        have HTO8 := Lib.hid (HTO7.out.below hb8)
        have HO8 := Lib.hid (owns_below HO7.out hb8)
        clear hb8
        go_wp2_with fail
        refine (end_any t q2 rb _ (HTO8.out.place HR.out) hps ht).mono ?_; rintro e w9 ⟨rfl, hto9⟩
        have HTO9 := Lib.hid (HTO8.out.trans hto9)
        have HO9 := Lib.hid (own_to hto9 HO8.out hrl)
        clear hto9
        go_wp2_with fail
        rw [Exit.noGoto_ret]
        go_ret2
        rw [HF.out]
        have e : (acc ++ [c]).length = n + 1 := by rw [List.length_append, HN.out]; rfl
        exact ⟨some ⟨g2, 0, none⟩, cap2, by rw [e]; rfl, by rw [e]; exact HO9.out, HTO9.out⟩
      · have HQ3 := Lib.hid (show R = rowR (acc ++ [c]) (restB t (q2 + 1)) by rw [← HROW.out, rowR_more HC.out (by rw [← HPD.out]; exact h44), ← HPD.out, rest_drop])
        have H44 := Lib.hid h44
        have hlt : q2 < t.size := by
          rcases Nat.lt_or_ge q2 t.size with h | h
          · exact h
          · exfalso
            have h0 : restB t q2 = [] := List.eq_nil_of_length_eq_zero (by rw [rest_len]; omega)
            rw [h0] at h44
            exact absurd h44 (by decide)
        clear h44
        refine (pass_yes t ⟨#[44]⟩ q2 rb _ HRD7.out hps ht (by decide) H44.out).mono ?_; rintro e w8 ⟨rfl, hto8⟩
        have HTO8 := Lib.hid (HTO7.out.trans hto8)
        have HO8 := Lib.hid (own_to hto8 HO7.out hrl)
        clear hto8
        go_wp2_with fail
        have hq2' := HQ2.out
        have h1 := rest_len t (q2 + 1)
        have e : (acc ++ [c]).length = n + 1 := by rw [List.length_append, HN.out]; rfl
        go_roundg g
        case rel => exact ⟨acc ++ [c], some ⟨g2, 0, none⟩, cap2, q2 + 1, by rw [e], by rw [e]; exact HO8.out, HTO8.out, by omega, HQ3.out.symm, by omega, by omega⟩
        case measure => omega
    · have hqt : q < t.size := by
        rcases Nat.lt_or_ge q t.size with h | h
        · exact h
        · exfalso
          have h0 : restB t q = [] := List.eq_nil_of_length_eq_zero (by rw [rest_len]; omega)
          rw [h0] at h34
          exact absurd h34 (by decide)
      have HC := Lib.hid (show cellR (restB t q) = quotedG [] (restB t (q + 1)) by unfold cellR; rw [if_pos h34, rest_drop])
      have H34 := Lib.hid h34
      have HPQ := Lib.hid (place_of hq)
      clear h34
      go_wp2_with fail
      refine (pass_yes t ⟨#[34]⟩ q rb _ HRD.out hq ht (by decide) H34.out).mono ?_; rintro e w2 ⟨rfl, hto2⟩
      have HTO2 := Lib.hid (HTO.out.trans hto2)
      have HO2 := Lib.hid (own_to hto2 HO.out hrl)
      have HRD2 := Lib.hid (HTO2.out.place HR.out)
      have hz2 := HTO2.out.size
      have hrl2 := HRD2.out.lt
      obtain ⟨Q, hQ⟩ : ∃ Q, Q = quotedG [] (restB t (q + 1)) := ⟨_, rfl⟩
      have HQ := Lib.hid hQ
      rw [← hQ] at HC
      clear hto2 hQ
      go_wp2_with fail
      obtain ⟨W, hW⟩ : ∃ W, W = w2 := ⟨_, rfl⟩
      rw [← hW] at HTO2 HO2 HRD2 hz2 hrl2 ⊢
      clear hW
      obtain ⟨B, hB⟩ : ∃ B, B = W.heap.size := ⟨_, rfl⟩
      have HB := Lib.hid hB
      go_loopg [4, 6] (t.size + 1) (fun gi v4 v wx => ∃ (c : List UInt8) (vb : Option Addr) (cb x : Nat), v4 = .slice va n cp ∧ v = .slice vb c.length cb ∧ wx.ownsRow B 5 1 (.slice vb c.length cb) c.length (bytesC c) ∧ ReadTo rb W wx x ∧ x ≤ t.size ∧ quotedG c (restB t x) = Q ∧ c.length + (restB t x).length ≤ t.size ∧ (restB t x).length < gi)
      case atStart => exact ⟨[], none, 0, q + 1, rfl, rfl, World.ownsRow_nil _ _ _ _, ReadTo.stay HRD2.out, hqt, HQ.out.symm, by rw [rest_len]; simp, by rw [rest_len]; omega⟩
      case round =>
        obtain ⟨c, vb, cb, x, rfl, rfl, hoc, htx, hx, hqx, hcl, hlx⟩ := hrel
        obtain ⟨gi, rfl⟩ : ∃ gi, gk = gi + 1 := ⟨gk - 1, by omega⟩
        have HOC := Lib.hid hoc
        have HTX := Lib.hid htx
        have HQX := Lib.hid hqx
        have HRX := Lib.hid (htx.place HRD2.out)
        have e0 := HRX.out.c0
        have e1 := HRX.out.c1
        have e2 := HRX.out.f1
        have hzx := htx.size
        have hrx := HRX.out.lt
        have hlx2 := rest_len t x
        have hc2 : c.length ≤ 65536 := by omega
        obtain ⟨m, hm⟩ : ∃ m, m = c.length := ⟨_, rfl⟩
        rw [← hm] at HOC hcl hc2 ⊢
        have HM := Lib.hid hm
        have x0 : (0 : Int) ≤ (x : Int) := by omega
        clear hoc htx hqx hm
        by_cases hxt : x < t.size
        · have x1 : (x : Int) < (t.size : Int) := by omega
          go_wp2_with fail
          go_region_held3 (fun w' => w'.cell? ⟨rb, 0, none⟩ = some (.string t) ∧ w'.cell? ⟨rb, 1, none⟩ = some (.int .i64 x)) (go_keep) (fail)
          all_goals
            go_wp2_with fail
            have HRY := Lib.hid (HRX.out.below (Below.refl wr.heap.size wr).drew)
            have HTY := Lib.hid (HTX.out.below (Below.refl wr.heap.size wr).drew)
            have HOY := Lib.hid (owns_below HOC.out (Below.refl wr.heap.size wr).drew)
            obtain ⟨V, hV⟩ : ∃ V, V = wr.drew := ⟨_, rfl⟩
            rw [← hV] at HRY HTY HOY ⊢
            clear hV e0 e1 e2
            cases hdd : Lib.hasPrefix (restB t x) [34, 34]
            · have HDD := Lib.hid hdd
              refine (pass_no t ⟨#[34, 34]⟩ x rb _ HRY.out hx HDD.out).mono ?_; rintro e w3 ⟨rfl, hb3⟩
              have HR3 := Lib.hid (HRY.out.below hb3)
              have HT3 := Lib.hid (HTY.out.below hb3)
              have HO3 := Lib.hid (owns_below HOY.out hb3)
              clear hb3
              go_wp2_with fail
              cases hsq : Lib.hasPrefix (restB t x) [34]
              · have HSQ := Lib.hid hsq
                clear hdd hsq
                refine (pass_no t ⟨#[34]⟩ x rb _ HR3.out hx HSQ.out).mono ?_; rintro e w4 ⟨rfl, hb4⟩
                have HR4 := Lib.hid (HR3.out.below hb4)
                have HT4 := Lib.hid (HT3.out.below hb4)
                have HO4 := Lib.hid (owns_below HO3.out hb4)
                clear hb4
                have f0 := HR4.out.c0
                have f1 := HR4.out.c1
                obtain ⟨b, hb⟩ : ∃ b : UInt8, t[x]'hxt = b := ⟨_, rfl⟩
                have hz4 : B ≤ w4.heap.size := by rw [HB.out]; exact HT4.out.size
                have hbq : ¬ b = 34 := by
                  intro h
                  have h1 := HSQ.out
                  rw [rest_cons hxt, hb, h] at h1
                  exact absurd h1 (by simp [Lib.hasPrefix, List.isPrefixOf])
                have HQ4 := Lib.hid (show quotedG (c ++ [b]) (restB t (x + 1)) = Q by rw [← HQX.out, rest_cons hxt, hb, quoted_byte hbq])
                have hbu := b.toNat_lt
                clear hbq
                go_wp2_with fail
                go_region_law (first
                  | (refine step_append_lies _ (by rfl) _ _ _ (by rfl) B 5 i0 _ 1 1 Tryd.underlying55 hi0 iz0 iz1 iz2 rfl (by omega) (.slice vb m cb) m (bytesC c) (by rfl) (by first | exact HO4.out.alloc _ | exact (HO4.out.alloc _).drew) ⟨_, 0, none⟩ 1 1 [.int .u8 (b.toNat : Int)] (by rfl) (by rfl) (World.news_of_block (cs := #[.int .u8 (b.toNat : Int)]) (t := 5) (fr := (0, 0)) (heap_alloc_new _ _)) (by simp [Value.oneCell']) (by omega) (by unfold maxLen; omega) (by omega) (by simp; omega) _ rfl ?_; intro g2 cap2 w7 hown7 hgrow7 hat7 hlt7))
                all_goals
                  have HT7 := Lib.hid (ReadTo.grown (HT4.out.below (by first | exact (Below.refl _ w4).alloc (Nat.le_refl _) _ | exact ((Below.refl _ w4).alloc (Nat.le_refl _) _).drew)) hgrow7 (fun k hk => by rw [← HB.out]; exact ownBlock_lo HO4.out k hk))
                  have HR7 := Lib.hid (HT7.out.place HRD2.out)
                  have k1 := HR7.out.c1
                  have k2 := HR7.out.f1
                  have HO7 := Lib.hid (show w7.ownsRow B 5 1 (.slice (some ⟨g2, 0, none⟩) (m + 1) cap2) (m + 1) (bytesC (c ++ [b])) by rw [bytesC_append]; exact hown7)
                  clear hown7 hgrow7 hat7 hlt7
                  go_wp2_with fail
                  have e : (c ++ [b]).length = m + 1 := by rw [List.length_append, HM.out]; rfl
                  have h1 := rest_len t (x + 1)
                  go_roundg gi
                  case rel => exact ⟨c ++ [b], some ⟨g2, 0, none⟩, cap2, x + 1, rfl, by rw [e], by rw [e]; exact own_to (ReadTo.of (rb := rb) (q := x + 1) (Below.refl _ _)) HO7.out (by omega), HT7.out.trans (ReadTo.of (rb := rb) (q := x + 1) (Below.refl _ _)), by omega, HQ4.out, by omega, by omega⟩
                  case measure => omega
              · have HSQ := Lib.hid hsq
                have HQE := Lib.hid (show Q = some (c, restB t (x + 1)) by rw [← HQX.out, quoted_end hsq hdd, rest_drop])
                clear hdd hsq
                refine (pass_yes t ⟨#[34]⟩ x rb _ HR3.out hx ht (by decide) HSQ.out).mono ?_; rintro e w4 ⟨rfl, hto4⟩
                have HT4 := Lib.hid (HT3.out.trans hto4)
                have HO4 := Lib.hid (own_to hto4 HO3.out (by omega))
                have HTW := Lib.hid (HTO2.out.trans HT4.out)
                have HOW := Lib.hid (own_to HT4.out HO2.out hrl)
                have hz4 := HTW.out.size
                have hcv := HO4.out
                rw [HM.out] at hcv
                have hcv2 := conv_owned hcv
                rw [← HM.out] at hcv2
                obtain ⟨s, hs⟩ : ∃ s : ByteArray, s = ⟨c.toArray⟩ := ⟨_, rfl⟩
                rw [← hs] at hcv2
                have HS := Lib.hid hs
                clear hto4 hs hcv
                go_wp2_with (at_builtin; go_must (refine wpList_append_lies _ (by rfl) _ _ _ (by rfl) w.heap.size 9 s0 _ 1 16 Tryd.underlying28 hs0 hy0 hy1 hy2 rfl (by omega) (.slice va n cp) n (strC acc) (by rfl) (HOW.out.alloc _) ⟨_, 0, none⟩ 1 1 [.string s] (by rfl) (by rfl) (World.news_of_block (cs := #[.string s]) (t := 9) (fr := (0, 0)) (heap_alloc_new _ _)) (by simp [Value.oneCell']) (by omega) (by unfold maxLen; omega) (by omega) (by simp; omega) _ rfl ?_; intro g2 cap2 w7 hown7 hgrow7 hat7 hlt7))
                have HTO7 := Lib.hid ((HTW.out.below ((Below.refl _ w4).alloc (Nat.le_refl _) (Obj.cells #[Value.string s] 9))).grown hgrow7 (ownBlock_lo HOW.out))
                have HO7 := Lib.hid (show w7.ownsRow w.heap.size 9 1 (.slice (some ⟨g2, 0, none⟩) (n + 1) cap2) (n + 1) (strC (acc ++ [c])) by rw [strC_snoc, ← HS.out]; exact hown7)
                have HRD7 := Lib.hid (HTO7.out.place HR.out)
                clear hown7 hgrow7 hat7 hlt7 hcv2
                have e : (acc ++ [c]).length = n + 1 := by rw [List.length_append, HN.out]; rfl
                cases h44 : Lib.hasPrefix (restB t (x + 1)) [44]
                · have HF := Lib.hid (show R = (acc ++ [c], endR (restB t (x + 1))) by rw [← HROW.out, rowR_last (HC.out.trans HQE.out) h44])
                  have H44 := Lib.hid h44
                  clear h44
                  refine (pass_no t ⟨#[44]⟩ (x + 1) rb _ HRD7.out hxt H44.out).mono ?_; rintro e w8 ⟨rfl, hb8⟩
                  have HTO8 := Lib.hid (HTO7.out.below hb8)
                  have HO8 := Lib.hid (owns_below HO7.out hb8)
                  clear hb8
                  go_wp2_with fail
                  refine (end_any t (x + 1) rb _ (HTO8.out.place HR.out) hxt ht).mono ?_; rintro e w9 ⟨rfl, hto9⟩
                  have HTO9 := Lib.hid (HTO8.out.trans hto9)
                  have HO9 := Lib.hid (own_to hto9 HO8.out hrl)
                  clear hto9
                  go_wp2_with fail
                  rw [Exit.noGoto_ret]
                  go_ret2
                  rw [HF.out]
                  have e : (acc ++ [c]).length = n + 1 := by rw [List.length_append, HN.out]; rfl
                  exact ⟨some ⟨g2, 0, none⟩, cap2, by rw [e]; rfl, by rw [e]; exact HO9.out, HTO9.out⟩
                · have HQ3 := Lib.hid (show R = rowR (acc ++ [c]) (restB t (x + 1 + 1)) by rw [← HROW.out, rowR_more (HC.out.trans HQE.out) h44, rest_drop])
                  have H44 := Lib.hid h44
                  have hlt : x + 1 < t.size := by
                    rcases Nat.lt_or_ge (x + 1) t.size with h | h
                    · exact h
                    · exfalso
                      have h0 : restB t (x + 1) = [] := List.eq_nil_of_length_eq_zero (by rw [rest_len]; omega)
                      rw [h0] at h44
                      exact absurd h44 (by decide)
                  clear h44
                  refine (pass_yes t ⟨#[44]⟩ (x + 1) rb _ HRD7.out hxt ht (by decide) H44.out).mono ?_; rintro e w8 ⟨rfl, hto8⟩
                  have HTO8 := Lib.hid (HTO7.out.trans hto8)
                  have HO8 := Lib.hid (own_to hto8 HO7.out hrl)
                  clear hto8
                  go_wp2_with fail
                  have h1 := rest_len t (x + 1 + 1)
                  have hsf : restB t (x + 1) <:+ restB t (q + 1) := quoted_suffix _ _ (HQ.out.symm.trans HQE.out)
                  have hsl := hsf.length_le
                  rw [rest_len, rest_len] at hsl
                  have e : (acc ++ [c]).length = n + 1 := by rw [List.length_append, HN.out]; rfl
                  go_roundg g
                  case rel => exact ⟨acc ++ [c], some ⟨g2, 0, none⟩, cap2, x + 1 + 1, by rw [e], by rw [e]; exact HO8.out, HTO8.out, by omega, HQ3.out.symm, by omega, by omega⟩
                  case measure => omega
            · have HDD := Lib.hid hdd
              have hlt2 : x + 2 ≤ t.size := by
                have h := (List.isPrefixOf_iff_prefix.1 hdd).length_le
                rw [hlx2] at h
                simp at h
                omega
              have HQ2 := Lib.hid (show quotedG (c ++ [34]) (restB t (x + 2)) = Q by
                obtain ⟨r, hr⟩ := List.isPrefixOf_iff_prefix.1 hdd
                rw [← HQX.out, ← rest_drop, ← hr]
                simp only [List.cons_append, List.nil_append, List.drop_succ_cons, List.drop_zero]
                rw [quoted_two])
              clear hdd
              refine (pass_yes t ⟨#[34, 34]⟩ x rb _ HRY.out hx ht (by decide) HDD.out).mono ?_; rintro e w3 ⟨rfl, hto3⟩
              have HT3 := Lib.hid (HTY.out.trans hto3)
              have HO3 := Lib.hid (own_to hto3 HOY.out (by omega))
              have hz3 : B ≤ w3.heap.size := by rw [HB.out]; exact HT3.out.size
              clear hto3
              go_wp2_with (at_builtin; go_must (refine Lib.wpList_append_own_string _ (by rfl) _ _ _ _ (by rfl) B 5 i0 Tryd.underlying55 Tryd.underlying9 hi0 iz0 iz1 iz2 (.slice vb m cb) m (bytesC c) (by rfl) HO3.out ⟨#[34]⟩ (by rfl) (by unfold maxLen; rw [quote_size]; omega) (by rw [quote_size]; omega) hz3 ?_; intro v7 w7 hown7 hgrow7 hnil7))
              have HT7 := Lib.hid (HT3.out.grown hgrow7 (fun k hk => by rw [← HB.out]; exact ownBlock_lo HO3.out k hk))
              have e : (c ++ [34]).length = m + 1 := by rw [List.length_append, HM.out]; rfl
              obtain ⟨vd, cd, hvd⟩ := owned_form hown7
              have HO7 := Lib.hid (show w7.ownsRow B 5 1 (.slice vd (c ++ [34]).length cd) (c ++ [34]).length (bytesC (c ++ [34])) by
                rw [bytesC_append, e]
                rw [hvd] at hown7
                exact hown7)
              have HV7 := Lib.hid (show v7 = .slice vd (c ++ [34]).length cd by rw [e]; exact hvd)
              have h1 := rest_len t (x + 2)
              clear hown7 hgrow7 hnil7 hvd
              go_roundg gi
              case rel => exact ⟨c ++ [34], vd, cd, x + 2, rfl, HV7.out, HO7.out, HT7.out, hlt2, HQ2.out, by omega, by omega⟩
              case measure => omega
        · go_wp2_with fail
          go_region_held3 (fun w' => w'.cell? ⟨rb, 0, none⟩ = some (.string t) ∧ w'.cell? ⟨rb, 1, none⟩ = some (.int .i64 x)) (go_keep) (fail)
          all_goals
            go_wp2_with fail
            rw [Exit.noGoto_ret]
            go_ret2
            have h0 : restB t x = [] := List.eq_nil_of_length_eq_zero (by omega)
            have hQn : Q = none := by rw [← HQX.out, h0, quotedG]
            have HF : R = ([], restB t q, 40) := by rw [← HROW.out, rowR_quote (by rw [HC.out, hQn])]
            rw [HF]
            simp only
            rw [HPQ.out]
            exact ⟨none, 0, rfl, World.ownsRow_nil _ _ _ _, ((HTO2.out.trans HTX.out).below (Below.refl _ _).drew).trans (ReadTo.of (Below.refl _ _))⟩
end Go.Proofs.YtdkddnlolnbpgaaDoor
