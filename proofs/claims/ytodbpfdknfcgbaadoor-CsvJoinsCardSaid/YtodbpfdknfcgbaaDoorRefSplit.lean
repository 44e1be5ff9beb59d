/- The document's own Split. -/
import Derived.Test.YtodbpfdknfcgbaaDoorSheet
namespace Go.Proofs.YtodbpfdknfcgbaaDoor
open Go Go.RowKit

/-- What the document's reader answers, of a text that is not too long. -/
theorem ref_all {t : List UInt8} (h : ¬ 65536 < t.length) : refR ⟨[], [], [], 0, 0⟩ 0 t = ((SplitR t).1, (AtR t).toNat, (SplitR t).2.2) ∧ 0 ≤ AtR t := by
  rw [ref_split _ [] t 0 0 (Nat.le_refl _)]
  unfold AtR
  rw [SplitR_short h]
  have h2 := splitR_two t
  by_cases h0 : (splitR [] t).2.2 = 0
  · rw [if_pos h0, if_pos (Or.inl h0)]
    exact ⟨rfl, Int.le_refl _⟩
  · rw [if_neg h0, if_neg (by rintro (h | h); exact h0 h; exact h2 h)]
    exact ⟨by simp, by omega⟩

theorem sheet_new (w : World) : Sh w.heap.size (w.alloc (Obj.cells #[Value.slice none 0 0, Value.slice none 0 0, Value.slice none 0 0, Value.int .i64 0] TS)) w.heap.size [] (.slice none 0 0) [] (.slice none 0 0) [] (.slice none 0 0) 0 :=
  ⟨heap_alloc_new _ _, Nat.le_refl _, World.ownsRow_nil _ _ _ _, World.ownsRow_nil _ _ _ _, World.ownsRow_nil _ _ _ _, by simp⟩
/-- What the document's Split hands out, to be read. -/
theorem sh_rows {B b co : Nat} {w : World} {acc : List RowX} {vo : Option Addr} {v1 v2 : Value} {row : List (List UInt8)} {cell : List UInt8} {st : Nat} (h : Sh B w b acc (.slice vo acc.length co) row v1 cell v2 st) : RowsIn w.heap.size w vo acc ∧ acc.length ≤ co ∧ co ≤ maxLen ∧ ∀ x ∈ acc, x.c.length ≤ maxLen :=
  have h1 := rows_in h.o0 h.rows
  ⟨h1.1, h1.2.1, h1.2.2, fun x hx => (strs_in (h.rows x hx)).2⟩

set_option maxHeartbeats 16000000 in
set_option maxRecDepth 100000 in
theorem refSplit_any (t : ByteArray) (w : World) (ht : t.size ≤ 65536) :
    Calls Tryd.prog 12 #[.string t] w fun e w' => (∃ (l : List RowX) (va : Option Addr) (cap at' : Nat) (f : Int), e = .returned (.tuple #[.slice va l.length cap, .int .i64 at', .int .i64 f]) ∧ (cellsOf l, at', f) = refR ⟨[], [], [], 0, 0⟩ 0 t.data.toList ∧ RowsIn w'.heap.size w' va l ∧ l.length ≤ cap ∧ cap ≤ maxLen ∧ ∀ x ∈ l, x.c.length ≤ maxLen) ∧ Below w.heap.size w w' := by
  obtain ⟨i0, hi0, iz0, iz1, iz2⟩ := info_parts Tryd.infoU8
  have hq : ¬ (65536 : Int) < (t.size : Int) := by omega
  obtain ⟨R, hR⟩ : ∃ R, R = refR ⟨[], [], [], 0, 0⟩ 0 t.data.toList := ⟨_, rfl⟩
  rw [← hR]
  have HRR := Lib.hid hR
  obtain ⟨W0, hW0⟩ : ∃ W0, W0 = w.alloc (Obj.cells #[Value.slice none 0 0, Value.slice none 0 0, Value.slice none 0 0, Value.int .i64 0] TS) := ⟨_, rfl⟩
  have HB0 := Lib.hid (show Below w.heap.size w W0 by rw [hW0]; exact (Below.refl _ _).alloc (Nat.le_refl _) _)
  have HS0 := Lib.hid (show Sh w.heap.size W0 w.heap.size [] (.slice none 0 0) [] (.slice none 0 0) [] (.slice none 0 0) 0 by rw [hW0]; exact sheet_new w)
  have HW0 := Lib.hid hW0
  clear hR hW0
  go_enter Tryd.func12, Tryd.ntmps12
  go_wp2_with fail
  rw [← HW0.out]
  go_loopw [6, 7] (fun o i wr => ∃ (k op st : Nat) (acc : List RowX) (vo : Option Addr) (co : Nat) (row : List (List UInt8)) (va : Option Addr) (ca : Nat) (d : List UInt8) (vb : Option Addr) (cb : Nat), k ≤ t.size ∧ i = .int .i64 k ∧ o = .int .i64 op ∧ Sh w.heap.size wr w.heap.size acc (.slice vo acc.length co) row (.slice va row.length ca) d (.slice vb d.length cb) st ∧ refR ⟨cellsOf acc, row, d, st, op⟩ k (restB t k) = R ∧ Below w.heap.size w wr ∧ acc.length ≤ 2 * k ∧ row.length ≤ k ∧ d.length ≤ k ∧ st ≤ 3) (fun _ i _ => t.size - (intOf i).toNat)
  case atStart => exact ⟨0, 0, 0, [], none, 0, [], none, 0, [], none, 0, Nat.zero_le _, rfl, rfl, HS0.out, HRR.out.symm, HB0.out, by simp, by simp, by simp, by omega⟩
  case round =>
    obtain ⟨k, op, st, acc, vo, co, row, va, ca, d, vb, cb, hk, rfl, rfl, hsh, hre, hbel, hal, hrl, hdl, hst⟩ := hrel
    obtain ⟨c0, c1, c2, c3, f0, f1, f2, f3⟩ := hsh.four.cells
    have HSH' := Lib.hid hsh
    have HRE := Lib.hid hre
    have HBE := Lib.hid hbel
    have hzw := hbel.size
    have hbl := hsh.four.lt
    have HCB' := Lib.hid (four_owns hsh.four hsh.o2 (by decide))
    have HO2' := Lib.hid hsh.o2
    obtain ⟨m, hm⟩ : ∃ m, m = d.length := ⟨_, rfl⟩
    have HM := Lib.hid hm
    have HSH := HSH'
    have HCB := HCB'
    have HO2 := HO2'
    rw [← hm] at c2 HSH HCB HO2 hdl
    clear hsh hre hbel hm
    by_cases hlt : k < t.size
    · obtain ⟨x, hx⟩ : ∃ x : UInt8, t[k]'hlt = x := ⟨_, rfl⟩
      have HRC := Lib.hid (show restB t k = x :: restB t (k + 1) by rw [rest_cons hlt, hx])
      have hxu := x.toNat_lt
      have k0' : (0 : Int) ≤ (k : Int) := by omega
      have k1' : (k : Int) < (t.size : Int) := by omega
      by_cases h2 : st = 2
      · subst h2
        by_cases hx34 : x = 34
        · have hq34 : ((x.toNat : Int) == 34) = true := by rw [hx34]; rfl
          have HN := Lib.hid (show refR ⟨cellsOf acc, row, d, 3, op⟩ (k + 1) (restB t (k + 1)) = R by rw [← HRE.out, HRC.out, hx34]; simp only [refR, if_true])
          clear hx34
          go_wp2_with fail
          go_roundw
          case rel => exact ⟨k + 1, op, 3, acc, vo, co, row, va, ca, d, vb, cb, by omega, by go_num, rfl, HSH'.out.setSt 3, HN.out, HBE.out.setCell (Nat.le_refl _) _, by omega, by omega, by have := HM.out; omega, by omega⟩
          case measure => simp [intOf]; omega
        · have hq34 : ((x.toNat : Int) == 34) = false := beq_eq_false_iff_ne.2 (by intro h; apply hx34; apply UInt8.toNat_inj.1; simp; omega)
          have HN := Lib.hid (show refR ⟨cellsOf acc, row, d ++ [x], 2, op⟩ (k + 1) (restB t (k + 1)) = R by
            rw [← HRE.out, HRC.out]
            conv => rhs; unfold refR
            simp only [if_true, if_neg hx34])
          clear hx34
          go_wp2_with (at_builtin; go_must (refine wpList_append_lies _ (by rfl) _ _ _ (by rfl) w.heap.size 5 i0 _ 1 1 Tryd.underlying58 hi0 iz0 iz1 iz2 rfl (by omega) (.slice vb m cb) m (bytesC d) (by rfl) (HO2.out.alloc _) ⟨_, 0, none⟩ 1 1 [.int .u8 (x.toNat : Int)] (by rfl) (by rfl) (World.news_of_block (cs := #[.int .u8 (x.toNat : Int)]) (t := 5) (fr := (0, 0)) (heap_alloc_new _ _)) (by simp [Value.oneCell']) (by omega) (by unfold maxLen; omega) (by omega) (by simp; omega) _ rfl ?_; intro g2 cap2 w7 hown7 hgrow7 hat7 hlt7; have hF7 := (HSH.out.four.below ((Below.refl _ wr).alloc (Nat.le_refl _) (Obj.cells #[.int .u8 (x.toNat : Int)] 5))).kept hgrow7 HCB.out.symm; obtain ⟨k0, k1, k2, k3, e0, e1, e2, e3⟩ := hF7.cells))
          have hg := grownBy_trans (grownBy_of_below ((Below.refl _ wr).alloc (Nat.le_refl _) (Obj.cells #[.int .u8 (x.toNat : Int)] 5)) (Value.slice vb m cb).ownBlock) hgrow7 (Or.inl rfl)
          have HS7 := Lib.hid (HSH.out.cellGrown (v2' := .slice (some ⟨g2, 0, none⟩) (m + 1) cap2) (cell' := d ++ [x]) hg (by rw [bytesC_append, List.length_append, ← HM.out]; exact hown7))
          have HB7 := Lib.hid ((HBE.out.grown hg hzw (ownBlock_lo HO2.out)).setCell (p := ⟨w.heap.size, 2, none⟩) (Nat.le_refl _) (.slice (some ⟨g2, 0, none⟩) (m + 1) cap2))
          have hlen : (d ++ [x]).length = m + 1 := by rw [List.length_append, ← HM.out]; rfl
          clear hown7 hgrow7 hat7 hlt7 hF7 hg
          go_roundw
          case rel => exact ⟨k + 1, op, 2, acc, vo, co, row, va, ca, d ++ [x], some ⟨g2, 0, none⟩, cap2, by omega, by go_num, rfl, by rw [hlen]; exact HS7.out, HN.out, HB7.out, by omega, by omega, by omega, by omega⟩
          case measure => simp [intOf]; omega
      · have hst2 : ((st : Int) == 2) = false := beq_eq_false_iff_ne.2 (by omega)
        by_cases hx44 : x = 44
        · have hq44 : ((x.toNat : Int) == 44) = true := by rw [hx44]; rfl
          have HEC := Lib.hid (endCell_any w.heap.size w.heap.size acc _ row va ca d vb cb st wr HSH'.out hzw (by omega))
          by_cases hend : k + 1 = t.size
          · have hqe : ((k : Int) + 1 == (t.size : Int)) = true := by rw [beq_iff_eq]; omega
            have HN := Lib.hid (show refR ⟨cellsOf acc ++ [row ++ [d] ++ [[]]], [], [], 0, op⟩ (k + 1) (restB t (k + 1)) = R by
              rw [← HRE.out, HRC.out, hx44]
              have hr : restB t (k + 1) = [] := List.eq_nil_of_length_eq_zero (by rw [rest_len]; omega)
              conv => rhs; unfold refR
              simp only [if_neg h2, hr, if_true, St.endCell, St.endRow])
            have HEND := Lib.hid hend
            clear hx44 hend
            go_wp2_with fail
            refine HEC.out.mono ?_; rintro en w4 ⟨rfl, hb4, va4, ca4, h4⟩
            have hz4 := hb4.size
            have HB4 := Lib.hid (HBE.out.trans hb4)
            have HER := Lib.hid (endRow_any w.heap.size w.heap.size acc vo co (row ++ [d]) va4 ca4 [] none 0 0 w4 (by rw [List.length_append]; exact h4) (by omega) (by rw [List.length_append]; simp; omega) (by omega))
            clear hb4 h4
            go_wp2_with fail
            refine HER.out.mono ?_; rintro en w5 ⟨rfl, hb5, vg5, cg5, vo5, co5, h5⟩
            have HB5 := Lib.hid (HB4.out.trans hb5)
            have HS5 := Lib.hid h5
            clear hb5 h5
            go_wp2_with fail
            have hend := HEND.out
            go_roundw
            case rel => exact ⟨k + 1, op, 0, acc ++ [⟨row ++ [d] ++ [[]], some ⟨vg5, 0, none⟩, cg5⟩], vo5, co5, [], none, 0, [], none, 0, by omega, by go_num, rfl, by rw [List.length_append]; exact HS5.out, by rw [cellsOf_snoc]; exact HN.out, HB5.out, by rw [List.length_append]; simp; omega, by simp, by simp, by omega⟩
            case measure => simp [intOf]; omega
          · have hqe : ((k : Int) + 1 == (t.size : Int)) = false := beq_eq_false_iff_ne.2 (by omega)
            have HN := Lib.hid (show refR ⟨cellsOf acc, row ++ [d], [], 0, op⟩ (k + 1) (restB t (k + 1)) = R by
              rw [← HRE.out, HRC.out, hx44]
              have hr : ¬ restB t (k + 1) = [] := by
                intro h
                have := rest_len t (k + 1)
                rw [h] at this
                simp at this
                omega
              conv => rhs; unfold refR
              simp only [if_neg h2, if_neg hr, if_true, St.endCell])
            clear hx44
            go_wp2_with fail
            refine HEC.out.mono ?_; rintro en w4 ⟨rfl, hb4, va4, ca4, h4⟩
            have HB4 := Lib.hid (HBE.out.trans hb4)
            have HS4 := Lib.hid h4
            clear hb4 h4
            go_wp2_with fail
            go_roundw
            case rel => exact ⟨k + 1, op, 0, acc, vo, co, row ++ [d], va4, ca4, [], none, 0, by omega, by go_num, rfl, by rw [List.length_append]; exact HS4.out, HN.out, HB4.out, by omega, by rw [List.length_append]; simp; omega, by simp, by omega⟩
            case measure => simp [intOf]; omega
        · have hq44 : ((x.toNat : Int) == 44) = false := beq_eq_false_iff_ne.2 (by intro h; apply hx44; apply UInt8.toNat_inj.1; simp; omega)
          by_cases hx10 : x = 10
          · have hq10 : ((x.toNat : Int) == 10) = true := by rw [hx10]; rfl
            have HER := Lib.hid (endRow_any w.heap.size w.heap.size acc vo co row va ca d vb cb st wr HSH'.out hzw (by omega) (by omega))
            have HN := Lib.hid (show refR ⟨cellsOf acc ++ [row ++ [d]], [], [], 0, op⟩ (k + 1) (restB t (k + 1)) = R by
              rw [← HRE.out, HRC.out, hx10]
              conv => rhs; unfold refR
              simp only [if_neg h2, show ¬ (10 : UInt8) = 44 by decide, if_false, if_true, St.endRow])
            clear hx10 hx44
            go_wp2_with fail
            refine HER.out.mono ?_; rintro en w5 ⟨rfl, hb5, vg5, cg5, vo5, co5, h5⟩
            have HB5 := Lib.hid (HBE.out.trans hb5)
            have HS5 := Lib.hid h5
            clear hb5 h5
            go_wp2_with fail
            go_roundw
            case rel => exact ⟨k + 1, op, 0, acc ++ [⟨row ++ [d], some ⟨vg5, 0, none⟩, cg5⟩], vo5, co5, [], none, 0, [], none, 0, by omega, by go_num, rfl, by rw [List.length_append]; exact HS5.out, by rw [cellsOf_snoc]; exact HN.out, HB5.out, by rw [List.length_append]; simp; omega, by simp, by simp, by omega⟩
            case measure => simp [intOf]; omega
          · have hq10 : ((x.toNat : Int) == 10) = false := beq_eq_false_iff_ne.2 (by intro h; apply hx10; apply UInt8.toNat_inj.1; simp; omega)
            by_cases hx13 : x = 13
            · have hq13 : ((x.toNat : Int) == 13) = true := by rw [hx13]; rfl
              by_cases hend : k + 1 = t.size
              · have hqe : ((k : Int) + 1 == (t.size : Int)) = true := by rw [beq_iff_eq]; omega
                have HF := Lib.hid (show (([] : List (List (List UInt8))), k, (41 : Int)) = R by
                  rw [← HRE.out, HRC.out, hx13]
                  have hr : restB t (k + 1) = [] := List.eq_nil_of_length_eq_zero (by rw [rest_len]; omega)
                  simp [refR, h2, hr])
                clear hx13 hx10 hx44 hend
                go_wp2_with fail
                go_ret3
                exact ⟨⟨[], none, 0, k, 41, rfl, HF.out, Or.inl rfl, Nat.zero_le _, by unfold maxLen; omega, by simp⟩, HBE.out⟩
              · have hqe : ((k : Int) + 1 == (t.size : Int)) = false := beq_eq_false_iff_ne.2 (by omega)
                have hlt2 : k + 1 < t.size := by omega
                obtain ⟨y, hy⟩ : ∃ y : UInt8, t[k + 1]'hlt2 = y := ⟨_, rfl⟩
                have hyu := y.toNat_lt
                have hk1 : (k : Int) + 1 < (t.size : Int) := by omega
                have hk2 : (0 : Int) ≤ (k : Int) + 1 := by omega
                have HRD := Lib.hid (show restB t (k + 1) = y :: restB t (k + 1 + 1) by rw [rest_cons hlt2, hy])
                by_cases hy10 : y = 10
                · have hqy : ((y.toNat : Int) != 10) = false := by rw [hy10]; rfl
                  have HN := Lib.hid (show refR ⟨cellsOf acc, row, d, st, op⟩ (k + 1) (restB t (k + 1)) = R by
                    rw [← HRE.out, HRC.out, hx13, HRD.out, hy10]
                    conv => rhs; unfold refR
                    simp only [if_neg h2, show ¬ (13 : UInt8) = 44 by decide, show ¬ (13 : UInt8) = 10 by decide, if_false, if_true, List.head?_cons])
                  clear hx13 hx10 hx44 hend hy10
                  go_wp2_with fail
                  go_roundw
                  case rel => exact ⟨k + 1, op, st, acc, vo, co, row, va, ca, d, vb, cb, by omega, by go_num, rfl, HSH'.out, HN.out, HBE.out, by omega, by omega, by have := HM.out; omega, by omega⟩
                  case measure => simp [intOf]; omega
                · have hqy : ((y.toNat : Int) != 10) = true := by
                    rw [bne_iff_ne]
                    intro h
                    apply hy10
                    apply UInt8.toNat_inj.1
                    simp
                    omega
                  have HF := Lib.hid (show (([] : List (List (List UInt8))), k, (41 : Int)) = R by
                    rw [← HRE.out, HRC.out, hx13, HRD.out]
                    simp [refR, h2, hy10])
                  clear hx13 hx10 hx44 hend hy10
                  go_wp2_with fail
                  go_ret3
                  exact ⟨⟨[], none, 0, k, 41, rfl, HF.out, Or.inl rfl, Nat.zero_le _, by unfold maxLen; omega, by simp⟩, HBE.out⟩
            · have hq13 : ((x.toNat : Int) == 13) = false := beq_eq_false_iff_ne.2 (by intro h; apply hx13; apply UInt8.toNat_inj.1; simp; omega)
              by_cases hx34 : x = 34
              · have hq34 : ((x.toNat : Int) == 34) = true := by rw [hx34]; rfl
                by_cases hs0 : st = 0
                · subst hs0
                  have HN := Lib.hid (show refR ⟨cellsOf acc, row, d, 2, k⟩ (k + 1) (restB t (k + 1)) = R by
                    rw [← HRE.out, HRC.out, hx34]
                    conv => rhs; unfold refR
                    simp only [show ¬ (0 : Nat) = 2 by decide, show ¬ (34 : UInt8) = 44 by decide, show ¬ (34 : UInt8) = 10 by decide, show ¬ (34 : UInt8) = 13 by decide, if_false, if_true])
                  clear hx34 hx13 hx10 hx44 h2
                  go_wp2_with fail
                  go_roundw
                  case rel => exact ⟨k + 1, k, 2, acc, vo, co, row, va, ca, d, vb, cb, by omega, by go_num, rfl, HSH'.out.setSt 2, HN.out, HBE.out.setCell (Nat.le_refl _) _, by omega, by omega, by have := HM.out; omega, by omega⟩
                  case measure => simp [intOf]; omega
                · have hst0 : ((st : Int) == 0) = false := beq_eq_false_iff_ne.2 (by omega)
                  by_cases hs3 : st = 3
                  · subst hs3
                    have HN := Lib.hid (show refR ⟨cellsOf acc, row, d ++ [34], 2, op⟩ (k + 1) (restB t (k + 1)) = R by
                      rw [← HRE.out, HRC.out, hx34]
                      conv => rhs; unfold refR
                      simp only [show ¬ (3 : Nat) = 2 by decide, show ¬ (3 : Nat) = 0 by decide, show ¬ (34 : UInt8) = 44 by decide, show ¬ (34 : UInt8) = 10 by decide, show ¬ (34 : UInt8) = 13 by decide, if_false, if_true])
                    clear hx34 hx13 hx10 hx44 h2 hs0
                    go_wp2_with (at_builtin; go_must (refine wpList_append_lies _ (by rfl) _ _ _ (by rfl) w.heap.size 5 i0 _ 1 1 Tryd.underlying58 hi0 iz0 iz1 iz2 rfl (by omega) (.slice vb m cb) m (bytesC d) (by rfl) (HO2.out.alloc _) ⟨_, 0, none⟩ 1 1 [.int .u8 34] (by rfl) (by rfl) (World.news_of_block (cs := #[.int .u8 34]) (t := 5) (fr := (0, 0)) (heap_alloc_new _ _)) (by simp [Value.oneCell']) (by omega) (by unfold maxLen; omega) (by omega) (by simp; omega) _ rfl ?_; intro g2 cap2 w7 hown7 hgrow7 hat7 hlt7; have hF7 := (HSH.out.four.below ((Below.refl _ wr).alloc (Nat.le_refl _) (Obj.cells #[.int .u8 34] 5))).kept hgrow7 HCB.out.symm; obtain ⟨k0, k1, k2, k3, e0, e1, e2, e3⟩ := hF7.cells))
                    have hg := grownBy_trans (grownBy_of_below ((Below.refl _ wr).alloc (Nat.le_refl _) (Obj.cells #[.int .u8 34] 5)) (Value.slice vb m cb).ownBlock) hgrow7 (Or.inl rfl)
                    have HS7 := Lib.hid (HSH.out.cellGrown (v2' := .slice (some ⟨g2, 0, none⟩) (m + 1) cap2) (cell' := d ++ [34]) hg (by rw [bytesC_append, List.length_append, ← HM.out]; exact hown7))
                    have HB7 := Lib.hid ((HBE.out.grown hg hzw (ownBlock_lo HO2.out)).setCell (p := ⟨w.heap.size, 2, none⟩) (Nat.le_refl _) (.slice (some ⟨g2, 0, none⟩) (m + 1) cap2))
                    have hlen : (d ++ [34]).length = m + 1 := by rw [List.length_append, ← HM.out]; rfl
                    clear hown7 hgrow7 hat7 hlt7 hF7 hg
                    go_roundw
                    case rel => exact ⟨k + 1, op, 2, acc, vo, co, row, va, ca, d ++ [34], some ⟨g2, 0, none⟩, cap2, by omega, by go_num, rfl, by rw [hlen]; exact HS7.out.setSt 2, HN.out, HB7.out.setCell (Nat.le_refl _) _, by omega, by omega, by omega, by omega⟩
                    case measure => simp [intOf]; omega
                  · have hst3 : ((st : Int) == 3) = false := beq_eq_false_iff_ne.2 (by omega)
                    have HF := Lib.hid (show (([] : List (List (List UInt8))), k, (40 : Int)) = R by
                      rw [← HRE.out, HRC.out, hx34]
                      simp [refR, h2, hs0, hs3])
                    clear hx34 hx13 hx10 hx44
                    go_wp2_with fail
                    go_ret3
                    exact ⟨⟨[], none, 0, k, 40, rfl, HF.out, Or.inl rfl, Nat.zero_le _, by unfold maxLen; omega, by simp⟩, HBE.out⟩
              · have hq34 : ((x.toNat : Int) == 34) = false := beq_eq_false_iff_ne.2 (by intro h; apply hx34; apply UInt8.toNat_inj.1; simp; omega)
                by_cases hs3 : st = 3
                · subst hs3
                  have HF := Lib.hid (show (([] : List (List (List UInt8))), k, (40 : Int)) = R by
                    rw [← HRE.out, HRC.out]
                    simp [refR, hx34, hx13, hx10, hx44])
                  clear hx34 hx13 hx10 hx44 h2
                  go_wp2_with fail
                  go_ret3
                  exact ⟨⟨[], none, 0, k, 40, rfl, HF.out, Or.inl rfl, Nat.zero_le _, by unfold maxLen; omega, by simp⟩, HBE.out⟩
                · have hst3 : ((st : Int) == 3) = false := beq_eq_false_iff_ne.2 (by omega)
                  have HN := Lib.hid (show refR ⟨cellsOf acc, row, d ++ [x], 1, op⟩ (k + 1) (restB t (k + 1)) = R by
                    rw [← HRE.out, HRC.out]
                    conv => rhs; unfold refR
                    simp only [if_neg h2, if_neg hx44, if_neg hx10, if_neg hx13, if_neg hx34, if_neg hs3])
                  clear hx34 hx13 hx10 hx44
                  go_wp2_with (at_builtin; go_must (refine wpList_append_lies _ (by rfl) _ _ _ (by rfl) w.heap.size 5 i0 _ 1 1 Tryd.underlying58 hi0 iz0 iz1 iz2 rfl (by omega) (.slice vb m cb) m (bytesC d) (by rfl) (HO2.out.alloc _) ⟨_, 0, none⟩ 1 1 [.int .u8 (x.toNat : Int)] (by rfl) (by rfl) (World.news_of_block (cs := #[.int .u8 (x.toNat : Int)]) (t := 5) (fr := (0, 0)) (heap_alloc_new _ _)) (by simp [Value.oneCell']) (by omega) (by unfold maxLen; omega) (by omega) (by simp; omega) _ rfl ?_; intro g2 cap2 w7 hown7 hgrow7 hat7 hlt7; have hF7 := (HSH.out.four.below ((Below.refl _ wr).alloc (Nat.le_refl _) (Obj.cells #[.int .u8 (x.toNat : Int)] 5))).kept hgrow7 HCB.out.symm; obtain ⟨k0, k1, k2, k3, e0, e1, e2, e3⟩ := hF7.cells))
                  have hg := grownBy_trans (grownBy_of_below ((Below.refl _ wr).alloc (Nat.le_refl _) (Obj.cells #[.int .u8 (x.toNat : Int)] 5)) (Value.slice vb m cb).ownBlock) hgrow7 (Or.inl rfl)
                  have HS7 := Lib.hid (HSH.out.cellGrown (v2' := .slice (some ⟨g2, 0, none⟩) (m + 1) cap2) (cell' := d ++ [x]) hg (by rw [bytesC_append, List.length_append, ← HM.out]; exact hown7))
                  have HB7 := Lib.hid ((HBE.out.grown hg hzw (ownBlock_lo HO2.out)).setCell (p := ⟨w.heap.size, 2, none⟩) (Nat.le_refl _) (.slice (some ⟨g2, 0, none⟩) (m + 1) cap2))
                  have hlen : (d ++ [x]).length = m + 1 := by rw [List.length_append, ← HM.out]; rfl
                  clear hown7 hgrow7 hat7 hlt7 hF7 hg
                  go_roundw
                  case rel => exact ⟨k + 1, op, 1, acc, vo, co, row, va, ca, d ++ [x], some ⟨g2, 0, none⟩, cap2, by omega, by go_num, rfl, by rw [hlen]; exact HS7.out.setSt 1, HN.out, HB7.out.setCell (Nat.le_refl _) _, by omega, by omega, by omega, by omega⟩
                  case measure => simp [intOf]; omega
    · have hr : restB t k = [] := List.eq_nil_of_length_eq_zero (by rw [rest_len]; omega)
      have hkt : k = t.size := by omega
      have HRN := Lib.hid (show refR ⟨cellsOf acc, row, d, st, op⟩ k [] = R by rw [← hr]; exact HRE.out)
      have hkb : k ≤ 65536 := by omega
      clear hkt hr
      by_cases h2 : st = 2
      · subst h2
        have HF := Lib.hid (show (([] : List (List (List UInt8))), op, (40 : Int)) = R by rw [← HRN.out]; simp [refR])
        go_wp2_with fail
        go_ret3
        exact ⟨⟨[], none, 0, op, 40, rfl, HF.out, Or.inl rfl, Nat.zero_le _, by unfold maxLen; omega, by simp⟩, HBE.out⟩
      · have hst2 : ((st : Int) == 2) = false := beq_eq_false_iff_ne.2 (by omega)
        by_cases hs0 : st = 0
        · subst hs0
          have HF := Lib.hid (show (cellsOf acc, (0 : Nat), (0 : Int)) = R by rw [← HRN.out]; simp [refR])
          clear h2
          go_wp2_with fail
          go_ret3
          obtain ⟨r1, r2, r3, r4⟩ := sh_rows HSH'.out
          exact ⟨⟨acc, vo, co, 0, 0, rfl, HF.out, r1, r2, r3, r4⟩, HBE.out⟩
        · have hst0 : ((st : Int) != 0) = true := by rw [bne_iff_ne]; omega
          have HER := Lib.hid (endRow_any w.heap.size w.heap.size acc vo co row va ca d vb cb st wr HSH'.out hzw (by omega) (by omega))
          have HF := Lib.hid (show (cellsOf acc ++ [row ++ [d]], (0 : Nat), (0 : Int)) = R by rw [← HRN.out]; simp [refR, h2, hs0, St.endRow])
          clear h2 hs0
          go_wp2_with fail
          refine HER.out.mono ?_; rintro en w5 ⟨rfl, hb5, vg5, cg5, vo5, co5, h5⟩
          obtain ⟨r1, r2, r3, r4⟩ := sh_rows (acc := acc ++ [⟨row ++ [d], some ⟨vg5, 0, none⟩, cg5⟩]) (vo := vo5) (co := co5) (by rw [List.length_append]; exact h5)
          have HB5 := Lib.hid (HBE.out.trans hb5)
          have HR1 := Lib.hid r1
          have HR4 := Lib.hid r4
          obtain ⟨d0, d1, d2, d3, e0, e1, e2, e3⟩ := h5.four.cells
          clear hb5 h5 r1 r4
          go_wp2_with fail
          go_ret3
          exact ⟨⟨acc ++ [⟨row ++ [d], some ⟨vg5, 0, none⟩, cg5⟩], vo5, co5, 0, 0, by rw [List.length_append]; rfl, by rw [cellsOf_snoc]; exact HF.out, HR1.out, r2, r3, HR4.out⟩, HB5.out⟩
end Go.Proofs.YtodbpfdknfcgbaaDoor
