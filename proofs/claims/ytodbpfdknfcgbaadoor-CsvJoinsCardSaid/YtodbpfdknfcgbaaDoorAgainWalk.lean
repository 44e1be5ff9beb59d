/- The walk of the law of reading again. -/
import Derived.Test.YtodbpfdknfcgbaaDoorBegun
namespace Go.Proofs.YtodbpfdknfcgbaaDoor
open Go Go.RowKit

/-- Split of any text. -/
def SplitR (t : List UInt8) : List (List (List UInt8)) × List UInt8 × Int := if 65536 < t.length then ([], [], 2) else splitR [] t
theorem SplitR_long {t : List UInt8} (h : 65536 < t.length) : SplitR t = ([], [], 2) := if_pos h
theorem SplitR_short {t : List UInt8} (h : ¬ 65536 < t.length) : SplitR t = splitR [] t := if_neg h
/-- The place that is told, of any text. -/
def AtR (t : List UInt8) : Int := if (SplitR t).2.2 = 0 ∨ (SplitR t).2.2 = 2 then 0 else ((t.length - (SplitR t).2.1.length : Nat) : Int)
theorem splitR_two (t : List UInt8) : (splitR [] t).2.2 ≠ 2 := by
  rcases split_err _ [] t (Nat.le_refl _) with ⟨h, _⟩ | ⟨h | h, _⟩ <;> rw [h] <;> decide
theorem SplitR_fit (t : List UInt8) : ∀ r ∈ (SplitR t).1, ∀ y ∈ r, y.length ≤ 65536 := by
  by_cases h : 65536 < t.length
  · rw [SplitR_long h]; intro r hr; cases hr
  · rw [SplitR_short h]
    exact split_fit 65536 _ [] t (Nat.le_refl _) (by omega) (by simp)

set_option maxHeartbeats 8000000 in
set_option maxRecDepth 100000 in
theorem split_all (t : ByteArray) (w : World) (ht : t.size ≤ 9223372036854775807) :
    Calls Tryd.prog 10 #[.string t] w fun e w' => (∃ (l : List RowX) (va : Option Addr) (cap : Nat), e = .returned (.tuple #[.slice va l.length cap, .int .i64 (AtR t.data.toList), .int .i64 (SplitR t.data.toList).2.2]) ∧ cellsOf l = (SplitR t.data.toList).1 ∧ w'.ownsRow w.heap.size 27 1 (.slice va l.length cap) l.length (rowsC l) ∧ ∀ x ∈ l, ROwn w.heap.size (fun g => (Value.slice va l.length cap).ownBlock = some g) w' x) ∧ Below w.heap.size w w' := by
  have hsz : t.data.toList.length = t.size := rfl
  by_cases h : 65536 < t.size
  · refine (split_long t w h ht).mono fun e w' ⟨h1, h2⟩ => ?_
    subst h2
    have hR := SplitR_long (t := t.data.toList) (by omega)
    refine ⟨⟨[], none, 0, ?_, by rw [hR]; rfl, World.ownsRow_nil _ _ _ _, by simp⟩, Below.refl _ _⟩
    rw [h1]
    unfold AtR
    rw [hR]
    rfl
  · refine (split_any t w (by omega)).mono fun e w' ⟨⟨l, va, cap, h1, h2, h3, h4⟩, h5⟩ => ?_
    have hR := SplitR_short (t := t.data.toList) (by omega)
    refine ⟨⟨l, va, cap, ?_, by rw [hR]; exact h2, h3, h4⟩, h5⟩
    rw [h1]
    unfold AtR atR
    rw [hR, hsz]
    have h6 := splitR_two t.data.toList
    by_cases h0 : (splitR [] t.data.toList).2.2 = 0
    · rw [if_pos h0, if_pos (Or.inl h0)]
    · rw [if_neg h0, if_neg (by rintro (h | h); exact h0 h; exact h6 h)]
theorem fit_all {l : List RowX} {t : List UInt8} {B : Nat} {no : Nat → Prop} {w : World} (hc : cellsOf l = (SplitR t).1) (hx : ∀ x ∈ l, ROwn B no w x) : ∀ x ∈ l, Fit x := by
  intro x hm
  refine ⟨(strs_in (hx x hm)).2, fun y hy => ?_⟩
  have := SplitR_fit t x.c (by rw [← hc]; exact mem_cellsOf hm) y hy
  omega
/-- What a fault's place is. -/
theorem AtR_fault {t : List UInt8} (h0 : (SplitR t).2.2 ≠ 0) (h2 : (SplitR t).2.2 ≠ 2) : 0 ≤ AtR t ∧ AtR t < t.length ∧ (SplitR t).1 = [] := by
  have hs : ¬ 65536 < t.length := by
    intro h
    rw [SplitR_long h] at h2
    exact h2 rfl
  unfold AtR
  rw [if_neg (by rintro (h | h); exact h0 h; exact h2 h)]
  rw [SplitR_short hs] at h0 ⊢
  rcases split_err _ [] t (Nat.le_refl _) with ⟨h, _⟩ | ⟨_, h3, h4, h5⟩
  · exact absurd h h0
  · exact ⟨by omega, by omega, h5⟩
theorem SplitR_ok {t : List UInt8} (h : (SplitR t).2.2 = 0) : ¬ 65536 < t.length ∧ [] ∉ (SplitR t).1 ∧ AtR t = 0 := by
  have hs : ¬ 65536 < t.length := by
    intro h1
    rw [SplitR_long h1] at h
    cases h
  refine ⟨hs, ?_, by unfold AtR; rw [if_pos (Or.inl h)]⟩
  rw [SplitR_short hs]
  exact split_cells _ [] t (Nat.le_refl _) (by simp)
/-- Rows behind the rows of a text are rows more. -/
theorem SplitR_behind {rows : List (List (List UInt8))} {more : List UInt8} (h : [] ∉ rows) (h1 : (SplitR (joinB rows ++ more)).2.2 = 0) (h2 : (SplitR more).2.2 = 0) : (SplitR (joinB rows ++ more)).1 = rows ++ (SplitR more).1 := by
  have k1 := (SplitR_ok h1).1
  have k2 := (SplitR_ok h2).1
  rw [SplitR_short k1, split_back rows [] more h, List.nil_append]
  rw [SplitR_short k2] at h2 ⊢
  exact (split_acc _ rows more (Nat.le_refl _)).2 h2
theorem RowsIn.slice {B : Nat} {w : World} {b o : Nat} {l : List RowX} (k : Nat) (h : RowsIn B w (some ⟨b, o, none⟩) l) : RowsIn B w (some ⟨b, o + k, none⟩) (l.drop k) := by
  rcases h with h | ⟨b', o', e, hl, h⟩
  · exact Or.inl (by rw [h]; simp)
  · cases e
    refine Or.inr ⟨b, o + k, rfl, hl, fun i hi => ?_⟩
    have hi2 : k + i < l.length := by rw [List.length_drop] at hi; omega
    have := h (k + i) hi2
    rw [← Nat.add_assoc] at this
    simpa using this
theorem RowsIn.take {B : Nat} {w : World} {ao : Option Addr} {l : List RowX} (k : Nat) (h : RowsIn B w ao l) : RowsIn B w ao (l.take k) := by
  rcases h with h | ⟨b, o, e, hl, h⟩
  · exact Or.inl (by rw [h]; simp)
  · refine Or.inr ⟨b, o, e, hl, fun i hi => ?_⟩
    have hi2 : i < l.length := by rw [List.length_take] at hi; omega
    simpa using h i hi2

set_option maxHeartbeats 8000000 in
set_option maxRecDepth 100000 in
theorem again_any (t m : ByteArray) (w : World) (hm : MaxAt w) (ht : t.size ≤ 150000000000000) (hmm : m.size ≤ 150000000000000) :
    Calls Tryd.prog 4 #[.string t, .string m] w fun e w' => e = .returned (.bool true) ∧ Below w.heap.size w w' := by
  have HM := Lib.hid hm
  clear hm
  have hsz : t.data.toList.length = t.size := rfl
  obtain ⟨E, hE⟩ : ∃ E, E = (SplitR t.data.toList).2.2 := ⟨_, rfl⟩
  obtain ⟨P, hP⟩ : ∃ P, P = AtR t.data.toList := ⟨_, rfl⟩
  have HSP := Lib.hid (fun W => split_all t W (by omega))
  rw [← hE, ← hP] at HSP
  have HE := Lib.hid hE
  have HP := Lib.hid hP
  clear hE hP
  by_cases h0 : E = 0
  · have hok := SplitR_ok (t := t.data.toList) (by rw [← HE.out]; exact h0)
    have hp0 : P = 0 := by rw [HP.out]; exact hok.2.2
    have HNE := Lib.hid hok.2.1
    obtain ⟨R, hR⟩ : ∃ R, R = (SplitR t.data.toList).1 := ⟨_, rfl⟩
    rw [← hR] at HSP HNE
    have HRR := Lib.hid hR
    clear hok hR
    subst h0 hp0
    go_enter Tryd.func4, Tryd.ntmps4
    go_wp2_with fail
    refine (begun_any w HM.out).mono ?_; rintro e w1 ⟨rfl, hb1⟩
    have HB1 := Lib.hid hb1
    clear hb1
    go_wp2_with fail
    refine (HSP.out w1).mono ?_; rintro e w2 ⟨⟨l, va, cap, rfl, hcl, hown, hrow⟩, hb2⟩
    have hri := rows_in hown hrow
    have HRI := Lib.hid hri.1
    have HFT := Lib.hid (fit_all (t := t.data.toList) (by rw [hcl, HRR.out]) hrow)
    have hlc := hri.2.1
    have hcm := hri.2.2
    unfold maxLen at hcm
    have HCL := Lib.hid hcl
    have HB2 := Lib.hid (HB1.out.trans (hb2.mono HB1.out.size))
    have hz2 := HB2.out.size
    have HNZ := Lib.hid (show ∀ i (h : i < l.length), l[i].c.length ≠ 0 by
      intro i hi h0
      apply HNE.out
      rw [← HCL.out, cellsOf, List.mem_map]
      exact ⟨l[i], List.getElem_mem hi, List.eq_nil_of_length_eq_zero h0⟩)
    have HJ := Lib.hid (join_any l va cap w2 (HM.out.below HB2.out) HRI.out (by omega) HFT.out)
    rw [hcl] at HJ
    clear hcl hown hrow hri hb2
    go_wp2_with fail
    go_loopw [9] (fun i wr => ∃ k : Nat, k ≤ l.length ∧ i = .int .i64 k ∧ wr = w2) (fun i _ => l.length - (intOf i).toNat)
    case atStart => exact ⟨0, Nat.zero_le _, rfl, rfl⟩
    case round =>
      obtain ⟨k, hk, rfl, rfl⟩ := hrel
      by_cases hlt : k < l.length
      · obtain ⟨rb, ro, rfl, _, hcell⟩ : ∃ b o, va = some ⟨b, o, none⟩ ∧ b < wr.heap.size ∧ ∀ i (h : i < l.length), wr.cell? ⟨b, o + i, none⟩ = some (.slice l[i].ao l[i].c.length l[i].cap) ∧ StrsIn wr.heap.size wr l[i].ao l[i].c := by
          rcases HRI.out with h | h
          · rw [h] at hlt; simp at hlt
          · exact h
        have hck := (hcell k hlt).1
        have hnz := HNZ.out k hlt
        obtain ⟨n, hn⟩ : ∃ n, n = l[k].c.length := ⟨_, rfl⟩
        rw [← hn] at hck hnz
        have hq : ((n : Int) == 0) = false := beq_eq_false_iff_ne.2 (by omega)
        have k0 : (0 : Int) ≤ (k : Int) := by omega
        have k1 : (k : Int) < (l.length : Int) := by omega
        clear hcell hn hnz
        go_wp2_with fail
        go_roundw
        case rel => exact ⟨k + 1, by omega, by go_num, by first | trivial | rfl⟩
        case measure => simp [intOf]; omega
      · have hjr : joinE R = 0 ∨ joinE R = 2 := by
          unfold joinE
          rw [if_neg HNE.out]
          split <;> simp
        obtain ⟨F, hF⟩ : ∃ F, F = joinE R := ⟨_, rfl⟩
        obtain ⟨S, hS⟩ : ∃ S : ByteArray, S = ⟨(joinOut R).toArray⟩ := ⟨_, rfl⟩
        rw [← hF, ← hS] at HJ
        rw [← hF] at hjr
        have HF := Lib.hid hF
        have HS := Lib.hid hS
        clear hF hS
        rcases hjr with h | h
        · have HSL := Lib.hid (show S.data.toList = joinB R by rw [HS.out, joinOut, ← HF.out, h]; rfl)
          have hjl : (joinB R).length ≤ 65536 := by
            have h1 := HF.out
            rw [h] at h1
            unfold joinE at h1
            rw [if_neg HNE.out] at h1
            split at h1
            · cases h1
            · omega
          have hss : S.size ≤ 65536 := by
            have : S.size = (joinB R).length := by rw [← HSL.out]; rfl
            omega
          have HSR := Lib.hid (show SplitR S.data.toList = (R, [], 0) by rw [HSL.out, SplitR_short (by omega), split_join R HNE.out])
          have HSP2 := Lib.hid (fun W => split_all S W (by omega))
          rw [HSR.out] at HSP2
          obtain ⟨U, hU⟩ : ∃ U : ByteArray, U = S ++ m := ⟨_, rfl⟩
          have hadd : ∀ w : World, (Op.stringOp .add S m).run Tryd.prog w = .ok (.string U) w := fun w => by rw [hU]; exact run_string_add_sum w _ _ (by omega)
          have hus : U.size ≤ 150000000065536 := by rw [hU, ByteArray.size_append]; omega
          have HUL := Lib.hid (show U.data.toList = joinB R ++ m.data.toList by rw [hU, ByteArray.data_append, Array.toList_append, HSL.out])
          have HSP3 := Lib.hid (fun W => split_all U W (by omega))
          have HSP4 := Lib.hid (fun W => split_all m W (by omega))
          rw [HUL.out] at HSP3
          obtain ⟨E3, hE3⟩ : ∃ E, E = (SplitR (joinB R ++ m.data.toList)).2.2 := ⟨_, rfl⟩
          obtain ⟨E4, hE4⟩ : ∃ E, E = (SplitR m.data.toList).2.2 := ⟨_, rfl⟩
          rw [← hE3] at HSP3
          rw [← hE4] at HSP4
          have HE3 := Lib.hid hE3
          have HE4 := Lib.hid hE4
          clear hjl hU hE3 hE4
          subst h
          go_wp2_with fail
          refine HJ.out.mono ?_; rintro e w3 ⟨rfl, hb3⟩
          have HB3 := Lib.hid (HB2.out.trans (hb3.mono hz2))
          have HR3 := Lib.hid ((HRI.out.below hb3 (Nat.le_refl _)).mono hb3.size)
          clear hb3
          go_wp2_with fail
          refine (HSP2.out w3).mono ?_; rintro e w4 ⟨⟨l2, va2, cap2, rfl, hcl2, hown2, hrow2⟩, hb4⟩
          have hri2 := rows_in hown2 hrow2
          have HB4 := Lib.hid (HB3.out.trans (hb4.mono HB3.out.size))
          have HR4 := Lib.hid ((HR3.out.below hb4 (Nat.le_refl _)).mono hb4.size)
          have HSS := Lib.hid (same_same l l2 va va2 cap cap2 w4.heap.size w4.heap.size w4 HR4.out hri2.1 (Nat.le_refl _) (Nat.le_refl _) (HCL.out.trans hcl2.symm) (by omega) (fun x hx => (HFT.out x hx).1))
          clear hcl2 hown2 hrow2 hb4 hri2
          go_wp2_with fail
          refine HSS.out.mono ?_; rintro e w5 ⟨rfl, hb5⟩
          have HB5 := Lib.hid (HB4.out.trans (hb5.mono HB4.out.size))
          have HR5 := Lib.hid ((HR4.out.below hb5 (Nat.le_refl _)).mono hb5.size)
          clear hb5
          go_wp2_with fail
          refine (HSP3.out w5).mono ?_; rintro e w6 ⟨⟨l3, va3, cap3, rfl, hcl3, hown3, hrow3⟩, hb6⟩
          have hri3 := rows_in hown3 hrow3
          have HB6 := Lib.hid (HB5.out.trans (hb6.mono HB5.out.size))
          have HR6 := Lib.hid ((HR5.out.below hb6 (Nat.le_refl _)).mono hb6.size)
          have HI3 := Lib.hid hri3.1
          have h3c := hri3.2.1
          have h3m := hri3.2.2
          have HCL3 := Lib.hid hcl3
          have HF3 := Lib.hid (fun x hx => (strs_in (hrow3 x hx)).2)
          have HOC := Lib.hid (owned_case hown3)
          clear hcl3 hown3 hrow3 hb6 hri3
          go_wp2_with fail
          refine (HSP4.out w6).mono ?_; rintro e w7 ⟨⟨l4, va4, cap4, rfl, hcl4, hown4, hrow4⟩, hb7⟩
          have hri4 := rows_in hown4 hrow4
          have HB7 := Lib.hid (HB6.out.trans (hb7.mono HB6.out.size))
          have HR7 := Lib.hid ((HR6.out.below hb7 (Nat.le_refl _)).mono hb7.size)
          have HI7 := Lib.hid ((HI3.out.below hb7 (Nat.le_refl _)).mono hb7.size)
          have HI4 := Lib.hid hri4.1
          have h4c := hri4.2.1
          have h4m := hri4.2.2
          have HCL4 := Lib.hid hcl4
          have HF4 := Lib.hid (fun x hx => (strs_in (hrow4 x hx)).2)
          clear hcl4 hown4 hrow4 hb7 hri4
          cases he3 : (E3 == 0)
          · have he3' : (E3 != 0) = true := by simp [bne, he3]
            clear he3
            go_wp2_with fail
            go_ret
            exact ⟨rfl, HB7.out⟩
          · have he3' : (E3 != 0) = false := by simp [bne, he3]
            have H3Z := Lib.hid (show E3 = 0 by simpa using he3)
            clear he3
            cases he4 : (E4 == 0)
            · have he4' : (E4 != 0) = true := by simp [bne, he4]
              clear he4
              go_wp2_with fail
              go_ret
              exact ⟨rfl, HB7.out⟩
            · have he4' : (E4 != 0) = false := by simp [bne, he4]
              have H4Z := Lib.hid (show E4 = 0 by simpa using he4)
              clear he4
              have HCC := Lib.hid (show cellsOf l3 = cellsOf l ++ cellsOf l4 by
                rw [HCL3.out, HCL4.out, HCL.out]
                exact SplitR_behind HNE.out (by rw [← HE3.out]; exact H3Z.out) (by rw [← HE4.out]; exact H4Z.out))
              have hlen : l3.length = l.length + l4.length := by
                have := congrArg List.length HCC.out
                simpa [cellsOf] using this
              unfold maxLen at h3m h4m
              have hq : ((l3.length : Int) == (l.length : Int) + (l4.length : Int)) = true := by rw [beq_iff_eq]; omega
              have hs1 : (l.length : Int) + (l4.length : Int) ≤ 9223372036854775807 := by omega
              have hs2 : (0 : Int) ≤ (l.length : Int) := by omega
              have hs3 : (l.length : Int) ≤ (l3.length : Int) := by omega
              have hs4 : (l.length : Int) ≤ (cap3 : Int) := by omega
              have hs5 : (l3.length : Int) ≤ (cap3 : Int) := by omega
              have HLEN := Lib.hid hlen
              clear hlen
              go_wp2_with fail
              have hTK : (l3.take l.length).length = l.length := by rw [List.length_take]; have := HLEN.out; omega
              have hS5 := same_same (l3.take l.length) l va3 va cap3 cap w7.heap.size w7.heap.size w7 (HI7.out.take _) HR7.out (Nat.le_refl _) (Nat.le_refl _) (by
                have h1 : cellsOf (l3.take l.length) = (cellsOf l3).take l.length := by simp [cellsOf, List.map_take]
                rw [h1, HCC.out, List.take_left' (by simp [cellsOf])]) (by rw [hTK]; omega) (fun x hx => HF3.out x (List.mem_of_mem_take hx))
              rw [hTK] at hS5
              refine hS5.mono ?_; rintro e w8 ⟨rfl, hb8⟩
              have HB8 := Lib.hid (HB7.out.trans (hb8.mono HB7.out.size))
              have HI8 := Lib.hid ((HI7.out.below hb8 (Nat.le_refl _)).mono hb8.size)
              have HI48 := Lib.hid ((HI4.out.below hb8 (Nat.le_refl _)).mono hb8.size)
              clear hS5 hTK hb8
              have hDK : (l3.drop l.length).length = l3.length - l.length := List.length_drop ..
              have hDC : cellsOf (l3.drop l.length) = cellsOf l4 := by
                have h1 : cellsOf (l3.drop l.length) = (cellsOf l3).drop l.length := by simp [cellsOf, List.map_drop]
                rw [h1, HCC.out, List.drop_left' (by simp [cellsOf])]
              have HS6 := Lib.hid (fun (a : Option Addr) (c : Nat) (h : RowsIn w8.heap.size w8 a (l3.drop l.length)) => same_same (l3.drop l.length) l4 a va4 c cap4 w8.heap.size w8.heap.size w8 h HI48.out (Nat.le_refl _) (Nat.le_refl _) hDC (by rw [hDK]; omega) (fun x hx => HF3.out x (List.mem_of_mem_drop hx)))
              rw [hDK] at HS6
              clear hDK hDC
              obtain ⟨N, hN⟩ : ∃ N, N = l.length := ⟨_, rfl⟩
              obtain ⟨M, hM⟩ : ∃ M, M = l3.length := ⟨_, rfl⟩
              have HOC2 := Lib.hid HOC.out
              rw [← hN] at HS6 hs2 hs3 hs4 ⊢
              rw [← hM] at HS6 HOC2 hs3 hs5 ⊢
              have HN := Lib.hid hN
              have HM2 := Lib.hid hM
              clear hq hs1 h3c h4c h4m hlc hN hM h3m hcm
              rcases HOC2.out with ⟨z1, rfl, rfl⟩ | ⟨g, rfl⟩
              · have hN0 : N = 0 := by omega
                have HS7 := Lib.hid (HS6.out none 0 (Or.inl (List.drop_of_length_le (by rw [← HM2.out]; omega))))
                clear hs2 hs3 hs4 hs5 HOC HOC2 HI3 HI7 HI8 HS6 hk
                subst hN0 z1
                rw [Nat.sub_self] at HS7
                go_wp2_with fail
                refine HS7.out.mono ?_; rintro e w9 ⟨rfl, hb9⟩
                have HB9 := Lib.hid (HB8.out.trans (hb9.mono HB8.out.size))
                clear hb9
                go_wp2_with fail
                go_ret
                exact ⟨rfl, HB9.out⟩
              · by_cases hc : N = cap3
                · have hMN : M = N := by omega
                  have HS7 := Lib.hid (HS6.out (some ⟨g, 0, none⟩) (cap3 - N) (Or.inl (List.drop_of_length_le (by rw [← HM2.out]; omega))))
                  clear hs2 hs3 hs4 hs5 HOC HOC2 HI3 HI7 HI8 HS6 hk
                  subst hMN
                  subst hc
                  rw [Nat.sub_self] at HS7
                  go_wp2_with fail
                  refine HS7.out.mono ?_; rintro e w9 ⟨rfl, hb9⟩
                  have HB9 := Lib.hid (HB8.out.trans (hb9.mono HB8.out.size))
                  clear hb9
                  go_wp2_with fail
                  go_ret
                  exact ⟨rfl, HB9.out⟩
                · have HS7 := Lib.hid (HS6.out _ (cap3 - N) (HI8.out.slice N))
                  rw [Nat.zero_add] at HS7
                  have n1 : N ≤ M := by omega
                  have n2 : M ≤ cap3 := by omega
                  clear hs2 hs3 hs4 hs5 HOC HOC2 HI3 HI7 HI8 HS6 hk
                  go_wp2_with fail
                  refine HS7.out.mono ?_; rintro e w9 ⟨rfl, hb9⟩
                  have HB9 := Lib.hid (HB8.out.trans (hb9.mono HB8.out.size))
                  clear hb9
                  go_wp2_with fail
                  go_ret
                  exact ⟨rfl, HB9.out⟩
        · go_wp2_with fail
          refine HJ.out.mono ?_; rintro e w3 ⟨rfl, hb3⟩
          have HB3 := Lib.hid (HB2.out.trans (hb3.mono hz2))
          clear hb3
          subst h
          go_wp2_with fail
          go_ret
          exact ⟨rfl, HB3.out⟩
  · by_cases h2 : E = 2
    · have HR := Lib.hid (show (SplitR t.data.toList).1 = [] by
        by_cases h : 65536 < t.data.toList.length
        · rw [SplitR_long h]
        · exact absurd (by rw [← SplitR_short h, ← HE.out, h2]) (splitR_two t.data.toList))
      have hp0 : P = 0 := by rw [HP.out, AtR, if_pos (Or.inr (by rw [← HE.out, h2]))]
      clear h0
      subst h2 hp0
      go_enter Tryd.func4, Tryd.ntmps4
      go_wp2_with fail
      refine (begun_any w HM.out).mono ?_; rintro e w1 ⟨rfl, hb1⟩
      have HB1 := Lib.hid hb1
      clear hb1
      go_wp2_with fail
      refine (HSP.out w1).mono ?_; rintro e w2 ⟨⟨l, va, cap, rfl, hcl, _, _⟩, hb2⟩
      obtain rfl : l = [] := by rw [HR.out] at hcl; simpa [cellsOf] using hcl
      have HB2 := Lib.hid (HB1.out.trans (hb2.mono HB1.out.size))
      clear hb2 hcl
      go_wp2_with fail
      go_ret
      exact ⟨rfl, HB2.out⟩
    · have hf := AtR_fault (t := t.data.toList) (by rw [← HE.out]; exact h0) (by rw [← HE.out]; exact h2)
      rw [← HP.out, hsz] at hf
      have HR := Lib.hid hf.2.2
      have p0 : ¬ P < 0 := by omega
      have p1 : ¬ (t.size : Int) ≤ P := by omega
      have hE0 : (E != 0) = true := by simpa [bne_iff_ne] using h0
      have hE2 : (E != 2) = true := by simpa [bne_iff_ne] using h2
      have hE3 : (E == 2) = false := by simpa using h2
      clear h0 h2 hf
      go_enter Tryd.func4, Tryd.ntmps4
      go_wp2_with fail
      refine (begun_any w HM.out).mono ?_; rintro e w1 ⟨rfl, hb1⟩
      have HB1 := Lib.hid hb1
      clear hb1
      go_wp2_with fail
      refine (HSP.out w1).mono ?_; rintro e w2 ⟨⟨l, va, cap, rfl, hcl, _, _⟩, hb2⟩
      obtain rfl : l = [] := by rw [HR.out] at hcl; simpa [cellsOf] using hcl
      have HB2 := Lib.hid (HB1.out.trans (hb2.mono HB1.out.size))
      clear hb2 hcl
      go_wp2_with fail
      go_ret
      exact ⟨rfl, HB2.out⟩
end Go.Proofs.YtodbpfdknfcgbaaDoor
