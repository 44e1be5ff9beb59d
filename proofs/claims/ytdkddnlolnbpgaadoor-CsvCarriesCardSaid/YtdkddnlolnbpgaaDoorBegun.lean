/- The laws' begun; Split at texts too long; what Split's cells are not longer than. -/
import Derived.Test.YtdkddnlolnbpgaaDoorSame
namespace Go.Proofs.YtdkddnlolnbpgaaDoor
open Go Go.RowKit

theorem split_long (t : ByteArray) (w : World) (ht : 65536 < t.size) (ht2 : t.size ≤ 9223372036854775807) :
    Calls Tryd.prog 8 #[.string t] w fun e w' => e = .returned (.tuple #[.slice none 0 0, .int .i64 0, .int .i64 2]) ∧ w' = w := by
  have hq : (65536 : Int) < (t.size : Int) := by omega
  go_enter Tryd.func8, Tryd.ntmps8
  go_wp2_with fail
  go_ret3
  exact ⟨rfl, rfl⟩

theorem quoted_fit : ∀ (acc l : List UInt8) {c r : List UInt8}, quotedG acc l = some (c, r) → c.length ≤ acc.length + l.length
  | _, [], _, _, h => by simp [quotedG] at h
  | acc, [b], c, r, h => by
    unfold quotedG at h
    split at h
    · cases h; simp
    · cases h
  | acc, b :: d :: t, c, r, h => by
    unfold quotedG at h
    split at h
    · split at h
      · have := quoted_fit _ _ h
        simp only [List.length_append, List.length_cons, List.length_nil] at this ⊢
        omega
      · cases h; simp
    · have := quoted_fit _ _ h
      simp only [List.length_append, List.length_cons, List.length_nil] at this ⊢
      omega
theorem cell_fit {l c r : List UInt8} (h : cellR l = some (c, r)) : c.length ≤ l.length := by
  unfold cellR at h
  split at h
  · have := quoted_fit _ _ h
    rw [List.length_drop, List.length_nil] at this
    omega
  · cases h
    have := plain_len l
    omega
theorem row_fit (N : Nat) : ∀ (n : Nat) (acc : List (List UInt8)) (l : List UInt8), l.length ≤ n → l.length ≤ N → (∀ y ∈ acc, y.length ≤ N) → ∀ y ∈ (rowR acc l).1, y.length ≤ N := by
  intro n
  induction n with
  | zero =>
    intro acc l hl _ ha
    obtain rfl : l = [] := List.eq_nil_of_length_eq_zero (by omega)
    have hc : cellR [] = some ([], []) := by decide
    rw [rowR_last hc (by decide)]
    intro y hy
    rcases List.mem_append.1 hy with hy | hy
    · exact ha y hy
    · rw [List.mem_singleton.1 hy]; exact Nat.zero_le _
  | succ n ih =>
    intro acc l hl hN ha
    cases hc : cellR l with
    | none => rw [rowR_quote hc]; intro y hy; cases hy
    | some x =>
      obtain ⟨c, r⟩ := x
      have h1 := cell_len hc
      have h2 := cell_fit hc
      have ha2 : ∀ y ∈ acc ++ [c], y.length ≤ N := by
        intro y hy
        rcases List.mem_append.1 hy with hy | hy
        · exact ha y hy
        · rw [List.mem_singleton.1 hy]; omega
      cases hp : Lib.hasPrefix r [44]
      · rw [rowR_last hc hp]; exact ha2
      · rw [rowR_more hc hp]
        obtain ⟨r', rfl⟩ := (prefix_one _ _).1 hp
        simp only [List.drop_one, List.tail_cons, List.length_cons] at h1 ⊢
        exact ih _ r' (by omega) (by omega) ha2
theorem split_fit (N : Nat) : ∀ (n : Nat) (acc : List (List (List UInt8))) (l : List UInt8), l.length ≤ n → l.length ≤ N → (∀ r ∈ acc, ∀ y ∈ r, y.length ≤ N) → ∀ r ∈ (splitR acc l).1, ∀ y ∈ r, y.length ≤ N := by
  intro n
  induction n with
  | zero =>
    intro acc l hl _ ha
    obtain rfl : l = [] := List.eq_nil_of_length_eq_zero (by omega)
    rw [splitR_nil]
    exact ha
  | succ n ih =>
    intro acc l hl hN ha
    by_cases hne : l = []
    · subst hne; rw [splitR_nil]; exact ha
    · by_cases h0 : (rowR [] l).2.2 = 0
      · have hlt := row_ok _ [] l (Nat.le_refl _) hne h0
        rw [splitR_more hne h0]
        refine ih _ _ (by omega) (by omega) ?_
        intro r hr
        rcases List.mem_append.1 hr with hr | hr
        · exact ha r hr
        · rw [List.mem_singleton.1 hr]
          exact row_fit N _ [] l (Nat.le_refl _) hN (by simp)
      · rw [splitR_bad hne h0]
        intro r hr
        cases hr

theorem mem_cellsOf {l : List RowX} {x : RowX} (h : x ∈ l) : x.c ∈ cellsOf l := List.mem_map_of_mem h
/-- What Split hands out fits. -/
theorem fit_of {l : List RowX} {t : List UInt8} {B : Nat} {no : Nat → Prop} {w : World} (hc : cellsOf l = (splitR [] t).1) (ht : t.length ≤ 65536) (hx : ∀ x ∈ l, ROwn B no w x) : ∀ x ∈ l, Fit x := by
  intro x hm
  refine ⟨(strs_in (hx x hm)).2, fun y hy => ?_⟩
  have := split_fit 65536 _ [] t (Nat.le_refl _) ht (by simp) x.c (by rw [← hc]; exact mem_cellsOf hm) y hy
  omega

def begunB : List UInt8 := [97, 44, 34, 98, 44, 99, 34, 13, 10]
def begunR : List (List (List UInt8)) := [[[97], [98, 44, 99]]]
theorem begun_join : joinB begunR = begunB := by decide
theorem begun_split : splitR [] begunB = (begunR, [], 0) := by rw [← begun_join]; exact split_join _ (by decide)

set_option maxHeartbeats 8000000 in
set_option maxRecDepth 100000 in
theorem begun_any (w : World) (hm : MaxAt w) : Calls Tryd.prog 4 #[] w fun e w' => e = .returned (.bool true) ∧ Below w.heap.size w w' := by
  have HM := Lib.hid hm
  have HS := Lib.hid (split_any ⟨#[97, 44, 34, 98, 44, 99, 34, 13, 10]⟩ w (by decide))
  rw [show (⟨#[97, 44, 34, 98, 44, 99, 34, 13, 10]⟩ : ByteArray).data.toList = begunB from rfl, begun_split] at HS
  clear hm
  go_enter Tryd.func4, Tryd.ntmps4
  go_wp2_with fail
  refine HS.out.mono ?_; rintro e w2 ⟨⟨l, va, cp, rfl, hcl, hown, hrow⟩, hb2⟩
  have hri := rows_in hown hrow
  have HRI := Lib.hid hri.1
  have HFT := Lib.hid (fit_of (t := begunB) (by rw [hcl, begun_split]) (by decide) hrow)
  have hlen : l.length = 1 := by
    have := congrArg List.length hcl
    simpa [cellsOf, begunR] using this
  obtain ⟨x, rfl⟩ := List.length_eq_one_iff.1 hlen
  obtain ⟨c, xa, xc⟩ := x
  have hc : c = [[97], [98, 44, 99]] := by simpa [cellsOf, begunR] using hcl
  subst hc
  obtain ⟨b, o, rfl, _, hcell⟩ : ∃ b o, va = some ⟨b, o, none⟩ ∧ b < w2.heap.size ∧ ∀ i (h : i < 1), w2.cell? ⟨b, o + i, none⟩ = some (.slice ([⟨[[97], [98, 44, 99]], xa, xc⟩] : List RowX)[i].ao ([⟨[[97], [98, 44, 99]], xa, xc⟩] : List RowX)[i].c.length ([⟨[[97], [98, 44, 99]], xa, xc⟩] : List RowX)[i].cap) ∧ StrsIn w2.heap.size w2 ([⟨[[97], [98, 44, 99]], xa, xc⟩] : List RowX)[i].ao ([⟨[[97], [98, 44, 99]], xa, xc⟩] : List RowX)[i].c := by
    rcases HRI.out with h | h
    · cases h
    · exact h
  obtain ⟨d0, hst⟩ := hcell 0 (by omega)
  obtain ⟨b2, o2, rfl, _, hs2⟩ : ∃ b o, xa = some ⟨b, o, none⟩ ∧ b < w2.heap.size ∧ ∀ i (h : i < 2), w2.cell? ⟨b, o + i, none⟩ = some (.string ⟨([[97], [98, 44, 99]] : List (List UInt8))[i].toArray⟩) := by
    rcases hst with h | h
    · cases h
    · exact h
  have d1 := hs2 1 (by omega)
  simp only [List.getElem_cons_zero, List.length_cons, List.length_nil, Nat.add_zero, Nat.zero_add] at d0
  simp only [List.getElem_cons_succ, List.getElem_cons_zero] at d1
  have HJ := Lib.hid (join_any [⟨[[97], [98, 44, 99]], some ⟨b2, o2, none⟩, xc⟩] (some ⟨b, o, none⟩) cp w2 (HM.out.below hb2) HRI.out (by simp) HFT.out)
  rw [show cellsOf [⟨[[97], [98, 44, 99]], some ⟨b2, o2, none⟩, xc⟩] = begunR from rfl, show joinE begunR = 0 by decide, show joinOut begunR = begunB by decide] at HJ
  have HB2 := Lib.hid hb2
  clear hcl hown hrow hri hb2 hcell hst hs2
  go_wp2_with fail
  refine HJ.out.mono ?_; rintro e w3 ⟨rfl, hb3⟩
  have HB3 := Lib.hid (HB2.out.trans (hb3.mono HB2.out.size))
  clear hb3
  go_wp2_with fail
  go_ret
  exact ⟨rfl, HB3.out⟩
end Go.Proofs.YtdkddnlolnbpgaaDoor
