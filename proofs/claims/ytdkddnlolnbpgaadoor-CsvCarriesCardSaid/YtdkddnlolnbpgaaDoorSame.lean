/- The laws' sameRow and same, at equal rows. -/
import Derived.Test.YtdkddnlolnbpgaaDoorJoin
namespace Go.Proofs.YtdkddnlolnbpgaaDoor
open Go Go.RowKit

theorem maxLen_val : maxLen = 9223372036854775807 := rfl
theorem strs_in {B : Nat} {no : Nat → Prop} {w : World} {x : RowX} (h : ROwn B no w x) : StrsIn w.heap.size w x.ao x.c ∧ x.c.length ≤ maxLen := by
  obtain ⟨vg, e, _, hlt, _⟩ := h.lt
  have ho := h.own
  rw [e] at ho ⊢
  constructor
  · refine Or.inr ⟨vg, 0, rfl, hlt, fun i hi => ?_⟩
    have hc := ho.cells (g := vg) rfl i (.string ⟨x.c[i].toArray⟩) (by simp [strC, hi])
    rw [show (⟨vg, 0, none⟩ : Addr).add i = ⟨vg, 0 + i, none⟩ by unfold Addr.add; split; (subst_vars; rfl); simp] at hc
    exact hc
  · rcases ho.2 with ⟨e, _⟩ | ⟨g, cap, cur, e, _, _, h1, h2, _⟩
    · cases e
    · exact Nat.le_trans h1 h2
theorem rows_in {B : Nat} {no : Nat → Prop} {w : World} {va : Option Addr} {cap : Nat} {l : List RowX} (h : w.ownsRow B 28 1 (.slice va l.length cap) l.length (rowsC l)) (hx : ∀ x ∈ l, ROwn B no w x) : RowsIn w.heap.size w va l ∧ l.length ≤ cap ∧ cap ≤ maxLen := by
  rcases h.2 with ⟨e, h0⟩ | ⟨g, cap', cur, e, _, hh, h1, h2, _⟩
  · injection e with e1 e2 e3
    refine ⟨Or.inl (List.eq_nil_of_length_eq_zero h0), by omega, by rw [e3]; unfold maxLen; omega⟩
  · injection e with e1 e2 e3
    subst e1 e3
    refine ⟨Or.inr ⟨g, 0, rfl, (Array.getElem?_eq_some_iff.1 hh).1, fun i hi => ⟨?_, (strs_in (hx _ (List.getElem_mem hi))).1⟩⟩, h1, h2⟩
    have hc := h.cells (g := g) rfl i (l[i].cell) (by simp [rowsC, hi])
    rw [show (⟨g, 0, none⟩ : Addr).add i = ⟨g, 0 + i, none⟩ by unfold Addr.add; split; (subst_vars; rfl); simp] at hc
    exact hc

set_option maxHeartbeats 8000000 in
set_option maxRecDepth 100000 in
theorem sameRow_same (c : List (List UInt8)) (ao bo : Option Addr) (ca cb : Nat) (A B : Nat) (w : World) (ha : StrsIn A w ao c) (hb : StrsIn B w bo c) (hA : A ≤ w.heap.size) (hB : B ≤ w.heap.size) (hl : c.length ≤ 9223372036854775807) :
    Calls Tryd.prog 9 #[.slice ao c.length ca, .slice bo c.length cb] w fun e w' => e = .returned (.bool true) ∧ Below w.heap.size w w' := by
  have HA := Lib.hid ha
  have HB := Lib.hid hb
  clear ha hb
  go_enter Tryd.func9, Tryd.ntmps9
  go_wp2_with fail
  go_loopw [5] (fun i wr => ∃ k : Nat, k ≤ c.length ∧ i = .int .i64 k ∧ Below w.heap.size w wr) (fun i _ => c.length - (intOf i).toNat)
  case atStart => exact ⟨0, Nat.zero_le _, rfl, Below.refl _ _⟩
  case round =>
    obtain ⟨k, hk, rfl, hbel⟩ := hrel
    have HBE := Lib.hid hbel
    clear hbel
    by_cases hlt : k < c.length
    · obtain ⟨ab, aof, rfl, _, hac⟩ : ∃ b o, ao = some ⟨b, o, none⟩ ∧ b < A ∧ ∀ i (h : i < c.length), wr.cell? ⟨b, o + i, none⟩ = some (.string ⟨c[i].toArray⟩) := by
        rcases HA.out.below HBE.out hA with h | h
        · rw [h] at hlt; simp at hlt
        · exact h
      obtain ⟨bb, bof, rfl, _, hbc⟩ : ∃ b o, bo = some ⟨b, o, none⟩ ∧ b < B ∧ ∀ i (h : i < c.length), wr.cell? ⟨b, o + i, none⟩ = some (.string ⟨c[i].toArray⟩) := by
        rcases HB.out.below HBE.out hB with h | h
        · rw [h] at hlt; simp at hlt
        · exact h
      have h1 := hac k hlt
      have h2 := hbc k hlt
      obtain ⟨s, hs⟩ : ∃ s : ByteArray, s = ⟨c[k].toArray⟩ := ⟨_, rfl⟩
      rw [← hs] at h1 h2
      have hq : (s.toList != s.toList) = false := by simp
      have k0 : (0 : Int) ≤ (k : Int) := by omega
      have k1 : (k : Int) < (c.length : Int) := by omega
      clear hac hbc hs
      go_wp2_with fail
      go_region_held3 (fun w' => w'.cell? ⟨ab, aof + k, none⟩ = some (.string s) ∧ w'.cell? ⟨bb, bof + k, none⟩ = some (.string s)) (go_keep) (fail)
      all_goals
        go_wp2_with fail
        go_roundw
        case rel => exact ⟨k + 1, by omega, by go_num, HBE.out.drew⟩
        case measure => simp [intOf]; omega
    · go_wp2_with fail
      go_ret
      exact ⟨rfl, HBE.out⟩

end Go.Proofs.YtdkddnlolnbpgaaDoor
