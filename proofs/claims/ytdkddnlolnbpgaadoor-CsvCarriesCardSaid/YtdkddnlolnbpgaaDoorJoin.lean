/- Package csv: Join, for every rows. -/
import Derived.Test.YtdkddnlolnbpgaaDoorAddRow
namespace Go.Proofs.YtdkddnlolnbpgaaDoor
open Go Go.RowKit

/-- Rows that lie from an address on, below a block. -/
def RowsIn (B : Nat) (w : World) (ao : Option Addr) (l : List RowX) : Prop :=
  l = [] ∨ ∃ b o, ao = some ⟨b, o, none⟩ ∧ b < B ∧ ∀ i (h : i < l.length), w.cell? ⟨b, o + i, none⟩ = some (.slice l[i].ao l[i].c.length l[i].cap) ∧ StrsIn B w l[i].ao l[i].c
theorem RowsIn.below {B C : Nat} {w w' : World} {ao : Option Addr} {l : List RowX} (h : RowsIn B w ao l) (hb : Below C w w') (hC : B ≤ C) : RowsIn B w' ao l := by
  rcases h with h | ⟨b, o, rfl, hl, h⟩
  · exact Or.inl h
  · exact Or.inr ⟨b, o, rfl, hl, fun i hi => ⟨(hb.cell (p := ⟨b, o + i, none⟩) (by simp; omega)).trans (h i hi).1, (h i hi).2.below hb hC⟩⟩
theorem RowsIn.mono {B C : Nat} {w : World} {ao : Option Addr} {l : List RowX} (h : RowsIn B w ao l) (hC : B ≤ C) : RowsIn C w ao l := by
  rcases h with h | ⟨b, o, rfl, hl, h⟩
  · exact Or.inl h
  · exact Or.inr ⟨b, o, rfl, by omega, fun i hi => ⟨(h i hi).1, (h i hi).2.mono hC⟩⟩
/-- What Join answers. -/
def joinOut (l : List (List (List UInt8))) : List UInt8 := if joinE l = 0 then joinB l else []
theorem fresh_builder {w : World} : Bld w.heap.size w.heap.size [] (w.alloc (Obj.cells #[Value.pointer none, Value.slice none 0 0] 57)) :=
  Or.inl ⟨Nat.le_refl _, .slice none 0 0, heap_alloc_new _ _, World.ownsRow_nil _ _ _ _, by simp [Value.ownBlock]⟩
theorem joinE_row {l : List RowX} (i : Nat) (h : i < l.length) (h0 : l[i].c.length = 0) : joinE (cellsOf l) = 41 := by
  unfold joinE
  rw [if_pos]
  rw [cellsOf, List.mem_map]
  exact ⟨l[i], List.getElem_mem h, List.eq_nil_of_length_eq_zero h0⟩
theorem join_take_le (l : List (List (List UInt8))) (k : Nat) : (joinB (l.take k)).length ≤ (joinB l).length := by
  have h : joinB (l.take k) <+: joinB l := ⟨joinB (l.drop k), by rw [joinB, joinB, joinB, ← List.flatMap_append, List.take_append_drop]⟩
  exact h.length_le
theorem joinE_long {l : List RowX} (h : ∀ i (h : i < l.length), l[i].c.length ≠ 0) (h2 : 65536 < (joinB (cellsOf l)).length) : joinE (cellsOf l) = 2 := by
  unfold joinE
  rw [if_neg, if_pos h2]
  rw [cellsOf, List.mem_map]
  rintro ⟨x, hx, h0⟩
  obtain ⟨i, hi, rfl⟩ := List.mem_iff_getElem.1 hx
  exact h i hi (by rw [h0]; rfl)
theorem joinE_ok {l : List RowX} (h : ∀ i (h : i < l.length), l[i].c.length ≠ 0) (h2 : ¬ 65536 < (joinB (cellsOf l)).length) : joinE (cellsOf l) = 0 := by
  unfold joinE
  rw [if_neg, if_neg h2]
  rw [cellsOf, List.mem_map]
  rintro ⟨x, hx, h0⟩
  obtain ⟨i, hi, rfl⟩ := List.mem_iff_getElem.1 hx
  exact h i hi (by rw [h0]; rfl)
theorem cellsOf_take (l : List RowX) (k : Nat) (hk : k < l.length) : joinB (cellsOf (l.take (k + 1))) = joinB (cellsOf (l.take k)) ++ rowText l[k].c := by
  rw [List.take_succ_eq_append_getElem hk, cellsOf_snoc, join_snoc]
theorem cellsOf_take_le (l : List RowX) (k : Nat) : (joinB (cellsOf (l.take k))).length ≤ (joinB (cellsOf l)).length := by
  have := join_take_le (cellsOf l) k
  rwa [show (cellsOf l).take k = cellsOf (l.take k) by simp [cellsOf, List.map_take]] at this
/-- What is asked of rows' sizes. -/
def Fit (x : RowX) : Prop := x.c.length ≤ 9223372036854775807 ∧ ∀ y ∈ x.c, y.length ≤ 140737488355328

set_option maxHeartbeats 8000000 in
set_option maxRecDepth 100000 in
theorem join_any (l : List RowX) (ao : Option Addr) (cap : Nat) (w : World) (hm : MaxAt w) (hl : RowsIn w.heap.size w ao l) (hll : l.length ≤ 9223372036854775807) (hf : ∀ x ∈ l, Fit x) :
    Calls Tryd.prog 7 #[.slice ao l.length cap] w fun e w' => e = .returned (.tuple #[.string ⟨(joinOut (cellsOf l)).toArray⟩, .int .i64 (joinE (cellsOf l))]) ∧ Below w.heap.size w w' := by
  have HM := Lib.hid hm
  have HL := Lib.hid hl
  have HF := Lib.hid hf
  clear hm hl hf
  go_enter Tryd.func7, Tryd.ntmps7
  go_wp2_with fail
  go_loopw [11] (fun i wr => ∃ k : Nat, k ≤ l.length ∧ i = .int .i64 k ∧ (∀ i (h : i < l.length), i < k → l[i].c.length ≠ 0) ∧ wr = w) (fun i _ => l.length - (intOf i).toNat)
  case atStart => exact ⟨0, Nat.zero_le _, rfl, fun i _ h => absurd h (Nat.not_lt_zero _), rfl⟩
  case round =>
    obtain ⟨k, hk, rfl, hall, rfl⟩ := hrel
    have HALL := Lib.hid hall
    clear hall
    by_cases hlt : k < l.length
    · obtain ⟨rb, ro, rfl, hrB, hcell⟩ : ∃ rb ro, ao = some ⟨rb, ro, none⟩ ∧ rb < wr.heap.size ∧ ∀ i (h : i < l.length), wr.cell? ⟨rb, ro + i, none⟩ = some (.slice l[i].ao l[i].c.length l[i].cap) ∧ StrsIn wr.heap.size wr l[i].ao l[i].c := by
        rcases HL.out with h | h
        · rw [h] at hlt; simp at hlt
        · exact h
      have hck := (hcell k hlt).1
      have HX := Lib.hid (show ∀ x, x = l[k].c.length → x ≠ 0 → ∀ i (h : i < l.length), i < k + 1 → l[i].c.length ≠ 0 by
        intro x hx h0 i hi hik
        by_cases e : i = k
        · subst e; omega
        · exact HALL.out i hi (by omega))
      have HX0 := Lib.hid (fun (h : l[k].c.length = 0) => joinE_row k hlt h)
      obtain ⟨n, hn⟩ : ∃ n, n = l[k].c.length := ⟨_, rfl⟩
      rw [← hn] at hck HX0
      have HN := Lib.hid hn
      have k0 : (0 : Int) ≤ (k : Int) := by omega
      have k1 : (k : Int) < (l.length : Int) := by omega
      clear hcell hn
      cases h0 : ((n : Int) == 0)
      · go_wp2_with fail
        go_roundw
        case rel => exact ⟨k + 1, by omega, by go_num, HX.out n HN.out (by simpa using h0), by first | trivial | rfl⟩
        case measure => simp [intOf]; omega
      · have hn0 : n = 0 := by simpa using h0
        have HE := Lib.hid (HX0.out hn0)
        clear hn0
        go_wp2_with fail
        go_ret2
        have e : joinOut (cellsOf l) = [] := by unfold joinOut; rw [HE.out]; rfl
        exact ⟨by rw [HE.out, e]; rfl, Below.refl _ _⟩
    · have HALL2 := Lib.hid (show ∀ i (h : i < l.length), l[i].c.length ≠ 0 from fun i h => HALL.out i h (by omega))
      obtain ⟨W0, hW0⟩ : ∃ W0, W0 = wr.alloc (Obj.cells #[Value.pointer none, Value.slice none 0 0] 57) := ⟨_, rfl⟩
      have HB0 := Lib.hid (show Below wr.heap.size wr W0 by rw [hW0]; exact (Below.refl _ _).alloc (Nat.le_refl _) _)
      have HBD0 := Lib.hid (show Bld wr.heap.size wr.heap.size [] W0 by rw [hW0]; exact fresh_builder)
      have hgl := HM.out.lt
      have HW0 := Lib.hid hW0
      clear hW0
      go_wp2_with fail
      rw [← HW0.out]
      obtain ⟨A, hA⟩ : ∃ A : World, A = wr := ⟨_, rfl⟩
      have HAW := Lib.hid hA
      rw [← hA] at HM HL HB0 HBD0 hgl HW0 ⊢
      clear hA
      go_loopw [21] (fun i wx => ∃ j : Nat, j ≤ l.length ∧ i = .int .i64 j ∧ Bld A.heap.size A.heap.size (joinB (cellsOf (l.take j))) wx ∧ (joinB (cellsOf (l.take j))).length ≤ 65536 ∧ Below A.heap.size A wx) (fun i _ => l.length - (intOf i).toNat)
      case atStart => exact ⟨0, Nat.zero_le _, rfl, HBD0.out, Nat.zero_le _, HB0.out⟩
      case round =>
        obtain ⟨j, hj, rfl, hbd, hbl, hbel⟩ := hrel
        obtain ⟨T, hT⟩ : ∃ T, T = joinB (cellsOf (l.take j)) := ⟨_, rfl⟩
        rw [← hT] at hbd hbl
        have HT := Lib.hid hT
        have HBD := Lib.hid hbd
        have HBE := Lib.hid hbel
        have hzw := hbel.size
        clear hT hbd hbel
        by_cases hjl : j < l.length
        · obtain ⟨rb, ro, rfl, hrB, hcell⟩ : ∃ rb ro, ao = some ⟨rb, ro, none⟩ ∧ rb < A.heap.size ∧ ∀ i (h : i < l.length), wr.cell? ⟨rb, ro + i, none⟩ = some (.slice l[i].ao l[i].c.length l[i].cap) ∧ StrsIn A.heap.size wr l[i].ao l[i].c := by
            rcases HL.out.below HBE.out (Nat.le_refl _) with h | h
            · rw [h] at hjl; simp at hjl
            · exact h
          obtain ⟨hck, hst⟩ := hcell j hjl
          have hfj := HF.out l[j] (List.getElem_mem hjl)
          have HTS := Lib.hid (show joinB (cellsOf (l.take (j + 1))) = T ++ rowText l[j].c by rw [cellsOf_take l j hjl, HT.out])
          have hle := cellsOf_take_le l (j + 1)
          rw [HTS.out] at hle
          obtain ⟨x, hx⟩ : ∃ x, x = l[j] := ⟨_, rfl⟩
          rw [← hx] at hck hst hfj HTS hle
          obtain ⟨c, ca, cc⟩ := x
          simp only at hck hst hfj HTS hle
          have HADD := Lib.hid (addRow_any A.heap.size A.heap.size T c ca cc wr (HM.out.to HBE.out hgl) hgl HBD.out hbl hzw hst hfj.1 hfj.2)
          obtain ⟨q, hq⟩ : ∃ q, q = decide ((T ++ rowText c).length ≤ 65536) := ⟨_, rfl⟩
          rw [← hq] at HADD
          have HQ := Lib.hid hq
          have HLE := Lib.hid hle
          have k0 : (0 : Int) ≤ (j : Int) := by omega
          have k1 : (j : Int) < (l.length : Int) := by omega
          clear hcell hst hx hq hle hfj
          cases q
          · have hE := joinE_long HALL2.out (by have := HLE.out; have := of_decide_eq_false HQ.out.symm; omega)
            have HE := Lib.hid hE
            clear hE
            go_wp2_with fail
            refine HADD.out.mono ?_; rintro e w2 ⟨rfl, hb2, _⟩
            have HB2 := Lib.hid (HBE.out.trans hb2)
            clear hb2
            go_wp2_with fail
            go_ret2
            have e : joinOut (cellsOf l) = [] := by unfold joinOut; rw [HE.out]; rfl
            exact ⟨by rw [HE.out, e]; rfl, by rw [← HAW.out]; exact HB2.out⟩
          · have hq2 := of_decide_eq_true HQ.out.symm
            have HQ2 := Lib.hid hq2
            clear hq2
            go_wp2_with fail
            refine HADD.out.mono ?_; rintro e w2 ⟨rfl, hb2, hbd2⟩
            have HB2 := Lib.hid (HBE.out.trans hb2)
            have HBD2 := Lib.hid (hbd2 HQ2.out)
            clear hb2 hbd2
            go_wp2_with fail
            go_roundw
            case rel => exact ⟨j + 1, by omega, by go_num, by rw [HTS.out]; exact HBD2.out, by rw [HTS.out]; exact HQ2.out, HB2.out⟩
            case measure => simp [intOf]; omega
        · have hjl2 : j = l.length := by omega
          have HTL := Lib.hid (show T = joinB (cellsOf l) by rw [HT.out, hjl2, List.take_length])
          have HE := Lib.hid (joinE_ok HALL2.out (by rw [← HTL.out]; omega))
          clear hjl2
          go_wp2_with fail
          refine (Tryd.Builder_String_any A.heap.size A.heap.size T wr HBD.out hzw).mono ?_; rintro e w2 ⟨rfl, hb2⟩
          have HB2 := Lib.hid (HBE.out.trans hb2)
          clear hb2
          go_wp2_with fail
          go_ret2
          have e : joinOut (cellsOf l) = T := by unfold joinOut; rw [HE.out, if_pos rfl, HTL.out]
          exact ⟨by rw [HE.out, e]; rfl, by rw [← HAW.out]; exact HB2.out⟩
end Go.Proofs.YtdkddnlolnbpgaaDoor
