/- Package csv: a row written behind a text. -/
import Derived.Test.YtdkddnlolnbpgaaDoorWritten
namespace Go.Proofs.YtdkddnlolnbpgaaDoor
open Go Go.RowKit

/-- Strings that lie from an address on, below a block. -/
def StrsIn (B : Nat) (w : World) (ao : Option Addr) (c : List (List UInt8)) : Prop :=
  c = [] ∨ ∃ b o, ao = some ⟨b, o, none⟩ ∧ b < B ∧ ∀ i (h : i < c.length), w.cell? ⟨b, o + i, none⟩ = some (.string ⟨c[i].toArray⟩)
theorem StrsIn.below {B C : Nat} {w w' : World} {ao : Option Addr} {c : List (List UInt8)} (h : StrsIn B w ao c) (hb : Below C w w') (hC : B ≤ C) : StrsIn B w' ao c := by
  rcases h with h | ⟨b, o, rfl, hl, h⟩
  · exact Or.inl h
  · exact Or.inr ⟨b, o, rfl, hl, fun i hi => (hb.cell (p := ⟨b, o + i, none⟩) (by simp; omega)).trans (h i hi)⟩
theorem StrsIn.mono {B C : Nat} {w : World} {ao : Option Addr} {c : List (List UInt8)} (h : StrsIn B w ao c) (hC : B ≤ C) : StrsIn C w ao c := by
  rcases h with h | ⟨b, o, rfl, hl, h⟩
  · exact Or.inl h
  · exact Or.inr ⟨b, o, rfl, by omega, h⟩
theorem MaxAt.lt {w : World} (h : MaxAt w) : 1 < w.heap.size := by
  obtain ⟨m, h⟩ := h
  exact World.block_lt_of_cell? w _ h

theorem MaxAt.to {B : Nat} {w w' : World} (h : MaxAt w) (hb : Below B w w') (hg : 1 < B) : MaxAt w' := by
  obtain ⟨m, h⟩ := h
  exact ⟨m, (hb.cell (p := ⟨1, 0, none⟩) hg).trans h⟩
abbrev Bld (B b : Nat) (l : List UInt8) (w : World) : Prop := Lib.IsBuilder 57 5 B b (Lib.byteCells l) w
theorem Bld.below {B b : Nat} {l : List UInt8} {w w' : World} (h : Bld B b l w) (hb : Below w.heap.size w w') : Bld B b l w' := by
  rcases h with ⟨h1, v, h2, h3, h4⟩ | ⟨h1, v, h2, h3, h4⟩
  · exact Or.inl ⟨h1, v, (hb.block b (Array.getElem?_eq_some_iff.1 h2).1).trans h2, owns_below h3 hb, h4⟩
  · exact Or.inr ⟨h1, v, (hb.block b (Array.getElem?_eq_some_iff.1 h2).1).trans h2, owns_below h3 hb, h4⟩
theorem byteCells_append (l m : List UInt8) : Lib.byteCells (l ++ m) = Lib.byteCells l ++ Lib.byteCells m := by simp [Lib.byteCells]
/-- WriteString, said of the bytes. -/
theorem write_any (B b : Nat) (l : List UInt8) (s : ByteArray) (w : World) (h : Bld B b l w) (hlen : l.length + s.size ≤ 1000000) (hBw : B ≤ w.heap.size) :
    Calls Tryd.prog 24 #[.pointer (some ⟨b, 0, none⟩), .string s] w fun e w' => e = .returned (.tuple #[.int .i64 s.size, .nilIface]) ∧ Bld B b (l ++ s.data.toList) w' ∧ Below B w w' :=
  (bwrite_any B b (Lib.byteCells l) s w h (by rw [Lib.byteCells_length]; omega) hBw).mono fun e w' ⟨h1, h2, h3⟩ => ⟨h1, Or.inr (by rw [byteCells_append, ← Lib.strCells_eq]; exact h2), h3⟩
theorem len_any (B b : Nat) (l : List UInt8) (w : World) (h : Bld B b l w) :
    Calls Tryd.prog 25 #[.pointer (some ⟨b, 0, none⟩)] w fun e w' => e = .returned (.int .i64 l.length) ∧ w' = w :=
  (Tryd.Builder_Len B b (Lib.byteCells l) w h).mono fun e w' ⟨h1, h2⟩ => ⟨by rw [h1, Lib.byteCells_length], h2⟩
/-- The cells ahead, with the comma that follows them. -/
def frontB (k : Nat) (c : List (List UInt8)) : List UInt8 := if k = 0 then [] else sepB (c.take k) ++ [44]
theorem sep_step (c : List (List UInt8)) (k : Nat) (hk : k < c.length) : sepB (c.take (k + 1)) = frontB k c ++ writtenB c[k] := by
  rw [List.take_succ_eq_append_getElem hk, sep_snoc]
  unfold frontB
  cases k with
  | zero => simp
  | succ k =>
    rw [if_neg (by intro h; have := congrArg List.length h; rw [List.length_take] at this; rw [List.length_nil] at this; omega), if_neg (by omega)]
    simp
theorem sep_take_le (c : List (List UInt8)) (k : Nat) : (sepB (c.take k)).length ≤ (sepB c).length := by
  cases c with
  | nil => simp [sepB]
  | cons d r =>
    cases k with
    | zero => simp [sepB]
    | succ k =>
      simp only [List.take_succ_cons, sepB, List.length_append]
      have h : (r.take k).flatMap (fun d => 44 :: writtenB d) <+: r.flatMap (fun d => 44 :: writtenB d) := by
        refine ⟨(r.drop k).flatMap (fun d => 44 :: writtenB d), ?_⟩
        rw [← List.flatMap_append, List.take_append_drop]
      have := h.length_le
      omega

set_option maxHeartbeats 8000000 in
set_option maxRecDepth 100000 in
theorem addRow_any (B b : Nat) (T : List UInt8) (c : List (List UInt8)) (ao : Option Addr) (cap : Nat) (w : World) (hm : MaxAt w) (hgB : 1 < B) (hbd : Bld B b T w) (hT : T.length ≤ 65536) (hBw : B ≤ w.heap.size) (hrow : StrsIn B w ao c) (hcl : c.length ≤ 9223372036854775807) (hcs : ∀ x ∈ c, x.length ≤ 140737488355328) :
    Calls Tryd.prog 15 #[.pointer (some ⟨b, 0, none⟩), .slice ao c.length cap] w fun e w' => e = .returned (.bool (decide ((T ++ rowText c).length ≤ 65536))) ∧ Below B w w' ∧ ((T ++ rowText c).length ≤ 65536 → Bld B b (T ++ rowText c) w') := by
  have HM := Lib.hid hm
  have HBD := Lib.hid hbd
  have HR := Lib.hid hrow
  have HCS := Lib.hid hcs
  clear hm hbd hrow hcs
  go_enter Tryd.func15, Tryd.ntmps15
  go_wp2_with fail
  go_loopw [9] (fun i wr => ∃ k : Nat, k ≤ c.length ∧ i = .int .i64 k ∧ Bld B b (T ++ sepB (c.take k)) wr ∧ (T ++ sepB (c.take k)).length ≤ 200000 ∧ Below B w wr) (fun i _ => c.length - (intOf i).toNat)
  case atStart => exact ⟨0, Nat.zero_le _, rfl, by simpa [sepB] using HBD.out, by simp [sepB]; omega, Below.refl _ _⟩
  case round =>
    obtain ⟨k, hk, rfl, hbk, hlk, hbel⟩ := hrel
    obtain ⟨U, hU⟩ : ∃ U, U = T ++ sepB (c.take k) := ⟨_, rfl⟩
    rw [← hU] at hbk hlk
    have HU := Lib.hid hU
    have HBK := Lib.hid hbk
    have HBE := Lib.hid hbel
    have hzw := hbel.size
    clear hU hbk hbel
    by_cases hlt : k < c.length
    · obtain ⟨rb, ro, rfl, hrB, hcell⟩ : ∃ rb ro, ao = some ⟨rb, ro, none⟩ ∧ rb < B ∧ ∀ i (h : i < c.length), wr.cell? ⟨rb, ro + i, none⟩ = some (.string ⟨c[i].toArray⟩) := by
        rcases HR.out.below HBE.out (Nat.le_refl _) with h | h
        · rw [h] at hlt; simp at hlt
        · exact h
      have hck := hcell k hlt
      obtain ⟨d, hd⟩ : ∃ d, d = c[k] := ⟨_, rfl⟩
      rw [← hd] at hck
      obtain ⟨s, hs⟩ : ∃ s : ByteArray, s = ⟨d.toArray⟩ := ⟨_, rfl⟩
      have hsl : s.data.toList = d := by rw [hs]
      rw [← hs] at hck
      have HSTEP := Lib.hid (show sepB (c.take (k + 1)) = frontB k c ++ writtenB d by rw [sep_step c k hlt, hd])
      have HSL := Lib.hid hsl
      have HDD := Lib.hid hd
      have k0 : (0 : Int) ≤ (k : Int) := by omega
      have k1 : (k : Int) < (c.length : Int) := by omega
      clear hcell hd hs hsl
      have HTOT := Lib.hid (show (T ++ frontB k c).length + d.length ≤ (T ++ rowText c).length by
        have h1 := sep_take_le c (k + 1)
        rw [HSTEP.out] at h1
        have h2 := (written_len d).1
        simp only [rowText, List.length_append, List.length_cons, List.length_nil] at h1 ⊢
        omega)
      have HDL := Lib.hid (show s.size = d.length by rw [← HSL.out]; rfl)
      have hsz : s.size ≤ 140737488355328 := by rw [HDL.out, HDD.out]; exact HCS.out _ (List.getElem_mem hlt)
      have HST := Lib.hid (show T ++ sepB (c.take (k + 1)) = (T ++ frontB k c) ++ writtenB d by rw [HSTEP.out, List.append_assoc])
      rcases Nat.eq_zero_or_pos k with hkz | hkp
      have hV : U = T ++ frontB k c := by rw [HU.out, frontB, if_pos hkz, hkz]; simp [sepB]
      have hkn : ¬ 0 < k := by omega
      clear hkz
      go_wp2_with fail
      obtain ⟨V, hVV⟩ : ∃ V, V = U := ⟨_, rfl⟩
      obtain ⟨X, hX⟩ : ∃ X, X = wr := ⟨_, rfl⟩
      have HBV := Lib.hid (show Bld B b V X by rw [hVV, hX]; exact HBK.out)
      have HV := Lib.hid (show V = T ++ frontB k c by rw [hVV]; exact hV)
      have hvl : V.length ≤ 200001 := by rw [hVV]; omega
      have HBX := Lib.hid (show Below B w X by rw [hX]; exact HBE.out)
      rw [← hX]
      clear hX hVV hV hkn hck
      rotate_left
      have hV : U ++ [44] = T ++ frontB k c := by rw [HU.out, frontB, if_neg (by omega)]; simp
      go_wp2_with fail
      refine (write_any B b U ⟨#[44]⟩ wr HBK.out (by rw [show (⟨#[44]⟩ : ByteArray).size = 1 from rfl]; omega) (by omega)).mono ?_; rintro e X ⟨rfl, hbX, hbe⟩
      obtain ⟨V, hVV⟩ : ∃ V, V = U ++ [44] := ⟨_, rfl⟩
      have HBV := Lib.hid (show Bld B b V X by rw [hVV]; exact hbX)
      have HV := Lib.hid (show V = T ++ frontB k c by rw [hVV]; exact hV)
      have hvl : V.length ≤ 200001 := by rw [hVV, List.length_append]; simp; omega
      have HBX := Lib.hid (show Below B w X from HBE.out.trans hbe)
      clear hbX hbe hVV hV hck
      go_wp2_with fail
      all_goals
        have hzX := HBX.out.size
        have hvt := HTOT.out
        rw [← HV.out] at hvt
        have hT2 := HTOT.out
        refine (len_any B b V X HBV.out).mono ?_; rintro e w2 ⟨rfl, rfl⟩
        by_cases hov : 65536 < V.length + s.size
        · have hov2 : (65536 : Int) < (V.length : Int) + (s.size : Int) := by omega
          go_wp2_with fail
          go_ret
          have hd2 := HDL.out
          exact ⟨by rw [decide_eq_false (by omega)]; rfl, HBX.out, fun h => absurd h (by omega)⟩
        · have hov2 : ¬ (65536 : Int) < (V.length : Int) + (s.size : Int) := by omega
          go_wp2_with fail
          refine (written_any s _ (HM.out.to HBX.out hgB) (by omega)).mono ?_; rintro e w3 ⟨rfl, hb3⟩
          have HBV3 := Lib.hid (HBV.out.below hb3)
          have HB3 := Lib.hid (HBX.out.trans (hb3.mono (Nat.le_trans hBw hzX)))
          have hwl : (writtenB d).length ≤ 2 * s.size + 2 := by rw [HDL.out]; exact (written_len d).2
          obtain ⟨y, hy⟩ : ∃ y : ByteArray, y = ⟨(writtenB s.data.toList).toArray⟩ := ⟨_, rfl⟩
          have HY := Lib.hid (show y.data.toList = writtenB d by rw [hy, HSL.out])
          have hyl : y.size ≤ 131074 := by
            have : y.size = (writtenB d).length := by rw [← HY.out]; rfl
            omega
          rw [← hy]
          have hz3 := hb3.size
          clear hb3 hy hvt hT2
          go_wp2_with fail
          refine (write_any B b V y w3 HBV3.out (by omega) (by omega)).mono ?_; rintro e w4 ⟨rfl, hbd4, hb4⟩
          have HB4 := Lib.hid (HB3.out.trans hb4)
          have HBD4 := Lib.hid (show Bld B b (T ++ sepB (c.take (k + 1))) w4 by rw [HST.out, ← HV.out, ← HY.out]; exact hbd4)
          have HL4 := Lib.hid (show (T ++ sepB (c.take (k + 1))).length ≤ 200000 by
            rw [HST.out, ← HV.out, List.length_append]
            omega)
          clear hbd4 hb4
          go_wp2_with fail
          go_roundw
          case rel => exact ⟨k + 1, by omega, by go_num, HBD4.out, HL4.out, HB4.out⟩
          case measure => simp [intOf]; omega
    · go_wp2_with fail
      have hkc : k = c.length := by omega
      have HT2 := Lib.hid (show U ++ [13, 10] = T ++ rowText c by rw [HU.out, hkc, List.take_length, rowText, List.append_assoc])
      refine (write_any B b U ⟨#[13, 10]⟩ wr HBK.out (by rw [show (⟨#[13, 10]⟩ : ByteArray).size = 2 from rfl]; omega) (by omega)).mono ?_; rintro e X ⟨rfl, hbX, hbe⟩
      have HBX := Lib.hid (show Bld B b (T ++ rowText c) X by rw [← HT2.out]; exact hbX)
      have HB2 := Lib.hid (show Below B w X from HBE.out.trans hbe)
      clear hbX hbe
      go_wp2_with fail
      refine (len_any B b (T ++ rowText c) X HBX.out).mono ?_; rintro e w2 ⟨rfl, rfl⟩
      go_wp2_with fail
      go_ret
      exact ⟨congrArg (fun b => Ending.returned (.bool b)) (decide_eq_decide.2 (by rw [List.length_append]; omega)), HB2.out, fun _ => HBX.out⟩
end Go.Proofs.YtdkddnlolnbpgaaDoor
