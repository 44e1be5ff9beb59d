/- The walk of the law of there and back. -/
import Derived.Test.YtodbpfdknfcgbaaDoorBegun
namespace Go.Proofs.YtodbpfdknfcgbaaDoor
open Go Go.RowKit

/-- The bytes that the law reckons. -/
def rowN (r : List (List UInt8)) : Nat := (r.map fun c => 2 * c.length + 4).sum
def bytesN (l : List (List (List UInt8))) : Nat := (l.map rowN).sum
theorem rowN_take (r : List (List UInt8)) (k : Nat) (hk : k < r.length) : rowN (r.take (k + 1)) = rowN (r.take k) + (2 * r[k].length + 4) := by
  unfold rowN
  rw [List.take_succ_eq_append_getElem hk, List.map_append, List.sum_append]
  simp only [List.map_cons, List.map_nil, List.sum_cons, List.sum_nil, Nat.add_zero]
theorem sum_take_le (l : List Nat) (k : Nat) : (l.take k).sum ≤ l.sum := by
  have := congrArg List.sum (List.take_append_drop k l)
  rw [List.sum_append] at this
  omega
theorem rowN_take_le (r : List (List UInt8)) (k : Nat) : rowN (r.take k) ≤ rowN r := by
  unfold rowN
  rw [List.map_take]
  exact sum_take_le _ _
theorem bytesN_take (l : List RowX) (k : Nat) (hk : k < l.length) : bytesN (cellsOf (l.take (k + 1))) = bytesN (cellsOf (l.take k)) + rowN l[k].c := by
  unfold bytesN cellsOf
  rw [List.take_succ_eq_append_getElem hk, List.map_append, List.map_append, List.sum_append]
  simp only [List.map_cons, List.map_nil, List.sum_cons, List.sum_nil, Nat.add_zero]
theorem bytesN_take_le (l : List RowX) (k : Nat) : bytesN (cellsOf (l.take k)) ≤ bytesN (cellsOf l) := by
  unfold bytesN cellsOf
  rw [List.map_take, List.map_take]
  exact sum_take_le _ _
theorem join_le_bytes (l : List (List (List UInt8))) (h : [] ∉ l) : (joinB l).length ≤ bytesN l := by
  induction l with
  | nil => simp [joinB, bytesN]
  | cons r l ih =>
    simp only [List.mem_cons, not_or] at h
    have h1 := ih h.2
    cases r with
    | nil => exact absurd rfl h.1
    | cons c r =>
      have h2 := rowText_len c r
      simp only [joinB, bytesN, rowN, List.flatMap_cons, List.length_append, List.map_cons, List.sum_cons] at h1 h2 ⊢
      omega
theorem none_empty {l : List RowX} (h : ∀ i (h : i < l.length), l[i].c.length ≠ 0) : [] ∉ cellsOf l := by
  rw [cellsOf, List.mem_map]
  rintro ⟨x, hx, h0⟩
  obtain ⟨i, hi, rfl⟩ := List.mem_iff_getElem.1 hx
  exact h i hi (by rw [h0]; rfl)

set_option maxHeartbeats 8000000 in
set_option maxRecDepth 100000 in
theorem there_any (l : List RowX) (ao : Option Addr) (cap : Nat) (w : World) (hm : MaxAt w) (hl : RowsIn w.heap.size w ao l) (hll : l.length ≤ 9223372036854775807) (hf : ∀ x ∈ l, Fit x) (hN : bytesN (cellsOf l) ≤ 9223372036854775807) :
    Calls Tryd.prog 3 #[.slice ao l.length cap] w fun e w' => e = .returned (.bool true) ∧ Below w.heap.size w w' := by
  have HM := Lib.hid hm
  have HL := Lib.hid hl
  have HF := Lib.hid hf
  clear hm hl hf
  go_enter Tryd.func3, Tryd.ntmps3
  go_wp2_with fail
  refine (begun_any w HM.out).mono ?_; rintro e w1 ⟨rfl, hb1⟩
  have HB1 := Lib.hid hb1
  clear hb1
  go_wp2_with fail
  refine (join_any l ao cap w1 (HM.out.below HB1.out) ((HL.out.below HB1.out (Nat.le_refl _)).mono HB1.out.size) hll HF.out).mono ?_; rintro e w2 ⟨rfl, hb2⟩
  have HB2 := Lib.hid (HB1.out.trans (hb2.mono HB1.out.size))
  clear hb2
  obtain ⟨E, hE⟩ : ∃ E, E = joinE (cellsOf l) := ⟨_, rfl⟩
  obtain ⟨S, hS⟩ : ∃ S : ByteArray, S = ⟨(joinOut (cellsOf l)).toArray⟩ := ⟨_, rfl⟩
  rw [← hE, ← hS]
  have HE := Lib.hid hE
  have HS := Lib.hid hS
  clear hE hS
  go_wp2_with fail
  go_loopw [6, 7] (fun v i wr => ∃ k : Nat, k ≤ l.length ∧ i = .int .i64 k ∧ v = .int .i64 (bytesN (cellsOf (l.take k)) : Nat) ∧ (∀ i (h : i < l.length), i < k → l[i].c.length ≠ 0) ∧ wr = w2) (fun _ i _ => l.length - (intOf i).toNat)
  case atStart => exact ⟨0, Nat.zero_le _, rfl, rfl, fun i _ h => absurd h (Nat.not_lt_zero _), rfl⟩
  case round =>
    obtain ⟨k, hk, rfl, rfl, hall, rfl⟩ := hrel
    have HALL := Lib.hid hall
    clear hall
    have hzw := HB2.out.size
    by_cases hlt : k < l.length
    · obtain ⟨rb, ro, rfl, hrB, hcell⟩ : ∃ rb ro, ao = some ⟨rb, ro, none⟩ ∧ rb < w.heap.size ∧ ∀ i (h : i < l.length), wr.cell? ⟨rb, ro + i, none⟩ = some (.slice l[i].ao l[i].c.length l[i].cap) ∧ StrsIn w.heap.size wr l[i].ao l[i].c := by
        rcases HL.out.below HB2.out (Nat.le_refl _) with h | h
        · rw [h] at hlt; simp at hlt
        · exact h
      obtain ⟨hck, hst⟩ := hcell k hlt
      have HX := Lib.hid (show ∀ x, x = l[k].c.length → x ≠ 0 → ∀ i (h : i < l.length), i < k + 1 → l[i].c.length ≠ 0 by
        intro x hx h0 i hi hik
        by_cases e : i = k
        · subst e; omega
        · exact HALL.out i hi (by omega))
      have HX0 := Lib.hid (fun (h : l[k].c.length = 0) => joinE_row k hlt h)
      have HBT := Lib.hid (bytesN_take l k hlt)
      have hble := bytesN_take_le l (k + 1)
      rw [HBT.out] at hble
      have hfk := (HF.out l[k] (List.getElem_mem hlt)).2
      obtain ⟨x, hx⟩ : ∃ x, x = l[k] := ⟨_, rfl⟩
      rw [← hx] at hck hst HX0 HBT hble HX hfk
      obtain ⟨c, ca, cc⟩ := x
      simp only at hck hst HX0 HBT hble HX hfk
      obtain ⟨n, hn⟩ : ∃ n, n = c.length := ⟨_, rfl⟩
      rw [← hn] at hck HX0 HX
      have HN := Lib.hid hn
      have HST := Lib.hid hst
      have HFK := Lib.hid hfk
      obtain ⟨P, hP⟩ : ∃ P, P = bytesN (cellsOf (l.take k)) := ⟨_, rfl⟩
      rw [← hP] at hble HBT ⊢
      have hR : P + rowN c ≤ 9223372036854775807 := by omega
      have k0 : (0 : Int) ≤ (k : Int) := by omega
      have k1 : (k : Int) < (l.length : Int) := by omega
      have hn2 : n ≤ 9223372036854775807 := by
        rw [hn]
        have : c.length ≤ rowN c := by
          clear hP hn hck hst HX0 HBT hble HX hfk hx hR HN HST HFK
          induction c with
          | nil => simp
          | cons a r ih =>
            simp only [rowN, List.length_cons, List.map_cons, List.sum_cons] at ih ⊢
            omega
        omega
      clear hcell hx hst hfk hP hble hn
      cases h0 : ((n : Int) == 0)
      · have HX2 := Lib.hid (HX.out n rfl (by simpa using h0))
        go_wp2_with fail
        go_loopw [6, 8] (fun v j wx => ∃ m : Nat, m ≤ n ∧ j = .int .i64 m ∧ v = .int .i64 ((P + rowN (c.take m) : Nat) : Int) ∧ wx = wr) (fun _ j _ => n - (intOf j).toNat)
        case atStart => exact ⟨0, Nat.zero_le _, rfl, by simp [rowN], rfl⟩
        case round =>
          obtain ⟨m, hm, rfl, rfl, rfl⟩ := hrel
          by_cases hmn : m < n
          · have hmc : m < c.length := by rw [← HN.out]; exact hmn
            obtain ⟨b2, o2, rfl, _, hs2⟩ : ∃ b o, ca = some ⟨b, o, none⟩ ∧ b < w.heap.size ∧ ∀ i (h : i < c.length), wr.cell? ⟨b, o + i, none⟩ = some (.string ⟨c[i].toArray⟩) := by
              rcases HST.out with h | h
              · rw [h] at hmc; simp at hmc
              · exact h
            have hs := hs2 m hmc
            have HRT := Lib.hid (rowN_take c m hmc)
            have hrl := rowN_take_le c (m + 1)
            rw [HRT.out] at hrl
            have hsl := HFK.out c[m] (List.getElem_mem hmc)
            obtain ⟨s, hs3⟩ : ∃ s : ByteArray, s = ⟨c[m].toArray⟩ := ⟨_, rfl⟩
            have hsz : c[m].length = s.size := by rw [hs3]; rfl
            rw [← hs3] at hs
            rw [hsz] at hrl hsl HRT
            have m0 : (0 : Int) ≤ (m : Int) := by omega
            have m1 : (m : Int) < (n : Int) := by omega
            obtain ⟨Z, hZ⟩ : ∃ Z, Z = P + rowN (c.take m) := ⟨_, rfl⟩
            have hZ2 : Z + (2 * s.size + 4) ≤ 9223372036854775807 := by omega
            have HZ := Lib.hid (show P + rowN (c.take (m + 1)) = Z + (2 * s.size + 4) by rw [HRT.out, hZ]; omega)
            rw [← hZ]
            clear hs2 hs3 hsz hrl hZ
            go_wp2_with fail
            go_roundw
            case rel => exact ⟨m + 1, by omega, by go_num, by rw [HZ.out]; exact congrArg (Value.int IntKind.i64) (by omega), by first | trivial | rfl⟩
            case measure => simp [intOf]; omega
          · have hmn2 : m = n := by omega
            have HZ := Lib.hid (show P + rowN (c.take m) = bytesN (cellsOf (l.take (k + 1))) by rw [hmn2, HN.out, List.take_length, HBT.out])
            rw [HZ.out]
            clear hmn2
            go_wp2_with fail
            go_roundw
            case rel => exact ⟨k + 1, by omega, by go_num, rfl, HX2.out, by first | trivial | rfl⟩
            case measure => simp [intOf]; omega
      · have hn0 : n = 0 := by simpa using h0
        have hE41 : E = 41 := by rw [HE.out, HX0.out hn0]
        have hS0 : S = ⟨#[]⟩ := by rw [HS.out, joinOut, HX0.out hn0]; rfl
        clear hn0
        subst hE41 hS0
        go_wp2_with fail
        go_ret
        exact ⟨rfl, HB2.out⟩
    · have hkl : k = l.length := by omega
      have HALL2 := Lib.hid (show ∀ i (h : i < l.length), l[i].c.length ≠ 0 from fun i h => HALL.out i h (by omega))
      have HKT := Lib.hid (show bytesN (cellsOf (l.take k)) = bytesN (cellsOf l) by rw [hkl, List.take_length])
      rw [HKT.out]
      obtain ⟨P, hP⟩ : ∃ P, P = bytesN (cellsOf l) := ⟨_, rfl⟩
      rw [← hP] at hN ⊢
      have HP := Lib.hid hP
      clear hkl hP
      by_cases hov : 65536 < (joinB (cellsOf l)).length
      · have hE2 : E = 2 := by rw [HE.out, joinE_long HALL2.out hov]
        have hS0 : S = ⟨#[]⟩ := by rw [HS.out, joinOut, joinE_long HALL2.out hov]; rfl
        have hb := join_le_bytes _ (none_empty HALL2.out)
        rw [← HP.out] at hb
        have hPb : (65536 : Int) < (P : Int) := by omega
        clear hb hov
        subst hE2 hS0
        go_wp2_with fail
        go_ret
        exact ⟨rfl, HB2.out⟩
      · have hE0 : E = 0 := by rw [HE.out, joinE_ok HALL2.out hov]
        have hSl : S.data.toList = joinB (cellsOf l) := by rw [HS.out, joinOut, joinE_ok HALL2.out hov]; rfl
        have hSs : S.size ≤ 65536 := by
          have : S.size = (joinB (cellsOf l)).length := by rw [← hSl]; rfl
          omega
        have HSP := split_any S wr hSs
        rw [hSl, split_join _ (none_empty HALL2.out)] at HSP
        have HSPL := Lib.hid HSP
        clear hov hSl HSP
        subst hE0
        go_wp2_with fail
        refine HSPL.out.mono ?_; rintro e w3 ⟨⟨l2, va, cp, rfl, hcl, hown, hrow⟩, hb3⟩
        have hri := rows_in hown hrow
        have HRI := Lib.hid hri.1
        have HB3 := Lib.hid (HB2.out.trans (hb3.mono HB2.out.size))
        have HSS := Lib.hid (same_same l2 l va ao cp cap w3.heap.size w.heap.size w3 hri.1 (HL.out.below HB3.out (Nat.le_refl _)) (Nat.le_refl _) HB3.out.size hcl (by have h1 := hri.2.1; have h2 := hri.2.2; rw [maxLen_val] at h2; omega) (fun x hx => (strs_in (hrow x hx)).2))
        clear hcl hown hrow hri hb3
        go_wp2_with fail
        refine HSS.out.mono ?_; rintro e w4 ⟨rfl, hb4⟩
        have HB4 := Lib.hid (HB3.out.trans (hb4.mono HB3.out.size))
        clear hb4
        go_wp2_with fail
        go_ret
        exact ⟨rfl, HB4.out⟩
end Go.Proofs.YtodbpfdknfcgbaaDoor
