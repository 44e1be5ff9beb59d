/- The walk of the law of all rows. -/
import Derived.Test.YtodbpfdknfcgbaaDoorUntouched
namespace Go.Proofs.YtodbpfdknfcgbaaDoor
open Go Go.RowKit

/-- A list of rows among lists. -/
structure ListX where
  l : List RowX
  ao : Option Addr
  cap : Nat
def ListsIn (B : Nat) (w : World) (ao : Option Addr) (ls : List ListX) : Prop :=
  ls = [] ∨ ∃ b o, ao = some ⟨b, o, none⟩ ∧ b < B ∧ ∀ i (h : i < ls.length), w.cell? ⟨b, o + i, none⟩ = some (.slice ls[i].ao ls[i].l.length ls[i].cap) ∧ RowsIn B w ls[i].ao ls[i].l
theorem ListsIn.below {B C : Nat} {w w' : World} {ao : Option Addr} {ls : List ListX} (h : ListsIn B w ao ls) (hb : Below C w w') (hC : B ≤ C) : ListsIn B w' ao ls := by
  rcases h with h | ⟨b, o, rfl, hl, h⟩
  · exact Or.inl h
  · exact Or.inr ⟨b, o, rfl, hl, fun i hi => ⟨(hb.cell (p := ⟨b, o + i, none⟩) (by simp; omega)).trans (h i hi).1, (h i hi).2.below hb hC⟩⟩
theorem ListsIn.at {B : Nat} {w : World} {ao : Option Addr} {ls : List ListX} (h : ListsIn B w ao ls) (i : Nat) (hi : i < ls.length) : ∃ b o, ao = some ⟨b, o, none⟩ ∧ b < B ∧ w.cell? ⟨b, o + i, none⟩ = some (.slice ls[i].ao ls[i].l.length ls[i].cap) ∧ RowsIn B w ls[i].ao ls[i].l := by
  rcases h with rfl | ⟨b, o, e, hb, hc⟩
  · simp at hi
  · exact ⟨b, o, e, hb, (hc i hi).1, (hc i hi).2⟩
/-- What is asked of a list of rows. -/
structure ListFit (x : ListX) : Prop where
  len : x.l.length ≤ 5864062014700
  row : ∀ y ∈ x.l, Roomy y ∧ ∀ z ∈ y.c, z.length ≤ 140737488355328
theorem ListFit.fit {x : ListX} (h : ListFit x) : ∀ y ∈ x.l, Fit y := fun y hy => ⟨by have := (h.row y hy).1.1; omega, (h.row y hy).2⟩
theorem RowsIn.front {B n : Nat} {w : World} {ao : Option Addr} {l : List RowX} (h : RowsIn B w ao l) : RowsIn B w ao (l.take n) := by
  rcases h with rfl | ⟨b, o, e, hb, hc⟩
  · exact Or.inl (by simp)
  · refine Or.inr ⟨b, o, e, hb, fun i hi => ?_⟩
    have hi2 : i < l.length := by rw [List.length_take] at hi; omega
    rw [List.getElem_take]
    exact hc i hi2
theorem Room.front {l L M : List RowX} (h : Room l L M) : cellsOf (L.take l.length) = cellsOf l := by
  have e : cellsOf (L.take l.length) = (cellsOf L).take l.length := by simp [cellsOf]
  rw [e, h.lst]
  rw [List.take_append_of_le_length (by simp [cellsOf])]
  rw [List.take_of_length_le (by simp [cellsOf])]
theorem Room.fit {l L M : List RowX} (h : Room l L M) (hf : ∀ y ∈ l, Fit y) : ∀ y ∈ L.take l.length, Fit y := by
  intro y hy
  have h1 : y.c ∈ cellsOf (L.take l.length) := List.mem_map_of_mem hy
  rw [h.front] at h1
  obtain ⟨z, hz, e⟩ := List.mem_map.1 h1
  have := hf z hz
  unfold Fit at this ⊢
  rw [← e]
  exact this

set_option maxHeartbeats 16000000 in
set_option maxRecDepth 100000 in
theorem joins_any (ls : List ListX) (ao : Option Addr) (cap : Nat) (w : World) (hm : MaxAt w) (hl : ListsIn w.heap.size w ao ls) (hll : ls.length ≤ 9223372036854775807) (hf : ∀ x ∈ ls, ListFit x) :
    Calls Tryd.prog 6 #[.slice ao ls.length cap] w fun e w' => e = .returned (.bool true) ∧ Below w.heap.size w w' := by
  have HM := Lib.hid hm
  have HL := Lib.hid hl
  have HF := Lib.hid hf
  clear hm hl hf
  go_enter Tryd.func6, Tryd.ntmps6
  go_wp2_with fail
  refine (begun_any w HM.out).mono ?_; rintro e w1 ⟨rfl, hb1⟩
  have HB1 := Lib.hid hb1
  clear hb1
  go_wp2_with fail
  go_loopw [4] (fun i wr => ∃ k : Nat, k ≤ ls.length ∧ i = .int .i64 k ∧ Below w.heap.size w wr) (fun i _ => ls.length - (intOf i).toNat)
  case atStart => exact ⟨0, Nat.zero_le _, rfl, HB1.out⟩
  case round =>
    obtain ⟨k, hk, rfl, hbel⟩ := hrel
    have HBE := Lib.hid hbel
    have hzw := hbel.size
    clear hbel
    by_cases hlt : k < ls.length
    · obtain ⟨b, o, rfl, hb, hck, hri⟩ := (HL.out.below HBE.out (Nat.le_refl _)).at k hlt
      have hfk := HF.out ls[k] (List.getElem_mem hlt)
      obtain ⟨x, hx⟩ : ∃ x, x = ls[k] := ⟨_, rfl⟩
      rw [← hx] at hck hri hfk
      obtain ⟨l, xa, xc⟩ := x
      simp only at hck hri
      have hln : l.length ≤ 5864062014700 := hfk.len
      have HFIT := Lib.hid (show ∀ y ∈ l, Fit y from hfk.fit)
      have HROOM := Lib.hid (show ∀ y ∈ l, Roomy y from fun y hy => (hfk.row y hy).1)
      obtain ⟨n, hn⟩ : ∃ n, n = l.length := ⟨_, rfl⟩
      have HN := Lib.hid hn
      rw [← hn] at hck
      have HRI := Lib.hid hri
      have HCK := Lib.hid hck
      have hnb : n ≤ 5864062014700 := by omega
      have k0 : (0 : Int) ≤ (k : Int) := by omega
      have k1 : (k : Int) < (ls.length : Int) := by omega
      have HRO := Lib.hid (roomy_any l xa xc wr (hri.mono hzw) hln HROOM.out)
      rw [← hn] at HRO
      clear hx hri hfk hn
      go_wp2_with fail
      refine HRO.out.mono ?_; rintro e w2 ⟨⟨L, M, va, ca, vb, cb, rfl, hL, hM, hrL, hrM, hLc, hcm, hMc, hcbm, hMr, g, rfl⟩, hb2⟩
      have hroom : Room l L M := ⟨hL, hM⟩
      have HR := Lib.hid hroom
      have hLn : L.length = n + 20 := by rw [hroom.len.1, ← HN.out]
      have hMn : M.length = n := by rw [hroom.len.2, ← HN.out]
      rw [hLn] at hLc ⊢
      rw [hMn] at hMc ⊢
      have HRL := Lib.hid hrL
      have HRM := Lib.hid hrM
      have HMR := Lib.hid hMr
      have HB2 := Lib.hid (HBE.out.trans (hb2.mono hzw))
      have hck2 := (hb2.cell (p := ⟨b, o + k, none⟩) (by simp; omega)).trans hck
      have HM2 := Lib.hid (HM.out.to HB2.out HM.out.lt)
      have n0 : (0 : Int) ≤ (n : Int) := by omega
      have n1 : (n : Int) ≤ (n : Int) + 20 := by omega
      have n2 : (n : Int) + 20 ≤ (ca : Int) := by omega
      have n3 : n ≤ n + 20 := by omega
      unfold maxLen at hcm hcbm
      have hz2 := hb2.size
      have HLT := Lib.hid (show (L.take n).length = n by rw [List.length_take, hLn]; omega)
      have HCF := Lib.hid (show cellsOf (L.take n) = cellsOf l by rw [HN.out]; exact hroom.front)
      have HFT := Lib.hid (show ∀ y ∈ L.take n, Fit y by rw [HN.out]; exact hroom.fit HFIT.out)
      have HJ := Lib.hid (join_any (L.take n) (some ⟨g, 0, none⟩) (n + 20) w2 HM2.out HRL.out.front (by rw [HLT.out]; omega) HFT.out)
      rw [HLT.out, HCF.out] at HJ
      have HRW := Lib.hid (show RowsIn w2.heap.size w2 xa l from ((HRI.out.mono hzw).below hb2 (Nat.le_refl _)).mono hz2)
      obtain ⟨S, hS⟩ : ∃ S : ByteArray, S = ⟨(joinOut (cellsOf l)).toArray⟩ := ⟨_, rfl⟩
      obtain ⟨E, hE⟩ : ∃ E, E = joinE (cellsOf l) := ⟨_, rfl⟩
      rw [← hS, ← hE] at HJ
      have HS := Lib.hid hS
      have HE := Lib.hid hE
      have hqe : (E != E) = false := by simp
      clear hS hE hL hM hrL hrM hMr hb2 hck hroom hLn hMn
      go_wp2_with fail
      refine HJ.out.mono ?_; rintro e w3 ⟨rfl, hb3⟩
      have HB3 := Lib.hid (HB2.out.trans (hb3.mono HB2.out.size))
      have hck3 := (hb3.cell (p := ⟨b, o + k, none⟩) (by simp; omega)).trans hck2
      have hz3 := hb3.size
      have HRL3 := Lib.hid ((HRL.out.below hb3 (Nat.le_refl _)).mono hz3)
      have HRM3 := Lib.hid ((HRM.out.below hb3 (Nat.le_refl _)).mono hz3)
      have HRW3 := Lib.hid ((HRW.out.below hb3 (Nat.le_refl _)).mono hz3)
      have HRJ := Lib.hid (refJoin_any l xa xc w3 HRW3.out (by omega) HFIT.out)
      rw [← HN.out, ← HS.out, ← HE.out] at HRJ
      clear hb3 hck2 HJ
      go_wp2_with fail
      refine HRJ.out.mono ?_; rintro e w4 ⟨rfl, hb4⟩
      have HB4 := Lib.hid (HB3.out.trans (hb4.mono HB3.out.size))
      have hck4 := (hb4.cell (p := ⟨b, o + k, none⟩) (by simp; omega)).trans hck3
      have hz4 := hb4.size
      have HRL4 := Lib.hid ((HRL3.out.below hb4 (Nat.le_refl _)).mono hz4)
      have HRM4 := Lib.hid ((HRM3.out.below hb4 (Nat.le_refl _)).mono hz4)
      have HRW4 := Lib.hid ((HRW3.out.below hb4 (Nat.le_refl _)).mono hz4)
      have HUN := Lib.hid (untouched_any l L M xa (some ⟨g, 0, none⟩) vb xc ca cb w4 HR.out HRW4.out HRL4.out HRM4.out hln (fun y hy => (HROOM.out y hy).1) HMR.out)
      rw [HR.out.len.1, HR.out.len.2, ← HN.out] at HUN
      clear hb4 hck3 HRJ
      go_wp2_with fail
      refine HUN.out.mono ?_; rintro e w5 ⟨rfl, hb5⟩
      have HB5 := Lib.hid (HB4.out.trans (hb5.mono HB4.out.size))
      clear hb5 HUN
      go_wp2_with fail
      go_roundw
      case rel => exact ⟨k + 1, by omega, by go_num, HB5.out⟩
      case measure => simp [intOf]; omega
    · go_wp2_with fail
      go_ret
      exact ⟨rfl, HBE.out⟩
end Go.Proofs.YtodbpfdknfcgbaaDoor
