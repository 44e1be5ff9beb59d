/- The walk of the law of numbers. -/
import Derived.Test.YtmdhacboegmccaaDoorRoomy
namespace Go.Proofs.YtmdhacboegmccaaDoor
open Go Go.RowKit

structure RawX where
  l : List UInt8
  ao : Option Addr
  cap : Nat
def RawsIn (w : World) (ao : Option Addr) (l : List RawX) : Prop :=
  l = [] ∨ ∃ b o, ao = some ⟨b, o, none⟩ ∧ ∀ i (h : i < l.length), w.cell? ⟨b, o + i, none⟩ = some (.slice l[i].ao l[i].l.length l[i].cap) ∧ BytesAt w l[i].ao l[i].l
theorem RawsIn.below {w w' : World} {ao : Option Addr} {l : List RawX} (h : RawsIn w ao l) (hb : Below w.heap.size w w') : RawsIn w' ao l := by
  rcases h with h | ⟨b, o, rfl, h⟩
  · exact Or.inl h
  · exact Or.inr ⟨b, o, rfl, fun i hi => ⟨(hb.cell (p := ⟨b, o + i, none⟩) (World.block_lt_of_cell? w _ (h i hi).1)).trans (h i hi).1, (h i hi).2.below hb⟩⟩
def NumsAt (w : World) (ao : Option Addr) (l : List Int) : Prop :=
  l = [] ∨ ∃ b o, ao = some ⟨b, o, none⟩ ∧ ∀ i (h : i < l.length), w.cell? ⟨b, o + i, none⟩ = some (.int .i64 l[i])
theorem NumsAt.below {w w' : World} {ao : Option Addr} {l : List Int} (h : NumsAt w ao l) (hb : Below w.heap.size w w') : NumsAt w' ao l := by
  rcases h with h | ⟨b, o, rfl, h⟩
  · exact Or.inl h
  · exact Or.inr ⟨b, o, rfl, fun i hi => (hb.cell (p := ⟨b, o + i, none⟩) (World.block_lt_of_cell? w _ (h i hi))).trans (h i hi)⟩
theorem room_bytes {w : World} {B g c : Nat} {l r : List UInt8} (hc : Copy w B g c r) (hr : r.length = l.length + 66) (h : ∀ i (h : i < r.length), r[i] = roomAt l i) : BytesAt w (some ⟨g, 0, none⟩) l :=
  Or.inr ⟨g, 0, rfl, fun i hi => by
    have h1 := hc.cells i (by omega)
    rw [h i (by omega), roomAt_in l i hi] at h1
    exact h1⟩
theorem room_same {l r s : List UInt8} (hr : r.length = l.length + 66) (hs : s.length = l.length + 66) (h : ∀ i (h : i < r.length), r[i] = roomAt l i) (k : ∀ i (h : i < s.length), s[i] = roomAt l i) : r = s :=
  List.ext_getElem (by omega) fun i h1 h2 => by rw [h i h1, k i h2]

set_option maxHeartbeats 8000000 in
set_option maxRecDepth 100000 in
theorem ints_any (ns : List Int) (raws : List RawX) (no ro : Option Addr) (nc rc : Nat) (w : World) (hres : ResAt w) (hn : NumsAt w no ns) (hnb : ∀ n ∈ ns, -9223372036854775808 ≤ n ∧ n ≤ 9223372036854775807) (hnl : ns.length ≤ maxLen) (hr : RawsIn w ro raws) (hrb : ∀ x ∈ raws, x.l.length ≤ x.cap ∧ x.cap ≤ maxLen ∧ x.l.length ≤ 150000000000000) (hrl : raws.length ≤ maxLen) :
    Calls Tryd.prog 6 #[.slice no ns.length nc, .slice ro raws.length rc] w fun en w' => en = .returned (.bool true) ∧ Below w.heap.size w w' := by
  have HN := Lib.hid hn
  have HNB := Lib.hid hnb
  have HR := Lib.hid hr
  have HRB := Lib.hid hrb
  unfold maxLen at hnl hrl
  have HRS := Lib.hid hres
  clear hn hnb hr hrb hres
  go_enter Tryd.func6, Tryd.ntmps6
  go_wp2_with fail
  refine (begun_any w HRS.out).mono ?_; rintro en w1 ⟨rfl, hb1⟩
  have HB1 := Lib.hid hb1
  clear hb1
  go_wp2_with fail
  go_loopw [5] (fun i wr => ∃ k : Nat, k ≤ ns.length ∧ i = .int .i64 k ∧ Below w.heap.size w wr) (fun i _ => ns.length - (intOf i).toNat)
  case atStart => exact ⟨0, Nat.zero_le _, rfl, HB1.out⟩
  case round =>
    obtain ⟨k, hk, rfl, hbel⟩ := hrel
    have HBE := Lib.hid hbel
    clear hbel
    by_cases hlt : k < ns.length
    · obtain ⟨b, o, rfl, hc⟩ : ∃ b o, no = some ⟨b, o, none⟩ ∧ ∀ i (h : i < ns.length), wr.cell? ⟨b, o + i, none⟩ = some (.int .i64 ns[i]) := by
        rcases HN.out.below HBE.out with h | h
        · rw [h] at hlt; simp at hlt
        · exact h
      have hck := hc k hlt
      obtain ⟨v1, v2⟩ := HNB.out ns[k] (List.getElem_mem hlt)
      obtain ⟨n, hx⟩ : ∃ n, n = ns[k] := ⟨_, rfl⟩
      rw [← hx] at hck v1 v2
      have hpl := putB_le n v1 v2
      have hbl := World.block_lt_of_cell? wr _ hck
      have k0 : (0 : Int) ≤ (k : Int) := by omega
      have k1 : (k : Int) < (ns.length : Int) := by omega
      clear hc hx
      go_wp2_with fail
      refine (putInt_any n wr v1 v2).mono ?_; rintro en w2 ⟨u2, rfl, hx2⟩
      obtain ⟨a2, c2, rfl, hy2, _, _⟩ := owned_bytes hx2.own
      have HY2 := Lib.hid hy2
      have HF2 := Lib.hid hx2.fresh
      have hck2 := (hx2.fresh.cell (p := ⟨b, o + k, none⟩) hbl).trans hck
      clear hx2 hy2 hck
      go_wp2_with fail
      refine (refPut_any n w2 v1 v2).mono ?_; rintro en w3 ⟨u3, rfl, hx3⟩
      obtain ⟨a3, c3, rfl, hy3, _, _⟩ := owned_bytes hx3.own
      have HY3 := Lib.hid hy3
      have HF3 := Lib.hid hx3.fresh
      have HB3 := Lib.hid ((HBE.out.trans (HF2.out.mono HBE.out.size)).trans (HF3.out.mono (Nat.le_trans HBE.out.size HF2.out.size)))
      clear hx3 hy3 hck2
      go_wp2_with fail
      refine (same_same (putB n) a2 a3 c2 c3 w3 (by unfold maxLen; omega) (HY2.out.below HF3.out) HY3.out).mono ?_; rintro en w4 ⟨rfl, hb4⟩
      have HB4 := Lib.hid (HB3.out.trans (hb4.mono HB3.out.size))
      clear hb4
      go_wp2_with fail
      go_roundw
      case rel => exact ⟨k + 1, by omega, by go_num, HB4.out⟩
      case measure => simp [intOf]; omega
    · go_wp2_with fail
      go_loopw [7] (fun i wx => ∃ j : Nat, j ≤ raws.length ∧ i = .int .i64 j ∧ Below w.heap.size w wx) (fun i _ => raws.length - (intOf i).toNat)
      case atStart => exact ⟨0, Nat.zero_le _, rfl, HBE.out⟩
      case round =>
        obtain ⟨j, hj, rfl, hbel⟩ := hrel
        have HBJ := Lib.hid hbel
        clear hbel
        by_cases hjl : j < raws.length
        · obtain ⟨b, o, rfl, hc⟩ : ∃ b o, ro = some ⟨b, o, none⟩ ∧ ∀ i (h : i < raws.length), wr.cell? ⟨b, o + i, none⟩ = some (.slice raws[i].ao raws[i].l.length raws[i].cap) ∧ BytesAt wr raws[i].ao raws[i].l := by
            rcases HR.out.below HBJ.out with h | h
            · rw [h] at hjl; simp at hjl
            · exact h
          obtain ⟨hcj, hby⟩ := hc j hjl
          obtain ⟨q1, q2, q3⟩ := HRB.out raws[j] (List.getElem_mem hjl)
          obtain ⟨x, hx⟩ : ∃ x, x = raws[j] := ⟨_, rfl⟩
          rw [← hx] at hcj hby q1 q2 q3
          obtain ⟨l, xa, xc⟩ := x
          simp only at hcj hby q1 q2 q3
          have HBY := Lib.hid hby
          have hbl := World.block_lt_of_cell? wr _ hcj
          have j0 : (0 : Int) ≤ (j : Int) := by omega
          have j1 : (j : Int) < (raws.length : Int) := by omega
          have HCJ := Lib.hid hcj
          clear hc hx hby
          go_wp2_with fail
          refine (roomy_any l xa xc wr HBY.out q1 q3).mono ?_; rintro en w2 ⟨g2, c2, r2, rfl, hc2, hr2, ha2, hb2⟩
          have HC2 := Lib.hid hc2
          have HA2 := Lib.hid ha2
          have HB2 := Lib.hid hb2
          have hcj2 := (hb2.cell (p := ⟨b, o + j, none⟩) hbl).trans HCJ.out
          have hcl := hc2.len
          have hcm := hc2.cap
          have HLR := Lib.hid hr2
          have l0 : (0 : Int) ≤ (l.length : Int) := by omega
          have l1 : (l.length : Int) ≤ (c2 : Int) := by omega
          have l2 : l.length ≤ c2 := by omega
          clear hc2 ha2 hb2 hcj hr2
          go_wp2_with fail
          refine (int_any l (some ⟨g2, 0, none⟩) c2 w2 (room_bytes HC2.out HLR.out HA2.out) (by unfold maxLen; omega)).mono ?_; rintro en w3 ⟨rfl, rfl⟩
          go_wp2_with fail
          refine (refInt_any l xa xc w2 (HBY.out.below HB2.out) q1 q2).mono ?_; rintro en w4 ⟨rfl, hb4⟩
          have HB4 := Lib.hid (HB2.out.trans (hb4.mono HB2.out.size))
          have HC4 := Lib.hid (HC2.out.below (by have := HLR.out; omega) hb4)
          have hcj4 := (HB4.out.cell (p := ⟨b, o + j, none⟩) hbl).trans HCJ.out
          have e1 : ((intB l).1 != (intB l).1) = false := by simp
          have e2 : (((intB l).2.1 : Int) != ((intB l).2.1 : Int)) = false := by simp
          have e3 : ((intB l).2.2 != (intB l).2.2) = false := by simp
          clear hb4 hcj2
          go_wp2_with fail
          refine (roomy_any l xa xc w4 (HBY.out.below HB4.out) q1 q3).mono ?_; rintro en w5 ⟨g5, c5, r5, rfl, hc5, hr5, ha5, hb5⟩
          have HC5 := Lib.hid hc5
          have hrs := room_same HLR.out hr5 HA2.out ha5
          have HC45 := Lib.hid (HC4.out.below (by have := HLR.out; omega) hb5)
          have HB5 := Lib.hid (HB4.out.trans (hb5.mono HB4.out.size))
          subst hrs
          have HSS := same_same r2 (some ⟨g2, 0, none⟩) (some ⟨g5, 0, none⟩) c2 c5 w5 (Nat.le_trans HC45.out.len HC45.out.cap) HC45.out.at' HC5.out.at'
          rw [HLR.out] at HSS
          have HS5 := Lib.hid HSS
          clear hc5 hr5 ha5 hb5 HSS hcj4
          go_wp2_with fail
          refine HS5.out.mono ?_; rintro en w6 ⟨rfl, hb6⟩
          have HB6 := Lib.hid (HBJ.out.trans ((HB5.out.trans (hb6.mono HB5.out.size)).mono HBJ.out.size))
          clear hb6
          go_wp2_with fail
          go_roundw
          case rel => exact ⟨j + 1, by omega, by go_num, HB6.out⟩
          case measure => simp [intOf]; omega
        · go_wp2_with fail
          go_ret
          exact ⟨rfl, HBJ.out⟩
end Go.Proofs.YtmdhacboegmccaaDoor
