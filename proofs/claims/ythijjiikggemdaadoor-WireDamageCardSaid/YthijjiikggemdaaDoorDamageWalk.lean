/- The walk of the law of damage. -/
import Derived.Test.YthijjiikggemdaaDoorDamage
import Derived.Laws.BitsAllLaws
namespace Go.Proofs.YthijjiikggemdaaDoor
open Go Go.RowKit

theorem xor_u8 (x y : UInt8) : bits BinOp.xor IntKind.u8 (x.toNat : Int) (y.toNat : Int) = ((x ^^^ y).toNat : Int) := by
  rw [u8_xor_nat _ _ x.toNat_lt y.toNat_lt, UInt8.toNat_xor]
theorem xor_ne {x t : UInt8} (h : t ≠ 0) : x ^^^ t ≠ x := fun e => h (by
  have : x ^^^ (x ^^^ t) = x ^^^ x := by rw [e]
  rwa [← UInt8.xor_assoc, UInt8.xor_self, UInt8.zero_xor] at this)

set_option maxHeartbeats 8000000 in
set_option maxRecDepth 100000 in
theorem damage_any (l : List EvX) (at' : Int) (turn : UInt8) (ao : Option Addr) (ca : Nat) (w : World) (hres : ResAt w) (hl : EvsIn w.heap.size w ao l) (hlc : l.length ≤ ca) (hcm : ca ≤ maxLen) (hin : ∀ x ∈ l, ∀ a ∈ x.ev.vals, valGo a) (h1 : -9223372036854775808 ≤ at') (h2 : at' ≤ 9223372036854775807) :
    Calls Tryd.prog 5 #[.slice ao l.length ca, .int .i64 at', .int .u8 (turn.toNat : Int)] w fun en w' => en = .returned (.bool true) ∧ Below w.heap.size w w' := by
  have HRES := Lib.hid hres
  have HL := Lib.hid hl
  have HIN := Lib.hid hin
  clear hres hl hin
  go_enter Tryd.func5, Tryd.ntmps5
  go_wp2_with fail
  refine (begun_any w HRES.out).mono ?_; rintro en w2 ⟨rfl, hb2⟩
  have HB2 := Lib.hid hb2
  clear hb2
  go_wp2_with fail
  refine (pack_any l ao ca w2 (HRES.out.below HB2.out) (by rcases HL.out.below HB2.out (Nat.le_refl _) with h | ⟨b, o, e, hlt, h⟩; exact Or.inl h; exact Or.inr ⟨b, o, e, Nat.lt_of_lt_of_le hlt HB2.out.size, fun i hi => ⟨(h i hi).1, (h i hi).2.mono HB2.out.size⟩⟩) hlc hcm HIN.out).mono ?_; rintro en w3 ⟨v3, f3, rfl, hb3, hcase⟩
  have HB3 := Lib.hid (HB2.out.trans (hb3.mono HB2.out.size))
  clear hb3
  rcases hcase with ⟨rfl, hpo, hown⟩ | ⟨hne, _, rfl⟩
  case inr =>
    have hne2 : (f3 != 0) = true := by simpa [bne] using hne
    clear hne
    go_wp2_with fail
    go_ret
    exact ⟨rfl, HB3.out⟩
  case inl =>
    obtain ⟨a3, c3, rfl, hg3, hy3, hc3, hm3⟩ := owned_arg hown
    have HPO := Lib.hid hpo
    have hpl := packB_len (xs l)
    have hbp := batchE_pos (xs l)
    have hp3 := hpo.2.2
    obtain ⟨p, hp⟩ : ∃ p, p = packB (xs l) := ⟨_, rfl⟩
    have HDT := Lib.hid (show ∀ i (hi : i < p.length) (y : UInt8), y ≠ p[i] → unF (p.set i y) = 32 by subst hp; exact fun i hi y hy => damage_turn (xs l) hpo i hi y hy)
    have HDS := Lib.hid (show ∀ j (hj : j + 5 < p.length), p[j] ≠ p[j + 1] → unF ((p.set j p[j + 1]).set (j + 1) p[j]) = 32 by subst hp; exact fun j hj hne => damage_swap (xs l) hpo j hj hne)
    have HUP := Lib.hid (show unF p = 0 by rw [hp]; exact unF_pack (xs l) hpo)
    have HTE := Lib.hid (show (batchR ⟨p.take (p.length - 4), 0⟩).1 = xs l by rw [hp, (packB_take (xs l)).1, batch_there _ hpo])
    rw [← hp] at hg3 hy3 hc3 hpl ⊢
    have hn5 : 5 ≤ p.length := by omega
    have hnm : p.length ≤ 1048576 := by omega
    have HPG := Lib.hid hg3
    have HPY := Lib.hid hy3
    clear hown hpo hg3 hy3 hpl hbp hp3 hp hc3 hm3
    have hl5 : ¬ (p.length : Int) < 5 := by omega
    obtain ⟨A, hA⟩ : ∃ A : Nat, (A : Int) = if at' < 0 then -(at' + 1) else at' := ⟨(if at' < 0 then -(at' + 1) else at').toNat, by split <;> omega⟩
    have HAA := Lib.hid hA
    clear hA
    go_upto_if 28 with fail
    go_cut [1] (fun s1 wx => s1 = .int .i64 (A : Int) ∧ wx = w3)
    case first =>
      by_cases hneg : at' < 0
      · have hav : (A : Int) = -(at' + 1) := by have := HAA.out; rwa [if_pos hneg] at this
        go_wp2_with fail
        go_meet
        exact ⟨by rw [hav], rfl⟩
      · have hav : (A : Int) = at' := by have := HAA.out; rwa [if_neg hneg] at this
        go_wp2_with fail
        go_meet
        exact ⟨by rw [hav], rfl⟩
    case rest =>
      obtain ⟨rfl, hw⟩ := hcut
      obtain rfl : w3 = wc := hw.symm
      go_upto_region 11 with (at_builtin; go_must (refine wpList_append_arg8 (by rfl) _ _ (by rfl) w3.heap.size (.slice none 0 0) [] (by rfl) (owns_nil _ _) a3 c3 p (by rfl) HPG.out (by simp; omega) (Nat.le_refl _) ?_; intro v4 w4 ho4 hg4; have HO4 := Lib.hid (Both.a ho4 hg4); clear ho4 hg4))
      obtain ⟨g4, k4, rfl, hcp⟩ := copy_of HO4.out.own (by omega)
      have HCP := Lib.hid hcp
      have HB4 := Lib.hid HO4.out.below
      obtain ⟨I, hI⟩ : ∃ I : Nat, I = A % p.length := ⟨_, rfl⟩
      have hIl : I < p.length := by rw [hI]; exact Nat.mod_lt _ (by omega)
      have hmod : (A : Int) % (p.length : Int) = (I : Int) := by rw [hI]; rfl
      have x0 := hcp.cells I hIl
      have x1 := hcp.free I hIl
      rw [Nat.zero_add] at x0
      have HDI := Lib.hid (HDT.out I hIl)
      obtain ⟨x, hx⟩ : ∃ x, x = p[I] := ⟨_, rfl⟩
      rw [← hx] at x0 HDI
      have hxor := xor_u8 x turn
      obtain ⟨y, hy⟩ : ∃ y, y = x ^^^ turn := ⟨_, rfl⟩
      rw [← hy] at hxor
      have HYE := Lib.hid hy
      obtain ⟨W5, hW5⟩ : ∃ W5, W5 = w4.setCell ⟨g4, I, none⟩ (.int .u8 (y.toNat : Int)) := ⟨_, rfl⟩
      have HCP5 := Lib.hid (show Copy W5 w3.heap.size g4 k4 (p.set I y) by rw [hW5]; exact hcp.set I hIl y)
      have HB5 := Lib.hid (show Below w3.heap.size w3 W5 by rw [hW5]; exact HO4.out.below.setCell hcp.lo _)
      have HW5 := Lib.hid hW5
      have hkl := hcp.len
      have hkm := hcp.cap
      unfold maxLen at hkm
      have i0 : (0 : Int) ≤ (I : Int) := by omega
      have i1 : (I : Int) < (p.length : Int) := by omega
      have n0 : (p.length : Int) ≠ 0 := by omega
      clear hcp hI hx hy hW5
      go_upto_region 13 with fail
      rw [← HW5.out]
      clear x0 x1 hxor
      have HUN := unpack_any (p.set I y) (some ⟨g4, 0, none⟩) k4 W5 (HRES.out.below (HB3.out.trans (HB5.out.mono HB3.out.size))) HCP5.out.at' HCP5.out.len HCP5.out.cap
      rw [List.length_set] at HUN
      have HFT := Lib.hid (show turn ≠ 0 → unF (p.set I y) = 32 from fun h => HDI.out y (by rw [HYE.out]; exact xor_ne h))
      obtain ⟨F, hF⟩ : ∃ F, F = unF (p.set I y) := ⟨_, rfl⟩
      rw [← hF] at HUN HFT
      have HUN2 := Lib.hid HUN
      clear HUN hF
      go_wp2_with fail
      refine HUN2.out.mono ?_; rintro en w6 ⟨v6, rfl, hb6, _, hno⟩
      have HB6 := Lib.hid (HB5.out.trans (hb6.mono HB5.out.size))
      have HNO := Lib.hid hno
      clear hb6 hno HUN2 hmod i0 i1 hIl hkl hkm
      have HPG6 := Lib.hid (HPG.out.below HB6.out)
      have HPY6 := Lib.hid (HPY.out.below HB6.out)
      have HBA := Lib.hid (HB3.out.trans (HB6.out.mono HB3.out.size))
      clear HB4 HO4 HCP HCP5 HB5 HW5 HB6 HPG HPY
      by_cases ht : turn = 0
      case' pos =>
        subst ht
        have qt : (((0 : UInt8).toNat : Int) != 0) = false := by decide
      case' neg =>
        have h32 := HFT.out ht
        subst h32
        obtain rfl := HNO.out (by decide)
        have qt : ((turn.toNat : Int) != 0) = true := by
          simp only [bne_iff_ne, ne_eq]
          intro h
          exact ht (UInt8.toNat_inj.1 (by simpa using h))
      all_goals
        clear HFT HNO
        go_upto_region 17 with (at_builtin; go_must (refine wpList_append_arg8 (by rfl) _ _ (by rfl) w6.heap.size (.slice none 0 0) [] (by rfl) (owns_nil _ _) a3 c3 p (by rfl) HPG6.out (by simp; omega) (Nat.le_refl _) ?_; intro v7 w7 ho7 hg7; have HO7 := Lib.hid (Both.a ho7 hg7); clear ho7 hg7))
        obtain ⟨g7, k7, rfl, hcp⟩ := copy_of HO7.out.own (by omega)
        have HB7 := Lib.hid (HBA.out.trans (HO7.out.below.mono HBA.out.size))
        by_cases h6 : p.length < 6
        · have q6 : (p.length : Int) < 6 := by omega
          clear hcp h6
          go_wp2_with fail
          go_ret
          exact ⟨rfl, HB7.out⟩
        · have q6 : ¬ (p.length : Int) < 6 := by omega
          obtain ⟨m, hm⟩ : ∃ m : Nat, (p.length : Int) - 5 = (m : Int) := ⟨p.length - 5, by omega⟩
          obtain ⟨J, hJ⟩ : ∃ J : Nat, J = A % m := ⟨_, rfl⟩
          have hJm : J < m := by rw [hJ]; exact Nat.mod_lt _ (by omega)
          have hmod : (A : Int) % (m : Int) = (J : Int) := by rw [hJ]; rfl
          have hJ1 : J + 1 < p.length := by omega
          have x0 := hcp.cells J (by omega)
          have y0 := hcp.cells (J + 1) hJ1
          have x1 := hcp.free J (by omega)
          have y1 := hcp.free (J + 1) hJ1
          rw [Nat.zero_add] at x0 y0
          have HDJ := Lib.hid (HDS.out J (by omega))
          have HSJ := Lib.hid (swap_same p J hJ1)
          obtain ⟨x, hx⟩ : ∃ x, x = p[J] := ⟨_, rfl⟩
          obtain ⟨y, hy⟩ : ∃ y, y = p[J + 1] := ⟨_, rfl⟩
          rw [← hx, ← hy] at HDJ HSJ
          rw [← hx] at x0
          rw [← hy] at y0
          have m0 : (m : Int) ≠ 0 := by omega
          have j0 : (0 : Int) ≤ (J : Int) := by omega
          have j1 : (J : Int) < (p.length : Int) := by omega
          have j2 : (0 : Int) ≤ (J : Int) + 1 := by omega
          have j3 : (J : Int) + 1 < (p.length : Int) := by omega
          have j4 : ((J : Int) + 1).toNat = J + 1 := by omega
          have HCP := Lib.hid hcp
          have hkl := hcp.len
          have hkm := hcp.cap
          unfold maxLen at hkm
          clear hx hy hJ hcp h6
          go_upto_region 20 with fail
          go_region
          all_goals
            have hlo : w.heap.size ≤ g7 := Nat.le_trans HBA.out.size HCP.out.lo
            obtain ⟨W8, hW8⟩ : ∃ W8, W8 = ((w7.setCell ⟨g7, J, none⟩ (.int .u8 (y.toNat : Int))).setCell ⟨g7, J + 1, none⟩ (.int .u8 (x.toNat : Int))).drew := ⟨_, rfl⟩
            have HC8 := Lib.hid (show Copy W8 w6.heap.size g7 k7 ((p.set J y).set (J + 1) x) by
              rw [hW8]
              exact ((HCP.out.set J (by omega) y).set (J + 1) (by rw [List.length_set]; exact hJ1) x).below (by rw [List.length_set, List.length_set]; omega) (Below.refl _ _).drew)
            have HB8 := Lib.hid (show Below w.heap.size w W8 by rw [hW8]; exact ((HB7.out.setCell hlo _).setCell hlo _).drew)
            rw [← hW8]
            clear hW8 x0 y0 x1 y1
            have HUN := unpack_any ((p.set J y).set (J + 1) x) (some ⟨g7, 0, none⟩) k7 W8 (HRES.out.below HB8.out) HC8.out.at' HC8.out.len HC8.out.cap
            rw [List.length_set, List.length_set] at HUN
            have hDJ : ((p.set J y).set (J + 1) x)[J]? = some y := by rw [List.getElem?_eq_getElem (by rw [List.length_set, List.length_set]; omega)]; simp
            have hDK : ((p.set J y).set (J + 1) x)[J + 1]? = some x := by rw [List.getElem?_eq_getElem (by rw [List.length_set, List.length_set]; omega)]; simp
            obtain ⟨D, hD⟩ : ∃ D, D = (p.set J y).set (J + 1) x := ⟨_, rfl⟩
            have HFN := Lib.hid (show x ≠ y → unF D = 32 by rw [hD]; exact HDJ.out)
            have HFE := Lib.hid (show x = y → D = p by rw [hD]; exact HSJ.out)
            rw [← hD] at HUN HC8
            rw [← hD] at hDJ hDK
            have hDl : D.length = p.length := by rw [hD, List.length_set, List.length_set]
            have HUN2 := Lib.hid HUN
            clear HUN hD HDJ HSJ
            go_wp2_with fail
            refine HUN2.out.mono ?_; rintro en w9 ⟨v9, rfl, hb9, hyes, hno⟩
            have HB9 := Lib.hid (HB8.out.trans (hb9.mono HB8.out.size))
            have hc9 := HC8.out.below (by omega) hb9
            have x0 := hc9.cells J (by omega)
            have y0 := hc9.cells (J + 1) (by omega)
            rw [Nat.zero_add, (List.getElem?_eq_some_iff.1 hDJ).2] at x0
            rw [Nat.zero_add, (List.getElem?_eq_some_iff.1 hDK).2] at y0
            have HYES := Lib.hid hyes
            have HNO := Lib.hid hno
            obtain ⟨F2, hF2⟩ : ∃ F2, F2 = unF D := ⟨_, rfl⟩
            rw [← hF2] at HYES HNO HFN ⊢
            have HF2 := Lib.hid hF2
            have hb8 := HB8.out.size
            have hb98 := hb9.size
            clear hc9 hb9 hyes hno hF2 HUN2 hDJ hDK
            go_upto_region 22 with fail
            by_cases hxy : x = y
            · have e1 : ((y.toNat : Int) == (x.toNat : Int)) = true := by rw [hxy]; simp
              have hD := HFE.out hxy
              subst hD
              have h0 : F2 = 0 := by rw [HF2.out]; exact HUP.out
              subst h0
              obtain ⟨acc, gg, cp, rfl, hxs, hown, hvo⟩ := HYES.out rfl
              have hxs2 : xs acc = xs l := by rw [hxs]; exact HTE.out
              have HLS := Lib.hid (lists_any w9.heap.size w.heap.size acc l (some ⟨gg, 0, none⟩) ao cp ca w9.drew ((evs_of_row hown hvo).below (Below.refl _ w9).drew (Nat.le_refl _)) (HL.out.below HB9.out.drew (Nat.le_refl _)) hxs2 (by simp) (by simp; omega) (Nat.le_trans (own_cap hown).1 (own_cap hown).2) (fun z hz => by
                have h := HPO.out.2.1 z.ev (by rw [← hxs2]; exact List.mem_map_of_mem hz)
                exact Nat.le_trans h.2.2.1 (by decide)))
              clear hxs hown hvo HYES HNO HFN HFE
              go_region
              all_goals
                go_wp2_with fail
                refine HLS.out.mono ?_; rintro en w10 ⟨rfl, hb10⟩
                go_wp2_with fail
                go_ret
                exact ⟨rfl, HB9.out.drew.trans (hb10.mono (by simp; omega))⟩
            · have e1 : ((y.toNat : Int) == (x.toNat : Int)) = false := by
                simp only [beq_eq_false_iff_ne, ne_eq]
                intro h
                exact hxy (UInt8.toNat_inj.1 (by omega)).symm
              have h32 : F2 = 32 := HFN.out hxy
              subst h32
              obtain rfl := HNO.out (by decide)
              clear HYES HNO HFN HFE
              go_region
              all_goals
                go_wp2_with fail
                go_ret
                exact ⟨rfl, HB9.out.drew⟩
end Go.Proofs.YthijjiikggemdaaDoor
