/- Package token: Spell, of tokens that can be. -/
import Derived.Test.YtaipljdpkgdheaaDoorSpellSpec
import Derived.Deep.CutRange
namespace Go.Proofs.YtaipljdpkgdheaaDoor
open Go Go.RowKit

theorem Cells3.others {b B : Nat} {w w' : World} {v0 v1 v2 : Value} {fr : Nat × Nat} (h : w.heap[b]? = some (Obj.cells #[v0, v1, v2] 28 fr)) (hk : Lib.OthersKept 5 (some B) w w') (hne : b ≠ B) : w'.heap[b]? = some (Obj.cells #[v0, v1, v2] 28 fr) :=
  hk b _ h (fun e => hne (Option.some.inj e)) (fun c fz e => by cases e)

set_option maxHeartbeats 8000000 in
set_option maxRecDepth 100000 in
theorem spell_any (l : List Tok) (ao : Option Addr) (cap : Nat) (w : World) (hT : Tabs w) (hl : ToksAt w ao l) (hok : ∀ t ∈ l, TokOk t) (hn : l.length ≤ 1000) (hlen : (joinL (l.map Tok.wr)).length ≤ 4096) :
    Calls Tryd.prog 11 #[.slice ao l.length cap] w fun e w' => e = .returned (.tuple #[.string ⟨(joinL (l.map Tok.wr)).toArray⟩, .int .i64 0]) ∧ Below w.heap.size w w' := by
  have HT := Lib.hid hT
  have HL := Lib.hid hl
  have HOK := Lib.hid hok
  have HLEN := Lib.hid hlen
  obtain ⟨N, hN⟩ : ∃ N, N = l.length := ⟨_, rfl⟩
  rw [← hN] at hn ⊢
  have HN := Lib.hid hN
  obtain ⟨L, hL⟩ : ∃ L, L = l.map Tok.wr := ⟨_, rfl⟩
  rw [← hL] at HLEN ⊢
  have HLL := Lib.hid hL
  have HLN := Lib.hid (show L.length = N by rw [hL, List.length_map, HN.out])
  clear hT hl hok hlen hN hL
  go_enter Tryd.func11, Tryd.ntmps11
  go_wp2_with fail
  go_loopw [12] (fun v12 wr => ∃ i : Nat, i ≤ N ∧ v12 = .int .i64 (i : Int) ∧ Below w.heap.size w wr) (fun v12 _ => N - (intOf v12).toNat)
  case atStart => exact ⟨0, Nat.zero_le _, rfl, Below.refl _ _⟩
  case round =>
    obtain ⟨i, hi, rfl, hbel⟩ := hrel
    have HBE := Lib.hid hbel
    have hzw := hbel.size
    clear hbel
    have i0 : (0 : Int) ≤ (i : Int) := by omega
    by_cases hlt : i < N
    · have i1 : (i : Int) < (N : Int) := by omega
      have hil : i < l.length := by rw [← HN.out]; exact hlt
      obtain ⟨b, o, rfl, hcell⟩ : ∃ b o, ao = some ⟨b, o, none⟩ ∧ ∀ j (h : j < l.length), wr.cell? ⟨b, o + j * 3, none⟩ = some (.int .i64 l[j].kind) ∧ wr.cell? ⟨b, o + j * 3 + 1, none⟩ = some (.string l[j].str) ∧ wr.cell? ⟨b, o + j * 3 + 2, none⟩ = some (.int .i64 l[j].pos) := by
        rcases HL.out.below HBE.out with h | h
        · rw [h] at hil; simp at hil
        · exact h
      obtain ⟨d0, d1, d2⟩ := hcell i hil
      have hk := HOK.out l[i] (List.getElem_mem hil)
      obtain ⟨⟨k, s, a⟩, ht⟩ : ∃ t, t = l[i] := ⟨_, rfl⟩
      rw [← ht] at d0 d1 d2 hk
      have hs := hk.str
      have hne : (k == 5) = false := beq_eq_false_iff_ne.2 hk.noEnd
      obtain ⟨V, hV⟩ : ∃ V, V = wr.alloc (Obj.cells #[.int .i64 k, .string s, .int .i64 a] 28) := ⟨_, rfl⟩
      have hbV : Below wr.heap.size wr V := by rw [hV]; exact (Below.refl _ _).alloc (Nat.le_refl _) _
      have HCV := Lib.hid (show Cells3 V wr.heap.size (.int .i64 k) (.string s) (.int .i64 a) by rw [hV]; exact Cells3.made _ _ _ _ _)
      have HBV := Lib.hid (HBE.out.trans (hbV.mono hzw))
      have HM := Lib.hid (mayBe_any k a s V (HT.out.below HBV.out) (by simp only at hs; omega) hk.sign)
      rw [hk.may] at HM
      have v0 := HCV.out.c0
      have v1 := HCV.out.c1
      have v2 := HCV.out.c2
      have HV := Lib.hid hV
      clear hcell hk ht hV hbV hs
      go_upto_region 4 with fail
      rw [← HV.out]
      go_wp2_with fail
      refine HM.out.mono ?_; rintro e w2 ⟨rfl, hb2⟩
      have HC2 := Lib.hid (HCV.out.keep (hb2.block _ HCV.out.lt))
      have HB2 := Lib.hid (HBV.out.trans (hb2.mono HBV.out.size))
      have u0 := HC2.out.c0
      clear hb2 v0 v1 v2
      go_wp2_with fail
      go_roundw
      case rel => exact ⟨i + 1, by omega, by go_num, HB2.out⟩
      case measure => simp [intOf]; omega
    · have i1 : ¬ (i : Int) < (N : Int) := by omega
      obtain ⟨A, rfl⟩ : ∃ A, A = wr := ⟨_, rfl⟩
      obtain ⟨bb, hbb⟩ : ∃ bb, bb = A.heap.size := ⟨_, rfl⟩
      obtain ⟨W0, hW0⟩ : ∃ W0, W0 = A.alloc (Obj.cells #[Value.pointer none, Value.slice none 0 0] 64) := ⟨_, rfl⟩
      have HBD0 := Lib.hid (show Bld bb bb [] W0 by rw [hW0, hbb]; exact fresh_builder)
      have HB0 := Lib.hid (show Below bb A W0 by rw [hW0, hbb]; exact (Below.refl _ _).alloc (Nat.le_refl _) _)
      have HW0 := Lib.hid hW0
      have HBB := Lib.hid hbb
      clear hW0 hbb
      go_upto_region 9 with fail
      rw [← HW0.out, ← HBB.out]
      go_wp2_with fail
      go_loopw [37] (fun v37 wy => ∃ j : Nat, j ≤ N ∧ v37 = .int .i64 (j : Int) ∧ Bld bb bb (joinL (L.take j)) wy ∧ Below bb A wy) (fun v37 _ => N - (intOf v37).toNat)
      case atStart => exact ⟨0, Nat.zero_le _, rfl, by rw [List.take_zero]; exact HBD0.out, HB0.out⟩
      case round =>
        obtain ⟨j, hj, rfl, hbd, hbel⟩ := hrel
        have HBD := Lib.hid hbd
        have HBY := Lib.hid hbel
        have hzy := hbel.size
        have hbl := hbd.lo.2
        clear hbd hbel
        have j0 : (0 : Int) ≤ (j : Int) := by omega
        have HBW := Lib.hid (show Below w.heap.size w wr from HBE.out.trans (HBY.out.mono (by rw [HBB.out]; exact hzw)))
        by_cases hlt2 : j < N
        · have j1 : (j : Int) < (N : Int) := by omega
          have hil : j < l.length := by rw [← HN.out]; exact hlt2
          obtain ⟨b, o, rfl, hcell⟩ : ∃ b o, ao = some ⟨b, o, none⟩ ∧ ∀ i (h : i < l.length), wr.cell? ⟨b, o + i * 3, none⟩ = some (.int .i64 l[i].kind) ∧ wr.cell? ⟨b, o + i * 3 + 1, none⟩ = some (.string l[i].str) ∧ wr.cell? ⟨b, o + i * 3 + 2, none⟩ = some (.int .i64 l[i].pos) := by
            rcases HL.out.below HBW.out with h | h
            · rw [h] at hil; simp at hil
            · exact h
          obtain ⟨d0, d1, d2⟩ := hcell j hil
          have hk := HOK.out l[j] (List.getElem_mem hil)
          have hLj : L[j]'(by rw [HLN.out]; exact hlt2) = l[j].wr := by simp only [HLL.out, List.getElem_map]
          obtain ⟨⟨k, s, a⟩, ht⟩ : ∃ t, t = l[j] := ⟨_, rfl⟩
          rw [← ht] at d0 d1 d2 hk hLj
          have hs := hk.str
          simp only at hs
          have hne : (k == 5) = false := beq_eq_false_iff_ne.2 hk.noEnd
          obtain ⟨x, hx⟩ : ∃ x, x = writtenB k s.data.toList := ⟨_, rfl⟩
          have hstep := front_step L j (by rw [HLN.out]; exact hlt2)
          rw [hLj] at hstep
          have HST := Lib.hid (show joinL (L.take (j + 1)) = frontL j L ++ x by rw [hstep, hx]; rfl)
          have hle : (frontL j L ++ x).length ≤ 4096 := by
            rw [← HST.out]
            exact Nat.le_trans (joinL_take_le L (j + 1)) HLEN.out
          rw [List.length_append] at hle
          obtain ⟨V, hV⟩ : ∃ V, V = wr.alloc (Obj.cells #[.int .i64 k, .string s, .int .i64 a] 28) := ⟨_, rfl⟩
          obtain ⟨q, hq⟩ : ∃ q, q = wr.heap.size := ⟨_, rfl⟩
          have hbV : Below wr.heap.size wr V := by rw [hV]; exact (Below.refl _ _).alloc (Nat.le_refl _) _
          have HOB := Lib.hid (show V.heap[q]? = some (Obj.cells #[.int .i64 k, .string s, .int .i64 a] 28 (0, 0)) by rw [hV, hq]; exact heap_alloc_new _ _)
          have HBDV := Lib.hid (HBD.out.below hbV)
          have HBV := Lib.hid (show Below bb A V from HBY.out.trans (hbV.mono (by omega)))
          have hvz := HBV.out.size
          have hqb : q ≠ bb := by omega
          have v0 := (Cells3.of HOB.out).c0
          have HWR := Lib.hid (fun W => written_any k a s W (fun _ => hs))
          rw [← hx] at HWR
          have HV := Lib.hid hV
          have HQ := Lib.hid hq
          clear hcell hk ht hV hbV hs hx hstep hLj hq
          go_upto_region 12 with fail
          rw [← HV.out, ← HQ.out]
          go_upto_if 46 with fail
          go_cut [37] from 37 to 53 (fun s37 wx => s37 = .int .i64 (j : Int) ∧ Bld bb bb (frontL j L) wx ∧ Below bb A wx ∧ wx.heap[q]? = some (Obj.cells #[.int .i64 k, .string s, .int .i64 a] 28 (0, 0)))
          case first =>
            by_cases hj0 : 0 < j
            · have k0 : (0 : Int) < (j : Int) := by omega
              have HWB := Lib.hid (writeByte_any bb bb (joinL (L.take j)) 32 V HBDV.out (by
                have h1 := joinL_take_le L j
                have h2 := HLEN.out
                omega) (by have := HBDV.out.lo.2; omega))
              go_wp2_with fail
              refine HWB.out.mono ?_; rintro e w3 ⟨rfl, hbd3, hb3, hk3⟩
              have HX3 := Lib.hid (show Bld bb bb (frontL j L) w3 by rw [frontL, if_neg (by omega)]; exact hbd3)
              have HY3 := Lib.hid (HBV.out.trans hb3)
              have HZ3 := Lib.hid (Cells3.others HOB.out hk3 hqb)
              clear hbd3 hb3 hk3
              go_wp2_with fail
              go_meet
              case rel => exact ⟨rfl, HX3.out, HY3.out, HZ3.out⟩
            · have k0 : ¬ (0 : Int) < (j : Int) := by omega
              have HX3 := Lib.hid (show Bld bb bb (frontL j L) V by
                obtain rfl : j = 0 := by omega
                exact HBDV.out)
              go_wp2_with fail
              go_meet
              case rel => exact ⟨rfl, HX3.out, HBV.out, HOB.out⟩
          case rest =>
            obtain ⟨rfl, hbd3, hb3, ho3⟩ := hcut
            have HBD3 := Lib.hid hbd3
            have HB3 := Lib.hid hb3
            have hz3 := hb3.size
            have u0 := (Cells3.of ho3).c0
            have u1 := (Cells3.of ho3).c1
            have u2 := (Cells3.of ho3).c2
            clear hbd3 hb3 ho3 v0
            go_wp2_with fail
            refine (HWR.out _).mono ?_; rintro e w4 ⟨rfl, hb4⟩
            have HBD4 := Lib.hid (HBD3.out.below hb4)
            have HB4 := Lib.hid (HB3.out.trans (hb4.mono (Nat.le_of_lt HBD3.out.lo.2)))
            have hz4 := HB4.out.size
            clear hb4
            have HWS := Lib.hid (write_any bb bb (frontL j L) ⟨x.toArray⟩ w4 HBD4.out (show (frontL j L).length + x.length ≤ 1000000 by omega) (by have := HBD4.out.lo.2; omega))
            go_wp2_with fail
            refine HWS.out.mono ?_; rintro e w5 ⟨rfl, hbd5, hb5, _⟩
            have HBD5 := Lib.hid (show Bld bb bb (frontL j L ++ x) w5 from hbd5)
            have HB5 := Lib.hid (HB4.out.trans hb5)
            clear hbd5 hb5
            have HLE := Lib.hid (len_any bb bb (frontL j L ++ x) w5 HBD5.out)
            have hle2 : ¬ (4096 : Int) < ((frontL j L ++ x).length : Int) := by rw [List.length_append]; omega
            go_wp2_with fail
            refine HLE.out.mono ?_; rintro e w6 ⟨rfl, rfl⟩
            go_wp2_with fail
            go_roundw
            case rel => exact ⟨j + 1, by omega, by go_num, by rw [HST.out]; exact HBD5.out, HB5.out⟩
            case measure => simp [intOf]; omega
        · have j1 : ¬ (j : Int) < (N : Int) := by omega
          have hjN : L.take j = L := List.take_of_length_le (by rw [HLN.out]; omega)
          have HS := Lib.hid (string_of_any bb bb (joinL (L.take j)) wr HBD.out (by omega))
          rw [hjN] at HS
          clear hjN
          go_wp2_with fail
          refine HS.out.mono ?_; rintro e w2 ⟨rfl, hb2⟩
          have HB2 := Lib.hid (show Below w.heap.size w w2 from HBE.out.trans ((HBY.out.trans hb2).mono (by rw [HBB.out]; exact hzw)))
          clear hb2
          go_wp2_with fail
          go_ret2
          exact ⟨rfl, HB2.out⟩
end Go.Proofs.YtaipljdpkgdheaaDoor
