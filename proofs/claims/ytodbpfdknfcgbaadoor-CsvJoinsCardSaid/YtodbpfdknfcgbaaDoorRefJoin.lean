/- The document's own Join. -/
import Derived.Test.YtodbpfdknfcgbaaDoorRefWritten
namespace Go.Proofs.YtodbpfdknfcgbaaDoor
open Go Go.RowKit

set_option maxHeartbeats 8000000 in
set_option maxRecDepth 100000 in
theorem refJoin_any (l : List RowX) (ao : Option Addr) (cap : Nat) (w : World) (hl : RowsIn w.heap.size w ao l) (hll : l.length ≤ 9223372036854775807) (hf : ∀ x ∈ l, Fit x) :
    Calls Tryd.prog 14 #[.slice ao l.length cap] w fun e w' => e = .returned (.tuple #[.string ⟨(joinOut (cellsOf l)).toArray⟩, .int .i64 (joinE (cellsOf l))]) ∧ Below w.heap.size w w' := by
  have HL := Lib.hid hl
  have HF := Lib.hid hf
  obtain ⟨i0, hi0, iz0, iz1, iz2⟩ := info_parts Tryd.infoU8
  clear hl hf
  go_enter Tryd.func14, Tryd.ntmps14
  go_wp2_with fail
  go_loopw [4] (fun i wr => ∃ k : Nat, k ≤ l.length ∧ i = .int .i64 k ∧ (∀ i (h : i < l.length), i < k → l[i].c.length ≠ 0) ∧ wr = w) (fun i _ => l.length - (intOf i).toNat)
  case atStart => exact ⟨0, Nat.zero_le _, rfl, fun i _ h => absurd h (Nat.not_lt_zero _), rfl⟩
  case round =>
    obtain ⟨k, hk, rfl, hall, rfl⟩ := hrel
    have HALL := Lib.hid hall
    clear hall
    by_cases hlt : k < l.length
    · obtain ⟨rb, ro, rfl, hrB, hcell⟩ : ∃ rb ro, ao = some ⟨rb, ro, none⟩ ∧ rb < wr.heap.size ∧ ∀ i (h : i < l.length), wr.cell? ⟨rb, ro + i, none⟩ = some (.slice l[i].ao l[i].c.length l[i].cap) ∧ StrsIn wr.heap.size wr l[i].ao l[i].c := by
        rcases HL.out with h | h
        · rw [h] at hlt; simp at hlt
        · exact h
      have hck := (hcell k hlt).1
      have HX := Lib.hid (show ∀ x, x = l[k].c.length → x ≠ 0 → ∀ i (h : i < l.length), i < k + 1 → l[i].c.length ≠ 0 by
        intro x hx h0 i hi hik
        by_cases e : i = k
        · subst e; omega
        · exact HALL.out i hi (by omega))
      have HX0 := Lib.hid (fun (h : l[k].c.length = 0) => joinE_row k hlt h)
      obtain ⟨n, hn⟩ : ∃ n, n = l[k].c.length := ⟨_, rfl⟩
      rw [← hn] at hck HX0
      have HN := Lib.hid hn
      have k0 : (0 : Int) ≤ (k : Int) := by omega
      have k1 : (k : Int) < (l.length : Int) := by omega
      clear hcell hn
      cases h0 : ((n : Int) == 0)
      · go_wp2_with fail
        go_roundw
        case rel => exact ⟨k + 1, by omega, by go_num, HX.out n HN.out (by simpa using h0), by first | trivial | rfl⟩
        case measure => simp [intOf]; omega
      · have hn0 : n = 0 := by simpa using h0
        have HE := Lib.hid (HX0.out hn0)
        clear hn0
        go_wp2_with fail
        go_ret2
        have e : joinOut (cellsOf l) = [] := by unfold joinOut; rw [HE.out]; rfl
        exact ⟨by rw [HE.out, e]; rfl, Below.refl _ _⟩
    · have HALL2 := Lib.hid (show ∀ i (h : i < l.length), l[i].c.length ≠ 0 from fun i h => HALL.out i h (by omega))
      go_wp2_with fail
      obtain ⟨A, hA⟩ : ∃ A : World, A = wr := ⟨_, rfl⟩
      have HAW := Lib.hid hA
      rw [← hA] at HL ⊢
      clear hA
      obtain ⟨B, hB⟩ : ∃ B, B = A.heap.size := ⟨_, rfl⟩
      rw [← hB] at HL
      have HBA := Lib.hid hB
      have hBA : B ≤ A.heap.size := Nat.le_of_eq hB
      clear hB
      go_loopw [5, 6] (fun v i wx => ∃ (j n : Nat) (vb : Option Addr) (cb : Nat) (P : List UInt8), j ≤ l.length ∧ i = .int .i64 j ∧ v = .slice vb n cb ∧ wx.ownsRow B 5 1 (.slice vb n cb) n (bytesC P) ∧ P = joinB (cellsOf (l.take j)) ∧ n = P.length ∧ n ≤ 65538 ∧ Below B A wx) (fun _ i _ => l.length - (intOf i).toNat)
      case atStart => exact ⟨0, 0, none, 0, [], Nat.zero_le _, rfl, rfl, World.ownsRow_nil _ _ _ _, rfl, rfl, Nat.zero_le _, Below.refl _ _⟩
      case round =>
        obtain ⟨j, n, vb, cb, P, hj, rfl, rfl, hown, hP, hn, hnl, hbel⟩ := hrel
        have HO := Lib.hid hown
        have HP := Lib.hid hP
        have HN := Lib.hid hn
        have HBE := Lib.hid hbel
        have hzw := hbel.size
        clear hown hP hn hbel
        by_cases hjl : j < l.length
        · obtain ⟨rb, ro, rfl, hrB, hcell⟩ : ∃ rb ro, ao = some ⟨rb, ro, none⟩ ∧ rb < B ∧ ∀ i (h : i < l.length), A.cell? ⟨rb, ro + i, none⟩ = some (.slice l[i].ao l[i].c.length l[i].cap) ∧ StrsIn B A l[i].ao l[i].c := by
            rcases HL.out with h | h
            · rw [h] at hjl; simp at hjl
            · exact h
          obtain ⟨hck, hst⟩ := hcell j hjl
          have hfj := HF.out l[j] (List.getElem_mem hjl)
          have HTS := Lib.hid (show joinB (cellsOf (l.take (j + 1))) = P ++ rowText l[j].c by rw [cellsOf_take l j hjl, HP.out])
          have hle := cellsOf_take_le l (j + 1)
          rw [HTS.out] at hle
          obtain ⟨x, hx⟩ : ∃ x, x = l[j] := ⟨_, rfl⟩
          rw [← hx] at hck hst hfj HTS hle
          obtain ⟨c, ca, cc⟩ := x
          simp only at hck hst hfj HTS hle
          have HCK := Lib.hid hck
          have HST := Lib.hid hst
          have HLE := Lib.hid hle
          have HFJ := Lib.hid hfj.2
          have HC0 := Lib.hid (show c.length ≠ 0 by have := HALL2.out j hjl; rw [← hx] at this; exact this)
          have hcl := hfj.1
          have k0 : (0 : Int) ≤ (j : Int) := by omega
          have k1 : (j : Int) < (l.length : Int) := by omega
          have hckW := (HBE.out.cell (p := ⟨rb, ro + j, none⟩) hrB).trans hck
          clear hcell hst hx hle hfj hck
          go_wp2_with fail
          clear hckW
          go_loopw [5, 7] (fun v i wx => ∃ (m n : Nat) (vb : Option Addr) (cb : Nat) (V : List UInt8), m ≤ c.length ∧ i = .int .i64 m ∧ v = .slice vb n cb ∧ wx.ownsRow B 5 1 (.slice vb n cb) n (bytesC V) ∧ V = P ++ sepB (c.take m) ∧ n = V.length ∧ n ≤ 65538 ∧ (0 < m → n ≤ 65536) ∧ Below B A wx) (fun _ i _ => c.length - (intOf i).toNat)
          case atStart => exact ⟨0, n, vb, cb, P, Nat.zero_le _, rfl, rfl, HO.out, by simp [sepB], HN.out, hnl, fun h => absurd h (Nat.lt_irrefl 0), HBE.out⟩
          case round =>
            obtain ⟨m, n2, vc, cd, V, hm, rfl, rfl, hown, hV, hn2, hnl2, hnl3, hbel⟩ := hrel
            have HNL3 := Lib.hid hnl3
            clear hnl3
            have HO2 := Lib.hid hown
            have HV := Lib.hid hV
            have HN2 := Lib.hid hn2
            have HBE2 := Lib.hid hbel
            have hzw2 := hbel.size
            have hckW := (hbel.cell (p := ⟨rb, ro + j, none⟩) hrB).trans HCK.out
            clear hown hV hn2 hbel
            by_cases hml : m < c.length
            · obtain ⟨b2, o2, rfl, hb2B, hs2⟩ : ∃ b o, ca = some ⟨b, o, none⟩ ∧ b < B ∧ ∀ i (h : i < c.length), A.cell? ⟨b, o + i, none⟩ = some (.string ⟨c[i].toArray⟩) := by
                rcases HST.out with h | h
                · rw [h] at hml; simp at hml
                · exact h
              have hsA := hs2 m hml
              obtain ⟨d, hd⟩ : ∃ d, d = c[m] := ⟨_, rfl⟩
              rw [← hd] at hsA
              obtain ⟨s, hs⟩ : ∃ s : ByteArray, s = ⟨d.toArray⟩ := ⟨_, rfl⟩
              have HSL := Lib.hid (show s.data.toList = d by rw [hs])
              rw [← hs] at hsA
              have HSA := Lib.hid hsA
              have HSTEP := Lib.hid (show sepB (c.take (m + 1)) = frontB m c ++ writtenB d by rw [sep_step c m hml, hd])
              have hszd : s.size = d.length := by rw [hs]; rfl
              have HSZ := Lib.hid hszd
              have hsz : s.size ≤ 140737488355328 := by rw [hszd, hd]; exact HFJ.out _ (List.getElem_mem hml)
              have HTOT := Lib.hid (show (P ++ frontB m c).length + (writtenB d).length ≤ (joinB (cellsOf l)).length by
                have h1 := sep_take_le c (m + 1)
                rw [HSTEP.out] at h1
                have h2 := HLE.out
                simp only [rowText, List.length_append, List.length_cons, List.length_nil] at h1 h2 ⊢
                omega)
              have m0 : (0 : Int) ≤ (m : Int) := by omega
              have m1 : (m : Int) < (c.length : Int) := by omega
              clear hs2 hd hs hszd hsA
              rcases Nat.eq_zero_or_pos m with hmz | hmp
              have hV1 : V = P ++ frontB m c := by rw [HV.out, frontB, if_pos hmz, hmz]; simp [sepB]
              have hmn : ¬ 0 < m := by omega
              clear hmz
              obtain ⟨X, hX⟩ : ∃ X, X = wr := ⟨_, rfl⟩
              obtain ⟨vx, hvx⟩ : ∃ vx, vx = vc := ⟨_, rfl⟩
              obtain ⟨cx, hcx⟩ : ∃ cx, cx = cd := ⟨_, rfl⟩
              obtain ⟨nx, hnx⟩ : ∃ nx, nx = n2 := ⟨_, rfl⟩
              obtain ⟨V1, hVV⟩ : ∃ V1, V1 = V := ⟨_, rfl⟩
              have HOX := Lib.hid (show X.ownsRow B 5 1 (.slice vx nx cx) nx (bytesC V1) by rw [hX, hvx, hcx, hnx, hVV]; exact HO2.out)
              have HBX := Lib.hid (show Below B A X by rw [hX]; exact HBE2.out)
              have HV1 := Lib.hid (show V1 = P ++ frontB m c by rw [hVV]; exact hV1)
              have HNX := Lib.hid (show nx = V1.length by rw [hnx, hVV]; exact HN2.out)
              have hnxl : nx ≤ 65539 := by omega
              have g1 : X.cell? ⟨rb, ro + j, none⟩ = some (.slice (some ⟨b2, o2, none⟩) c.length cc) := by rw [hX]; exact hckW
              have g2 : X.cell? ⟨b2, o2 + m, none⟩ = some (.string s) := (HBX.out.cell (p := ⟨b2, o2 + m, none⟩) hb2B).trans HSA.out
              rw [← hX, ← hvx, ← hcx, ← hnx]
              clear hX hvx hcx hnx hVV hV1 hckW
              rotate_left
              have hV1 : V ++ [44] = P ++ frontB m c := by rw [HV.out, frontB, if_neg (by omega)]; simp
              go_upto_region 15 with (at_builtin; go_must (refine wpList_append_lies _ (by rfl) _ _ _ (by rfl) B 5 i0 _ 1 1 Tryd.underlying58 hi0 iz0 iz1 iz2 rfl (by omega) (.slice vc n2 cd) n2 (bytesC V) (by rfl) (HO2.out.alloc _) ⟨_, 0, none⟩ 1 1 [.int .u8 44] (by rfl) (by rfl) (World.news_of_block (cs := #[.int .u8 44]) (t := 5) (fr := (0, 0)) (heap_alloc_new _ _)) (by simp [Value.oneCell']) (by omega) (by unfold maxLen; omega) (by omega) (by simp; omega) _ rfl ?_; intro gx cx X hownX hgrowX hatX hltX))
              obtain ⟨V1, hVV⟩ : ∃ V1, V1 = V ++ [44] := ⟨_, rfl⟩
              obtain ⟨nx, hnx⟩ : ∃ nx, nx = n2 + 1 := ⟨_, rfl⟩
              obtain ⟨vx, hvx⟩ : ∃ vx, vx = some (⟨gx, 0, none⟩ : Addr) := ⟨_, rfl⟩
              have HOX := Lib.hid (show X.ownsRow B 5 1 (.slice vx nx cx) nx (bytesC V1) by rw [hvx, hnx, hVV, bytesC_append]; exact hownX)
              have HBX := Lib.hid (show Below B A X from (HBE2.out.trans (((Below.refl _ wr).alloc (Nat.le_refl _) (Obj.cells #[.int .u8 44] 5)).mono (by omega))).grown hgrowX (by simp; omega) (ownBlock_lo HO2.out))
              have HV1 := Lib.hid (show V1 = P ++ frontB m c by rw [hVV]; exact hV1)
              have HNX := Lib.hid (show nx = V1.length by rw [hnx, hVV, List.length_append, HN2.out]; rfl)
              have hnxl : nx ≤ 65539 := by omega
              have g1 : X.cell? ⟨rb, ro + j, none⟩ = some (.slice (some ⟨b2, o2, none⟩) c.length cc) := (HBX.out.cell (p := ⟨rb, ro + j, none⟩) hrB).trans HCK.out
              have g2 : X.cell? ⟨b2, o2 + m, none⟩ = some (.string s) := (HBX.out.cell (p := ⟨b2, o2 + m, none⟩) hb2B).trans HSA.out
              rw [← hvx, ← hnx]
              clear hownX hgrowX hatX hltX hvx hnx hVV hV1 hckW hmp
              all_goals
                have hzX := HBX.out.size
                have htot := HTOT.out
                rw [← HV1.out, ← HNX.out] at htot
                have hwl := written_len d
                rw [← HSZ.out] at hwl
                by_cases hov : 65536 < s.size
                · have HE := Lib.hid (joinE_long HALL2.out (by omega))
                  have hov2 : (65536 : Int) < (s.size : Int) := by omega
                  clear htot hwl
                  go_wp2_with fail
                  go_ret2
                  have e : joinOut (cellsOf l) = [] := by unfold joinOut; rw [HE.out]; rfl
                  exact ⟨by rw [HE.out, e]; rfl, by rw [← HAW.out, ← HBA.out]; exact HBX.out⟩
                · have hov2 : ¬ (65536 : Int) < (s.size : Int) := by omega
                  have HTT := Lib.hid htot
                  have HWL := Lib.hid hwl
                  clear htot hwl
                  go_wp2_with fail
                  refine (refWritten_any s X (by omega)).mono ?_; rintro e w3 ⟨rfl, hb3⟩
                  obtain ⟨y, hy⟩ : ∃ y : ByteArray, y = ⟨(writtenB s.data.toList).toArray⟩ := ⟨_, rfl⟩
                  have HY := Lib.hid (show y.data.toList = writtenB d by rw [hy, HSL.out])
                  have hyl : y.size = (writtenB d).length := by rw [← HY.out]; rfl
                  have hyb : y.size ≤ 131074 := by have := HWL.out.2; omega
                  have HYL := Lib.hid hyl
                  rw [← hy]
                  have HO3 := Lib.hid (owns_below HOX.out hb3)
                  have HB3 := Lib.hid (HBX.out.trans (hb3.mono (by omega)))
                  have hz3 := hb3.size
                  clear hb3 hy hyl
                  go_upto_region 19 with (at_builtin; go_must (refine Lib.wpList_append_own_string _ (by rfl) _ _ _ _ (by rfl) B 5 i0 Tryd.underlying58 Tryd.underlying9 hi0 iz0 iz1 iz2 (.slice vx nx cx) nx (bytesC V1) (by rfl) HO3.out y (by rfl) (by unfold maxLen; omega) (by omega) (by omega) ?_; intro v7 w7 hown7 hgrow7 hnil7))
                  obtain ⟨vd, ce, rfl⟩ := owned_form hown7
                  have HV2 := Lib.hid (show V1 ++ writtenB d = P ++ sepB (c.take (m + 1)) by rw [HV1.out, HSTEP.out, List.append_assoc])
                  have HO7 := Lib.hid (show w7.ownsRow B 5 1 (.slice vd (nx + y.size) ce) (nx + y.size) (bytesC (V1 ++ writtenB d)) by rw [bytesC_append, ← HY.out]; exact hown7)
                  have HB7 := Lib.hid (HB3.out.grown hgrow7 (by omega) (ownBlock_lo HO3.out))
                  obtain ⟨nz, hnz⟩ : ∃ nz, nz = nx + y.size := ⟨_, rfl⟩
                  rw [← hnz] at HO7 ⊢
                  have HNZ := Lib.hid (show nz = (V1 ++ writtenB d).length by rw [hnz, List.length_append, ← HNX.out, HYL.out])
                  have hnzl : nz ≤ 200000 := by omega
                  have HT4 := Lib.hid (show nz ≤ (joinB (cellsOf l)).length by rw [hnz, HYL.out]; exact HTT.out)
                  clear hown7 hgrow7 hnil7 hnz
                  by_cases hov3 : 65536 < nz
                  · have HE := Lib.hid (joinE_long HALL2.out (by have := HT4.out; omega))
                    have hov4 : (65536 : Int) < (nz : Int) := by omega
                    go_wp2_with fail
                    go_ret2
                    have e : joinOut (cellsOf l) = [] := by unfold joinOut; rw [HE.out]; rfl
                    exact ⟨by rw [HE.out, e]; rfl, by rw [← HAW.out, ← HBA.out]; exact HB7.out⟩
                  · have hov4 : ¬ (65536 : Int) < (nz : Int) := by omega
                    go_wp2_with fail
                    go_roundw
                    case rel => exact ⟨m + 1, nz, vd, ce, V1 ++ writtenB d, by omega, by go_num, rfl, HO7.out, HV2.out, HNZ.out, by omega, fun _ => by omega, HB7.out⟩
                    case measure => simp [intOf]; omega
            · have hmc : m = c.length := by omega
              have hcp : 0 < c.length := by have := HC0.out; omega
              have hnl4 : n2 ≤ 65536 := HNL3.out (by omega)
              have HVC := Lib.hid (show V ++ [13] ++ [10] = P ++ rowText c by rw [HV.out, hmc, List.take_length, rowText]; simp)
              clear hmc
              go_wp2_with (at_builtin; go_must (refine wpList_append_lies _ (by rfl) _ _ _ (by rfl) B 5 i0 _ 1 1 Tryd.underlying58 hi0 iz0 iz1 iz2 rfl (by omega) (.slice vc n2 cd) n2 (bytesC V) (by rfl) (HO2.out.alloc _) ⟨_, 0, none⟩ 2 2 [.int .u8 13, .int .u8 10] (by rfl) (by rfl) (World.news_of_block (cs := #[.int .u8 13, .int .u8 10]) (t := 5) (fr := (0, 0)) (heap_alloc_new _ _)) (by simp [Value.oneCell']) (by omega) (by unfold maxLen; omega) (by omega) (by simp; omega) _ rfl ?_; intro gx cx X hownX hgrowX hatX hltX))
              have HOX := Lib.hid (show X.ownsRow B 5 1 (.slice (some ⟨gx, 0, none⟩) (n2 + 2) cx) (n2 + 2) (bytesC (V ++ [13] ++ [10])) by rw [bytesC_append, bytesC_append, List.append_assoc]; exact hownX)
              have HBX := Lib.hid (show Below B A X from (HBE2.out.trans (((Below.refl _ wr).alloc (Nat.le_refl _) (Obj.cells #[.int .u8 13, .int .u8 10] 5)).mono (by omega))).grown hgrowX (by simp; omega) (ownBlock_lo HO2.out))
              have HNX := Lib.hid (show n2 + 2 = (V ++ [13] ++ [10]).length by rw [List.length_append, List.length_append, HN2.out]; rfl)
              have HJX := Lib.hid (show V ++ [13] ++ [10] = joinB (cellsOf (l.take (j + 1))) by rw [HVC.out, HTS.out])
              clear hownX hgrowX hatX hltX
              go_roundw
              case rel => exact ⟨j + 1, n2 + 2, some ⟨gx, 0, none⟩, cx, V ++ [13] ++ [10], by omega, by go_num, rfl, HOX.out, HJX.out, HNX.out, by omega, HBX.out⟩
              case measure => simp [intOf]; omega
        · have hjl2 : j = l.length := by omega
          have HPT := Lib.hid (show P = joinB (cellsOf l) by rw [HP.out, hjl2, List.take_length])
          clear hjl2
          by_cases hov : 65536 < n
          · have HE := Lib.hid (joinE_long HALL2.out (by rw [← HPT.out, ← HN.out]; exact hov))
            have hov2 : (65536 : Int) < (n : Int) := by omega
            go_wp2_with fail
            go_ret2
            have e : joinOut (cellsOf l) = [] := by unfold joinOut; rw [HE.out]; rfl
            exact ⟨by rw [HE.out, e]; rfl, by rw [← HAW.out, ← HBA.out]; exact HBE.out⟩
          · have HE := Lib.hid (joinE_ok HALL2.out (by rw [← HPT.out, ← HN.out]; exact hov))
            have hov2 : ¬ (65536 : Int) < (n : Int) := by omega
            have hcv := HO.out
            rw [HN.out] at hcv
            have hcv2 := conv_owned hcv
            rw [← HN.out] at hcv2
            clear hcv
            go_wp2_with fail
            go_ret2
            have e : joinOut (cellsOf l) = P := by unfold joinOut; rw [HE.out, if_pos rfl, HPT.out]
            exact ⟨by rw [HE.out, e]; rfl, by rw [← HAW.out, ← HBA.out]; exact HBE.out⟩
end Go.Proofs.YtodbpfdknfcgbaaDoor
