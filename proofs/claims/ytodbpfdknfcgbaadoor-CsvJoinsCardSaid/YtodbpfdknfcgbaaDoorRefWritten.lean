/- The document's own written. -/
import Derived.Test.YtodbpfdknfcgbaaDoorSplitsWalk
namespace Go.Proofs.YtodbpfdknfcgbaaDoor
open Go Go.RowKit

theorem dbl_snoc (c : List UInt8) (b : UInt8) : dblB (c ++ [b]) = dblB c ++ (if b = 34 then [34, 34] else [b]) := by simp [dblB]
theorem specAny_snoc (c : List UInt8) (b : UInt8) : specAny (c ++ [b]) = (specAny c || specC.contains b) := by simp [specAny]
theorem conv_snoc {w : World} {B g n cap : Nat} {V : List UInt8} {y : UInt8} (hn : n = V.length) (h : w.ownsRow B 5 1 (.slice (some ⟨g, 0, none⟩) (n + 1) cap) (n + 1) (bytesC V ++ [.int .u8 (y.toNat : Int)])) : (convert 58 9 (.slice (some ⟨g, 0, none⟩) (n + 1) cap)).run Tryd.prog w = .ok (.string ⟨(V ++ [y]).toArray⟩) w := by
  have e : (V ++ [y]).length = n + 1 := by rw [List.length_append, hn]; rfl
  have h2 := conv_owned (w := w) (B := B) (va := some ⟨g, 0, none⟩) (cap := cap) (c := V ++ [y]) (by rw [bytesC_append, e]; exact h)
  rw [e] at h2
  exact h2
theorem owns_one {w : World} {base g k cap : Nat} {xs : List UInt8} {y : UInt8} (hk : k = xs.length) (h : w.ownsRow base 5 1 (.slice (some ⟨g, 0, none⟩) (k + 1) cap) (k + 1) (bytesC xs ++ [.int .u8 (y.toNat : Int)])) : w.ownsRow base 5 1 (.slice (some ⟨g, 0, none⟩) (xs ++ [y]).length cap) (xs ++ [y]).length (bytesC (xs ++ [y])) := by
  rw [bytesC_append, List.length_append, ← hk]
  exact h

set_option maxHeartbeats 8000000 in
set_option maxRecDepth 100000 in
theorem refWritten_any (s : ByteArray) (w : World) (hs : s.size ≤ 65536) :
    Calls Tryd.prog 27 #[.string s] w fun e w' => e = .returned (.string ⟨(writtenB s.data.toList).toArray⟩) ∧ Below w.heap.size w w' := by
  obtain ⟨i0, hi0, iz0, iz1, iz2⟩ := info_parts Tryd.infoU8
  obtain ⟨B, hB⟩ : ∃ B, B = w.heap.size := ⟨_, rfl⟩
  go_enter Tryd.func27, Tryd.ntmps27
  go_wp2_with (at_builtin; go_must (refine wpList_append_lies _ (by rfl) _ _ _ (by rfl) B 5 i0 _ 1 1 Tryd.underlying58 hi0 iz0 iz1 iz2 rfl (by omega) (.slice none 0 0) 0 (bytesC []) (by rfl) (World.ownsRow_nil _ _ _ _) ⟨_, 0, none⟩ 1 1 [.int .u8 34] (by rfl) (by rfl) (World.news_of_block (cs := #[.int .u8 34]) (t := 5) (fr := (0, 0)) (heap_alloc_new _ _)) (by simp [Value.oneCell']) (by omega) (by unfold maxLen; omega) (by omega) (by simp; omega) _ rfl ?_; intro g2 cap2 w2 hown2 hgrow2 hat2 hlt2))
  have HB2 := Lib.hid (show Below B w w2 by
    have h1 := (Below.refl B w).alloc (Nat.le_of_eq hB) (Obj.cells #[.int .u8 34] 5)
    exact h1.grown hgrow2 (by simp; omega) (fun k hk => by simp [Value.ownBlock] at hk))
  have HO2 := Lib.hid (show w2.ownsRow B 5 1 (.slice (some ⟨g2, 0, none⟩) 1 cap2) 1 (bytesC [34]) from hown2)
  clear hown2 hgrow2 hat2 hlt2
  go_loopw [3, 4, 5] (fun p v i wr => ∃ (k g cap n : Nat) (V : List UInt8), k ≤ s.size ∧ i = .int .i64 k ∧ p = .bool (!specAny (s.data.toList.take k)) ∧ v = .slice (some ⟨g, 0, none⟩) n cap ∧ wr.ownsRow B 5 1 (.slice (some ⟨g, 0, none⟩) n cap) n (bytesC V) ∧ n = V.length ∧ V = 34 :: dblB (s.data.toList.take k) ∧ Below B w wr) (fun _ _ i _ => s.size - (intOf i).toNat)
  case atStart => exact ⟨0, g2, cap2, 1, [34], Nat.zero_le _, rfl, by simp [specAny], rfl, HO2.out, rfl, by simp [dblB], HB2.out⟩
  case round =>
    obtain ⟨k, g, cap, n, V, hk, rfl, rfl, rfl, hown, hn, hV, hbel⟩ := hrel
    have HO := Lib.hid hown
    have HN := Lib.hid hn
    have HV := Lib.hid hV
    have HBE := Lib.hid hbel
    have hzw := hbel.size
    have hnl : n ≤ 2 * k + 1 := by
      have h1 := (dbl_len (s.data.toList.take k)).2
      rw [hn, hV, List.length_cons]
      rw [List.length_take] at h1
      omega
    have hzB : B ≤ wr.heap.size := by omega
    obtain ⟨p, hp⟩ : ∃ p, p = specAny (s.data.toList.take k) := ⟨_, rfl⟩
    rw [← hp]
    have HP := Lib.hid hp
    clear hown hn hV hbel hp
    by_cases hlt : k < s.size
    · obtain ⟨x, hx⟩ : ∃ x : UInt8, s[k]'hlt = x := ⟨_, rfl⟩
      have hxu := x.toNat_lt
      have htk : s.data.toList.take (k + 1) = s.data.toList.take k ++ [x] := by
        have h1 : k < s.data.toList.length := hlt
        have h2 := Lib.data_getElem? s k hlt
        rw [List.getElem?_eq_getElem h1] at h2
        rw [List.take_succ_eq_append_getElem h1, Option.some.inj h2, hx]
      have HSP := Lib.hid (show specAny (s.data.toList.take (k + 1)) = (p || specC.contains x) by rw [htk, specAny_snoc, HP.out])
      have HDB := Lib.hid (show 34 :: dblB (s.data.toList.take (k + 1)) = V ++ (if x = 34 then [34, 34] else [x]) by rw [htk, dbl_snoc, HV.out]; rfl)
      have k0 : (0 : Int) ≤ (k : Int) := by omega
      have k1 : (k : Int) < (s.size : Int) := by omega
      clear htk
      by_cases hx34 : x = 34
      · have HSP2 := Lib.hid (show specAny (s.data.toList.take (k + 1)) = true by rw [HSP.out, hx34, show specC.contains 34 = true by decide, Bool.or_true])
        have HDB2 := Lib.hid (show 34 :: dblB (s.data.toList.take (k + 1)) = V ++ [34] ++ [34] by rw [HDB.out, if_pos hx34, List.append_assoc]; rfl)
        have hx2 : s[k]'hlt = 34 := by rw [hx, hx34]
        clear hx hx34
        go_upto_region 12 with (at_builtin; go_must (refine wpList_append_lies _ (by rfl) _ _ _ (by rfl) B 5 i0 _ 1 1 Tryd.underlying58 hi0 iz0 iz1 iz2 rfl (by omega) (.slice (some ⟨g, 0, none⟩) n cap) n (bytesC V) (by rfl) (HO.out.alloc _) ⟨_, 0, none⟩ 1 1 [.int .u8 34] (by rfl) (by rfl) (World.news_of_block (cs := #[.int .u8 34]) (t := 5) (fr := (0, 0)) (heap_alloc_new _ _)) (by simp [Value.oneCell']) (by omega) (by unfold maxLen; omega) (by omega) (by simp; omega) _ rfl ?_; intro g4 cap4 w4 hown4 hgrow4 hat4 hlt4))
        have HB4 := Lib.hid ((HBE.out.trans (((Below.refl _ wr).alloc (Nat.le_refl _) (Obj.cells #[.int .u8 34] 5)).mono (by have := HBE.out.size; omega))).grown hgrow4 (by have := HBE.out.size; simp; omega) (ownBlock_lo HO.out))
        have HO4 := Lib.hid (show w4.ownsRow B 5 1 (.slice (some ⟨g4, 0, none⟩) (n + 1) cap4) (n + 1) (bytesC (V ++ [34])) by rw [bytesC_append]; exact hown4)
        clear hown4 hgrow4 hat4 hlt4
        have hz4 := HB4.out.size
        go_wp2_with (at_builtin; go_must (refine wpList_append_lies _ (by rfl) _ _ _ (by rfl) B 5 i0 _ 1 1 Tryd.underlying58 hi0 iz0 iz1 iz2 rfl (by omega) (.slice (some ⟨g4, 0, none⟩) (n + 1) cap4) (n + 1) (bytesC (V ++ [34])) (by rfl) (HO4.out.alloc _) ⟨_, 0, none⟩ 1 1 [.int .u8 34] (by rfl) (by rfl) (World.news_of_block (cs := #[.int .u8 34]) (t := 5) (fr := (0, 0)) (heap_alloc_new _ _)) (by simp [Value.oneCell']) (by omega) (by unfold maxLen; omega) (by omega) (by simp; omega) _ rfl ?_; intro g5 cap5 w5 hown5 hgrow5 hat5 hlt5))
        have HB5 := Lib.hid ((HB4.out.trans (((Below.refl _ w4).alloc (Nat.le_refl _) (Obj.cells #[.int .u8 34] 5)).mono (by have := HB4.out.size; omega))).grown hgrow5 (by have := HB4.out.size; simp; omega) (ownBlock_lo HO4.out))
        have HO5 := Lib.hid (show w5.ownsRow B 5 1 (.slice (some ⟨g5, 0, none⟩) ((n + 1) + 1) cap5) ((n + 1) + 1) (bytesC ((V ++ [34]) ++ [34])) by rw [bytesC_append]; exact hown5)
        clear hown5 hgrow5 hat5 hlt5
        go_roundw
        case rel => exact ⟨k + 1, g5, cap5, n + 1 + 1, V ++ [34] ++ [34], by omega, by go_num, by rw [HSP2.out]; rfl, rfl, HO5.out, by rw [List.length_append, List.length_append, ← HN.out]; rfl, HDB2.out.symm, HB5.out⟩
        case measure => simp [intOf]; omega
      · have HDB2 := Lib.hid (show 34 :: dblB (s.data.toList.take (k + 1)) = V ++ [x] by rw [HDB.out, if_neg hx34])
        have q34 : ((x.toNat : Int) == 34) = false := beq_eq_false_iff_ne.2 (by intro h; apply hx34; apply UInt8.toNat_inj.1; simp; omega)
        have hsp : (specC.contains x = true ∧ (x = 44 ∨ x = 13 ∨ x = 10)) ∨ (specC.contains x = false ∧ ¬ x = 44 ∧ ¬ x = 13 ∧ ¬ x = 10) := by
          cases hc : specC.contains x
          · refine Or.inr ⟨rfl, ?_, ?_, ?_⟩ <;> (rintro rfl; exact absurd hc (by decide))
          · rcases (spec_cases x).1 hc with h | h | h | h
            · exact Or.inl ⟨rfl, Or.inl h⟩
            · exact absurd h hx34
            · exact Or.inl ⟨rfl, Or.inr (Or.inl h)⟩
            · exact Or.inl ⟨rfl, Or.inr (Or.inr h)⟩
        rcases hsp with ⟨hc, hc2⟩ | ⟨hc, n44, n13, n10⟩
        · have HSP2 := Lib.hid (show specAny (s.data.toList.take (k + 1)) = true by rw [HSP.out, hc, Bool.or_true])
          rcases hc2 with h | h | h
          have q44 : ((x.toNat : Int) == 44) = true := by rw [h]; rfl
          rotate_left
          have q44 : ((x.toNat : Int) == 44) = false := by rw [h]; rfl
          have q13 : ((x.toNat : Int) == 13) = true := by rw [h]; rfl
          rotate_left
          have q44 : ((x.toNat : Int) == 44) = false := by rw [h]; rfl
          have q13 : ((x.toNat : Int) == 13) = false := by rw [h]; rfl
          have q10 : ((x.toNat : Int) == 10) = true := by rw [h]; rfl
          all_goals
            clear hc h hx34
            go_wp2_with (at_builtin; go_must (refine wpList_append_lies _ (by rfl) _ _ _ (by rfl) B 5 i0 _ 1 1 Tryd.underlying58 hi0 iz0 iz1 iz2 rfl (by omega) (.slice (some ⟨g, 0, none⟩) n cap) n (bytesC V) (by rfl) (HO.out.alloc _) ⟨_, 0, none⟩ 1 1 [.int .u8 (x.toNat : Int)] (by rfl) (by rfl) (World.news_of_block (cs := #[.int .u8 (x.toNat : Int)]) (t := 5) (fr := (0, 0)) (heap_alloc_new _ _)) (by simp [Value.oneCell']) (by omega) (by unfold maxLen; omega) (by omega) (by simp; omega) _ rfl ?_; intro g4 cap4 w4 hown4 hgrow4 hat4 hlt4))
            have HB4 := Lib.hid ((HBE.out.trans (((Below.refl _ wr).alloc (Nat.le_refl _) (Obj.cells #[.int .u8 (x.toNat : Int)] 5)).mono (by have := HBE.out.size; omega))).grown hgrow4 (by have := HBE.out.size; simp; omega) (ownBlock_lo HO.out))
            have HO4 := Lib.hid (show w4.ownsRow B 5 1 (.slice (some ⟨g4, 0, none⟩) (n + 1) cap4) (n + 1) (bytesC (V ++ [x])) by rw [bytesC_append]; exact hown4)
            clear hown4 hgrow4 hat4 hlt4
            go_roundw
            case rel => exact ⟨k + 1, g4, cap4, n + 1, V ++ [x], by omega, by go_num, by rw [HSP2.out]; rfl, rfl, HO4.out, by rw [List.length_append, ← HN.out]; rfl, HDB2.out.symm, HB4.out⟩
            case measure => simp [intOf]; omega
        · have HSP2 := Lib.hid (show specAny (s.data.toList.take (k + 1)) = p by rw [HSP.out, hc, Bool.or_false])
          have q44 : ((x.toNat : Int) == 44) = false := beq_eq_false_iff_ne.2 (by intro h; apply n44; apply UInt8.toNat_inj.1; simp; omega)
          have q13 : ((x.toNat : Int) == 13) = false := beq_eq_false_iff_ne.2 (by intro h; apply n13; apply UInt8.toNat_inj.1; simp; omega)
          have q10 : ((x.toNat : Int) == 10) = false := beq_eq_false_iff_ne.2 (by intro h; apply n10; apply UInt8.toNat_inj.1; simp; omega)
          clear hc n44 n13 n10 hx34
          go_wp2_with (at_builtin; go_must (refine wpList_append_lies _ (by rfl) _ _ _ (by rfl) B 5 i0 _ 1 1 Tryd.underlying58 hi0 iz0 iz1 iz2 rfl (by omega) (.slice (some ⟨g, 0, none⟩) n cap) n (bytesC V) (by rfl) (HO.out.alloc _) ⟨_, 0, none⟩ 1 1 [.int .u8 (x.toNat : Int)] (by rfl) (by rfl) (World.news_of_block (cs := #[.int .u8 (x.toNat : Int)]) (t := 5) (fr := (0, 0)) (heap_alloc_new _ _)) (by simp [Value.oneCell']) (by omega) (by unfold maxLen; omega) (by omega) (by simp; omega) _ rfl ?_; intro g4 cap4 w4 hown4 hgrow4 hat4 hlt4))
          have HB4 := Lib.hid ((HBE.out.trans (((Below.refl _ wr).alloc (Nat.le_refl _) (Obj.cells #[.int .u8 (x.toNat : Int)] 5)).mono (by have := HBE.out.size; omega))).grown hgrow4 (by have := HBE.out.size; simp; omega) (ownBlock_lo HO.out))
          have HO4 := Lib.hid (show w4.ownsRow B 5 1 (.slice (some ⟨g4, 0, none⟩) (n + 1) cap4) (n + 1) (bytesC (V ++ [x])) by rw [bytesC_append]; exact hown4)
          clear hown4 hgrow4 hat4 hlt4
          go_roundw
          case rel => exact ⟨k + 1, g4, cap4, n + 1, V ++ [x], by omega, by go_num, by rw [HSP2.out], rfl, HO4.out, by rw [List.length_append, ← HN.out]; rfl, HDB2.out.symm, HB4.out⟩
          case measure => simp [intOf]; omega
    · have hks : k = s.size := by omega
      have hpa : p = specAny s.data.toList := by rw [HP.out, hks, List.take_of_length_le (show s.data.toList.length ≤ s.size from Nat.le_refl _)]
      have hVa : V = 34 :: dblB s.data.toList := by rw [HV.out, hks, List.take_of_length_le (show s.data.toList.length ≤ s.size from Nat.le_refl _)]
      have HVA := Lib.hid hVa
      have HPA := Lib.hid hpa
      clear hks hpa hVa
      cases p
      · have HW := Lib.hid (show writtenB s.data.toList = s.data.toList by unfold writtenB; rw [if_neg (by rw [← HPA.out]; simp)])
        go_wp2_with fail
        go_ret
        exact ⟨by rw [HW.out]; rfl, by rw [← hB]; exact HBE.out⟩
      · have HW := Lib.hid (show writtenB s.data.toList = V ++ [34] by unfold writtenB; rw [if_pos (by rw [← HPA.out]), HVA.out]; rfl)
        go_wp2_with (at_builtin; go_must (refine wpList_append_lies _ (by rfl) _ _ _ (by rfl) B 5 i0 _ 1 1 Tryd.underlying58 hi0 iz0 iz1 iz2 rfl (by omega) (.slice (some ⟨g, 0, none⟩) n cap) n (bytesC V) (by rfl) (HO.out.alloc _) ⟨_, 0, none⟩ 1 1 [.int .u8 34] (by rfl) (by rfl) (World.news_of_block (cs := #[.int .u8 34]) (t := 5) (fr := (0, 0)) (heap_alloc_new _ _)) (by simp [Value.oneCell']) (by omega) (by unfold maxLen; omega) (by omega) (by simp; omega) _ rfl ?_; intro g4 cap4 w4 hown4 hgrow4 hat4 hlt4; have hcv := conv_snoc (y := 34) HN.out hown4))
        go_ret
        exact ⟨by rw [HW.out]; rfl, by
          rw [← hB]
          exact (HBE.out.trans (((Below.refl _ wr).alloc (Nat.le_refl _) (Obj.cells #[.int .u8 34] 5)).mono hzB)).grown hgrow4 (by simp; omega) (ownBlock_lo HO.out)⟩
end Go.Proofs.YtodbpfdknfcgbaaDoor
