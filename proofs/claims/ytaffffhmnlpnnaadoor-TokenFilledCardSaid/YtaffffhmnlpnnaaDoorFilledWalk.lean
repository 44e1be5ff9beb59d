/- The walk of the law of fillers. -/
import Derived.Test.YtaffffhmnlpnnaaDoorFiller
import Derived.Test.YtaffffhmnlpnnaaDoorBackWalk
import Derived.Test.YtaffffhmnlpnnaaDoorStringWalk
namespace Go.Proofs.YtaffffhmnlpnnaaDoor
open Go Go.RowKit

def tk0 (t : Tok) : Tk := ⟨t.kind, t.str.data.toList, 0⟩
theorem Cells3.set1 {w : World} {b : Nat} {v0 v1 v2 y : Value} {t : TypeId} (h : w.heap[b]? = some (Obj.cells #[v0, v1, v2] t (0, 0))) : Cells3 (w.setCell ⟨b, 1, none⟩ y) b v0 y v2 := by
  have e : (w.setCell ⟨b, 1, none⟩ y).heap[b]? = some (Obj.cells #[v0, y, v2] t (0, 0)) := by
    simp [World.setCell, Array.getElem?_modify, h]
  exact Cells3.of e
/-- One plain token, spelt. -/
theorem spell_one (k : Int) (y : ByteArray) (w : World) (hT : Tabs w) (hp : Plain k y.data.toList) (hl : y.size ≤ 60) :
    Calls Tryd.prog 11 #[.slice (some ⟨w.heap.size, 0, none⟩) 1 1] (w.alloc (Obj.cells #[.int .i64 k, .string y, .int .i64 0] 28)) fun e w' => (∃ u : ByteArray, e = .returned (.tuple #[.string u, .int .i64 0]) ∧ u.data.toList = writtenB k y.data.toList ∧ u.size ≤ 242) ∧ Below w.heap.size w w' := by
  have hw : (writtenB k y.data.toList).length ≤ 242 := plain_wr60 hp hl
  have hok := plain_ok hp
  have hm := Cells3.made w (.int .i64 k) (.string y) (.int .i64 0) 28
  have h := spell_any [⟨k, y, 0⟩] (some ⟨w.heap.size, 0, none⟩) 1 (w.alloc (Obj.cells #[.int .i64 k, .string y, .int .i64 0] 28)) (hT.below ((Below.refl _ w).alloc (Nat.le_refl _) _)) (Or.inr ⟨_, 0, rfl, fun i hi => by
    obtain rfl : i = 0 := by simpa using hi
    exact ⟨hm.c0, hm.c1, hm.c2⟩⟩) (fun t ht => by
    rw [List.mem_singleton.1 ht]
    exact ⟨hok.may, hok.noEnd, hok.str, hok.sign⟩) (by simp) (show (writtenB k y.data.toList).length ≤ 4096 by omega)
  refine Calls.mono h ?_
  rintro e w' ⟨rfl, hb⟩
  exact ⟨⟨_, rfl, rfl, hw⟩, below_new hb⟩
theorem filler3 (s : ByteArray) (w : World) : Calls Tryd.prog 13 #[.int .u8 3, .string s] w fun e w' => (∃ f : ByteArray, e = .returned (.string f) ∧ Fill f.data.toList) ∧ Below w.heap.size w w' := filler_any 3 s w (by omega)
/-- The text of tokens and fillers, scanned. -/
theorem scan_filled (ps : List (List UInt8 × Tok)) (t : ByteArray) (E : List UInt8) (hE : Fill E) (hps : ∀ y ∈ ps, Fill y.1 ∧ PlainT y.2) (ht : t.data.toList = fillL ps ++ E) (hl : t.size ≤ 4096) (n : Nat) (hn : ps.length = n) (w : World) (hT : Tabs w) :
    Calls Tryd.prog 9 #[.string t] w fun e w' => (∃ (va : Option Addr) (cap : Nat) (M : List Tok), e = .returned (.tuple #[.slice va (n + 1) cap, .int .i64 0, .int .i64 0]) ∧ n + 1 ≤ cap ∧ cap ≤ maxLen ∧ ToksAt w' va M ∧ M.length = n + 1 ∧ (∀ j (h : j < ps.length) (h' : j < M.length), M[j].kind = ps[j].2.kind ∧ M[j].str = ps[j].2.str) ∧ ∀ h : n < M.length, M[n].kind = 5 ∧ M[n].str = ⟨#[]⟩) ∧ Below w.heap.size w w' := by
  have h := scan_any t w hl hT
  obtain ⟨P, h1, h2, h3⟩ := scan_fills t.size E hE ps [] hps
  rw [ht, h1] at h
  refine h.mono ?_
  rintro en w' ⟨⟨va, cap, rfl, ho⟩, hb⟩
  have hPl : ([] ++ P ++ [(⟨5, [], t.size⟩ : Tk)]).length = n + 1 := by simp [h2, hn]
  simp only [hPl] at ho ⊢
  have hc := owned_caps ho
  refine ⟨⟨va, cap, ([] ++ P ++ [(⟨5, [], t.size⟩ : Tk)]).map Tk.tok, by simp [scanAt], hc.1, hc.2, toks_own ho hPl, by rw [List.length_map, hPl], ?_, ?_⟩, hb⟩
  · intro j hj hj'
    obtain ⟨e1, e2⟩ := h3 j (by omega) hj
    have e3 : ([] ++ P ++ [(⟨5, [], t.size⟩ : Tk)])[j]'(by rw [hPl]; omega) = P[j]'(by omega) := by
      simp only [List.nil_append]
      rw [List.getElem_append_left (by omega)]
    simp only [List.getElem_map, e3]
    refine ⟨e1, ?_⟩
    show (⟨(P[j]'(by omega)).text.toArray⟩ : ByteArray) = ps[j].2.str
    rw [e2]
  · intro hj
    have e3 : ([] ++ P ++ [(⟨5, [], t.size⟩ : Tk)])[n]'(by rw [hPl]; omega) = ⟨5, [], t.size⟩ := by
      simp only [List.nil_append]
      rw [List.getElem_append_right (by omega)]
      simp [h2, hn]
    simp only [List.getElem_map, e3]
    exact ⟨rfl, rfl⟩
set_option maxHeartbeats 8000000 in
set_option maxRecDepth 1000000 in
theorem filled_any (l : List Tok) (ao : Option Addr) (ca : Nat) (fl : List UInt8) (fo : Option Addr) (fc : Nat) (note : ByteArray) (w : World) (hT : Tabs w) (hl : ToksAt w ao l) (hm : l.length ≤ maxLen) (hs : ∀ t ∈ l, t.str.size ≤ reachBytes) (hf : BytesAt w fo fl) (hfm : fl.length ≤ maxLen) :
    Calls Tryd.prog 6 #[.slice ao l.length ca, .slice fo fl.length fc, .string note] w fun e w' => e = .returned (.bool true) ∧ Below w.heap.size w w' := by
  obtain ⟨i0, hi0, hz0, hz1, hz2⟩ := info_parts Tryd.infoTok
  have HT := Lib.hid hT
  have HL := Lib.hid hl
  have HS := Lib.hid hs
  have HF := Lib.hid hf
  obtain ⟨N, hN⟩ : ∃ N, N = l.length := ⟨_, rfl⟩
  rw [← hN] at hm ⊢
  have HN := Lib.hid hN
  obtain ⟨R, hR⟩ : ∃ R, R = fl.length := ⟨_, rfl⟩
  rw [← hR] at hfm ⊢
  have HR := Lib.hid hR
  unfold maxLen at hm hfm
  clear hT hl hs hN hf hR
  go_enter Tryd.func6, Tryd.ntmps6
  go_wp2_with fail
  go_loopw [7, 8, 9] (fun v7 v8 v9 wr => ∃ (i : Nat) (ps : List (List UInt8 × Tok)) (va : Option Addr) (cp : Nat) (t : ByteArray), i ≤ 8 ∧ i ≤ N ∧ v9 = .int .i64 (i : Int) ∧ v8 = .string t ∧ v7 = .slice va i cp ∧ wr.ownsRow w.heap.size 28 3 (.slice va i cp) i (tkCells (ps.map fun y => tk0 y.2)) ∧ ps.length = i ∧ (∀ y ∈ ps, Fill y.1 ∧ PlainT y.2) ∧ t.data.toList = fillL ps ∧ t.size ≤ 272 * i ∧ Below w.heap.size w wr) (fun _ _ v9 _ => 8 - (intOf v9).toNat)
  case atStart => exact ⟨0, [], none, 0, ⟨#[]⟩, by omega, Nat.zero_le _, rfl, rfl, rfl, World.ownsRow_nil _ _ _ _, rfl, by simp, rfl, Nat.zero_le _, Below.refl _ _⟩
  case round =>
    obtain ⟨i, ps, va, cp, t, hi8, hiN, rfl, rfl, rfl, hown, hlen, hps, htl, htz, hbel⟩ := hrel
    have HO := Lib.hid hown
    have HLE := Lib.hid hlen
    have HPS := Lib.hid hps
    have HTX := Lib.hid htl
    have HBE := Lib.hid hbel
    have hzw := hbel.size
    have i0' : (0 : Int) ≤ (i : Int) := by omega
    clear hown hlen hps htl hbel
    by_cases hgo : i < N ∧ i < 8
    · obtain ⟨hlt, hlt8⟩ := hgo
      have j1 : (i : Int) < (N : Int) := by omega
      have j2 : (i : Int) < 8 := by omega
      have hil : i < l.length := by rw [← HN.out]; exact hlt
      obtain ⟨b, o, rfl, hcell⟩ : ∃ b o, ao = some ⟨b, o, none⟩ ∧ ∀ j (h : j < l.length), wr.cell? ⟨b, o + j * 3, none⟩ = some (.int .i64 l[j].kind) ∧ wr.cell? ⟨b, o + j * 3 + 1, none⟩ = some (.string l[j].str) ∧ wr.cell? ⟨b, o + j * 3 + 2, none⟩ = some (.int .i64 l[j].pos) := by
        rcases HL.out.below HBE.out with h | h
        · rw [h] at hil; simp at hil
        · exact h
      obtain ⟨d0, d1, d2⟩ := hcell i hil
      have hsz := HS.out l[i] (List.getElem_mem hil)
      obtain ⟨⟨k, s, a⟩, ht⟩ : ∃ t, t = l[i] := ⟨_, rfl⟩
      rw [← ht] at d0 d1 d2 hsz
      simp only at d0 d1 d2 hsz
      unfold reachBytes at hsz
      have HPN := Lib.hid (plainest_any k a s wr hsz)
      clear hcell ht hsz
      go_wp2_with fail
      refine HPN.out.mono ?_; rintro e w2 ⟨⟨k2, x, rfl, hpx⟩, hb2⟩
      obtain ⟨y, hy⟩ : ∃ y, y = (⟨x.toArray⟩ : ByteArray) := ⟨_, rfl⟩
      have hyl : y.data.toList = x := by rw [hy]
      have hyz : y.size = x.length := by rw [hy]; rfl
      rw [← hy]
      obtain ⟨V, hV⟩ : ∃ V, V = w2.alloc (Obj.cells #[.int .i64 k2, .string y, .int .i64 0] 28) := ⟨_, rfl⟩
      have hbV : Below w2.heap.size w2 V := by rw [hV]; exact (Below.refl _ _).alloc (Nat.le_refl _) _
      obtain ⟨bb, hbb⟩ : ∃ bb, bb = w2.heap.size := ⟨_, rfl⟩
      have hVh : V.heap[bb]? = some (Obj.cells #[.int .i64 k2, .string y, .int .i64 0] 28 (0, 0)) := by rw [hV, hbb]; exact heap_alloc_new _ _
      have HCV := Lib.hid (Cells3.of hVh)
      have v0 := HCV.out.c0
      have v1 := HCV.out.c1
      have v2 := HCV.out.c2
      have g1 := HCV.out.f1
      have HV := Lib.hid hV
      have HBB := Lib.hid hbb
      have HO2 := Lib.hid (owns_below HO.out hb2)
      have HB2 := Lib.hid (HBE.out.trans (hb2.mono hzw))
      have HBV0 := Lib.hid hbV
      have HVH := Lib.hid hVh
      have HPX := Lib.hid hpx
      have HYL := Lib.hid hyl
      clear hV hbb hbV hVh hb2 hy hpx d0 d1 d2 hyl
      go_upto_region 7 with fail
      rw [← HV.out, ← HBB.out]
      have hcase : 60 < y.size ∨ y.size ≤ 60 := by omega
      rcases hcase with h60 | h60
      have r60 : (60 : Int) < (y.size : Int) := by omega
      obtain ⟨y1, hy1⟩ : ∃ y1, y1 = y.extract 0 60 := ⟨_, rfl⟩
      obtain ⟨V1, hV1⟩ : ∃ V1, V1 = V.setCell ⟨bb, 1, none⟩ (.string y1) := ⟨_, rfl⟩
      have HBV1 := Lib.hid (show Below w2.heap.size w2 V1 by rw [hV1]; exact below_own HBV0.out (by rw [HBB.out]; exact Nat.le_refl _) 1 _)
      have HC1 := Lib.hid (show Cells3 V1 bb (.int .i64 k2) (.string y1) (.int .i64 0) by rw [hV1]; exact Cells3.set1 HVH.out)
      have HP1 := Lib.hid (show Plain k2 y1.data.toList by
        have h := (plain_cut HPX.out (by omega)).1
        rw [hy1, ByteArray.data_extract, Array.toList_extract, HYL.out]
        simpa [List.extract_eq_take_drop] using h)
      have hzy : y1.size ≤ 60 := by rw [hy1, ByteArray.size_extract]; omega
      have HV1 := Lib.hid hV1
      have HY1 := Lib.hid hy1
      clear hV1 hy1 h60 hyz
      go_upto_region 9 with fail
      rw [← HY1.out, ← HV1.out]
      clear r60 HY1 HV1
      rotate_left
      have r60 : ¬ (60 : Int) < (y.size : Int) := by omega
      obtain ⟨y1, hy1⟩ : ∃ y1, y1 = y := ⟨_, rfl⟩
      obtain ⟨V1, hV1⟩ : ∃ V1, V1 = V := ⟨_, rfl⟩
      have HBV1 := Lib.hid (show Below w2.heap.size w2 V1 by rw [hV1]; exact HBV0.out)
      have HC1 := Lib.hid (show Cells3 V1 bb (.int .i64 k2) (.string y1) (.int .i64 0) by rw [hV1, hy1]; exact HCV.out)
      have HP1 := Lib.hid (show Plain k2 y1.data.toList by rw [hy1, HYL.out]; exact HPX.out)
      have hzy : y1.size ≤ 60 := by rw [hy1]; exact h60
      have HV1 := Lib.hid hV1
      have HY1 := Lib.hid hy1
      clear hV1 hy1 h60 hyz
      go_upto_region 9 with fail
      rw [← HV1.out]
      clear r60 HY1 HV1
      all_goals
        have HSPL := Lib.hid (spell_one k2 y1 V1 (HT.out.below (HB2.out.trans (HBV1.out.mono HB2.out.size))) HP1.out hzy)
        have x0 := HC1.out.c0
        have x1 := HC1.out.c1
        have x2 := HC1.out.c2
        clear v0 v1 v2 g1
        go_wp2_with fail
        refine HSPL.out.mono ?_; rintro e w3 ⟨⟨u, rfl, hul, huz⟩, hb3⟩
        have HC3 := Lib.hid (HC1.out.keep (hb3.block _ HC1.out.lt))
        have u0 := HC3.out.c0
        have u1 := HC3.out.c1
        have u2 := HC3.out.c2
        have hbw3 : Below w2.heap.size w2 w3 := HBV1.out.trans (hb3.mono HBV1.out.size)
        have HOV := Lib.hid (owns_below HO2.out hbw3)
        have HBV := Lib.hid (show Below w.heap.size w w3 from HB2.out.trans (hbw3.mono HB2.out.size))
        have HUL := Lib.hid hul
        have hzV : w.heap.size ≤ w3.heap.size := HBV.out.size
        clear hb3 hbw3 hul x0 x1 x2
        go_upto_if 55 with (at_builtin; go_must (refine wpList_append_lies _ (by rfl) _ _ _ (by rfl) w.heap.size 28 i0 _ 3 32 Tryd.underlying23 hi0 hz0 hz1 hz2 rfl (by omega) (.slice va i cp) i (tkCells (ps.map fun y => tk0 y.2)) (by rfl) (HOV.out.alloc _) ⟨_, 0, none⟩ 1 1 [.int .i64 k2, .string y1, .int .i64 0] (by rfl) (by rfl) (World.news_of_block (cs := #[.int .i64 k2, .string y1, .int .i64 0]) (t := 28) (fr := (0, 0)) (heap_alloc_new _ _)) (by simp [Value.oneCell']) (by omega) (by unfold maxLen; omega) (by omega) (by simp; omega) _ rfl ?_; intro g2 cap2 w6 hown6 hgrow6 hat6 hlt6))
        have hbA : Below w3.heap.size w3 (w3.alloc (Obj.cells #[.int .i64 k2, .string y1, .int .i64 0] 28)) := (Below.refl _ w3).alloc (Nat.le_refl _) _
        have HB7 := Lib.hid ((HBV.out.trans (hbA.mono hzV)).grown hgrow6 (by rw [World.size_alloc]; omega) (fun j hj => by have := ownBlock_lo HOV.out j hj; omega))
        have HO7 := Lib.hid (show w6.ownsRow w.heap.size 28 3 (.slice (some ⟨g2, 0, none⟩) (i + 1) cap2) (i + 1) (tkCells ((ps.map fun y => tk0 y.2) ++ [tk0 ⟨k2, y1, 0⟩])) by rw [tkCells_snoc]; exact hown6)
        have hz6 : w.heap.size ≤ w6.heap.size := HB7.out.size
        clear hbA hown6 hgrow6 hat6 hlt6 u0 u1 u2
        go_cut [13] from 52 to 66 (fun s13 wx => ∃ kb : Nat, kb < 256 ∧ s13 = .int .u8 (kb : Int) ∧ w6 = wx)
        case first =>
          by_cases hif : i < R
          · have j3 : (i : Int) < (R : Int) := by omega
            have hif2 : i < fl.length := by rw [← HR.out]; exact hif
            obtain ⟨b2, o2, rfl, hcb⟩ : ∃ b o, fo = some ⟨b, o, none⟩ ∧ ∀ j (h : j < fl.length), w6.cell? ⟨b, o + j, none⟩ = some (.int .u8 (fl[j].toNat : Int)) := by
              rcases HF.out.below HB7.out with h | h
              · rw [h] at hif2; simp at hif2
              · exact h
            have f1 := hcb i hif2
            obtain ⟨c, hc⟩ : ∃ c, c = fl[i].toNat := ⟨_, rfl⟩
            have hc256 : c < 256 := by rw [hc]; exact fl[i].toNat_lt
            rw [← hc] at f1
            clear hc hcb
            go_wp2_with fail
            go_meet
            case rel => exact ⟨c, hc256, rfl, rfl⟩
          · have j3 : ¬ (i : Int) < (R : Int) := by omega
            go_wp2_with fail
            go_meet
            case rel => exact ⟨4, by omega, rfl, rfl⟩
        case rest =>
          obtain ⟨kb, hkb, rfl, rfl⟩ := hcut
          go_wp2_with fail
          refine (filler_any kb note w6 hkb).mono ?_; rintro e w7 ⟨⟨f, rfl, hf⟩, hb7⟩
          obtain ⟨t1, ht1⟩ : ∃ t1, t1 = t ++ f := ⟨_, rfl⟩
          obtain ⟨t2, ht2⟩ : ∃ t2, t2 = t1 ++ u := ⟨_, rfl⟩
          have hfz : f.size ≤ 30 := hf.len
          have s1 : t1.size = t.size + f.size := by rw [ht1, ByteArray.size_append]
          have s2 : t2.size = t1.size + u.size := by rw [ht2, ByteArray.size_append]
          have a1 : ∀ w : World, (Op.stringOp .add t f).run Tryd.prog w = .ok (.string t1) w := fun w => by rw [ht1]; exact run_string_add_sum w _ _ (by omega)
          have a2 : ∀ w : World, (Op.stringOp .add t1 u).run Tryd.prog w = .ok (.string t2) w := fun w => by rw [ht2]; exact run_string_add_sum w _ _ (by omega)
          have HX2 := Lib.hid (show t2.data.toList = fillL (ps ++ [(f.data.toList, ⟨k2, y1, 0⟩)]) by
            rw [ht2, ht1, bytes_append, bytes_append, fillL_snoc, HTX.out, HUL.out]
            rfl)
          have HO8 := Lib.hid (owns_below HO7.out hb7)
          have HB8 := Lib.hid (HB7.out.trans (hb7.mono hz6))
          have HFF := Lib.hid hf
          have hs2 : t2.size ≤ 272 * (i + 1) := by omega
          clear ht1 ht2 hf hb7 s1 s2 hfz
          go_wp2_with fail
          go_roundw
          case rel => exact ⟨i + 1, ps ++ [(f.data.toList, ⟨k2, y1, 0⟩)], some ⟨g2, 0, none⟩, cap2, t2, by omega, by omega, by go_num, rfl, rfl, by rw [List.map_append]; exact HO8.out, by rw [List.length_append, HLE.out]; rfl, fun z hz => by
            rcases List.mem_append.1 hz with hz | hz
            · exact HPS.out z hz
            · rw [List.mem_singleton.1 hz]
              exact ⟨HFF.out, HP1.out⟩, HX2.out, hs2, HB8.out⟩
          case measure => simp [intOf]; omega
    · obtain ⟨wo, rfl⟩ : ∃ wo, wo = wr := ⟨_, rfl⟩
      obtain ⟨T, hTT⟩ : ∃ T, T = (ps.map fun y => tk0 y.2).map Tk.tok := ⟨_, rfl⟩
      have hTl : T.length = i := by rw [hTT, List.length_map, List.length_map]; exact HLE.out
      have HTA := Lib.hid (show ToksAt wo va T by rw [hTT]; exact toks_own HO.out (by rw [List.length_map]; exact HLE.out))
      have HTK := Lib.hid (show ∀ m (h : m < T.length) (h' : m < ps.length), T[m].kind = ps[m].2.kind ∧ T[m].str = ps[m].2.str by
        subst hTT
        intro m h h'
        simp only [List.getElem_map]
        exact ⟨rfl, rfl⟩)
      have HTL := Lib.hid hTl
      have hj : (¬ (i : Int) < (N : Int)) ∨ ((i : Int) < (N : Int) ∧ ¬ (i : Int) < 8) := by omega
      clear hgo hTT hTl
      rcases hj with hj | ⟨hj, hj2⟩
      all_goals
        go_wp2_with fail
        refine (filler3 note wo).mono ?_; rintro e w2 ⟨⟨f, rfl, hf⟩, hb2⟩
        obtain ⟨t2, ht2⟩ : ∃ t2, t2 = t ++ f := ⟨_, rfl⟩
        have hfz : f.size ≤ 30 := hf.len
        have s2 : t2.size = t.size + f.size := by rw [ht2, ByteArray.size_append]
        have a1 : ∀ w : World, (Op.stringOp .add t f).run Tryd.prog w = .ok (.string t2) w := fun w => by rw [ht2]; exact run_string_add_sum w _ _ (by omega)
        have HB2 := Lib.hid (HBE.out.trans (hb2.mono hzw))
        have hz2 := HB2.out.size
        have HSC := Lib.hid (scan_filled ps t2 f.data.toList hf HPS.out (by rw [ht2, bytes_append, HTX.out]) (by omega) i HLE.out w2 (HT.out.below HB2.out))
        have HTA2 := Lib.hid (HTA.out.below hb2)
        clear ht2 hf hb2 s2 hfz
        go_wp2_with fail
        refine HSC.out.mono ?_; rintro e w3 ⟨⟨vb, cb, M, rfl, hc1, hc2, htm, hMl, hMk, hMe⟩, hb3⟩
        have HB3 := Lib.hid (HB2.out.trans (hb3.mono hz2))
        have hz3 := HB3.out.size
        have HAL := Lib.hid (alike_any T M i va vb cp cb w3 HTL.out hMl (by omega) (HTA2.out.below hb3) htm (fun m h h' => by
          have hmp : m < ps.length := by rw [HLE.out, ← HTL.out]; exact h
          have h1 := hMk m hmp h'
          have h2 := HTK.out m h hmp
          exact ⟨h1.1.trans h2.1.symm, h1.2.trans h2.2.symm⟩) hMe)
        clear hb3 htm hMl hMk hMe hc1 hc2
        go_wp2_with fail
        refine HAL.out.mono ?_; rintro e w4 ⟨rfl, hb4⟩
        have HB4 := Lib.hid (HB3.out.trans (hb4.mono hz3))
        clear hb4
        go_wp2_with fail
        go_ret
        exact ⟨by first | rfl | simp, HB4.out⟩
end Go.Proofs.YtaffffhmnlpnnaaDoor
