/- Package token: Scan, for every text. -/
import Derived.Test.YtaipljdpkgdheaaDoorScanSpec
import Derived.Test.YtaipljdpkgdheaaDoorNext
namespace Go.Proofs.YtaipljdpkgdheaaDoor
open Go Go.RowKit

theorem ReadTo.grownBy {rb : Nat} {w w' : World} {q : Nat} (h : ReadTo rb w w' q) : w.grownBy w' (some rb) :=
  ⟨h.os, h.tape, h.output, h.size, fun k hk hne => (h.block k hk).trans (Below.heap_setCell _ _ _ _ (fun e => hne (by rw [e])))⟩
theorem ReadAt.grown {w w' : World} {rb : Nat} {t : ByteArray} {p : Nat} {row : Option Nat} (h : ReadAt w rb t p) (hg : w.grownBy w' row) (hr : row ≠ some rb) : ReadAt w' rb t p := by
  have hb := hg.block rb h.lt (fun e => hr e.symm)
  exact ⟨(World.cell?_of_block (a := ⟨rb, 0, none⟩) hb).trans h.c0, (World.cell?_of_block (a := ⟨rb, 1, none⟩) hb).trans h.c1, (World.frozen?_of_block (a := ⟨rb, 1, none⟩) hb).trans h.f1⟩

theorem own_lt_size {w : World} {base : Nat} {e : TypeId} {size n : Nat} {v : Value} {xs : List Value} (h : w.ownsRow base e size v n xs) : ∀ k, v.ownBlock = some k → k < w.heap.size := by
  intro k hk
  rcases h.2 with ⟨e, _⟩ | ⟨g, cap', cur, e, hg, hh, _⟩
  · rw [e] at hk; simp [Value.ownBlock] at hk
  · rw [e] at hk
    simp only [Value.ownBlock] at hk
    cases hk
    exact (Array.getElem?_eq_some_iff.1 hh).1

set_option maxHeartbeats 8000000 in
set_option maxRecDepth 100000 in
theorem scan_any (t : ByteArray) (w : World) (ht : t.size ≤ 4096) (hT : Tabs w) :
    Calls Tryd.prog 9 #[.string t] w fun e w' => (∃ (va : Option Addr) (cap : Nat), e = .returned (.tuple #[.slice va (scanR t.size [] t.data.toList).1.length cap, .int .i64 (scanAt t.size (scanR t.size [] t.data.toList)), .int .i64 (scanR t.size [] t.data.toList).2.2]) ∧ w'.ownsRow w.heap.size 28 3 (.slice va (scanR t.size [] t.data.toList).1.length cap) (scanR t.size [] t.data.toList).1.length (tkCells (scanR t.size [] t.data.toList).1)) ∧ Below w.heap.size w w' := by
  obtain ⟨i0, hi0, hz0, hz1, hz2⟩ := info_parts Tryd.infoTok
  have hq : ¬ (4096 : Int) < (t.size : Int) := by omega
  obtain ⟨R, hR⟩ : ∃ R, R = scanR t.size [] t.data.toList := ⟨_, rfl⟩
  rw [← hR]
  have HRR := Lib.hid hR
  have HT := Lib.hid hT
  obtain ⟨W0, hW0⟩ : ∃ W0, W0 = w.alloc (Obj.cells #[Value.string t, Value.int .i64 0] 57) := ⟨_, rfl⟩
  have HB0 := Lib.hid (show Below w.heap.size w W0 by rw [hW0]; exact (Below.refl _ _).alloc (Nat.le_refl _) _)
  have HRD0 := Lib.hid (show ReadAt W0 w.heap.size t 0 by
    have hy : W0.heap[w.heap.size]? = some (Obj.cells #[Value.string t, Value.int .i64 0] 57 (0, 0)) := by rw [hW0]; exact heap_alloc_new _ _
    exact ⟨by simp [World.cell?, hy], by simp [World.cell?, hy], by simp [World.frozen?, hy]⟩)
  have HW0 := Lib.hid hW0
  have HF := Lib.hid (hT.far (Nat.le_refl _))
  clear hW0 hR hT
  go_enter Tryd.func9, Tryd.ntmps9
  go_wp2_with fail
  rw [← HW0.out]
  go_loopg [5] (t.size + 1) (fun g v5 wx => ∃ (acc : List Tk) (va : Option Addr) (cp q : Nat), v5 = .slice va acc.length cp ∧ wx.ownsRow (w.heap.size + 1) 28 3 (.slice va acc.length cp) acc.length (tkCells acc) ∧ ReadAt wx w.heap.size t q ∧ Below w.heap.size w wx ∧ q ≤ t.size ∧ scanR t.size acc (restB t q) = R ∧ acc.length + (restB t q).length ≤ t.size ∧ (restB t q).length < g)
  case atStart => exact ⟨[], none, 0, 0, rfl, World.ownsRow_nil _ _ _ _, HRD0.out, HB0.out, Nat.zero_le _, HRR.out.symm, by rw [rest_len]; simp, by rw [rest_len]; omega⟩
  case round =>
    obtain ⟨acc, va, cp, q, rfl, hown, hrd, hbel, hq, hsp, hal, hlg⟩ := hrel
    obtain ⟨g, rfl⟩ : ∃ g, gk = g + 1 := ⟨gk - 1, by omega⟩
    have HO := Lib.hid hown
    have HRD := Lib.hid hrd
    have HBE := Lib.hid hbel
    have HSP := Lib.hid hsp
    have hzw := hbel.size
    have hrl := hrd.lt
    have hl := rest_len t q
    obtain ⟨n, hn⟩ : ∃ n, n = acc.length := ⟨_, rfl⟩
    rw [← hn] at HO hal ⊢
    have HN := Lib.hid hn
    have hne := Lib.hid (next_any t q w.heap.size wr HRD.out hq ht (HT.out.below HBE.out) HF.out)
    obtain ⟨⟨k, x, st, rs, f⟩, hX⟩ : ∃ T, T = nextR (restB t q) := ⟨_, rfl⟩
    rw [← hX] at hne
    have HX := Lib.hid hX.symm
    clear hown hrd hbel hsp hn hX
    by_cases hf : f = 0
    · subst hf
      obtain ⟨y, hy⟩ : ∃ y, y = t.size - st.length := ⟨_, rfl⟩
      have HNX := Lib.hid (hne.out.mono (fun e w' (h : e = .returned (nextV t.size ⟨k, x, st, rs, 0⟩) ∧ ReadTo w.heap.size wr w' (nextAt t.size ⟨k, x, st, rs, 0⟩)) => show e = .returned (.tuple #[.agg #[.int .i64 k, .string ⟨x.toArray⟩, .int .i64 (y : Int)], .int .i64 0]) ∧ ReadTo w.heap.size wr w' (t.size - rs.length) by
        obtain ⟨h1, h2⟩ := h
        unfold nextV at h1
        unfold nextAt at h2
        simp only [if_true, ← hy] at h1 h2
        exact ⟨h1, h2⟩))
      have HTK := Lib.hid (show tkOf t.size (nextR (restB t q)) = ⟨k, x, y⟩ by rw [HX.out, hy]; rfl)
      have HSF := Lib.hid (show restB t (t.size - rs.length) = rs by
        have h := next_suffix (restB t q)
        rw [HX.out] at h
        exact rest_suffix (h.trans (rest_is_suffix t q)))
      have hn4 : n ≤ 4096 := by omega
      clear hne hy
      by_cases h5 : k = 5
      · subst h5
        have HE := Lib.hid (show R = (acc ++ [⟨5, x, y⟩], [], 0) by rw [← HSP.out, scanR_end (by rw [HX.out]) (by rw [HX.out]), HTK.out])
        go_wp2_with fail
        refine HNX.out.mono ?_; rintro e w2 ⟨rfl, hto2⟩
        obtain ⟨V, hV⟩ : ∃ V, V = w2.alloc (Obj.cells #[.int .i64 5, .string ⟨x.toArray⟩, .int .i64 (y : Int)] 28) := ⟨_, rfl⟩
        have hbV : Below w2.heap.size w2 V := by rw [hV]; exact (Below.refl _ _).alloc (Nat.le_refl _) _
        obtain ⟨b, hb⟩ : ∃ b, b = w2.heap.size := ⟨_, rfl⟩
        have HCV := Lib.hid (show Cells3 V b (.int .i64 5) (.string ⟨x.toArray⟩) (.int .i64 (y : Int)) by rw [hV, hb]; exact Cells3.made _ _ _ _ _)
        have v0 := HCV.out.c0
        have v1 := HCV.out.c1
        have v2 := HCV.out.c2
        have HOV := Lib.hid (owns_below (own_to hto2 HO.out (Nat.lt_succ_self _)) hbV)
        have HRV := Lib.hid ((hto2.place HRD.out).below hbV)
        have HBV := Lib.hid (show Below w.heap.size w V from (HBE.out.grown hto2.grownBy hzw (fun k hk => by injection hk with hk; omega)).trans (hbV.mono (by have := hto2.size; omega)))
        have hrb : w.heap.size < V.heap.size := HRV.out.lt
        have hlo := own_lt_size (own_to hto2 HO.out (Nat.lt_succ_self _))
        have HLO := Lib.hid (show ∀ j, (Value.slice va n cp).ownBlock = some j → j ≠ b ∧ j ≠ w.heap.size from fun j hj => by
          have h1 := hlo j hj
          have h2 := ownBlock_lo HO.out j hj
          exact ⟨by omega, by omega⟩)
        have HV := Lib.hid hV
        have HBB := Lib.hid hb
        have hbz : b < V.heap.size := HCV.out.lt
        clear hV hb hbV hto2 hlo
        go_upto_region 6 with fail
        rw [← HV.out, ← HBB.out]
        go_wp2_with (at_builtin; go_must (refine wpList_append_lies _ (by rfl) _ _ _ (by rfl) (w.heap.size + 1) 28 i0 _ 3 32 Tryd.underlying23 hi0 hz0 hz1 hz2 rfl (by omega) (.slice va n cp) n (tkCells acc) (by rfl) (HOV.out.alloc _) ⟨_, 0, none⟩ 1 1 (Tk.cells ⟨5, x, y⟩) (by rfl) (by rfl) (World.news_of_block (cs := #[.int .i64 5, .string ⟨x.toArray⟩, .int .i64 (y : Int)]) (t := 28) (fr := (0, 0)) (heap_alloc_new _ _)) (by simp [Tk.cells, Value.oneCell']) (by omega) (by unfold maxLen; omega) (by omega) (by simp; omega) _ rfl ?_; intro g2 cap2 w6 hown6 hgrow6 hat6 hlt6; have hk6 := (HCV.out.keep (((Below.refl _ V).alloc (Nat.le_refl _) (Obj.cells #[.int .i64 5, .string ⟨x.toArray⟩, .int .i64 (y : Int)] 28)).block _ hbz)); have hk7 := hk6.keep (hgrow6.block _ hk6.lt (fun e => (HLO.out _ e.symm).1 rfl)); have k0 := hk7.c0))
        have hbA : Below V.heap.size V (V.alloc (Obj.cells #[.int .i64 5, .string ⟨x.toArray⟩, .int .i64 (y : Int)] 28)) := (Below.refl _ V).alloc (Nat.le_refl _) _
        have HB7 := Lib.hid ((HBV.out.trans (hbA.mono (by omega))).grown hgrow6 (by rw [World.size_alloc]; omega) (fun j hj => by have := ownBlock_lo HOV.out j hj; omega))
        rw [HE.out]
        have hlen : (acc ++ [(⟨5, x, y⟩ : Tk)]).length = n + 1 := by rw [List.length_append, ← HN.out]; rfl
        clear hbA
        go_ret3
        refine ⟨⟨some ⟨g2, 0, none⟩, cap2, ?_, ?_⟩, HB7.out⟩
        · simp only [hlen]
          rfl
        · simp only [hlen]
          rw [tkCells_snoc]
          exact own_base hown6 (Nat.le_succ _)
      · have b5 : (k == 5) = false := beq_eq_false_iff_ne.2 h5
        have HE := Lib.hid (show scanR t.size (acc ++ [⟨k, x, y⟩]) rs = R by
          have h := scanR_more (n := t.size) (acc := acc) (l := restB t q) (by rw [HX.out]) (by rw [HX.out]; exact h5)
          rw [HTK.out, HX.out] at h
          exact h.symm.trans HSP.out)
        have hless : rs.length < (restB t q).length := by
          have h := next_rest (restB t q) (by rw [HX.out]) (by rw [HX.out]; exact h5)
          rw [HX.out] at h
          exact h
        clear h5
        go_wp2_with fail
        refine HNX.out.mono ?_; rintro e w2 ⟨rfl, hto2⟩
        obtain ⟨V, hV⟩ : ∃ V, V = w2.alloc (Obj.cells #[.int .i64 k, .string ⟨x.toArray⟩, .int .i64 (y : Int)] 28) := ⟨_, rfl⟩
        have hbV : Below w2.heap.size w2 V := by rw [hV]; exact (Below.refl _ _).alloc (Nat.le_refl _) _
        obtain ⟨b, hb⟩ : ∃ b, b = w2.heap.size := ⟨_, rfl⟩
        have HCV := Lib.hid (show Cells3 V b (.int .i64 k) (.string ⟨x.toArray⟩) (.int .i64 (y : Int)) by rw [hV, hb]; exact Cells3.made _ _ _ _ _)
        have v0 := HCV.out.c0
        have v1 := HCV.out.c1
        have v2 := HCV.out.c2
        have HOV := Lib.hid (owns_below (own_to hto2 HO.out (Nat.lt_succ_self _)) hbV)
        have HRV := Lib.hid ((hto2.place HRD.out).below hbV)
        have HBV := Lib.hid (show Below w.heap.size w V from (HBE.out.grown hto2.grownBy hzw (fun k hk => by injection hk with hk; omega)).trans (hbV.mono (by have := hto2.size; omega)))
        have hrb : w.heap.size < V.heap.size := HRV.out.lt
        have hlo := own_lt_size (own_to hto2 HO.out (Nat.lt_succ_self _))
        have HLO := Lib.hid (show ∀ j, (Value.slice va n cp).ownBlock = some j → j ≠ b ∧ j ≠ w.heap.size from fun j hj => by
          have h1 := hlo j hj
          have h2 := ownBlock_lo HO.out j hj
          exact ⟨by omega, by omega⟩)
        have HV := Lib.hid hV
        have HBB := Lib.hid hb
        have hbz : b < V.heap.size := HCV.out.lt
        clear hV hb hbV hto2 hlo
        go_upto_region 6 with fail
        rw [← HV.out, ← HBB.out]
        go_wp2_with (at_builtin; go_must (refine wpList_append_lies _ (by rfl) _ _ _ (by rfl) (w.heap.size + 1) 28 i0 _ 3 32 Tryd.underlying23 hi0 hz0 hz1 hz2 rfl (by omega) (.slice va n cp) n (tkCells acc) (by rfl) (HOV.out.alloc _) ⟨_, 0, none⟩ 1 1 (Tk.cells ⟨k, x, y⟩) (by rfl) (by rfl) (World.news_of_block (cs := #[.int .i64 k, .string ⟨x.toArray⟩, .int .i64 (y : Int)]) (t := 28) (fr := (0, 0)) (heap_alloc_new _ _)) (by simp [Tk.cells, Value.oneCell']) (by omega) (by unfold maxLen; omega) (by omega) (by simp; omega) _ rfl ?_; intro g2 cap2 w6 hown6 hgrow6 hat6 hlt6; have hk6 := (HCV.out.keep (((Below.refl _ V).alloc (Nat.le_refl _) (Obj.cells #[.int .i64 k, .string ⟨x.toArray⟩, .int .i64 (y : Int)] 28)).block _ hbz)); have hk7 := hk6.keep (hgrow6.block _ hk6.lt (fun e => (HLO.out _ e.symm).1 rfl)); have k0 := hk7.c0))
        have hbA : Below V.heap.size V (V.alloc (Obj.cells #[.int .i64 k, .string ⟨x.toArray⟩, .int .i64 (y : Int)] 28)) := (Below.refl _ V).alloc (Nat.le_refl _) _
        have HB7 := Lib.hid ((HBV.out.trans (hbA.mono (by omega))).grown hgrow6 (by rw [World.size_alloc]; omega) (fun j hj => by have := ownBlock_lo HOV.out j hj; omega))
        have HR7 := Lib.hid ((HRV.out.below hbA).grown hgrow6 (fun e => (HLO.out _ e).2 rfl))
        have hlen : (acc ++ [(⟨k, x, y⟩ : Tk)]).length = n + 1 := by rw [List.length_append, ← HN.out]; rfl
        have HO7 := Lib.hid (show w6.ownsRow (w.heap.size + 1) 28 3 (.slice (some ⟨g2, 0, none⟩) (n + 1) cap2) (n + 1) (tkCells (acc ++ [⟨k, x, y⟩])) by rw [tkCells_snoc]; exact hown6)
        have h9 := rest_len t (t.size - rs.length)
        rw [HSF.out] at h9
        go_roundg g
        case rel => exact ⟨acc ++ [⟨k, x, y⟩], some ⟨g2, 0, none⟩, cap2, t.size - rs.length, by rw [hlen], by rw [hlen]; exact HO7.out, HR7.out, HB7.out, by omega, by rw [HSF.out]; exact HE.out, by rw [hlen, HSF.out]; omega, by rw [HSF.out]; omega⟩
        case measure => omega
    · have HE := Lib.hid (show R = ([], st, f) by rw [← HSP.out, scanR_bad (by rw [HX.out]; exact hf), HX.out])
      have HF0 := Lib.hid hf
      have hf2 : (f != 0) = true := by simp [bne, beq_eq_false_iff_ne.2 hf]
      have HNX := Lib.hid (hne.out.mono (fun e w' (h : e = .returned (nextV t.size ⟨k, x, st, rs, f⟩) ∧ ReadTo w.heap.size wr w' (nextAt t.size ⟨k, x, st, rs, f⟩)) => show e = .returned (.tuple #[.agg #[.int .i64 0, .string ⟨#[]⟩, .int .i64 0], .int .i64 f]) ∧ ReadTo w.heap.size wr w' (t.size - st.length) by
        obtain ⟨h1, h2⟩ := h
        unfold nextV at h1
        unfold nextAt at h2
        simp only [if_neg hf] at h1 h2
        exact ⟨h1, h2⟩))
      clear hf hne
      go_wp2_with fail
      refine HNX.out.mono ?_; rintro e w2 ⟨rfl, hto2⟩
      have r1 := (hto2.place HRD.out).c1
      have r1b := ((hto2.place HRD.out).below ((Below.refl _ w2).alloc (Nat.le_refl _) (Obj.cells #[.int .i64 0, .string ⟨#[]⟩, .int .i64 0] 28))).c1
      have HB2 := Lib.hid (show Below w.heap.size w w2 from HBE.out.grown hto2.grownBy hzw (fun k hk => by injection hk with hk; omega))
      clear hto2
      go_wp2_with fail
      go_region_held3 (fun w' => w'.cell? ⟨w.heap.size, 1, none⟩ = some (.int .i64 ((t.size - st.length : Nat) : Int))) (go_keep) (fail)
      all_goals
        go_wp2_with fail
        go_ret3
        rw [HE.out]
        exact ⟨⟨none, 0, by rw [scanAt, if_neg HF0.out]; rfl, World.ownsRow_nil _ _ _ _⟩, (HB2.out.alloc HB2.out.size _).drew⟩
end Go.Proofs.YtaipljdpkgdheaaDoor
