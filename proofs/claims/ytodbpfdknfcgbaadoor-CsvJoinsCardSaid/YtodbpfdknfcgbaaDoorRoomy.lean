/- The laws' roomy. -/
import Derived.Test.YtodbpfdknfcgbaaDoorMarks
import Derived.Deep.DeepAppendWide
namespace Go.Proofs.YtodbpfdknfcgbaaDoor
open Go Go.RowKit

theorem addN (b o j : Nat) : (⟨b, o, none⟩ : Addr).add j = ⟨b, o + j, none⟩ := by
  unfold Addr.add
  split
  · subst_vars; rfl
  · rfl
theorem strC_one (c : List (List UInt8)) : ∀ u ∈ strC c, u.oneCell' = true := by
  intro u hu
  unfold strC at hu
  rw [List.mem_map] at hu
  obtain ⟨b, _, rfl⟩ := hu
  rfl
/-- 'append(s, l...)' of strings that came in, onto a row of one's own. -/
theorem wpList_append_argS {w : World} {ops : Array Oper} {rest : List Oper} {o : Oper} {a : Act} {Q : Exit → Act → World → Prop} (hgd : o.guard = none) (s x : Operand)
    (ho : o.op = .call { callee := .builtin .append, args := #[s, x], argTypes := #[27, 27] }) (base : Nat) (v : Value) (p : List (List UInt8)) (hs : a.eval s = v) (hown : w.ownsRow base 9 1 v p.length (strC p))
    (B : Nat) (ao : Option Addr) (cap : Nat) (l : List (List UInt8)) (hx : a.eval x = .slice ao l.length cap) (harg : StrsIn B w ao l) (hnil : ao = none → cap = 0 ∧ l = []) (hl : p.length + l.length ≤ 8796093022208) (hbase : base ≤ w.heap.size)
    (h : ∀ v' w', w'.ownsRow base 9 1 v' (p.length + l.length) (strC (p ++ l)) → w.grownBy w' v.ownBlock → wpList Tryd.prog ops Q rest (a.put o.dst v') w') :
    wpList Tryd.prog ops Q (o :: rest) a w := by
  obtain ⟨i0, hi0, hz0, hz1, hz2⟩ := info_parts Tryd.infoStr
  cases ao with
  | none =>
    obtain ⟨rfl, rfl⟩ := hnil rfl
    refine wpList_append_own_none hgd s x 27 ho base 9 i0 1 Tryd.underlying27 hi0 v p.length (strC p) hs hown hx ?_
    exact h v w (by rw [List.append_nil]; exact hown) (grownBy_refl _ _)
  | some ad =>
    have hnews : ∀ j u, (strC l)[j]? = some u → w.cell? (ad.add j) = some u := by
      intro j u hu
      have hj : j < l.length := by
        have := (List.getElem?_eq_some_iff.1 hu).1
        rwa [strC_len] at this
      rcases harg with rfl | ⟨b, o, e, _, hc⟩
      · simp at hj
      · cases e
        rw [addN, hc j hj]
        rw [← hu]
        simp [strC, hj]
    refine wpList_append_own_wide w hgd s x 27 ho base 9 i0 _ 1 16 Tryd.underlying27 hi0 hz0 hz1 hz2 rfl (by omega) v p.length (strC p) hs hown ad l.length cap (strC l) hx (by rw [strC_len]; omega) hnews (strC_one _) (by unfold maxLen; omega) (by omega) hbase ?_
    intro v' w' h1 h2 _
    refine h v' w' ?_ h2
    rw [show strC (p ++ l) = strC p ++ strC l by simp [strC]]
    exact h1
/-- A whole row without its marks, as the list has it. -/
def headX (x : RowX) : RowX := ⟨x.c.take (x.c.length - 20), x.ao, x.c.length⟩
/-- What is asked of rows' sizes by roomy. -/
def Roomy (x : RowX) : Prop := x.c.length ≤ 8796093021952 ∧ (x.ao = none → x.cap = 0 ∧ x.c = [])
theorem head_strs {B : Nat} {no : Nat → Prop} {w : World} {x : RowX} (h : ROwn B no w x) : StrsIn w.heap.size w (headX x).ao (headX x).c := by
  rcases (strs_in h).1 with h1 | ⟨b, o, e, hl, hc⟩
  · exact Or.inl (by simp [headX, h1])
  · refine Or.inr ⟨b, o, e, hl, fun i hi => ?_⟩
    have hi2 : i < x.c.length := by simp only [headX, List.length_take] at hi; omega
    rw [hc i hi2]
    simp [headX]
/-- A row that the call owns, whole or without its marks. -/
def SOwn (B : Nat) (w : World) (x : RowX) : Prop := ∃ y, ROwn B (fun _ => False) w y ∧ (x = y ∨ x = headX y)
theorem SOwn.strs {B : Nat} {w : World} {x : RowX} (h : SOwn B w x) : StrsIn w.heap.size w x.ao x.c := by
  obtain ⟨y, hy, rfl | rfl⟩ := h
  · exact (strs_in hy).1
  · exact head_strs hy
theorem ROwn.grown {B C n size : Nat} {xs : List Value} {w w' : World} {x : RowX} {v : Value} (h : ROwn B (fun _ => False) w x) (ho : w.ownsRow C 27 size v n xs) (hg : w.grownBy w' v.ownBlock) : ROwn B (fun _ => False) w' x := by
  obtain ⟨vq, e, _⟩ := h.there
  exact ⟨h.own.kept hg (owns_ne h.own ho (by decide)), vq, e, fun h => h⟩
theorem SOwn.grown {B C n size : Nat} {xs : List Value} {w w' : World} {x : RowX} {v : Value} (h : SOwn B w x) (ho : w.ownsRow C 27 size v n xs) (hg : w.grownBy w' v.ownBlock) : SOwn B w' x := by
  obtain ⟨y, hy, e⟩ := h
  exact ⟨y, hy.grown ho hg, e⟩
theorem ROwn.under {B : Nat} {w w' : World} {x : RowX} (h : ROwn B (fun _ => False) w x) (hb : Below w.heap.size w w') : ROwn B (fun _ => False) w' x := h.kept (grownBy_of_below hb none) (fun _ h => by cases h) (fun _ _ h => h)
theorem SOwn.under {B : Nat} {w w' : World} {x : RowX} (h : SOwn B w x) (hb : Below w.heap.size w w') : SOwn B w' x := by
  obtain ⟨y, hy, e⟩ := h
  exact ⟨y, hy.under hb, e⟩
theorem single_own {B : Nat} {w : World} (m : Nat) (hB : B ≤ w.heap.size) : ROwn B (fun _ => False) (w.alloc (Obj.cells #[.string (markS m)] 9)) ⟨[markB m], some ⟨w.heap.size, 0, none⟩, 1⟩ :=
  ⟨⟨by simp [strC], .inr ⟨w.heap.size, 1, #[.string (markS m)], rfl, hB, heap_alloc_new w _, Nat.le_refl _, (show 1 ≤ maxLen by unfold maxLen; omega), by simp, by simp [strC]; rfl⟩⟩, w.heap.size, rfl, fun h => h⟩
theorem heads_cells {l : List RowX} {acc : List RowX} (h : cellsOf acc = (cellsOf l).map (fun c => c ++ marksB 20)) : cellsOf (acc.map headX) = cellsOf l := by
  have e : cellsOf (acc.map headX) = (cellsOf acc).map (fun c => c.take (c.length - 20)) := by simp [cellsOf, headX, Function.comp_def]
  rw [e, h, List.map_map]
  have e2 : ∀ c : List (List UInt8), ((fun c : List (List UInt8) => c.take (c.length - 20)) ∘ fun c => c ++ marksB 20) c = c := by
    intro c
    simp [marks_len]
  rw [show ((fun c : List (List UInt8) => c.take (c.length - 20)) ∘ fun c => c ++ marksB 20) = id from funext e2, List.map_id]
theorem rows_some {w : World} {B N ca : Nat} {va : Option Addr} {l : List RowX} (h : w.ownsRow B 27 1 (.slice va N ca) N (rowsC l)) (hN : l.length = N) (hx : ∀ x ∈ l, StrsIn w.heap.size w x.ao x.c) : RowsIn w.heap.size w va l ∧ N ≤ ca ∧ ca ≤ maxLen := by
  subst hN
  rcases h.2 with ⟨e, h0⟩ | ⟨g, cap', cur, e, _, hh, h1, h2, _⟩
  · injection e with e1 e2 e3
    refine ⟨Or.inl (List.eq_nil_of_length_eq_zero h0), by omega, by rw [e3]; unfold maxLen; omega⟩
  · injection e with e1 e2 e3
    subst e1 e3
    refine ⟨Or.inr ⟨g, 0, rfl, (Array.getElem?_eq_some_iff.1 hh).1, fun i hi => ⟨?_, hx _ (List.getElem_mem hi)⟩⟩, h1, h2⟩
    have hc := h.cells (g := g) rfl i (l[i].cell) (by simp [rowsC, hi])
    rw [addN] at hc
    exact hc
theorem row_room {B : Nat} {w : World} {x : RowX} (h : ROwn B (fun _ => False) w x) : x.c.length ≤ x.cap ∧ x.cap ≤ maxLen := by
  obtain ⟨vg, e, _⟩ := h.there
  rcases h.own.2 with ⟨e2, _⟩ | ⟨g, cap, cur, e2, _, _, h1, h2, _⟩
  · rw [e] at e2; cases e2
  · injection e2 with e3 e4 e5
    rw [e5]
    exact ⟨h1, h2⟩
set_option maxHeartbeats 16000000 in
set_option maxRecDepth 100000 in
theorem roomy_any (l : List RowX) (ao : Option Addr) (cap : Nat) (w : World) (hl : RowsIn w.heap.size w ao l) (hll : l.length ≤ 5864062014700) (hf : ∀ x ∈ l, Roomy x) :
    Calls Tryd.prog 13 #[.slice ao l.length cap] w fun e w' => (∃ (L M : List RowX) (va : Option Addr) (ca : Nat) (vb : Option Addr) (cb : Nat), e = .returned (.tuple #[.slice va L.length ca, .slice vb M.length cb]) ∧ cellsOf L = cellsOf l ++ (marksB 20).map (fun m => [m]) ∧ cellsOf M = (cellsOf l).map (fun c => c ++ marksB 20) ∧ RowsIn w'.heap.size w' va L ∧ RowsIn w'.heap.size w' vb M ∧ L.length ≤ ca ∧ ca ≤ maxLen ∧ M.length ≤ cb ∧ cb ≤ maxLen ∧ (∀ x ∈ M, x.c.length ≤ x.cap ∧ x.cap ≤ maxLen) ∧ (∃ g, va = some ⟨g, 0, none⟩)) ∧ Below w.heap.size w w' := by
  obtain ⟨s0, hs0, hy0, hy1, hy2⟩ := info_parts Tryd.infoStr
  obtain ⟨r0, hr0, hw0, hw1, hw2⟩ := info_parts Tryd.infoRow
  obtain ⟨B, hB⟩ : ∃ B, B = w.heap.size := ⟨_, rfl⟩
  rw [← hB] at hl ⊢
  have HL := Lib.hid hl
  have HF := Lib.hid hf
  have HBW := Lib.hid hB
  have hBw : B ≤ w.heap.size := Nat.le_of_eq hB
  clear hl hf hB
  go_enter Tryd.func13, Tryd.ntmps13
  go_wp2_with fail
  go_loopw [4, 5, 6] (fun vl vw i wr => ∃ (k : Nat) (acc : List RowX) (va : Option Addr) (ca : Nat) (vb : Option Addr) (cb : Nat), k ≤ l.length ∧ i = .int .i64 k ∧ vl = .slice va k ca ∧ vw = .slice vb k cb ∧ acc.length = k ∧ cellsOf acc = (cellsOf (l.take k)).map (fun c => c ++ marksB 20) ∧ wr.ownsRow B 27 1 (.slice va k ca) k (rowsC (acc.map headX)) ∧ wr.ownsRow B 27 1 (.slice vb k cb) k (rowsC acc) ∧ ((Value.slice va k ca).ownBlock = none ∨ (Value.slice va k ca).ownBlock ≠ (Value.slice vb k cb).ownBlock) ∧ (∀ x ∈ acc, ROwn B (fun _ => False) wr x) ∧ Below B w wr) (fun _ _ i _ => l.length - (intOf i).toNat)
  case atStart => exact ⟨0, [], none, 0, none, 0, Nat.zero_le _, rfl, rfl, rfl, rfl, rfl, World.ownsRow_nil _ _ _ _, World.ownsRow_nil _ _ _ _, Or.inl rfl, by simp, Below.refl _ _⟩
  case round =>
    obtain ⟨k, acc, va, ca, vb, cb, hk, rfl, rfl, rfl, hacc, hcell, ho0, ho1, hne, hrows, hbel⟩ := hrel
    have HACC := Lib.hid hacc
    have HCE := Lib.hid hcell
    have HO0 := Lib.hid ho0
    have HO1 := Lib.hid ho1
    have HNE := Lib.hid hne
    have HRW := Lib.hid hrows
    have HBE := Lib.hid hbel
    have hzw := hbel.size
    have hzw' : B ≤ wr.heap.size := by omega
    clear hacc hcell ho0 ho1 hne hrows hbel
    by_cases hlt : k < l.length
    · obtain ⟨rb, ro, rfl, hrB, hc⟩ : ∃ rb ro, ao = some ⟨rb, ro, none⟩ ∧ rb < B ∧ ∀ i (h : i < l.length), wr.cell? ⟨rb, ro + i, none⟩ = some (.slice l[i].ao l[i].c.length l[i].cap) ∧ StrsIn B wr l[i].ao l[i].c := by
        rcases HL.out.below HBE.out (Nat.le_refl _) with h | h
        · rw [h] at hlt; simp at hlt
        · exact h
      obtain ⟨hck, hst⟩ := hc k hlt
      have hfk := HF.out l[k] (List.getElem_mem hlt)
      have HTK := Lib.hid (show cellsOf (l.take (k + 1)) = cellsOf (l.take k) ++ [l[k].c] by rw [List.take_succ_eq_append_getElem hlt, cellsOf_snoc])
      obtain ⟨x, hx⟩ : ∃ x, x = l[k] := ⟨_, rfl⟩
      rw [← hx] at hck hst hfk HTK
      obtain ⟨c, xa, xc⟩ := x
      simp only [Roomy] at hck hst hfk HTK
      obtain ⟨n, hn⟩ : ∃ n, n = c.length := ⟨_, rfl⟩
      have hnb : n ≤ 8796093021952 := by omega
      have HN := Lib.hid hn
      have HST := Lib.hid hst
      have HFK := Lib.hid hfk.2
      have HCK := Lib.hid hck
      have k0 : (0 : Int) ≤ (k : Int) := by omega
      have k1 : (k : Int) < (l.length : Int) := by omega
      clear hc hx hst hfk hn
      obtain ⟨A, hA⟩ : ∃ A : Nat, A = wr.heap.size := ⟨_, rfl⟩
      have HA := Lib.hid hA
      have hAle : A ≤ wr.heap.size := Nat.le_of_eq hA
      clear hA
      go_upto_region 7 with (at_builtin; go_must (refine wpList_append_argS (by rfl) _ _ (by rfl) A (.slice none 0 0) [] (by rfl) (World.ownsRow_nil _ _ _ _) B xa xc c (by rfl) HST.out HFK.out (by have := HN.out; simp; omega) hAle ?_; intro v2 w2 hown2 hgrow2))
      rw [List.nil_append, List.length_nil, Nat.zero_add] at hown2
      obtain ⟨v3, c3, rfl⟩ := owned_form hown2
      rw [← HN.out] at hown2 ⊢
      have HO2 := Lib.hid hown2
      have hb2 : Below wr.heap.size wr w2 := below_of_grown hgrow2 rfl
      have HB2 := Lib.hid (show Below A wr w2 by rw [HA.out]; exact hb2)
      clear hown2 hgrow2 hb2 hck
      go_wp2_with fail
      obtain ⟨wo, rfl⟩ : ∃ wo : World, wo = wr := ⟨_, rfl⟩
      go_loopw [7, 8] (fun v i wx => ∃ (m N : Nat) (v3 : Option Addr) (c3 : Nat), m ≤ 20 ∧ i = .int .i64 m ∧ v = .slice v3 N c3 ∧ N = n + m ∧ wx.ownsRow A 9 1 (.slice v3 N c3) N (strC (c ++ marksB m)) ∧ Below A wo wx) (fun _ i _ => 20 - (intOf i).toNat)
      case atStart => exact ⟨0, n, v3, c3, by omega, rfl, rfl, rfl, by rw [show marksB 0 = [] from rfl, List.append_nil]; exact HO2.out, HB2.out⟩
      case round =>
        obtain ⟨m, N, v4, c4, hm, rfl, rfl, hNm, hown, hbel2⟩ := hrel
        have HO4 := Lib.hid hown
        have HB4 := Lib.hid hbel2
        have HNM := Lib.hid hNm
        have hNb : N ≤ 8796093022000 := by omega
        have hz4 := hbel2.size
        clear hown hbel2 hNm
        by_cases hm2 : m < 20
        · have hmz : (m : Int) < 20 := by omega
          go_wp2_with fail
          refine (word_any m _ hm2).mono ?_; rintro e w5 ⟨rfl, hb5⟩
          have HO5 := Lib.hid (owns_below HO4.out hb5)
          have HB5 := Lib.hid (HB4.out.trans (hb5.mono (by omega)))
          have hz5 := HB5.out.size
          clear hb5
          go_wp2_with (at_builtin; go_must (refine wpList_append_lies _ (by rfl) _ _ _ (by rfl) A 9 s0 _ 1 16 Tryd.underlying27 hs0 hy0 hy1 hy2 rfl (by omega) (.slice v4 N c4) N (strC (c ++ marksB m)) (by rfl) (HO5.out.alloc _) ⟨_, 0, none⟩ 1 1 [.string (markS m)] (by rfl) (by rfl) (World.news_of_block (cs := #[.string (markS m)]) (t := 9) (fr := (0, 0)) (heap_alloc_new _ _)) (by simp [Value.oneCell']) (by omega) (by unfold maxLen; omega) (by omega) (by simp; omega) _ rfl ?_; intro g2 cap2 w7 hown7 hgrow7 hat7 hlt7))
          have HB7 := Lib.hid ((HB5.out.trans (((Below.refl _ w5).alloc (Nat.le_refl _) (Obj.cells #[.string (markS m)] 9)).mono (by omega))).grown hgrow7 (by simp; omega) (ownBlock_lo HO5.out))
          have HO7 := Lib.hid (show w7.ownsRow A 9 1 (.slice (some ⟨g2, 0, none⟩) (N + 1) cap2) (N + 1) (strC (c ++ marksB (m + 1))) by rw [marks_snoc, ← List.append_assoc, strC_snoc]; exact hown7)
          clear hown7 hgrow7 hat7 hlt7
          go_roundw
          case rel => exact ⟨m + 1, N + 1, some ⟨g2, 0, none⟩, cap2, by omega, by go_num, rfl, by have := HNM.out; omega, HO7.out, HB7.out⟩
          case measure => simp [intOf]; omega
        · have hm20 : m = 20 := by omega
          subst hm20
          obtain ⟨vg, rfl⟩ : ∃ g, v4 = some ⟨g, 0, none⟩ := by
            rcases owned_case HO4.out with ⟨h0, _⟩ | h
            · have := HNM.out; omega
            · exact h
          have hvg := HO4.out.lt vg rfl
          obtain ⟨hc4, hc4m⟩ : N ≤ c4 ∧ c4 ≤ maxLen := by
            rcases HO4.out.2 with ⟨e, _⟩ | ⟨g, cap, cur, e, _, _, h1, h2, _⟩
            · cases e
            · injection e with e1 e2 e3
              subst e3
              exact ⟨h1, h2⟩
          unfold maxLen at hc4m
          have hob : Below wo.heap.size wo wr := by rw [← HA.out]; exact HB4.out
          have HO04 := Lib.hid (owns_below HO0.out hob)
          have HO14 := Lib.hid (owns_below HO1.out hob)
          have HBw4 := Lib.hid (HBE.out.trans (hob.mono hzw'))
          have HRW4 := Lib.hid (show ∀ x ∈ acc, ROwn B (fun _ => False) wr x from fun x hx => (HRW.out x hx).kept (grownBy_of_below hob none) (fun _ h => by cases h) (fun _ _ h => h))
          have HROW := Lib.hid (show ROwn B (fun _ => False) wr ⟨c ++ marksB 20, some ⟨vg, 0, none⟩, c4⟩ from ⟨own_base (base' := B) (by
            have h := HO4.out
            have e : (c ++ marksB 20).length = N := by rw [List.length_append, marks_len, ← HN.out]; exact HNM.out.symm
            show wr.ownsRow A 9 1 (.slice (some ⟨vg, 0, none⟩) (c ++ marksB 20).length c4) (c ++ marksB 20).length _
            rw [e]
            exact h) (by rw [HA.out]; exact hzw'), vg, rfl, fun h => h⟩)
          have hckw : wr.cell? ⟨rb, ro + k, none⟩ = some (.slice xa n xc) := by rw [HN.out]; exact (hob.cell (p := ⟨rb, ro + k, none⟩) (World.block_lt_of_cell? wo _ HCK.out)).trans HCK.out
          have hzk : k ≤ 5864062014700 := by omega
          have hBr : B ≤ wr.heap.size := by have := HBw4.out.size; omega
          clear hob
          go_upto_region 12 with (at_builtin; go_must (refine wpList_append_lies _ (by rfl) _ _ _ (by rfl) B 27 r0 _ 1 24 Tryd.underlying22 hr0 hw0 hw1 hw2 rfl (by omega) (.slice vb k cb) k (rowsC acc) (by rfl) (HO14.out.alloc _) ⟨_, 0, none⟩ 1 1 [.slice (some ⟨vg, 0, none⟩) N c4] (by rfl) (by rfl) (World.news_of_block (cs := #[.slice (some ⟨vg, 0, none⟩) N c4]) (t := 27) (fr := (0, 0)) (heap_alloc_new _ _)) (by simp [Value.oneCell']) (by omega) (by unfold maxLen; omega) (by omega) (by simp; omega) _ rfl ?_; intro g8 cap8 w8 hown8 hgrow8 hat8 hlt8))
          have eN : (c ++ marksB 20).length = N := by rw [List.length_append, marks_len, ← HN.out]; exact HNM.out.symm
          have EN := Lib.hid eN
          have hg8 := grownBy_trans (grownBy_of_below ((Below.refl _ wr).alloc (Nat.le_refl _) (Obj.cells #[.slice (some ⟨vg, 0, none⟩) N c4] 27)) (Value.slice vb k cb).ownBlock) hgrow8 (Or.inl rfl)
          have HO08 := Lib.hid (HO04.out.kept hg8 HNE.out)
          have HO18 := Lib.hid (show w8.ownsRow B 27 1 (.slice (some ⟨g8, 0, none⟩) (k + 1) cap8) (k + 1) (rowsC (acc ++ [(⟨c ++ marksB 20, some ⟨vg, 0, none⟩, c4⟩ : RowX)])) by
            rw [rowsC_snoc, show RowX.cell ⟨c ++ marksB 20, some ⟨vg, 0, none⟩, c4⟩ = .slice (some ⟨vg, 0, none⟩) N c4 by simp only [RowX.cell, eN]]
            exact hown8)
          have HR8 := Lib.hid (show ∀ x ∈ acc ++ [(⟨c ++ marksB 20, some ⟨vg, 0, none⟩, c4⟩ : RowX)], ROwn B (fun _ => False) w8 x by
            intro x hx
            have h : ROwn B (fun _ => False) wr x := by
              rcases List.mem_append.1 hx with hx | hx
              · exact HRW4.out x hx
              · rw [List.mem_singleton.1 hx]; exact HROW.out
            obtain ⟨vq, e, _⟩ := h.there
            exact ⟨h.own.kept hg8 (owns_ne h.own HO14.out (by decide)), vq, e, fun h => h⟩)
          have HNE8 := Lib.hid (show ∀ g, (Value.slice va k ca).ownBlock = some g → g ≠ g8 by
            intro g hg e
            subst e
            rcases hat8 with h | h
            · rcases HNE.out with h2 | h2
              · rw [h2] at hg; cases hg
              · exact h2 (hg.trans h.symm)
            · have := HO04.out.lt g hg
              rw [World.size_alloc] at h
              omega)
          have hb48 : Below B wr w8 := (Below.refl B wr).grown hg8 hBr (ownBlock_lo HO14.out)
          have HBw8 := Lib.hid (HBw4.out.trans hb48)
          have hck8 := (hb48.cell (p := ⟨rb, ro + k, none⟩) hrB).trans hckw
          have hB8 : B ≤ w8.heap.size := by have := hb48.size; omega
          have n0 : (0 : Int) ≤ (n : Int) := by omega
          have n1 : (n : Int) ≤ (N : Int) := by have := HNM.out; omega
          have n2 : (N : Int) ≤ (c4 : Int) := by omega
          have n3 : n ≤ N := by omega
          clear hown8 hgrow8 hat8 hg8 hb48 hckw eN
          go_wp2_with (at_builtin; go_must (refine wpList_append_lies _ (by rfl) _ _ _ (by rfl) B 27 r0 _ 1 24 Tryd.underlying22 hr0 hw0 hw1 hw2 rfl (by omega) (.slice va k ca) k (rowsC (acc.map headX)) (by rfl) (HO08.out.alloc _) ⟨_, 0, none⟩ 1 1 [.slice (some ⟨vg, 0, none⟩) n N] (by rfl) (by rfl) (World.news_of_block (cs := #[.slice (some ⟨vg, 0, none⟩) n N]) (t := 27) (fr := (0, 0)) (heap_alloc_new _ _)) (by simp [Value.oneCell']) (by omega) (by unfold maxLen; omega) (by omega) (by simp; omega) _ rfl ?_; intro g9 cap9 w9 hown9 hgrow9 hat9 hlt9))
          have hg9 := grownBy_trans (grownBy_of_below ((Below.refl _ w8).alloc (Nat.le_refl _) (Obj.cells #[.slice (some ⟨vg, 0, none⟩) n N] 27)) (Value.slice va k ca).ownBlock) hgrow9 (Or.inl rfl)
          have HO19 := Lib.hid (HO18.out.kept hg9 (Or.inr (fun e => HNE8.out g8 e.symm rfl)))
          have HO09 := Lib.hid (show w9.ownsRow B 27 1 (.slice (some ⟨g9, 0, none⟩) (k + 1) cap9) (k + 1) (rowsC ((acc ++ [(⟨c ++ marksB 20, some ⟨vg, 0, none⟩, c4⟩ : RowX)]).map headX)) by
            rw [List.map_append, show List.map headX [(⟨c ++ marksB 20, some ⟨vg, 0, none⟩, c4⟩ : RowX)] = [headX ⟨c ++ marksB 20, some ⟨vg, 0, none⟩, c4⟩] from rfl, rowsC_snoc, show RowX.cell (headX ⟨c ++ marksB 20, some ⟨vg, 0, none⟩, c4⟩) = .slice (some ⟨vg, 0, none⟩) n N by
              simp only [RowX.cell, headX, List.length_take, EN.out]
              congr 1
              have := HNM.out
              omega]
            exact hown9)
          have HR9 := Lib.hid (show ∀ x ∈ acc ++ [(⟨c ++ marksB 20, some ⟨vg, 0, none⟩, c4⟩ : RowX)], ROwn B (fun _ => False) w9 x by
            intro x hx
            have h := HR8.out x hx
            obtain ⟨vq, e, _⟩ := h.there
            exact ⟨h.own.kept hg9 (owns_ne h.own HO08.out (by decide)), vq, e, fun h => h⟩)
          have HNE9 := Lib.hid (show (Value.slice (some ⟨g9, 0, none⟩) (k + 1) cap9).ownBlock = none ∨ (Value.slice (some ⟨g9, 0, none⟩) (k + 1) cap9).ownBlock ≠ (Value.slice (some ⟨g8, 0, none⟩) (k + 1) cap8).ownBlock by
            refine Or.inr fun e => ?_
            have e : g9 = g8 := Option.some.inj e
            rcases hat9 with h | h
            · exact HNE8.out g9 h e
            · rw [World.size_alloc] at h; omega)
          have HBw9 := Lib.hid (HBw8.out.grown hg9 hB8 (ownBlock_lo HO08.out))
          have HC9 := Lib.hid (show cellsOf (acc ++ [(⟨c ++ marksB 20, some ⟨vg, 0, none⟩, c4⟩ : RowX)]) = (cellsOf (l.take (k + 1))).map (fun c => c ++ marksB 20) by
            rw [cellsOf_snoc, HCE.out, HTK.out, List.map_append]
            rfl)
          clear hown9 hgrow9 hat9 hg9 hck8
          go_roundw
          case rel => exact ⟨k + 1, acc ++ [⟨c ++ marksB 20, some ⟨vg, 0, none⟩, c4⟩], some ⟨g9, 0, none⟩, cap9, some ⟨g8, 0, none⟩, cap8, by omega, by go_num, rfl, rfl, by rw [List.length_append, HACC.out]; rfl, HC9.out, HO09.out, HO19.out, HNE9.out, HR9.out, HBw9.out⟩
          case measure => simp [intOf]; omega
    · have hkl : k = l.length := by omega
      have HCF := Lib.hid (show cellsOf acc = (cellsOf l).map (fun c => c ++ marksB 20) by rw [HCE.out, hkl, List.take_length])
      have hkb : k ≤ 5864062014700 := by omega
      clear hkl
      have HSO := Lib.hid (show ∀ x ∈ acc.map headX, SOwn B wr x by
        intro x hx
        obtain ⟨y, hy, rfl⟩ := List.mem_map.1 hx
        exact ⟨y, HRW.out y hy, Or.inr rfl⟩)
      have HHC := Lib.hid (heads_cells HCF.out)
      have HHL := Lib.hid (show (acc.map headX).length = k by rw [List.length_map]; exact HACC.out)
      go_wp2_with fail
      go_loopw [4, 9] (fun vl i wx => ∃ (m N : Nat) (lst : List RowX) (va : Option Addr) (ca : Nat), m ≤ 20 ∧ i = .int .i64 m ∧ vl = .slice va N ca ∧ N = k + m ∧ lst.length = N ∧ cellsOf lst = cellsOf l ++ (marksB m).map (fun b => [b]) ∧ wx.ownsRow B 27 1 (.slice va N ca) N (rowsC lst) ∧ (∀ x ∈ lst, SOwn B wx x) ∧ wx.ownsRow B 27 1 (.slice vb k cb) k (rowsC acc) ∧ ((Value.slice vb k cb).ownBlock = none ∨ (Value.slice vb k cb).ownBlock ≠ (Value.slice va N ca).ownBlock) ∧ (∀ x ∈ acc, ROwn B (fun _ => False) wx x) ∧ Below B w wx) (fun _ i _ => 20 - (intOf i).toNat)
      case atStart => exact ⟨0, k, acc.map headX, va, ca, by omega, rfl, rfl, rfl, HHL.out, by rw [show marksB 0 = [] from rfl]; simp [HHC.out], HO0.out, HSO.out, HO1.out, by rcases HNE.out with h | h <;> first | exact Or.inr (fun e => h e.symm) | (cases hv : (Value.slice vb k cb).ownBlock with | none => exact Or.inl rfl | some g => exact Or.inr (by rw [h]; intro e; cases e)), HRW.out, HBE.out⟩
      case round =>
        obtain ⟨m, N, lst, va2, ca2, hm, rfl, rfl, hN, hln, hcl, hown, hso, hown1, hne, hrw, hbel⟩ := hrel
        have HN := Lib.hid hN
        have HLN := Lib.hid hln
        have HCL := Lib.hid hcl
        have HO := Lib.hid hown
        have HS := Lib.hid hso
        have HW := Lib.hid hown1
        have HE := Lib.hid hne
        have HR := Lib.hid hrw
        have HBL := Lib.hid hbel
        have hz3 := hbel.size
        have hNb : N ≤ 5864062014720 := by omega
        clear hN hln hcl hown hso hown1 hne hrw hbel
        by_cases hm2 : m < 20
        · have hmz : (m : Int) < 20 := by omega
          go_wp2_with fail
          refine (word_any m _ hm2).mono ?_; rintro e w5 ⟨rfl, hb5⟩
          have HO5 := Lib.hid (owns_below HO.out hb5)
          have HW5 := Lib.hid (owns_below HW.out hb5)
          have HS5 := Lib.hid (fun x hx => (HS.out x hx).under hb5)
          have HR5 := Lib.hid (fun x hx => (HR.out x hx).under hb5)
          have HB5 := Lib.hid (HBL.out.trans (hb5.mono (by omega)))
          have hz5 := HB5.out.size
          have hB5 : B ≤ w5.heap.size := by omega
          clear hb5
          go_wp2_with (at_builtin; go_must (refine wpList_append_lies _ (by rfl) _ _ _ (by rfl) B 27 r0 _ 1 24 Tryd.underlying22 hr0 hw0 hw1 hw2 rfl (by omega) (.slice va2 N ca2) N (rowsC lst) (by rfl) ((HO5.out.alloc _).alloc _) ⟨w5.heap.size + 1, 0, none⟩ 1 1 [.slice (some ⟨w5.heap.size, 0, none⟩) 1 1] (by rfl) (by rfl) (World.news_of_block (cs := #[.slice (some ⟨w5.heap.size, 0, none⟩) 1 1]) (t := 27) (fr := (0, 0)) (heap_alloc_new2 _ _ _)) (by simp [Value.oneCell']) (by omega) (by unfold maxLen; omega) (by omega) (by simp; omega) _ rfl ?_; intro g7 cap7 w7 hown7 hgrow7 hat7 hlt7))
          have hbA : Below w5.heap.size w5 ((w5.alloc (Obj.cells #[.string (markS m)] 9)).alloc (Obj.cells #[.slice (some ⟨w5.heap.size, 0, none⟩) 1 1] 27)) := ((Below.refl _ w5).alloc (Nat.le_refl _) _).alloc (by rw [World.size_alloc]; omega) _
          have hwn := HO5.out
          have hg := grownBy_trans (grownBy_of_below hbA (Value.slice va2 N ca2).ownBlock) hgrow7 (Or.inl rfl)
          have HX := Lib.hid (show cellsOf (lst ++ [(⟨[markB m], some ⟨w5.heap.size, 0, none⟩, 1⟩ : RowX)]) = cellsOf l ++ (marksB (m + 1)).map (fun b => [b]) by rw [cellsOf_snoc, HCL.out, marks_snoc, List.map_append, List.append_assoc]; rfl)
          have HO7 := Lib.hid (show w7.ownsRow B 27 1 (.slice (some ⟨g7, 0, none⟩) (N + 1) cap7) (N + 1) (rowsC (lst ++ [(⟨[markB m], some ⟨w5.heap.size, 0, none⟩, 1⟩ : RowX)])) by rw [rowsC_snoc]; exact hown7)
          have HS7 := Lib.hid (show ∀ x ∈ lst ++ [(⟨[markB m], some ⟨w5.heap.size, 0, none⟩, 1⟩ : RowX)], SOwn B w7 x by
            intro x hx
            rcases List.mem_append.1 hx with hx | hx
            · exact (HS5.out x hx).grown hwn hg
            · rw [List.mem_singleton.1 hx]
              refine ⟨_, ROwn.grown (v := .slice va2 N ca2) (ROwn.under (single_own m hB5) ((Below.refl _ _).alloc (Nat.le_refl _) (Obj.cells #[.slice (some ⟨w5.heap.size, 0, none⟩) 1 1] 27))) ((hwn.alloc _).alloc _) hgrow7, Or.inl rfl⟩)
          have HR7 := Lib.hid (fun x hx => (HR5.out x hx).grown hwn hg)
          have HE5 : (Value.slice vb k cb).ownBlock = none ∨ (Value.slice vb k cb).ownBlock ≠ (Value.slice va2 N ca2).ownBlock := HE.out
          have HW7 := Lib.hid (HW5.out.kept hg HE5)
          have HE7 := Lib.hid (show (Value.slice vb k cb).ownBlock = none ∨ (Value.slice vb k cb).ownBlock ≠ (Value.slice (some ⟨g7, 0, none⟩) (N + 1) cap7).ownBlock by
            refine Or.inr fun e => ?_
            have e : (Value.slice vb k cb).ownBlock = some g7 := e
            rcases hat7 with h | h
            · rcases HE5 with h2 | h2
              · rw [h2] at e; cases e
              · exact h2 (e.trans h.symm)
            · have := HW5.out.lt g7 e
              rw [World.size_alloc, World.size_alloc] at h
              omega)
          have HB7 := Lib.hid (HB5.out.trans ((Below.refl B w5).grown hg hB5 (ownBlock_lo hwn)))
          clear hwn hg hown7 hgrow7 hat7 hlt7 hbA HE5
          go_roundw
          case rel => exact ⟨m + 1, N + 1, _, some ⟨g7, 0, none⟩, cap7, by omega, by go_num, rfl, by have := HN.out; omega, by rw [List.length_append, HLN.out]; rfl, HX.out, HO7.out, HS7.out, HW7.out, HE7.out, HR7.out, HB7.out⟩
          case measure => simp [intOf]; omega
        · have hm20 : m = 20 := by omega
          subst hm20
          obtain ⟨vg, rfl⟩ : ∃ g, va2 = some ⟨g, 0, none⟩ := by
            rcases owned_case HO.out with ⟨h0, _⟩ | h
            · have := HN.out; omega
            · exact h
          go_wp2_with fail
          go_ret2
          have h1 := rows_some HO.out HLN.out (fun x hx => (HS.out x hx).strs)
          have h2 := rows_some HW.out HACC.out (fun x hx => (strs_in (HR.out x hx)).1)
          refine ⟨⟨lst, acc, _, ca2, vb, cb, by rw [HLN.out, HACC.out]; rfl, HCL.out, HCF.out, h1.1, h2.1, by rw [HLN.out]; exact h1.2.1, h1.2.2, by rw [HACC.out]; exact h2.2.1, h2.2.2, fun x hx => row_room (HR.out x hx), vg, rfl⟩, HBL.out⟩
end Go.Proofs.YtodbpfdknfcgbaaDoor
