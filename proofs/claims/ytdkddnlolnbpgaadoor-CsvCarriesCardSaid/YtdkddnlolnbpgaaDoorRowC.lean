/- Package csv: an event written as a row. -/
import Derived.Test.YtdkddnlolnbpgaaDoorFaultC
import Derived.Test.YtdkddnlolnbpgaaDoorFormOf
import Derived.Test.YtdkddnlolnbpgaaDoorRow
import Derived.Laws.MakeOwn
namespace Go.Proofs.YtdkddnlolnbpgaaDoor
open Go Go.RowKit

/-- What Row answers. -/
def RowTo (t : TyX) (x : EvX) (w : World) (e : Ending) (w' : World) : Prop :=
  (∃ r, e = .returned (.tuple #[r, .int .i64 (rowErr t x)]) ∧ (rowErr t x ≠ 0 → r = .slice none 0 0) ∧ (rowErr t x = 0 → ∃ g cap, r = .slice (some ⟨g, 0, none⟩) (evB x).length cap ∧ w'.ownsRow w.heap.size 9 1 r (evB x).length (strC (evB x)))) ∧ Below w.heap.size w w'
theorem owns_lower {w : World} {B B' : Nat} {e : TypeId} {size n : Nat} {v : Value} {xs : List Value} (h : w.ownsRow B e size v n xs) (hB : B' ≤ B) : w.ownsRow B' e size v n xs :=
  ⟨h.1, h.2.imp id fun ⟨g, cap, cur, hv, hb, r⟩ => ⟨g, cap, cur, hv, Nat.le_trans hB hb, r⟩⟩
theorem arr_bytes (s : ByteArray) : (⟨s.data.toList.toArray⟩ : ByteArray) = s := by cases s; simp
theorem strC_put (l : List (List UInt8)) (s : ByteArray) : strC (l ++ [s.data.toList]) = strC l ++ [.string s] := by
  unfold strC
  rw [List.map_append, List.map_cons, List.map_nil, arr_bytes]

set_option maxHeartbeats 8000000 in
set_option maxRecDepth 100000 in
theorem csvRow_any (nm ty : ByteArray) (tm : Int) (ats : List AttrX) (vs : List Val) (ta va : Option Addr) (tc vc : Nat) (w : World) (hT : Tabs w) (hA : AttrsIn w.heap.size w ta ats) (hV : ValsIn w.heap.size w va vs) (hn : ats.length ≤ 9223372036854775807) (hm : vs.length ≤ 5864062014805) (hs : ∀ v ∈ vs, v.str.size ≤ maxLen ∧ -9223372036854775808 ≤ v.int ∧ v.int ≤ 9223372036854775807) :
    Calls Tryd.prog 6 #[.agg #[.string nm, .slice ta ats.length tc], .agg #[.string ty, .int .i64 tm, .slice va vs.length vc]] w (RowTo ⟨nm, ats⟩ ⟨ty, tm, vs⟩ w) := by
  obtain ⟨i0, hi0, hz0, hz1, hz2⟩ := info_parts Tryd.infoStr
  obtain ⟨p, hp⟩ : ∃ p, p = w.heap.size := ⟨_, rfl⟩
  obtain ⟨W1, hW1⟩ : ∃ W, W = w.alloc (Obj.cells #[.string nm, .slice ta ats.length tc] 24) := ⟨_, rfl⟩
  obtain ⟨W2, hW2⟩ : ∃ W, W = W1.alloc (Obj.cells #[.string ty, .int .i64 tm, .slice va vs.length vc] 27) := ⟨_, rfl⟩
  have hz1' : W1.heap.size = p + 1 := by rw [hW1, World.size_alloc, hp]
  have hz2' : W2.heap.size = p + 2 := by rw [hW2, World.size_alloc, hz1']
  have HB2 := Lib.hid (show Below w.heap.size w W2 by rw [hW2, hW1]; exact ((Below.refl _ _).alloc (Nat.le_refl _) _).alloc (by rw [World.size_alloc]; omega) _)
  have hT2 : TyBox W2 p nm (.slice ta ats.length tc) := by unfold TyBox; rw [hW2, heap_alloc_old _ _ (by omega), hW1, hp]; exact heap_alloc_new _ _
  have hE2 : EvBox W2 (p + 1) ty tm (.slice va vs.length vc) := by unfold EvBox; rw [hW2, ← hz1']; exact heap_alloc_new _ _
  have HBX := Lib.hid (show ∀ W, Below W2.heap.size W2 W → EvBox W (p + 1) ty tm (.slice va vs.length vc) ∧ ValsIn w.heap.size W va vs ∧ Below w.heap.size w W from fun W hW => ⟨(hW.block (p + 1) (by omega)).trans hE2, (hV.below HB2.out (Nat.le_refl _)).below hW (by omega), HB2.out.trans (hW.mono (by omega))⟩)
  have HFA := Lib.hid (fault_any nm ty tm ats vs ta va tc vc W2 ((hA.below HB2.out (Nat.le_refl _)).mono (by omega)) ((hV.below HB2.out (Nat.le_refl _)).mono (by omega)) hn (by omega) (fun v hv => (hs v hv).1))
  obtain ⟨E, hE⟩ : ∃ E, E = rowErr ⟨nm, ats⟩ ⟨ty, tm, vs⟩ := ⟨_, rfl⟩
  rw [← hE] at HFA
  have HE := Lib.hid hE
  obtain ⟨c0, c1⟩ := hT2.c
  obtain ⟨d0, d1, d2⟩ := hE2.c
  have HSV := Lib.hid hs
  have HT := Lib.hid hT
  have HW1 := Lib.hid hW1
  have HW2 := Lib.hid hW2
  have HP := Lib.hid hp
  have HZ1 := Lib.hid hz1'
  have HZ2 := Lib.hid hz2'
  obtain ⟨n, hnn⟩ : ∃ n, n = vs.length := ⟨_, rfl⟩
  rw [← hnn] at hm d2 HBX HW2 HFA ⊢
  have HN := Lib.hid hnn
  clear hW1 hW2 hp hz1' hz2' hT2 hE2 hA hV hs hT hE hnn
  go_enter Tryd.func6, Tryd.ntmps6
  go_upto_region 1 with fail
  rw [← HW1.out, ← HW2.out]
  rw [← HP.out]
  by_cases h0 : E = 0
  rotate_left
  · have h0' : (E != 0) = true := by rw [bne_iff_ne]; exact h0
    go_wp2_with fail
    (with_reducible refine HFA.out.mono ?_); rintro e w3 ⟨rfl, hb3⟩
    have HB3 := Lib.hid (HB2.out.trans (hb3.mono HB2.out.size))
    clear hb3
    go_wp2_with fail
    go_ret2
    exact ⟨⟨_, by rw [← HE.out]; rfl, fun _ => rfl, fun h => absurd (HE.out.trans h) h0⟩, HB3.out⟩
  subst h0
  have HGD := Lib.hid ((rowErr_good _ _).1 HE.out.symm)
  go_upto_region 2 with (go_at_call 12; (with_reducible refine HFA.out.mono ?_); rintro e w3 ⟨rfl, hb3⟩; have HB3 := Lib.hid hb3; clear hb3)
  have hz3 := HB3.out.size
  have hz22 := HZ2.out
  have d3 := (HB3.out.cell (p := ⟨p + 1, 1, none⟩) (by show p + 1 < _; omega)).trans d1
  have d4 := (HB3.out.cell (p := ⟨p + 1, 2, none⟩) (by show p + 1 < _; omega)).trans d2
  clear c0 c1 d0 d1 d2
  go_upto_region 5 with (at_make; go_must (refine wpList_make_own _ rfl _ _ 28 rfl (p + 2) 9 i0 _ 1 Tryd.underlying28 hi0 hz0 hz1 .i64 .i64 _ (n + 1) rfl rfl (by omega) (by rw [hz2]; omega) (by unfold maxLen; omega) (by omega) ?_; intro w4 hown4 hgrow4))
  obtain ⟨q0, hq0⟩ : ∃ q, q = w3.heap.size := ⟨_, rfl⟩
  rw [← hq0] at hown4 ⊢
  have hq2 : p + 2 ≤ q0 := by omega
  clear hq0
  have HO4 := Lib.hid hown4
  have HB4 := Lib.hid (show Below W2.heap.size W2 w4 from HB3.out.grown hgrow4 hz3 (fun k e => by cases e))
  have d5 := (hgrow4.cell_far ⟨p + 1, 1, none⟩ (by show p + 1 < _; omega) (by simp)).trans d3
  have d6 := (hgrow4.cell_far ⟨p + 1, 2, none⟩ (by show p + 1 < _; omega) (by simp)).trans d4
  have hz4 : W2.heap.size ≤ w4.heap.size := HB4.out.size
  have HTW := Lib.hid (show ∀ W, Below W2.heap.size W2 W → Tabs W from fun W h => HT.out.below (HB2.out.trans (h.mono HB2.out.size)))
  have HTM := Lib.hid (show Timely tm from HGD.out.2.1)
  have HSH := Lib.hid (show Calls Tryd.prog 13 #[.agg #[.int .i64 1, .int .i64 tm, .string ⟨#[]⟩, .bool false]] w4 fun e w' => e = .returned (.string (numS tm)) ∧ Below w4.heap.size w4 w' from
    csvShow_int tm w4 (HTW.out _ HB4.out) (by have := HTM.out.1; omega) (by have := HTM.out.2; omega))
  clear hown4 hgrow4 d3 d4 HW2 HW1 HFA
  go_upto_region 6 with (first
    | (go_at_call 13; (with_reducible refine HSH.out.mono ?_); rintro e w5 ⟨rfl, hb5⟩; have HO5 := Lib.hid (owns_below HO4.out hb5); have HB5 := Lib.hid (HB4.out.trans (hb5.mono hz4)); have d7 := (hb5.cell (p := ⟨p + 1, 2, none⟩) (by show p + 1 < _; omega)).trans d6; have hz5 := HB5.out.size; clear hb5)
    | (at_builtin; go_must (refine wpList_append_lies _ (by rfl) _ _ _ (by rfl) (p + 2) 9 i0 _ 1 16 Tryd.underlying28 hi0 hz0 hz1 hz2 rfl (by omega) (.slice (some ⟨q0, 0, none⟩) 0 (n + 1)) 0 [] (by rfl) (HO5.out.alloc _) ⟨_, 0, none⟩ 1 1 [.string (numS tm)] (by rfl) (by rfl) (World.news_of_block (cs := #[.string (numS tm)]) (t := 9) (fr := (0, 0)) (heap_alloc_new _ _)) (by simp [Value.oneCell']) (by omega) (by unfold maxLen; omega) (by omega) (by simp; omega) _ rfl ?_; intro g6 c6 w6 hown6 hgrow6 hat6 hlt6)))
  have HB6 := Lib.hid (show Below (p + 2) W2 w6 from ((HB5.out.mono (show p + 2 ≤ W2.heap.size by omega)).alloc (by omega) _).grown hgrow6 (by rw [World.size_alloc]; omega) (fun k e => by cases e; exact hq2))
  have d8 := (hgrow6.cell_far ⟨p + 1, 2, none⟩ (by rw [World.size_alloc]; show p + 1 < _; omega) (by intro e; injection e with e; have e : p + 1 = q0 := e; omega)).trans ((World.cell?_alloc_past _ (p + 1) 2 (by omega)).trans d7)
  have HO6 := Lib.hid hown6
  clear hown6 hgrow6 hat6 d5 d6 d7
  obtain ⟨L, hL⟩ : ∃ L, L = evB ⟨ty, tm, vs⟩ := ⟨_, rfl⟩
  have hLn : L.length = n + 1 := by rw [hL, HN.out]; simp [evB]
  have HL := Lib.hid hL
  have HLN := Lib.hid hLn
  have HO7 := Lib.hid (show w6.ownsRow (p + 2) 9 1 (.slice (some ⟨g6, 0, none⟩) (0 + 1) c6) (0 + 1) (strC (L.take (0 + 1))) by
    have e : strC (L.take (0 + 1)) = [] ++ [Value.string (numS tm)] := by rw [hL]; simp [evB, strC]
    rw [e]
    exact HO6.out)
  have HBX2 := Lib.hid HBX.out
  rw [hz22] at HBX2
  have HTW2 := Lib.hid HTW.out
  rw [hz22] at HTW2
  clear hL hLn
  go_upto_region 7 with fail
  clear d8 HTW HBX HO6 HSH HTM hz4 hz5
  go_wp2_with fail
  go_loopg [7, 31] (n + 1) (fun g v7 v31 wr => ∃ i : Nat, i ≤ n ∧ v31 = .int .i64 (i : Int) ∧ (∃ gg cp, v7 = .slice (some ⟨gg, 0, none⟩) (i + 1) cp ∧ wr.ownsRow (p + 2) 9 1 (.slice (some ⟨gg, 0, none⟩) (i + 1) cp) (i + 1) (strC (L.take (i + 1)))) ∧ Below (p + 2) W2 wr ∧ n - i < g)
  case atStart => exact ⟨0, Nat.zero_le _, rfl, ⟨g6, c6, rfl, HO7.out⟩, HB6.out, by omega⟩
  case round =>
    obtain ⟨i, hi, rfl, ⟨gg, cp, rfl, hown⟩, hbel, hg⟩ := hrel
    obtain ⟨g, rfl⟩ : ∃ g, gk = g + 1 := ⟨gk - 1, by omega⟩
    obtain ⟨hE, hV, hB⟩ := HBX2.out wr hbel
    have HBE := Lib.hid hbel
    have HOW := Lib.hid hown
    have hzw := hbel.size
    have hgl := ownBlock_lo hown gg rfl
    have i0' : (0 : Int) ≤ (i : Int) := by omega
    by_cases hlt : i < n
    · have i1 : (i : Int) < (n : Int) := by omega
      have hlv : i < vs.length := by rw [← HN.out]; exact hlt
      obtain ⟨b, o, rfl, hbb, e0, e1, e2, e3⟩ := vals_cell hV i hlv
      have hgood := HGD.out.2.2.2 i hlv (by have := HGD.out.2.2.1; simp only at this; show i < ats.length; omega)
      have hsv := HSV.out _ (List.getElem_mem hlv)
      have hLi : L.take (i + 1 + 1) = L.take (i + 1) ++ [(cellB vs[i]).data.toList] := by
        have h1 : i + 1 < L.length := by rw [HLN.out]; omega
        rw [List.take_succ_eq_append_getElem h1]
        congr 2
        simp [HL.out, evB]
      obtain ⟨v, hv⟩ : ∃ v, v = vs[i] := ⟨_, rfl⟩
      rw [← hv] at e0 e1 e2 e3 hgood hsv hLi
      have HK := Lib.hid (val_kind hgood.1)
      have HWR := Lib.hid (fun W (h : Tabs W) => writeExact v W h hgood.1 hsv.2.1 hsv.2.2)
      have HLI := Lib.hid hLi
      obtain ⟨vk, vn, vstr, vb⟩ := v
      simp only at e0 e1 e2 e3
      obtain ⟨q, hq⟩ : ∃ q, q = wr.heap.size := ⟨_, rfl⟩
      obtain ⟨V, hVV⟩ : ∃ V, V = wr.alloc (Obj.cells #[.int .i64 vk, .int .i64 vn, .string vstr, .bool vb] 32) := ⟨_, rfl⟩
      have hbV : Below wr.heap.size wr V := by rw [hVV]; exact (Below.refl _ _).alloc (Nat.le_refl _) _
      have hQB : V.heap[q]? = some (Obj.cells #[.int .i64 vk, .int .i64 vn, .string vstr, .bool vb] 32 (0, 0)) := by rw [hVV, hq]; exact heap_alloc_new _ _
      have hqV : q < V.heap.size := by rw [hVV, World.size_alloc]; omega
      have HOV := Lib.hid (owns_below hown hbV)
      have HBV := Lib.hid (hbel.trans (hbV.mono (by omega)))
      have HVV := Lib.hid hVV
      have HQ := Lib.hid hq
      have x0 : V.cell? ⟨q, 0, none⟩ = some (.int .i64 vk) := by rw [cell_of_row _ _ _ _ _ _ hQB]; rfl
      have x1 : V.cell? ⟨q, 1, none⟩ = some (.int .i64 vn) := by rw [cell_of_row _ _ _ _ _ _ hQB]; rfl
      have x2 : V.cell? ⟨q, 2, none⟩ = some (.string vstr) := by rw [cell_of_row _ _ _ _ _ _ hQB]; rfl
      have x3 : V.cell? ⟨q, 3, none⟩ = some (.bool vb) := by rw [cell_of_row _ _ _ _ _ _ hQB]; rfl
      have hzV : p + 2 ≤ V.heap.size := by have := HBV.out.size; omega
      clear hv hVV hq hbV hE hV hB hbel hown hgood hsv hLi hQB
      go_upto_region 9 with fail
      rw [← HVV.out, ← HQ.out]
      clear e0 e1 e2 e3
      rcases HK.out with h | h | h
      · have h : vk = 1 := h
        subst h
        have HFM := Lib.hid (fun W => formOf_one W)
        have HWS := Lib.hid (fun W (h : Tabs W) => (HWR.out W h).2 (by show (1 : Int) ≠ 2; decide))
        simp only [Val.v, fnV] at HWS HFM
        have hfd := (field_fn 21 13).2
        go_region_law (first
          | (refine step_append_lies _ (by rfl) _ _ _ (by rfl) (p + 2) 9 i0 _ 1 16 Tryd.underlying28 hi0 hz0 hz1 hz2 rfl (by omega) (.slice (some ⟨gg, 0, none⟩) (i + 1) cp) (i + 1) (strC (L.take (i + 1))) (by rfl) (HO8.out.alloc _) ⟨_, 0, none⟩ 1 1 [.string (cellB ⟨1, vn, vstr, vb⟩)] (by rfl) (by rfl) (World.news_of_block (cs := #[.string (cellB ⟨1, vn, vstr, vb⟩)]) (t := 9) (fr := (0, 0)) (heap_alloc_new _ _)) (by simp [Value.oneCell']) (by omega) (by unfold maxLen; omega) (by omega) (by simp; omega) _ rfl ?_
             intro g9 c9 w9 hown9 hgrow9 hat9 hlt9
             have HO9 := Lib.hid hown9
             have HB9 := Lib.hid (show Below (p + 2) W2 w9 from (HB8.out.alloc hz8 _).grown hgrow9 (by rw [World.size_alloc]; omega) (fun k e => by cases e; exact hgl))
             clear hown9 hgrow9 hat9 hlt9)
          | (go_simp; go_at_call 14; (with_reducible refine (HFM.out _).mono ?_); rintro e w7 ⟨rfl, hb7⟩; have HB7 := Lib.hid (show Below (p + 2) W2 w7 from HBV.out.drew.trans (hb7.mono hzV)); have HO7' := Lib.hid (owns_below HOV.out.drew hb7); have y0 := (hb7.cell (p := ⟨q, 0, none⟩) hqV).trans x0; have y1 := (hb7.cell (p := ⟨q, 1, none⟩) hqV).trans x1; have y2 := (hb7.cell (p := ⟨q, 2, none⟩) hqV).trans x2; have y3 := (hb7.cell (p := ⟨q, 3, none⟩) hqV).trans x3; have hz7 : p + 2 ≤ w7.heap.size := Nat.le_trans hzV hb7.size; clear hb7)
          | (go_simp; go_at_call 13; (with_reducible refine (HWS.out _ (HTW2.out _ HB7.out)).mono ?_); rintro e w8 ⟨rfl, hb8⟩; have HB8 := Lib.hid (HB7.out.trans (hb8.mono hz7)); have HO8 := Lib.hid (owns_below HO7'.out hb8); have hz8 : p + 2 ≤ w8.heap.size := Nat.le_trans hz7 hb8.size; clear hb8))
        all_goals
          go_wp2_with fail
          go_roundg g
          case rel => exact ⟨i + 1, by omega, by go_num, ⟨g9, c9, rfl, by rw [HLI.out, strC_put]; exact HO9.out⟩, HB9.out, by omega⟩
          case measure => omega
      · have h : vk = 2 := h
        subst h
        have HFM := Lib.hid (fun W => formOf_two W)
        have HWS := Lib.hid (fun W (h : Tabs W) => (HWR.out W h).1 rfl)
        simp only [Val.v, fnV] at HWS HFM
        have hfd := (field_fn 22 23).2
        go_region_law (first
          | (refine step_append_lies _ (by rfl) _ _ _ (by rfl) (p + 2) 9 i0 _ 1 16 Tryd.underlying28 hi0 hz0 hz1 hz2 rfl (by omega) (.slice (some ⟨gg, 0, none⟩) (i + 1) cp) (i + 1) (strC (L.take (i + 1))) (by rfl) (HO8.out.alloc _) ⟨_, 0, none⟩ 1 1 [.string (cellB ⟨2, vn, vstr, vb⟩)] (by rfl) (by rfl) (World.news_of_block (cs := #[.string (cellB ⟨2, vn, vstr, vb⟩)]) (t := 9) (fr := (0, 0)) (heap_alloc_new _ _)) (by simp [Value.oneCell']) (by omega) (by unfold maxLen; omega) (by omega) (by simp; omega) _ rfl ?_
             intro g9 c9 w9 hown9 hgrow9 hat9 hlt9
             have HO9 := Lib.hid hown9
             have HB9 := Lib.hid (show Below (p + 2) W2 w9 from (HB8.out.alloc hz8 _).grown hgrow9 (by rw [World.size_alloc]; omega) (fun k e => by cases e; exact hgl))
             clear hown9 hgrow9 hat9 hlt9)
          | (go_simp; go_at_call 14; (with_reducible refine (HFM.out _).mono ?_); rintro e w7 ⟨rfl, hb7⟩; have HB7 := Lib.hid (show Below (p + 2) W2 w7 from HBV.out.drew.trans (hb7.mono hzV)); have HO7' := Lib.hid (owns_below HOV.out.drew hb7); have y0 := (hb7.cell (p := ⟨q, 0, none⟩) hqV).trans x0; have y1 := (hb7.cell (p := ⟨q, 1, none⟩) hqV).trans x1; have y2 := (hb7.cell (p := ⟨q, 2, none⟩) hqV).trans x2; have y3 := (hb7.cell (p := ⟨q, 3, none⟩) hqV).trans x3; have hz7 : p + 2 ≤ w7.heap.size := Nat.le_trans hzV hb7.size; clear hb7)
          | (go_simp; go_at_call 23; (with_reducible refine (HWS.out _ (HTW2.out _ HB7.out)).mono ?_); rintro e w8 ⟨rfl, hb8⟩; have HB8 := Lib.hid (HB7.out.trans (hb8.mono hz7)); have HO8 := Lib.hid (owns_below HO7'.out hb8); have hz8 : p + 2 ≤ w8.heap.size := Nat.le_trans hz7 hb8.size; clear hb8))
        all_goals
          go_wp2_with fail
          go_roundg g
          case rel => exact ⟨i + 1, by omega, by go_num, ⟨g9, c9, rfl, by rw [HLI.out, strC_put]; exact HO9.out⟩, HB9.out, by omega⟩
          case measure => omega
      · have h : vk = 3 := h
        subst h
        have HFM := Lib.hid (fun W => formOf_three W)
        have HWS := Lib.hid (fun W (h : Tabs W) => (HWR.out W h).2 (by show (3 : Int) ≠ 2; decide))
        simp only [Val.v, fnV] at HWS HFM
        have hfd := (field_fn 21 13).2
        go_region_law (first
          | (refine step_append_lies _ (by rfl) _ _ _ (by rfl) (p + 2) 9 i0 _ 1 16 Tryd.underlying28 hi0 hz0 hz1 hz2 rfl (by omega) (.slice (some ⟨gg, 0, none⟩) (i + 1) cp) (i + 1) (strC (L.take (i + 1))) (by rfl) (HO8.out.alloc _) ⟨_, 0, none⟩ 1 1 [.string (cellB ⟨3, vn, vstr, vb⟩)] (by rfl) (by rfl) (World.news_of_block (cs := #[.string (cellB ⟨3, vn, vstr, vb⟩)]) (t := 9) (fr := (0, 0)) (heap_alloc_new _ _)) (by simp [Value.oneCell']) (by omega) (by unfold maxLen; omega) (by omega) (by simp; omega) _ rfl ?_
             intro g9 c9 w9 hown9 hgrow9 hat9 hlt9
             have HO9 := Lib.hid hown9
             have HB9 := Lib.hid (show Below (p + 2) W2 w9 from (HB8.out.alloc hz8 _).grown hgrow9 (by rw [World.size_alloc]; omega) (fun k e => by cases e; exact hgl))
             clear hown9 hgrow9 hat9 hlt9)
          | (go_simp; go_at_call 14; (with_reducible refine (HFM.out _).mono ?_); rintro e w7 ⟨rfl, hb7⟩; have HB7 := Lib.hid (show Below (p + 2) W2 w7 from HBV.out.drew.trans (hb7.mono hzV)); have HO7' := Lib.hid (owns_below HOV.out.drew hb7); have y0 := (hb7.cell (p := ⟨q, 0, none⟩) hqV).trans x0; have y1 := (hb7.cell (p := ⟨q, 1, none⟩) hqV).trans x1; have y2 := (hb7.cell (p := ⟨q, 2, none⟩) hqV).trans x2; have y3 := (hb7.cell (p := ⟨q, 3, none⟩) hqV).trans x3; have hz7 : p + 2 ≤ w7.heap.size := Nat.le_trans hzV hb7.size; clear hb7)
          | (go_simp; go_at_call 13; (with_reducible refine (HWS.out _ (HTW2.out _ HB7.out)).mono ?_); rintro e w8 ⟨rfl, hb8⟩; have HB8 := Lib.hid (HB7.out.trans (hb8.mono hz7)); have HO8 := Lib.hid (owns_below HO7'.out hb8); have hz8 : p + 2 ≤ w8.heap.size := Nat.le_trans hz7 hb8.size; clear hb8))
        all_goals
          go_wp2_with fail
          go_roundg g
          case rel => exact ⟨i + 1, by omega, by go_num, ⟨g9, c9, rfl, by rw [HLI.out, strC_put]; exact HO9.out⟩, HB9.out, by omega⟩
          case measure => omega
    · have i1 : ¬ (i : Int) < (n : Int) := by omega
      have hin : i = n := by omega
      have HB9 := Lib.hid hB
      have HLE := Lib.hid (show L.take (i + 1) = L from List.take_of_length_le (by rw [HLN.out]; omega))
      have HLL := Lib.hid (show (evB ⟨ty, tm, vs⟩).length = i + 1 by rw [← HL.out, HLN.out, hin])
      clear hE hV hB hbel hin hown
      go_wp2_with fail
      go_ret2
      refine ⟨⟨.slice (some ⟨gg, 0, none⟩) (i + 1) cp, by rw [← HE.out]; rfl, fun h => absurd HE.out.symm h, fun _ => ⟨gg, cp, by rw [HLL.out], ?_⟩⟩, HB9.out⟩
      rw [HLL.out, ← HL.out]
      have h1 := HOW.out
      rw [HLE.out] at h1
      exact owns_lower h1 (by rw [← HP.out]; omega)
end Go.Proofs.YtdkddnlolnbpgaaDoor
