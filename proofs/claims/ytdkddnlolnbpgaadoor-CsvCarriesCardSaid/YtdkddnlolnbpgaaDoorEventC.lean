/- Package csv: a row read as an event. -/
import Derived.Test.YtdkddnlolnbpgaaDoorRowC
import Derived.Test.YtdkddnlolnbpgaaDoorAddRow
import Derived.Deep.DeepAppendRoom
import Derived.IntWalk
namespace Go.Proofs.YtdkddnlolnbpgaaDoor
open Go Go.RowKit

/-- A row is an event's. -/
def EventGood (t : TyX) (cs : List (List UInt8)) (x : EvX) : Prop := Good t x ∧ evB x = cs ∧ ∀ v ∈ x.vals, -9223372036854775808 ≤ v.int ∧ v.int ≤ 9223372036854775807
def TimeIn (cs : List (List UInt8)) : Prop := ∃ n, Timely n ∧ cs[0]? = some (numS n).data.toList
/-- Why a row is no event's. -/
def EventBad (t : TyX) (cs : List (List UInt8)) (er : Int) : Prop :=
  (er = 22 ∧ cs.length ≠ t.attrs.length + 1) ∨ (er = 23 ∧ cs.length = t.attrs.length + 1 ∧ ¬ TimeIn cs) ∨
  (er = 10 ∧ cs.length = t.attrs.length + 1 ∧ TimeIn cs ∧ ∃ (i : Nat) (h : i < t.attrs.length), ¬ KindOk t.attrs[i].kind) ∨
  (er = 12 ∧ cs.length = t.attrs.length + 1 ∧ TimeIn cs ∧ (∀ (i : Nat) (h : i < t.attrs.length), KindOk t.attrs[i].kind) ∧ ∃ (i : Nat) (h : i < t.attrs.length) (h2 : i + 1 < cs.length), ¬ ∃ v, ParseK t.attrs[i].kind ⟨cs[i + 1].toArray⟩ v)
theorem event_bad {t : TyX} {cs : List (List UInt8)} {er : Int} (h : EventBad t cs er) : ¬ ∃ x, EventGood t cs x := by
  rintro ⟨x, ⟨h1, h2, h3, h4⟩, rfl, hb⟩
  have hl : (evB x).length = t.attrs.length + 1 := by simp [evB, h3]
  rcases h with ⟨_, h⟩ | ⟨_, _, h⟩ | ⟨_, _, _, i, hi, h⟩ | ⟨_, _, _, _, i, hi, hi2, h⟩
  · exact h hl
  · exact h ⟨x.time, h2, rfl⟩
  · have h5 := h4 i (by omega) hi
    exact h (by rw [← h5.2]; exact val_kind h5.1)
  · have h5 := h4 i (by omega) hi
    refine h ⟨x.vals[i]'(by omega), h5.1, h5.2, ?_, hb _ (List.getElem_mem _)⟩
    have e : (evB x)[i + 1] = (cellB (x.vals[i]'(by omega))).data.toList := by simp [evB]
    rw [e, arr_bytes]
def zeroEvV : Value := .agg #[.string ⟨#[]⟩, .int .i64 0, .slice none 0 0]
def valsC (l : List Val) : List Value := l.flatMap fun v => [.int .i64 v.kind, .int .i64 v.int, .string v.str, .bool v.bool]
/-- What Event answers. -/
def EventTo (t : TyX) (cs : List (List UInt8)) (w : World) (en : Ending) (w' : World) : Prop :=
  ((∃ er : Int, er ≠ 0 ∧ en = .returned (.tuple #[zeroEvV, .int .i64 er]) ∧ EventBad t cs er) ∨
   (∃ (x : EvX) (g cap : Nat), en = .returned (.tuple #[.agg #[.string x.ty, .int .i64 x.time, .slice (some ⟨g, 0, none⟩) x.vals.length cap], .int .i64 0]) ∧ EventGood t cs x ∧ w'.ownsRow w.heap.size 32 4 (.slice (some ⟨g, 0, none⟩) x.vals.length cap) x.vals.length (valsC x.vals))) ∧ Below w.heap.size w w'
theorem strs_cell {B : Nat} {w : World} {ao : Option Addr} {c : List (List UInt8)} (h : StrsIn B w ao c) (i : Nat) (hi : i < c.length) : ∃ b o, ao = some ⟨b, o, none⟩ ∧ b < B ∧ w.cell? ⟨b, o + i, none⟩ = some (.string ⟨c[i].toArray⟩) := by
  rcases h with h | ⟨b, o, e, hb, h⟩
  · rw [h] at hi; simp at hi
  · exact ⟨b, o, e, hb, h i hi⟩
theorem Tryd.infoVal : (Tryd.prog.info? 32).map (fun i => (i.zero, i.size, i.bytes)) = some (some (.agg #[.int .i64 0, .int .i64 0, .string ⟨#[]⟩, .bool false]), 4, 40) := by kernel_rfl
theorem parse_time {s : ByteArray} {R : Val} (h : ParseK 1 s R) : R = numV R.int ∧ s = numS R.int := by
  obtain ⟨h1, h2, h3, _, _⟩ := h
  rcases val_forms h1 with ⟨_, h4⟩ | ⟨h4, _⟩ | ⟨h4, _⟩
  · refine ⟨h4, ?_⟩
    rw [← h3, h4, cellB_num]
    rfl
  · rw [h2] at h4; cases h4
  · rw [h2] at h4; cases h4

/-- A value's box. -/
def VBox (w : World) (q : Nat) (k n : Int) (s : ByteArray) (b : Bool) : Prop := w.heap[q]? = some (Obj.cells #[.int .i64 k, .int .i64 n, .string s, .bool b] 32 (0, 0))
theorem VBox.c {w : World} {q : Nat} {k n : Int} {s : ByteArray} {b : Bool} (h : VBox w q k n s b) : w.cell? ⟨q, 0, none⟩ = some (.int .i64 k) ∧ w.cell? ⟨q, 1, none⟩ = some (.int .i64 n) ∧ w.cell? ⟨q, 2, none⟩ = some (.string s) ∧ w.cell? ⟨q, 3, none⟩ = some (.bool b) :=
  ⟨by rw [cell_of_row _ _ _ _ _ _ h]; rfl, by rw [cell_of_row _ _ _ _ _ _ h]; rfl, by rw [cell_of_row _ _ _ _ _ _ h]; rfl, by rw [cell_of_row _ _ _ _ _ _ h]; rfl⟩
theorem VBox.f {w : World} {q : Nat} {k n : Int} {s : ByteArray} {b : Bool} (h : VBox w q k n s b) (j : Nat) : w.frozen? ⟨q, j, none⟩ = false := frozen_of_row _ q j _ _ h
def set4 (w : World) (q : Nat) (k n : Int) (s : ByteArray) (b : Bool) : World := (((w.setCell ⟨q, 0, none⟩ (.int .i64 k)).setCell ⟨q, 1, none⟩ (.int .i64 n)).setCell ⟨q, 2, none⟩ (.string s)).setCell ⟨q, 3, none⟩ (.bool b)
theorem VBox.set {w : World} {q : Nat} {k n k' n' : Int} {s s' : ByteArray} {b b' : Bool} (h : VBox w q k n s b) : VBox (set4 w q k' n' s' b') q k' n' s' b' :=
  (heap_setCell_same _ q 3 _ _ (.bool b') (heap_setCell_same _ q 2 _ _ (.string s') (heap_setCell_same _ q 1 _ _ (.int .i64 n') (heap_setCell_same w q 0 _ _ (.int .i64 k') h)))).trans rfl
theorem VBox.lt {w : World} {q : Nat} {k n : Int} {s : ByteArray} {b : Bool} (h : VBox w q k n s b) : q < w.heap.size := (Array.getElem?_eq_some_iff.1 h).1
theorem VBox.below {w w' : World} {q : Nat} {k n : Int} {s : ByteArray} {b : Bool} (h : VBox w q k n s b) (hb : Below w.heap.size w w') : VBox w' q k n s b := (hb.block q h.lt).trans h
theorem set4_below {B : Nat} {a w : World} {q : Nat} {k n : Int} {s : ByteArray} {b : Bool} (h : Below B a w) (hB : B ≤ q) : Below B a (set4 w q k n s b) := (((h.setCell hB _).setCell hB _).setCell hB _).setCell hB _
theorem vbox_new (w : World) (k n : Int) (s : ByteArray) (b : Bool) : VBox (w.alloc (Obj.cells #[.int .i64 k, .int .i64 n, .string s, .bool b] 32)) w.heap.size k n s b := heap_alloc_new _ _

theorem eq_fn (a : FuncId) : ∀ w, (binOp BinOp.eql 50 (.func (.func a) #[] #[]) .nilFunc).run Tryd.prog w = .ok (.bool false) w := fun _ => by kernel_rfl
theorem eq_nil : ∀ w, (binOp BinOp.eql 50 .nilFunc .nilFunc).run Tryd.prog w = .ok (.bool true) w := fun _ => by kernel_rfl
theorem owns_keep {w w' : World} {base : Nat} {e : TypeId} {size : Nat} {v : Value} {n : Nat} {xs : List Value} (h : w.ownsRow base e size v n xs) (hk : ∀ g, v.ownBlock = some g → w'.heap[g]? = w.heap[g]?) : w'.ownsRow base e size v n xs := by
  obtain ⟨h1, h2⟩ := h
  refine ⟨h1, h2.imp id ?_⟩
  rintro ⟨g, cap, cur, hv, hb, hh, r⟩
  exact ⟨g, cap, cur, hv, hb, (hk g (by rw [hv]; rfl)).trans hh, r⟩
theorem own_lt_size {w : World} {base : Nat} {e : TypeId} {size n : Nat} {v : Value} {xs : List Value} (h : w.ownsRow base e size v n xs) : ∀ k, v.ownBlock = some k → k < w.heap.size := by
  intro k hk
  rcases h.2 with ⟨e, _⟩ | ⟨g, cap', cur, e, hg, hh, _⟩
  · rw [e] at hk; simp [Value.ownBlock] at hk
  · rw [e] at hk
    simp [Value.ownBlock] at hk
    subst hk
    exact (Array.getElem?_eq_some_iff.1 hh).1
theorem form_any (k : Int) (hk : KindOk k) : ((∀ w, Calls Tryd.prog 14 #[.int .i64 k] w fun e w' => e = .returned (.agg #[.func (.func 21) #[] #[], .func (.func 13) #[] #[]]) ∧ Below w.heap.size w w') ∧ ∀ (s : ByteArray) (w : World), Tabs w → s.size ≤ 140737488355328 → Calls Tryd.prog 21 #[.string s] w (ReadBy (ReadP k s) w)) ∨ ((∀ w, Calls Tryd.prog 14 #[.int .i64 k] w fun e w' => e = .returned (.agg #[.func (.func 22) #[] #[], .func (.func 23) #[] #[]]) ∧ Below w.heap.size w w') ∧ ∀ (s : ByteArray) (w : World), Tabs w → s.size ≤ 140737488355328 → Calls Tryd.prog 22 #[.string s] w (ReadBy (ReadP k s) w)) := by
  rcases hk with rfl | rfl | rfl
  · exact Or.inl ⟨fun w => formOf_one w, fun s w ht hs => readP_shown 1 (Or.inl rfl) s w ht hs⟩
  · exact Or.inr ⟨fun w => formOf_two w, fun s w ht hs => readP_two s w ht hs⟩
  · exact Or.inl ⟨fun w => formOf_three w, fun s w ht hs => readP_shown 3 (Or.inr rfl) s w ht hs⟩
def Parsed (ats : List AttrX) (cs : List (List UInt8)) (acc : List Val) : Prop := ∀ (j : Nat) (h : j < acc.length) (h1 : j < ats.length) (h2 : j + 1 < cs.length), ParseK ats[j].kind ⟨cs[j + 1].toArray⟩ acc[j]
theorem Parsed.put {ats : List AttrX} {cs : List (List UInt8)} {acc : List Val} {v : Val} (h : Parsed ats cs acc) (hv : ∀ (h1 : acc.length < ats.length) (h2 : acc.length + 1 < cs.length), ParseK ats[acc.length].kind ⟨cs[acc.length + 1].toArray⟩ v) : Parsed ats cs (acc ++ [v]) := by
  intro j hj h1 h2
  rcases Nat.lt_or_ge j acc.length with hlt | hge
  · rw [List.getElem_append_left hlt]
    exact h j hlt h1 h2
  · obtain rfl : j = acc.length := by simp at hj; omega
    simp only [List.getElem_append_right (Nat.le_refl _), Nat.sub_self, List.getElem_cons_zero]
    exact hv h1 h2
theorem valsC_put (l : List Val) (v : Val) : valsC (l ++ [v]) = valsC l ++ [.int .i64 v.kind, .int .i64 v.int, .string v.str, .bool v.bool] := by simp [valsC]
theorem valsC_len (l : List Val) : (valsC l).length = l.length * 4 := by
  induction l with
  | nil => rfl
  | cons a r ih =>
    simp only [valsC, List.flatMap_cons, List.length_append, List.length_cons, List.length_nil] at ih ⊢
    omega
theorem num_inj {n m : Int} (h : numS n = numS m) (h0 : -9223372036854775808 ≤ n) (h1 : n ≤ 9223372036854775807) (h2 : -9223372036854775808 ≤ m) (h3 : m ≤ 9223372036854775807) : n = m := by
  have e := congrArg ByteArray.toList h
  rw [num_toList, num_toList] at e
  have e1 := atoi_itoa n h0 h1
  rw [e, atoi_itoa m h2 h3] at e1
  injection e1 with e1
  exact e1.symm
/-- A value that was read lies in a box of its own. -/
def ReadBox (P : Val → Prop) (B : Nat) (W2 : World) (s6 : Value) (wx : World) : Prop := ∃ (q : Nat) (rk rn : Int) (rs : ByteArray) (rb : Bool), s6 = .pointer (some ⟨q, 0, none⟩) ∧ VBox wx q rk rn rs rb ∧ P ⟨rk, rn, rs, rb⟩ ∧ Below B W2 wx ∧ B ≤ q

set_option maxHeartbeats 16000000 in
set_option maxRecDepth 100000 in
theorem csvEvent_any (nm : ByteArray) (ats : List AttrX) (cs : List (List UInt8)) (ta ra : Option Addr) (tc rc : Nat) (w : World) (hT : Tabs w) (hA : AttrsIn w.heap.size w ta ats) (hR : StrsIn w.heap.size w ra cs) (hn : ats.length ≤ 5864062014805) (_hm : cs.length ≤ 9223372036854775807) (hs : ∀ y ∈ cs, y.length ≤ 140737488351232) (hnm : nm.size ≤ 281474976710656) :
    Calls Tryd.prog 10 #[.agg #[.string nm, .slice ta ats.length tc], .slice ra cs.length rc] w (EventTo ⟨nm, ats⟩ cs w) := by
  obtain ⟨i0, hi0, iz0, iz1, iz2⟩ := info_parts Tryd.infoVal
  obtain ⟨p, hp⟩ : ∃ p, p = w.heap.size := ⟨_, rfl⟩
  obtain ⟨W1, hW1⟩ : ∃ W, W = w.alloc (Obj.cells #[.string nm, .slice ta ats.length tc] 24) := ⟨_, rfl⟩
  obtain ⟨W2, hW2⟩ : ∃ W, W = W1.alloc (Obj.cells #[.string ⟨#[]⟩, .int .i64 0, .slice none 0 0] 27) := ⟨_, rfl⟩
  have hz1 : W1.heap.size = p + 1 := by rw [hW1, World.size_alloc, hp]
  have hz2 : W2.heap.size = p + 2 := by rw [hW2, World.size_alloc, hz1]
  have HB2 := Lib.hid (show Below w.heap.size w W2 by rw [hW2, hW1]; exact ((Below.refl _ _).alloc (Nat.le_refl _) _).alloc (by rw [World.size_alloc]; omega) _)
  have hT2 : TyBox W2 p nm (.slice ta ats.length tc) := by unfold TyBox; rw [hW2, heap_alloc_old _ _ (by omega), hW1, hp]; exact heap_alloc_new _ _
  have hE2 : EvBox W2 (p + 1) ⟨#[]⟩ 0 (.slice none 0 0) := by unfold EvBox; rw [hW2, ← hz1]; exact heap_alloc_new _ _
  have HBX := Lib.hid (show ∀ W, Below (p + 2) W2 W → TyBox W p nm (.slice ta ats.length tc) ∧ EvBox W (p + 1) ⟨#[]⟩ 0 (.slice none 0 0) ∧ AttrsIn w.heap.size W ta ats ∧ StrsIn w.heap.size W ra cs ∧ Below w.heap.size w W ∧ Tabs W from fun W hW => by
    have hb : Below w.heap.size w W := HB2.out.trans (hW.mono (by omega))
    exact ⟨(hW.block p (by omega)).trans hT2, (hW.block (p + 1) (by omega)).trans hE2, (hA.below HB2.out (Nat.le_refl _)).below hW (by omega), (hR.below HB2.out (Nat.le_refl _)).below hW (by omega), hb, hT.below hb⟩)
  have HBAD := Lib.hid (show ∀ (er : Int) (W : World), er ≠ 0 → EventBad ⟨nm, ats⟩ cs er → Below (p + 2) W2 W → EventTo ⟨nm, ats⟩ cs w (.returned (.tuple #[zeroEvV, .int .i64 er])) (((W.setCell ⟨p + 1, 0, none⟩ (.string ⟨#[]⟩)).setCell ⟨p + 1, 1, none⟩ (.int .i64 0)).setCell ⟨p + 1, 2, none⟩ (.slice none 0 0)) from fun er W h0 hb hW =>
    ⟨Or.inl ⟨er, h0, rfl, hb⟩, (((HBX.out W hW).2.2.2.2.1.setCell (by show w.heap.size ≤ p + 1; omega) _).setCell (by show w.heap.size ≤ p + 1; omega) _).setCell (by show w.heap.size ≤ p + 1; omega) _⟩)
  have HSV := Lib.hid hs
  have HW1 := Lib.hid hW1
  have HW2 := Lib.hid hW2
  have HP := Lib.hid hp
  have HZ2 := Lib.hid hz2
  obtain ⟨c0, c1⟩ := hT2.c
  obtain ⟨a0, a1, a2⟩ := hE2.c
  have b0 := frozen_of_row _ (p + 1) 0 _ _ hE2
  have b1 := frozen_of_row _ (p + 1) 1 _ _ hE2
  have b2 := frozen_of_row _ (p + 1) 2 _ _ hE2
  clear hW1 hW2 hp hz1 hz2 hT2 hE2 hA hR hs hT
  by_cases hlen : cs.length = ats.length + 1
  rotate_left
  · have h5 : ((cs.length : Int) != 1 + (ats.length : Int)) = true := by
      rw [bne_iff_ne]
      omega
    have HBD := Lib.hid (HBAD.out 22 W2 (by decide) (Or.inl ⟨rfl, hlen⟩) (Below.refl _ _))
    clear hlen
    go_enter Tryd.func10, Tryd.ntmps10
    go_upto_region 1 with fail
    rw [← HW1.out, ← HW2.out, ← HP.out]
    go_wp2_with fail
    exact bodyPost_ret (v := .tuple #[zeroEvV, .int .i64 22]) (by simp [results, Tryd.results10, go_sem, zeroEvV, a0, a1, a2]) rfl HBD.out
  have h5 : ((cs.length : Int) != 1 + (ats.length : Int)) = false := by
    rw [hlen]
    simp
    omega
  have h0c : 0 < cs.length := by omega
  obtain ⟨rb, ro, rfl, hrb, r0⟩ := strs_cell (HBX.out W2 (Below.refl _ _)).2.2.2.1 0 h0c
  rw [Nat.add_zero] at r0
  have HLEN := Lib.hid hlen
  obtain ⟨s0, hs0⟩ : ∃ s0 : ByteArray, s0 = ⟨cs[0].toArray⟩ := ⟨_, rfl⟩
  rw [← hs0] at r0
  have HRD := Lib.hid (show ∀ W, Below (p + 2) W2 W → Calls Tryd.prog 21 #[.string s0] W (ReadBy (ReadP 1 s0) W) from fun W hW =>
    readP_shown 1 (Or.inl rfl) s0 W (HBX.out W hW).2.2.2.2.2 (by rw [hs0]; show cs[0].toArray.size ≤ _; have := HSV.out _ (List.getElem_mem h0c); simp; omega))
  have HS0 := Lib.hid hs0
  have HFM := Lib.hid (fun W => formOf_one W)
  simp only [fnV] at HFM
  have hfd := (field_fn 21 13).1
  clear hs0 hlen
  go_enter Tryd.func10, Tryd.ntmps10
  go_upto_region 1 with fail
  rw [← HW1.out, ← HW2.out, ← HP.out]
  go_upto_region 3 with fail
  clear a0 a1 a2 b0 b1 b2 c0 c1
  have hz22 : p + 2 ≤ W2.heap.size := by rw [HZ2.out]; exact Nat.le_refl _
  have hrb2 : rb < p + 2 := by have := HP.out; omega
  have hrb3 : rb < W2.heap.size := by omega
  go_cut [6] from 21 (fun s6 wx => ReadBox (ReadP 1 s0) (p + 2) W2 s6 wx)
  case first =>
   rename_i J1 K1 hJ1 hK1
   have HJ1 := Lib.hid hJ1
   have HK1 := Lib.hid hK1
   clear hJ1 hK1
   go_region_law (first
    | (go_simp; go_at_call 14; (with_reducible refine (HFM.out _).mono ?_); rintro e w3 ⟨rfl, hb3⟩
       have HB3 := Lib.hid (show Below (p + 2) W2 w3 by first | exact (Below.refl _ W2).drew.trans (hb3.mono (by show p + 2 ≤ W2.heap.size; omega)) | exact ((Below.refl _ W2).alloc (by omega) _).drew.trans (hb3.mono (by show p + 2 ≤ (W2.alloc _).heap.size; rw [World.size_alloc]; omega)))
       have r1 := (hb3.cell (p := ⟨rb, ro, none⟩) (by first | (show rb < W2.heap.size; omega) | (show rb < (W2.alloc _).heap.size; rw [World.size_alloc]; omega))).trans (show _ = some (Value.string s0) by first | exact r0 | exact (World.cell?_alloc_past _ rb ro hrb3).trans r0)
       have rz : rb < w3.heap.size := by have := HB3.out.size; omega
       try (have z3 := VBox.below (w := (W2.alloc (Obj.cells #[.int .i64 0, .int .i64 0, .string ⟨#[]⟩, .bool false] 32)).drew) (vbox_new W2 0 0 ⟨#[]⟩ false) hb3; obtain ⟨z0, z1, z2, z3'⟩ := z3.c; have y0 := z3.f 0; have y1 := z3.f 1; have y2 := z3.f 2; have y3 := z3.f 3)
       clear hb3)
    | (go_simp; go_at_call 21; (with_reducible refine (HRD.out _ (by first | exact HB3.out | exact HB3.out.alloc (by have := HB3.out.size; omega) _)).mono ?_); rintro e w4 ⟨⟨⟨rk, rn, rs, rbo⟩, rfl, hrd⟩, hb4⟩
       have HRP := Lib.hid hrd
       have HB4 := Lib.hid (show Below (p + 2) W2 w4 by first | exact HB3.out.trans (hb4.mono (by have := HB3.out.size; omega)) | exact (HB3.out.alloc (by have := HB3.out.size; omega) _).trans (hb4.mono (by rw [World.size_alloc]; have := HB3.out.size; omega)))
       try (have x3 := (vbox_new w3 0 0 ⟨#[]⟩ false).below hb4; obtain ⟨x0, x1, x2, x3'⟩ := x3.c; have u0 := x3.f 0; have u1 := x3.f 1; have u2 := x3.f 2; have u3 := x3.f 3)
       try (have z4 := z3.below hb4; obtain ⟨v0, v1, v2, v3'⟩ := z4.c; have t0 := z4.f 0; have t1 := z4.f 1; have t2 := z4.f 2; have t3 := z4.f 3)
       clear hb4 hrd; simp only [Val.v]))
   all_goals
    have HU : ∀ (X : World) (q : Nat), VBox X q rk rn rs rbo → Below (p + 2) W2 X → p + 2 ≤ q → ReadBox (ReadP 1 s0) (p + 2) W2 (.pointer (some ⟨q, 0, none⟩)) X := fun X q h1 h2 h3 => ⟨q, rk, rn, rs, rbo, rfl, h1, HRP.out, h2, h3⟩
    have hw3 := HB3.out.size
    have hw4 := HB4.out.size
    refine HK1.out _ _ (Met.intro (HJ1.out _ _ ?_))
    (repeat apply Exists.intro)
    refine ⟨?rel, rfl⟩
    case rel =>
      first
        | exact HU _ _ x3.set (set4_below HB4.out (by omega)) (by omega)
        | exact HU _ _ z4.set (set4_below HB4.out hz22) hz22
        | exact HU _ _ (vbox_new w4 rk rn rs rbo) (HB4.out.alloc (by omega) _) (by omega)
  case rest =>
    obtain ⟨q, rk, rn, rs, rbo, rfl, hvb, hrp, hb4, hq⟩ := hcut
    have HVB := Lib.hid hvb
    have HB4 := Lib.hid hb4
    have hz4 := hb4.size
    obtain ⟨v0, v1, _, _⟩ := hvb.c
    obtain ⟨hTB, hEB, _, _, _, _⟩ := HBX.out wc hb4
    obtain ⟨_, c1⟩ := hTB.c
    obtain ⟨a0, a1, a2⟩ := hEB.c
    have b0 := frozen_of_row _ (p + 1) 0 _ _ hEB
    have b1 := frozen_of_row _ (p + 1) 1 _ _ hEB
    have b2 := frozen_of_row _ (p + 1) 2 _ _ hEB
    have HC0 := Lib.hid (show ∀ m, cs[0]? = some (numS m).data.toList → s0 = numS m from fun m e => by
      rw [List.getElem?_eq_getElem h0c] at e
      injection e with e
      rw [HS0.out, e, arr_bytes])
    clear hvb hTB hEB hb4 r0 h5 HRD HFM hfd
    rcases hrp with hpk | ⟨hno, hk1⟩
    rotate_left
    · have hkb : (rk != 1) = true := by rw [bne_iff_ne]; exact hk1
      have HBD := Lib.hid (HBAD.out 23 wc (by decide) (Or.inr (Or.inl ⟨rfl, HLEN.out, fun ⟨m, hm1, hm2⟩ => hno ⟨numV m, by
        have e := HC0.out m hm2
        rw [e]
        exact ⟨by simp [validB, numV], rfl, rfl, by show _ ≤ m; have := hm1.1; omega, by show m ≤ _; have := hm1.2; omega⟩⟩⟩)) HB4.out)
      clear hk1 hno
      go_wp2_with fail
      exact bodyPost_ret (v := .tuple #[zeroEvV, .int .i64 23]) (by simp [results, Tryd.results10, go_sem, zeroEvV, a0, a1, a2]) rfl HBD.out
    obtain ⟨hR, hsn⟩ := parse_time hpk
    have hrk : rk = 1 := hpk.2.1
    have HRB := Lib.hid hpk.2.2.2
    simp only at HRB
    subst hrk
    have hsn : s0 = numS rn := hsn
    have HSN := Lib.hid hsn
    have HTI := Lib.hid (timely_any rn wc)
    clear hpk hR hsn
    by_cases htm : Timely rn
    rotate_left
    · have h3 : (decide (0 ≤ rn) && decide (rn ≤ 4611686018427387904)) = false := by
        unfold Timely at htm
        rw [← Bool.decide_and]
        exact decide_eq_false htm
      rw [h3] at HTI
      have HBD := Lib.hid (HBAD.out 23 wc (by decide) (Or.inr (Or.inl ⟨rfl, HLEN.out, fun ⟨m, hm1, hm2⟩ => htm (by
        have e := HC0.out m hm2
        rw [HSN.out] at e
        rw [num_inj e HRB.out.1 HRB.out.2 (by have := hm1.1; omega) (by have := hm1.2; omega)]
        exact hm1)⟩)) HB4.out)
      clear htm h3
      go_wp2_with fail
      (with_reducible refine HTI.out.mono ?_); rintro e w5 ⟨rfl, hw5⟩
      subst hw5
      go_wp2_with fail
      exact bodyPost_ret (v := .tuple #[zeroEvV, .int .i64 23]) (by simp [results, Tryd.results10, go_sem, zeroEvV, a0, a1, a2]) rfl HBD.out
    have h3 : (decide (0 ≤ rn) && decide (rn ≤ 4611686018427387904)) = true := by
      unfold Timely at htm
      rw [← Bool.decide_and]
      exact decide_eq_true htm
    rw [h3] at HTI
    have HTM := Lib.hid htm
    have HTIN := Lib.hid (show TimeIn cs from ⟨rn, htm, by rw [List.getElem?_eq_getElem h0c]; congr 1; rw [← HSN.out, HS0.out]⟩)
    clear htm h3
    go_wp2_with fail
    (with_reducible refine HTI.out.mono ?_); rintro e w5 ⟨rfl, hw5⟩
    subst hw5
    clear v0 v1 c1 a0 a1 a2 b0 b1 b2 HTI
    have HBY := Lib.hid (show ∀ W, Below (p + 2) W2 W → W.cell? ⟨p, 0, none⟩ = some (.string nm) ∧ W.cell? ⟨p, 1, none⟩ = some (.slice ta ats.length tc) ∧ W.cell? ⟨p + 1, 0, none⟩ = some (.string ⟨#[]⟩) ∧ W.cell? ⟨p + 1, 1, none⟩ = some (.int .i64 0) ∧ W.cell? ⟨p + 1, 2, none⟩ = some (.slice none 0 0) ∧ W.frozen? ⟨p + 1, 0, none⟩ = false ∧ W.frozen? ⟨p + 1, 1, none⟩ = false ∧ W.frozen? ⟨p + 1, 2, none⟩ = false ∧ p + 2 ≤ W.heap.size from fun W hW => by
      obtain ⟨hTB, hEB, _⟩ := HBX.out W hW
      exact ⟨hTB.c.1, hTB.c.2, hEB.c.1, hEB.c.2.1, hEB.c.2.2, frozen_of_row _ (p + 1) 0 _ _ hEB, frozen_of_row _ (p + 1) 1 _ _ hEB, frozen_of_row _ (p + 1) 2 _ _ hEB, Nat.le_trans hz22 hW.size⟩)
    obtain ⟨_, y1, _, _, _, _, _, _, _⟩ := HBY.out w5 HB4.out
    go_upto_region 7 with fail
    clear y1
    go_loopg [40] (ats.length + 1) (fun g v40 wr => ∃ i : Nat, i ≤ ats.length ∧ v40 = .int .i64 (i : Int) ∧ (∀ j (h : j < ats.length), j < i → KindOk ats[j].kind) ∧ VBox wr q 1 rn rs rbo ∧ Below (p + 2) W2 wr ∧ ats.length - i < g)
    case atStart => exact ⟨0, Nat.zero_le _, rfl, fun j _ h => absurd h (Nat.not_lt_zero _), HVB.out, HB4.out, by omega⟩
    case round =>
      obtain ⟨i, hi, rfl, hko, hvb, hbel, hg⟩ := hrel
      obtain ⟨g, rfl⟩ : ∃ g, gk = g + 1 := ⟨gk - 1, by omega⟩
      obtain ⟨_, c1, a0, a1, a2, b0, b1, b2, hzr⟩ := HBY.out wr hbel
      obtain ⟨_, _, hA, _, _, _⟩ := HBX.out wr hbel
      have HKO := Lib.hid hko
      have HVB1 := Lib.hid hvb
      have HBE := Lib.hid hbel
      have i0' : (0 : Int) ≤ (i : Int) := by omega
      by_cases hlt : i < ats.length
      · have i1 : (i : Int) < (ats.length : Int) := by omega
        obtain ⟨b, o, rfl, hbb, e0, e1⟩ := attrs_cell hA i hlt
        obtain ⟨a, ha⟩ : ∃ a, a = ats[i] := ⟨_, rfl⟩
        rw [← ha] at e0 e1
        obtain ⟨an, ak⟩ := a
        simp only at e0 e1
        obtain ⟨V, hVV⟩ : ∃ V, V = wr.alloc (Obj.cells #[.string an, .int .i64 ak] 34) := ⟨_, rfl⟩
        obtain ⟨qa, hqa⟩ : ∃ q, q = wr.heap.size := ⟨_, rfl⟩
        have hbV : Below wr.heap.size wr V := by rw [hVV]; exact (Below.refl _ _).alloc (Nat.le_refl _) _
        have hAB : V.heap[qa]? = some (Obj.cells #[.string an, .int .i64 ak] 34 (0, 0)) := by rw [hVV, hqa]; exact heap_alloc_new _ _
        have x1 : V.cell? ⟨qa, 1, none⟩ = some (.int .i64 ak) := by rw [cell_of_row _ _ _ _ _ _ hAB]; rfl
        have HVV := Lib.hid hVV
        have HQA := Lib.hid hqa
        have HBV := Lib.hid (show Below (p + 2) W2 V from hbel.trans (hbV.mono hzr))
        have HVBV := Lib.hid (hvb.below hbV)
        have HA := Lib.hid ha
        clear hVV hqa hbV hAB hA hvb hbel hko ha
        go_upto_region 9 with fail
        rw [← HVV.out, ← HQA.out]
        clear e0 e1 a0 a1 a2 b0 b1 b2 c1
        by_cases hk : KindOk ak
        · rcases hk with rfl | rfl | rfl
          all_goals
            have HK := Lib.hid (show KindOk ats[i].kind by rw [← HA.out]; first | exact Or.inl rfl | exact Or.inr (Or.inl rfl) | exact Or.inr (Or.inr rfl))
          focus
            have HFK := Lib.hid (formOf_one V)
            simp only [fnV] at HFK
            have hfd := (field_fn 21 13).1
            have heq := eq_fn 21
            go_wp2_with fail
            (with_reducible refine HFK.out.mono ?_); rintro e w6 ⟨rfl, hb6⟩
            have HB6 := Lib.hid (HBV.out.trans (hb6.mono (Nat.le_trans hz22 HBV.out.size)))
            have HVB6 := Lib.hid (HVBV.out.below hb6)
            clear hb6
            go_wp2_with fail
            go_roundg g
            case rel => exact ⟨i + 1, by omega, by go_num, fun j hj hji => by
              rcases Nat.lt_or_ge j i with h | h
              · exact HKO.out j hj h
              · obtain rfl : j = i := by omega
                exact HK.out, HVB6.out, HB6.out, by omega⟩
            case measure => omega
          focus
            have HFK := Lib.hid (formOf_two V)
            simp only [fnV] at HFK
            have hfd := (field_fn 22 23).1
            have heq := eq_fn 22
            go_wp2_with fail
            (with_reducible refine HFK.out.mono ?_); rintro e w6 ⟨rfl, hb6⟩
            have HB6 := Lib.hid (HBV.out.trans (hb6.mono (Nat.le_trans hz22 HBV.out.size)))
            have HVB6 := Lib.hid (HVBV.out.below hb6)
            clear hb6
            go_wp2_with fail
            go_roundg g
            case rel => exact ⟨i + 1, by omega, by go_num, fun j hj hji => by
              rcases Nat.lt_or_ge j i with h | h
              · exact HKO.out j hj h
              · obtain rfl : j = i := by omega
                exact HK.out, HVB6.out, HB6.out, by omega⟩
            case measure => omega
          focus
            have HFK := Lib.hid (formOf_three V)
            simp only [fnV] at HFK
            have hfd := (field_fn 21 13).1
            have heq := eq_fn 21
            go_wp2_with fail
            (with_reducible refine HFK.out.mono ?_); rintro e w6 ⟨rfl, hb6⟩
            have HB6 := Lib.hid (HBV.out.trans (hb6.mono (Nat.le_trans hz22 HBV.out.size)))
            have HVB6 := Lib.hid (HVBV.out.below hb6)
            clear hb6
            go_wp2_with fail
            go_roundg g
            case rel => exact ⟨i + 1, by omega, by go_num, fun j hj hji => by
              rcases Nat.lt_or_ge j i with h | h
              · exact HKO.out j hj h
              · obtain rfl : j = i := by omega
                exact HK.out, HVB6.out, HB6.out, by omega⟩
            case measure => omega
        · have HFK := Lib.hid (formOf_no ak hk V)
          have HBD := Lib.hid (show ∀ W, Below (p + 2) W2 W → _ from fun W hW => HBAD.out 10 W (by decide) (Or.inr (Or.inr (Or.inl ⟨rfl, HLEN.out, HTIN.out, i, hlt, by rw [← HA.out]; exact hk⟩))) hW)
          have hfd := field_nil
          have heq := eq_nil
          clear hk
          go_wp2_with fail
          (with_reducible refine HFK.out.mono ?_); rintro e w6 ⟨rfl, hb6⟩
          have HB6 := Lib.hid (HBV.out.trans (hb6.mono (Nat.le_trans hz22 HBV.out.size)))
          obtain ⟨_, _, a0, a1, a2, b0, b1, b2, _⟩ := HBY.out w6 HB6.out
          clear hb6
          go_wp2_with fail
          exact bodyPost_ret (v := .tuple #[zeroEvV, .int .i64 10]) (by simp [results, Tryd.results10, go_sem, zeroEvV, a0, a1, a2]) rfl (HBD.out _ HB6.out)
      · have i1 : ¬ (i : Int) < (ats.length : Int) := by omega
        have HKA := Lib.hid (show ∀ j (h : j < ats.length), KindOk ats[j].kind from fun j h => hko j h (by omega))
        clear hko hvb hA hbel hlt
        obtain ⟨g0, hg0⟩ : ∃ g0, g0 = wr.heap.size := ⟨_, rfl⟩
        have hqg : q < g0 := by rw [hg0]; exact HVB1.out.lt
        have hg0p : p + 2 ≤ g0 := by rw [hg0]; exact hzr
        obtain ⟨n, hnn⟩ : ∃ n, n = ats.length := ⟨_, rfl⟩
        go_upto_region 13 with (at_make; go_must (refine wpList_make_own _ rfl _ _ 25 rfl (p + 2) 32 i0 _ 4 Tryd.underlying25 hi0 iz0 iz1 .i64 .i64 _ ats.length rfl rfl rfl (by rw [iz2]; omega) (by unfold maxLen; omega) (by omega) ?_; intro w7 hown7 hgrow7))
        rw [← hg0] at hown7 ⊢
        have HO7 := Lib.hid hown7
        have HB7 := Lib.hid (show Below (p + 2) W2 w7 from HBE.out.grown hgrow7 hzr (fun k e => by cases e))
        have HVB7 := Lib.hid (show VBox w7 q 1 rn rs rbo from (hgrow7.block q HVB1.out.lt (by simp)).trans HVB1.out)
        clear hown7 hgrow7 hg0 hnn a0 a1 a2 b0 b1 b2 c1 i1 hi i0'
        obtain ⟨_, c1, _, _, _, _, _, _, _⟩ := HBY.out w7 HB7.out
        go_upto_region 14 with fail
        clear c1
        go_loopg [9, 58] (ats.length + 1) (fun g v9 v58 wr => ∃ (i : Nat) (acc : List Val), i ≤ ats.length ∧ v58 = .int .i64 (i : Int) ∧ acc.length = i ∧ v9 = .slice (some ⟨g0, 0, none⟩) i ats.length ∧ wr.ownsRow (p + 2) 32 4 (.slice (some ⟨g0, 0, none⟩) i ats.length) i (valsC acc) ∧ Parsed ats cs acc ∧ VBox wr q 1 rn rs rbo ∧ Below (p + 2) W2 wr ∧ ats.length - i < g)
        case atStart => exact ⟨0, [], Nat.zero_le _, rfl, rfl, rfl, HO7.out, fun j h => absurd h (Nat.not_lt_zero _), HVB7.out, HB7.out, by omega⟩
        case round =>
          obtain ⟨i, acc, hi, rfl, hacc, rfl, hown, hpr, hvb, hbel, hg⟩ := hrel
          obtain ⟨g, rfl⟩ : ∃ g, gk = g + 1 := ⟨gk - 1, by omega⟩
          obtain ⟨_, c1, a0, a1, a2, b0, b1, b2, hzr⟩ := HBY.out wr hbel
          obtain ⟨_, _, hA, hS, _, _⟩ := HBX.out wr hbel
          have HACC := Lib.hid hacc
          have HOW := Lib.hid hown
          have HPR := Lib.hid hpr
          have HVB1 := Lib.hid hvb
          have HBE := Lib.hid hbel
          have hg0z := own_lt_size hown g0 rfl
          have i0' : (0 : Int) ≤ (i : Int) := by omega
          by_cases hlt : i < ats.length
          · have i1 : (i : Int) < (ats.length : Int) := by omega
            have hlc : i + 1 < cs.length := by rw [HLEN.out]; omega
            obtain ⟨b, o, rfl, hbb, e0, e1⟩ := attrs_cell hA i hlt
            obtain ⟨rb', ro', hre, hrbb, r1⟩ := strs_cell hS (i + 1) hlc
            cases hre
            have hkk := HKA.out i hlt
            obtain ⟨a, ha⟩ : ∃ a, a = ats[i] := ⟨_, rfl⟩
            obtain ⟨s1, hs1⟩ : ∃ s1 : ByteArray, s1 = ⟨cs[i + 1].toArray⟩ := ⟨_, rfl⟩
            rw [← ha] at e0 e1 hkk
            rw [← hs1] at r1
            obtain ⟨an, ak⟩ := a
            simp only at e0 e1 hkk
            have HFO := Lib.hid (form_any ak hkk)
            have hs1z : s1.size ≤ 140737488355328 := by
              rw [hs1]
              have := HSV.out _ (List.getElem_mem hlc)
              show cs[i + 1].toArray.size ≤ _
              simp
              omega
            obtain ⟨V, hVV⟩ : ∃ V, V = wr.alloc (Obj.cells #[.string an, .int .i64 ak] 34) := ⟨_, rfl⟩
            obtain ⟨qa, hqa⟩ : ∃ q, q = wr.heap.size := ⟨_, rfl⟩
            have hbV : Below wr.heap.size wr V := by rw [hVV]; exact (Below.refl _ _).alloc (Nat.le_refl _) _
            have hAB : V.heap[qa]? = some (Obj.cells #[.string an, .int .i64 ak] 34 (0, 0)) := by rw [hVV, hqa]; exact heap_alloc_new _ _
            have HAB := Lib.hid hAB
            have x1 : V.cell? ⟨qa, 1, none⟩ = some (.int .i64 ak) := by rw [cell_of_row _ _ _ _ _ _ hAB]; rfl
            have hqaV : qa < V.heap.size := (Array.getElem?_eq_some_iff.1 hAB).1
            have hrbz : rb < wr.heap.size := by omega
            have rr := (hbV.cell (p := ⟨rb, ro + (i + 1), none⟩) hrbz).trans r1
            have HVV := Lib.hid hVV
            have HQA := Lib.hid hqa
            have HBV := Lib.hid (show Below (p + 2) W2 V from hbel.trans (hbV.mono hzr))
            have HVBV := Lib.hid (hvb.below hbV)
            have HOV := Lib.hid (owns_below hown hbV)
            have HA := Lib.hid ha
            have HS1 := Lib.hid hs1
            have hzV : p + 2 ≤ V.heap.size := Nat.le_trans hzr hbV.size
            have hrbV : rb < V.heap.size := Nat.lt_of_lt_of_le hrbz hbV.size
            clear hVV hqa hbV hAB hA hS hvb hbel ha hs1 hown hpr hacc hkk r1 a0 a1 a2 b0 b1 b2
            go_upto_region 16 with fail
            rw [← HVV.out, ← HQA.out]
            clear e0 e1 c1
            have hw1 : IntKind.i64.wrap (1 + (i : Int)) = 1 + (i : Int) := IntWalk.i64_in _ (by omega)
            have hw2 : (0 : Int) ≤ 1 + (i : Int) := by omega
            have hw3 : (1 + (i : Int)).toNat = i + 1 := by omega
            have hw4 : 1 + (i : Int) < (cs.length : Int) := by omega
            go_cut [12] from 63 to 72 (fun s12 wx => ReadBox (ReadP ak s1) V.heap.size V s12 wx)
            case first =>
             rename_i J1 K1 hJ1 hK1
             have HJ1 := Lib.hid hJ1
             have HK1 := Lib.hid hK1
             clear hJ1 hK1
             rcases HFO.out with ⟨hfo, hfr⟩ | ⟨hfo, hfr⟩
             focus
              have HFM := Lib.hid hfo
              have HRD := Lib.hid (show ∀ W, Below (p + 2) W2 W → Calls Tryd.prog 21 #[.string s1] W (ReadBy (ReadP ak s1) W) from fun W hW => hfr s1 W (HBX.out W hW).2.2.2.2.2 hs1z)
              have hfd := (field_fn 21 13).1
              clear hfo hfr
              go_region_law (first
               | (go_simp; go_at_call 14; (with_reducible refine (HFM.out _).mono ?_); rintro e w3 ⟨rfl, hb3⟩
                  have HB3 := Lib.hid (show Below V.heap.size V w3 by first | exact (Below.refl _ V).drew.trans hb3 | exact ((Below.refl _ V).alloc (Nat.le_refl _) _).drew.trans (hb3.mono (by show V.heap.size ≤ (V.alloc _).heap.size; rw [World.size_alloc]; omega)))
                  have r1 := (HB3.out.cell (p := ⟨rb, ro + (i + 1), none⟩) hrbV).trans rr
                  have rz : rb < w3.heap.size := by have := HB3.out.size; omega
                  have x2 := (HB3.out.cell (p := ⟨qa, 1, none⟩) hqaV).trans x1
                  try (have z3 := VBox.below (w := (V.alloc (Obj.cells #[.int .i64 0, .int .i64 0, .string ⟨#[]⟩, .bool false] 32)).drew) (vbox_new V 0 0 ⟨#[]⟩ false) hb3; obtain ⟨z0, z1, z2, z3'⟩ := z3.c; have y0 := z3.f 0; have y1 := z3.f 1; have y2 := z3.f 2; have y3 := z3.f 3)
                  clear hb3)
               | (go_simp; go_at_call 21; (with_reducible refine (HRD.out _ (by first | exact HBV.out.trans (HB3.out.mono hzV) | exact (HBV.out.trans (HB3.out.mono hzV)).alloc (by have := HB3.out.size; omega) _)).mono ?_); rintro e w4 ⟨⟨⟨rk, rn', rs', rbo'⟩, rfl, hrd⟩, hb4⟩
                  have HRP := Lib.hid hrd
                  have HB4' := Lib.hid (show Below V.heap.size V w4 by first | exact HB3.out.trans (hb4.mono HB3.out.size) | exact (HB3.out.alloc HB3.out.size _).trans (hb4.mono (by rw [World.size_alloc]; have := HB3.out.size; omega)))
                  try (have x3 := (vbox_new w3 0 0 ⟨#[]⟩ false).below hb4; obtain ⟨x0, x1', x2', x3'⟩ := x3.c; have u0 := x3.f 0; have u1 := x3.f 1; have u2 := x3.f 2; have u3 := x3.f 3)
                  try (have z4 := z3.below hb4; obtain ⟨v0, v1, v2, v3'⟩ := z4.c; have t0 := z4.f 0; have t1 := z4.f 1; have t2 := z4.f 2; have t3 := z4.f 3)
                  clear hb4 hrd; simp only [Val.v]))
              all_goals
               have HU : ∀ (X : World) (q : Nat), VBox X q rk rn' rs' rbo' → Below V.heap.size V X → V.heap.size ≤ q → ReadBox (ReadP ak s1) V.heap.size V (.pointer (some ⟨q, 0, none⟩)) X := fun X q h1 h2 h3 => ⟨q, rk, rn', rs', rbo', rfl, h1, HRP.out, h2, h3⟩
               have hw3 := HB3.out.size
               have hw4 := HB4'.out.size
               refine HK1.out _ _ (Met.intro (HJ1.out _ _ ?_))
               (repeat apply Exists.intro)
               refine ⟨?rel, rfl⟩
               case rel =>
                first
                 | exact HU _ _ x3.set (set4_below HB4'.out hw3) hw3
                 | exact HU _ _ z4.set (set4_below HB4'.out (Nat.le_refl _)) (Nat.le_refl _)
                 | exact HU _ _ (vbox_new w4 rk rn' rs' rbo') (HB4'.out.alloc hw4 _) hw4
             focus
              have HFM := Lib.hid hfo
              have HRD := Lib.hid (show ∀ W, Below (p + 2) W2 W → Calls Tryd.prog 22 #[.string s1] W (ReadBy (ReadP ak s1) W) from fun W hW => hfr s1 W (HBX.out W hW).2.2.2.2.2 hs1z)
              have hfd := (field_fn 22 23).1
              clear hfo hfr
              go_region_law (first
               | (go_simp; go_at_call 14; (with_reducible refine (HFM.out _).mono ?_); rintro e w3 ⟨rfl, hb3⟩
                  have HB3 := Lib.hid (show Below V.heap.size V w3 by first | exact (Below.refl _ V).drew.trans hb3 | exact ((Below.refl _ V).alloc (Nat.le_refl _) _).drew.trans (hb3.mono (by show V.heap.size ≤ (V.alloc _).heap.size; rw [World.size_alloc]; omega)))
                  have r1 := (HB3.out.cell (p := ⟨rb, ro + (i + 1), none⟩) hrbV).trans rr
                  have rz : rb < w3.heap.size := by have := HB3.out.size; omega
                  have x2 := (HB3.out.cell (p := ⟨qa, 1, none⟩) hqaV).trans x1
                  try (have z3 := VBox.below (w := (V.alloc (Obj.cells #[.int .i64 0, .int .i64 0, .string ⟨#[]⟩, .bool false] 32)).drew) (vbox_new V 0 0 ⟨#[]⟩ false) hb3; obtain ⟨z0, z1, z2, z3'⟩ := z3.c; have y0 := z3.f 0; have y1 := z3.f 1; have y2 := z3.f 2; have y3 := z3.f 3)
                  clear hb3)
               | (go_simp; go_at_call 22; (with_reducible refine (HRD.out _ (by first | exact HBV.out.trans (HB3.out.mono hzV) | exact (HBV.out.trans (HB3.out.mono hzV)).alloc (by have := HB3.out.size; omega) _)).mono ?_); rintro e w4 ⟨⟨⟨rk, rn', rs', rbo'⟩, rfl, hrd⟩, hb4⟩
                  have HRP := Lib.hid hrd
                  have HB4' := Lib.hid (show Below V.heap.size V w4 by first | exact HB3.out.trans (hb4.mono HB3.out.size) | exact (HB3.out.alloc HB3.out.size _).trans (hb4.mono (by rw [World.size_alloc]; have := HB3.out.size; omega)))
                  try (have x3 := (vbox_new w3 0 0 ⟨#[]⟩ false).below hb4; obtain ⟨x0, x1', x2', x3'⟩ := x3.c; have u0 := x3.f 0; have u1 := x3.f 1; have u2 := x3.f 2; have u3 := x3.f 3)
                  try (have z4 := z3.below hb4; obtain ⟨v0, v1, v2, v3'⟩ := z4.c; have t0 := z4.f 0; have t1 := z4.f 1; have t2 := z4.f 2; have t3 := z4.f 3)
                  clear hb4 hrd; simp only [Val.v]))
              all_goals
               have HU : ∀ (X : World) (q : Nat), VBox X q rk rn' rs' rbo' → Below V.heap.size V X → V.heap.size ≤ q → ReadBox (ReadP ak s1) V.heap.size V (.pointer (some ⟨q, 0, none⟩)) X := fun X q h1 h2 h3 => ⟨q, rk, rn', rs', rbo', rfl, h1, HRP.out, h2, h3⟩
               have hw3 := HB3.out.size
               have hw4 := HB4'.out.size
               refine HK1.out _ _ (Met.intro (HJ1.out _ _ ?_))
               (repeat apply Exists.intro)
               refine ⟨?rel, rfl⟩
               case rel =>
                first
                 | exact HU _ _ x3.set (set4_below HB4'.out hw3) hw3
                 | exact HU _ _ z4.set (set4_below HB4'.out (Nat.le_refl _)) (Nat.le_refl _)
                 | exact HU _ _ (vbox_new w4 rk rn' rs' rbo') (HB4'.out.alloc hw4 _) hw4
            case rest =>
              obtain ⟨q2, vk, vn, vstr, vb, rfl, hvb2, hrp2, hb8, hq2⟩ := hcut
              have HVX := Lib.hid hvb2
              have HB8 := Lib.hid (HBV.out.trans (hb8.mono hzV))
              have HVB8 := Lib.hid (HVBV.out.below hb8)
              have HO8 := Lib.hid (owns_below HOV.out hb8)
              obtain ⟨w0, w1, w2, w3⟩ := hvb2.c
              have x2 := (hb8.cell (p := ⟨qa, 1, none⟩) hqaV).trans x1
              obtain ⟨_, _, a0, a1, a2, b0, b1, b2, hz8⟩ := HBY.out wc HB8.out
              clear hvb2 hb8 x1 rr hw1 hw2 hw3 hw4 HFO
              rcases hrp2 with hpk | ⟨hno, hk1⟩
              rotate_left
              · have hkb : (vk != ak) = true := by rw [bne_iff_ne]; exact hk1
                have HBD := Lib.hid (HBAD.out 12 wc (by decide) (Or.inr (Or.inr (Or.inr ⟨rfl, HLEN.out, HTIN.out, HKA.out, i, hlt, hlc, by
                  rw [← HA.out, ← HS1.out]
                  exact hno⟩))) HB8.out)
                clear hno hk1
                go_wp2_with fail
                exact bodyPost_ret (v := .tuple #[zeroEvV, .int .i64 12]) (by simp [results, Tryd.results10, go_sem, zeroEvV, a0, a1, a2]) rfl HBD.out
              · have hkk : vk = ak := hpk.2.1
                have HPK := Lib.hid hpk
                subst hkk
                clear hpk a0 a1 a2 b0 b1 b2
                have HPX := Lib.hid (show Parsed ats cs (acc ++ [⟨vk, vn, vstr, vb⟩]) from HPR.out.put (fun h1 h2 => by
                  have h3 := HPK.out
                  have e1 : ats[acc.length] = ats[i] := by simp only [HACC.out]
                  have e2 : cs[acc.length + 1] = cs[i + 1] := by simp only [HACC.out]
                  rw [e1, e2, ← HA.out, ← HS1.out]
                  exact h3))
                go_wp2_with (at_builtin; go_must (refine wpList_append_own_spare _ (by rfl) _ _ _ (by rfl) (p + 2) 32 i0 4 Tryd.underlying25 hi0 iz1 g0 i ats.length (valsC acc) (by rfl) (HO8.out.alloc _) ⟨_, 0, none⟩ 1 1 [.int .i64 vk, .int .i64 vn, .string vstr, .bool vb] (by rfl) (by rfl) (World.news_of_block (cs := #[.int .i64 vk, .int .i64 vn, .string vstr, .bool vb]) (t := 32) (fr := (0, 0)) (heap_alloc_new _ _)) (by simp [Value.oneCell']) (by omega) ?_; intro w9 hown9 hgrow9))
                have HO9 := Lib.hid (show w9.ownsRow (p + 2) 32 4 (.slice (some ⟨g0, 0, none⟩) (i + 1) ats.length) (i + 1) (valsC (acc ++ [⟨vk, vn, vstr, vb⟩])) by rw [valsC_put]; exact hown9)
                have HB9 := Lib.hid (show Below (p + 2) W2 w9 from (HB8.out.alloc hz8 _).grown hgrow9 (by rw [World.size_alloc]; omega) (fun k e => by cases e; exact hg0p))
                have HVB9 := Lib.hid (show VBox w9 q 1 rn rs rbo from (hgrow9.block q (by rw [World.size_alloc]; have := HVB8.out.lt; omega) (by intro e; injection e with e; omega)).trans ((heap_alloc_old _ _ HVB8.out.lt).trans HVB8.out))
                clear hown9 hgrow9
                go_wp2_with fail
                go_roundg g
                case rel => exact ⟨i + 1, _, by omega, by go_num, by rw [List.length_append, HACC.out]; rfl, rfl, HO9.out, HPX.out, HVB9.out, HB9.out, by omega⟩
                case measure => omega
          · have i1 : ¬ (i : Int) < (ats.length : Int) := by omega
            have hin : i = ats.length := by omega
            have HCL := Lib.hid (fun W => clone_any nm W hnm)
            obtain ⟨v0, v1, _, _⟩ := hvb.c
            obtain ⟨c0, _, _⟩ := HBY.out wr hbel
            have HIN := Lib.hid hin
            clear hA hS hvb hbel hpr hown hacc hin hlt hi
            go_upto_region 21 with fail
            have hzw := HBE.out.size
            have hqz : q < wr.heap.size := HVB1.out.lt
            have HFIN := Lib.hid (show ∀ W, Below wr.heap.size wr W → EventTo ⟨nm, ats⟩ cs w (.returned (.tuple #[.agg #[.string nm, .int .i64 rn, .slice (some ⟨g0, 0, none⟩) i ats.length], .int .i64 0])) (((W.setCell ⟨p + 1, 0, none⟩ (.string nm)).setCell ⟨p + 1, 1, none⟩ (.int .i64 rn)).setCell ⟨p + 1, 2, none⟩ (.slice (some ⟨g0, 0, none⟩) i ats.length)) from fun W hW => by
              have hb := HBE.out.trans (hW.mono hzr)
              have hlen2 : acc.length = ats.length := by rw [HACC.out, HIN.out]
              refine ⟨Or.inr ⟨⟨nm, rn, acc⟩, g0, ats.length, by rw [HACC.out], ⟨⟨rfl, HTM.out, hlen2, fun j h h2 => ?_⟩, ?_, fun v hv => ?_⟩, ?_⟩, ?_⟩
              · have h3 := HPR.out j h h2 (by rw [HLEN.out]; simp only at h2; omega)
                exact ⟨h3.1, h3.2.1⟩
              · apply List.ext_getElem
                · simp [evB, hlen2, HLEN.out]
                · intro j h h2
                  cases j with
                  | zero =>
                    have e := HSN.out
                    rw [HS0.out] at e
                    show (numS rn).data.toList = cs[0]
                    rw [← e]
                  | succ j =>
                    have hj : j < acc.length := by simpa [evB] using h
                    have h3 := HPR.out j hj (by omega) h2
                    have e : (evB ⟨nm, rn, acc⟩)[j + 1] = (cellB acc[j]).data.toList := by simp [evB]
                    rw [e, h3.2.2.1]
              · obtain ⟨j, hj, rfl⟩ := List.mem_iff_getElem.1 hv
                have hj : j < acc.length := hj
                exact (HPR.out j hj (by omega) (by rw [HLEN.out]; omega)).2.2.2
              · simp only [HACC.out]
                refine owns_lower (B := p + 2) (owns_keep (owns_below HOW.out hW) fun g e => ?_) (by rw [← HP.out]; omega)
                cases e
                rw [heap_setCell_other _ _ _ _ (show g0 ≠ p + 1 by omega), heap_setCell_other _ _ _ _ (show g0 ≠ p + 1 by omega), heap_setCell_other _ _ _ _ (show g0 ≠ p + 1 by omega)]
              · have hpp := HP.out
                exact (((HBX.out W hb).2.2.2.2.1.setCell (by show w.heap.size ≤ p + 1; omega) _).setCell (by show w.heap.size ≤ p + 1; omega) _).setCell (by show w.heap.size ≤ p + 1; omega) _)
            have HWZ := Lib.hid (show ∀ W, Below wr.heap.size wr W → W.cell? ⟨q, 1, none⟩ = some (.int .i64 rn) ∧ W.cell? ⟨p, 0, none⟩ = some (.string nm) ∧ W.cell? ⟨p + 1, 0, none⟩ = some (.string ⟨#[]⟩) ∧ W.cell? ⟨p + 1, 1, none⟩ = some (.int .i64 0) ∧ W.cell? ⟨p + 1, 2, none⟩ = some (.slice none 0 0) ∧ W.frozen? ⟨p + 1, 0, none⟩ = false ∧ W.frozen? ⟨p + 1, 1, none⟩ = false ∧ W.frozen? ⟨p + 1, 2, none⟩ = false from fun W hW => by
              obtain ⟨k0, _, k2, k3, k4, k5, k6, k7, _⟩ := HBY.out W (HBE.out.trans (hW.mono hzr))
              exact ⟨(HVB1.out.below hW).c.2.1, k0, k2, k3, k4, k5, k6, k7⟩)
            clear i1 i0' hg a0 a1 a2 b0 b1 b2 c1
            go_region_law (first
              | (go_simp; go_at_call 19; (with_reducible refine (HCL.out _).mono ?_); rintro e w9 ⟨rfl, hb9⟩
                 have HB9 := Lib.hid (show Below wr.heap.size wr w9 from (Below.refl _ wr).drew.trans hb9)
                 obtain ⟨k0, _, k2, k3, k4, k5, k6, k7⟩ := HWZ.out w9 HB9.out
                 clear hb9))
            all_goals
              go_wp2_with fail
              exact bodyPost_ret (v := .tuple #[.agg #[.string nm, .int .i64 rn, .slice (some ⟨g0, 0, none⟩) i ats.length], .int .i64 0]) (by simp [results, Tryd.results10, go_sem, k2, k3, k4]) rfl (HFIN.out _ HB9.out)
end Go.Proofs.YtdkddnlolnbpgaaDoor
