/- Package wire, the reader: event. -/
import Derived.Test.YtmdhacboegmccaaDoorRValue
import Derived.Deep.RegionLaw
import Derived.Outline
namespace Go.Proofs.YtmdhacboegmccaaDoor
open Go Go.RowKit

/-- A value's cells. -/
def Val.cells (a : Val) : List Value := [.int .i64 a.kind, .int .i64 a.int, .string a.str, .bool a.bool]
/-- The cells of a list of values. -/
def valCells (l : List Val) : List Value := l.flatMap fun a => a.cells
theorem valCells_length (l : List Val) : (valCells l).length = l.length * 4 := by
  induction l with
  | nil => rfl
  | cons a r ih =>
    simp only [valCells, List.flatMap_cons, List.length_append, List.length_cons, Val.cells, List.length_nil] at ih ⊢
    omega
theorem valCells_get (l : List Val) (i : Nat) (h : i < l.length) : (valCells l)[i * 4]? = some (.int .i64 l[i].kind) ∧ (valCells l)[i * 4 + 1]? = some (.int .i64 l[i].int) ∧ (valCells l)[i * 4 + 2]? = some (.string l[i].str) ∧ (valCells l)[i * 4 + 3]? = some (.bool l[i].bool) := by
  induction l generalizing i with
  | nil => simp at h
  | cons a r ih =>
    cases i with
    | zero => simp [valCells, Val.cells]
    | succ i =>
      have := ih i (by simp at h; omega)
      have e1 : (i + 1) * 4 = i * 4 + 4 := by omega
      rw [e1]
      simp only [valCells, Val.cells, List.flatMap_cons, List.cons_append, List.nil_append, List.getElem_cons_succ] at this ⊢
      exact ⟨this.1, this.2.1, this.2.2.1, this.2.2.2⟩
theorem valCells_snoc (l : List Val) (a : Val) : valCells (l ++ [a]) = valCells l ++ a.cells := by simp [valCells]
theorem Tryd.infoVal : (Tryd.prog.info? 95).map (fun i => (i.zero, i.size, i.bytes)) = some (some (.agg #[.int .i64 0, .int .i64 0, .string ⟨#[]⟩, .bool false]), 4, 40) := by kernel_rfl
/-- A block of three cells of the call's own. -/
structure Cells3 (w : World) (b : Nat) (v0 v1 v2 : Value) : Prop where
  c0 : w.cell? ⟨b, 0, none⟩ = some v0
  c1 : w.cell? ⟨b, 1, none⟩ = some v1
  c2 : w.cell? ⟨b, 2, none⟩ = some v2
  f0 : w.frozen? ⟨b, 0, none⟩ = false
  f1 : w.frozen? ⟨b, 1, none⟩ = false
  f2 : w.frozen? ⟨b, 2, none⟩ = false
theorem Cells3.of {w : World} {b : Nat} {v0 v1 v2 : Value} {t : TypeId} (h : w.heap[b]? = some (Obj.cells #[v0, v1, v2] t (0, 0))) : Cells3 w b v0 v1 v2 :=
  ⟨by simp [World.cell?, h], by simp [World.cell?, h], by simp [World.cell?, h], by simp [World.frozen?, h], by simp [World.frozen?, h], by simp [World.frozen?, h]⟩
theorem Cells3.made (w : World) (v0 v1 v2 : Value) (t : TypeId) : Cells3 (w.alloc (Obj.cells #[v0, v1, v2] t)) w.heap.size v0 v1 v2 := Cells3.of (heap_alloc_new _ _)
theorem Cells3.keep {w w' : World} {b : Nat} {v0 v1 v2 : Value} (h : Cells3 w b v0 v1 v2) (hh : w'.heap[b]? = w.heap[b]?) : Cells3 w' b v0 v1 v2 :=
  ⟨(World.cell?_of_block (a := ⟨b, 0, none⟩) hh).trans h.c0, (World.cell?_of_block (a := ⟨b, 1, none⟩) hh).trans h.c1, (World.cell?_of_block (a := ⟨b, 2, none⟩) hh).trans h.c2,
   (World.frozen?_of_block (a := ⟨b, 0, none⟩) hh).trans h.f0, (World.frozen?_of_block (a := ⟨b, 1, none⟩) hh).trans h.f1, (World.frozen?_of_block (a := ⟨b, 2, none⟩) hh).trans h.f2⟩
theorem Cells3.lt {w : World} {b : Nat} {v0 v1 v2 : Value} (h : Cells3 w b v0 v1 v2) : b < w.heap.size := World.block_lt_of_cell? w _ h.c0
theorem Cells3.to {rb B : Nat} {w w' : World} {b : Nat} {v0 v1 v2 : Value} {r : Rd} (h : Cells3 w b v0 v1 v2) (ht : RdTo rb B w w' r) (hne : b ≠ rb) : Cells3 w' b v0 v1 v2 := h.keep (ht.grown.block b h.lt (fun e => hne (Option.some.inj e)))
theorem Cells3.below {w w' : World} {b : Nat} {v0 v1 v2 : Value} (h : Cells3 w b v0 v1 v2) (hb : Below w.heap.size w w') : Cells3 w' b v0 v1 v2 := h.keep (hb.block b h.lt)
theorem Cells3.grown {w w' : World} {b : Nat} {v0 v1 v2 : Value} {row : Option Nat} (h : Cells3 w b v0 v1 v2) (hg : w.grownBy w' row) (hne : some b ≠ row) : Cells3 w' b v0 v1 v2 := h.keep (hg.block b h.lt hne)
theorem Cells3.set0 {w : World} {b : Nat} {v0 v1 v2 : Value} (h : Cells3 w b v0 v1 v2) (x : Value) : Cells3 (w.setCell ⟨b, 0, none⟩ x) b x v1 v2 :=
  ⟨World.cell?_setCell_same _ _ _ h.c0, (World.cell?_setCell_other _ _ _ _ (by intro e; cases e)).trans h.c1, (World.cell?_setCell_other _ _ _ _ (by intro e; cases e)).trans h.c2, (World.frozen?_setCell _ _ _ _).trans h.f0, (World.frozen?_setCell _ _ _ _).trans h.f1, (World.frozen?_setCell _ _ _ _).trans h.f2⟩
theorem Cells3.set1 {w : World} {b : Nat} {v0 v1 v2 : Value} (h : Cells3 w b v0 v1 v2) (x : Value) : Cells3 (w.setCell ⟨b, 1, none⟩ x) b v0 x v2 :=
  ⟨(World.cell?_setCell_other _ _ _ _ (by intro e; cases e)).trans h.c0, World.cell?_setCell_same _ _ _ h.c1, (World.cell?_setCell_other _ _ _ _ (by intro e; cases e)).trans h.c2, (World.frozen?_setCell _ _ _ _).trans h.f0, (World.frozen?_setCell _ _ _ _).trans h.f1, (World.frozen?_setCell _ _ _ _).trans h.f2⟩
theorem Cells3.set2 {w : World} {b : Nat} {v0 v1 v2 : Value} (h : Cells3 w b v0 v1 v2) (x : Value) : Cells3 (w.setCell ⟨b, 2, none⟩ x) b v0 v1 x :=
  ⟨(World.cell?_setCell_other _ _ _ _ (by intro e; cases e)).trans h.c0, (World.cell?_setCell_other _ _ _ _ (by intro e; cases e)).trans h.c1, World.cell?_setCell_same _ _ _ h.c2, (World.frozen?_setCell _ _ _ _).trans h.f0, (World.frozen?_setCell _ _ _ _).trans h.f1, (World.frozen?_setCell _ _ _ _).trans h.f2⟩
theorem Cells3.other {w : World} {b : Nat} {v0 v1 v2 : Value} (h : Cells3 w b v0 v1 v2) {a : Addr} (hne : b ≠ a.block) (x : Value) : Cells3 (w.setCell a x) b v0 v1 v2 := h.keep (Below.heap_setCell _ _ _ _ hne)
theorem owns_to {rb B : Nat} {w w' : World} {r : Rd} {base : Nat} {e : TypeId} {size : Nat} {v : Value} {n : Nat} {xs : List Value} (h : w.ownsRow base e size v n xs) (ht : RdTo rb B w w' r) (hb : rb < base) : w'.ownsRow base e size v n xs :=
  h.kept ht.grown (by
    cases hv : v.ownBlock with
    | none => exact Or.inl rfl
    | some g =>
      right
      intro e
      have := (h.lt g hv).1
      injection e with e
      omega)
theorem own_base {w : World} {base base' : Nat} {e : TypeId} {size : Nat} {v : Value} {n : Nat} {xs : List Value} (h : w.ownsRow base e size v n xs) (hb : base' ≤ base) : w.ownsRow base' e size v n xs := by
  obtain ⟨h1, h2⟩ := h
  refine ⟨h1, ?_⟩
  rcases h2 with h2 | ⟨g, cap, cur, hv, hg, hh, r⟩
  · exact Or.inl h2
  · exact Or.inr ⟨g, cap, cur, hv, by omega, hh, r⟩
/-- What is read behind the type's name, as the program reads it. -/
theorem eventR_eq (r : Rd) (s : ByteArray) (r1 r3 r4 : Rd) (t c : Int) (h1 : textR 1 32 r = (s, r1)) (h3 : numberR 0 4611686018427387904 (if nameB s = true then r1 else r1.refuse 31) = (t, r3)) (h4 : numberR 0 16 r3 = (c, r4)) :
    eventR r = (⟨s, t, (timesR valueR c.toNat r4).1⟩, (timesR valueR c.toNat r4).2) := by
  unfold eventR mapped andThen lookR
  simp only [h1, h3, h4]
theorem timesR_step (n : Nat) (r : Rd) (acc : List Val) : (acc ++ (timesR valueR (n + 1) r).1, (timesR valueR (n + 1) r).2) = ((acc ++ [(valueR r).1]) ++ (timesR valueR n (valueR r).2).1, (timesR valueR n (valueR r).2).2) := by
  simp [timesR]

set_option maxHeartbeats 8000000 in
set_option maxRecDepth 100000 in
theorem event_any (rb B : Nat) (r : Rd) (w : World) (hres : ResAt w) (hr : RdAt w rb B r) (hB : B ≤ w.heap.size) (hrb : 0 ≠ rb) :
    Calls Tryd.prog 49 #[.pointer (some ⟨rb, 0, none⟩)] w fun en w' => (∃ g cap, en = .returned (.agg #[.string (eventR r).1.ty, .int .i64 (eventR r).1.time, .slice (some ⟨g, 0, none⟩) (eventR r).1.vals.length cap]) ∧ w'.ownsRow w.heap.size 95 4 (.slice (some ⟨g, 0, none⟩) (eventR r).1.vals.length cap) (eventR r).1.vals.length (valCells (eventR r).1.vals)) ∧ RdTo rb B w w' (eventR r).2 := by
  obtain ⟨i0, hi0, hz0, hz1, hz2⟩ := info_parts Tryd.infoVal
  have hrl := hr.lt
  obtain ⟨W0, hW0⟩ : ∃ W0, W0 = w.alloc (Obj.cells #[.string ⟨#[]⟩, .int .i64 0, .slice none 0 0] 24) := ⟨_, rfl⟩
  have hb0 : Below w.heap.size w W0 := by rw [hW0]; exact (Below.refl _ _).alloc (Nat.le_refl _) _
  have HB0 := Lib.hid hb0
  have HR0 := Lib.hid (hr.below hb0)
  have HRES := Lib.hid (hres.below hb0)
  have HA0 := Lib.hid (show Cells3 W0 w.heap.size (.string ⟨#[]⟩) (.int .i64 0) (.slice none 0 0) by rw [hW0]; exact Cells3.made _ _ _ _ _)
  have hzw : w.heap.size < W0.heap.size := by rw [hW0]; simp
  have HW0 := Lib.hid hW0
  have hne : w.heap.size ≠ rb := by omega
  obtain ⟨⟨s, r1⟩, h1⟩ : ∃ x, textR 1 32 r = x := ⟨_, rfl⟩
  obtain ⟨r2, h2⟩ : ∃ x, (if nameB s = true then r1 else r1.refuse 31) = x := ⟨_, rfl⟩
  obtain ⟨⟨tm, r3⟩, h3⟩ : ∃ x, numberR 0 4611686018427387904 r2 = x := ⟨_, rfl⟩
  obtain ⟨⟨c, r4⟩, h4⟩ : ∃ x, numberR 0 16 r3 = x := ⟨_, rfl⟩
  have hc := numberR_lo 0 16 (by omega) r3
  rw [h4] at hc
  simp only at hc
  obtain ⟨n, rfl⟩ : ∃ n : Nat, c = (n : Int) := ⟨c.toNat, by omega⟩
  have hn16 : n ≤ 16 := by omega
  have hev := eventR_eq r s r1 r3 r4 tm n h1 (by rw [h2]; exact h3) h4
  rw [Int.toNat_natCast] at hev
  have HEV := Lib.hid hev
  have H1 := Lib.hid h1
  have H2 := Lib.hid h2
  have H3 := Lib.hid h3
  have H4 := Lib.hid h4
  clear hr hb0 hres hW0 h1 h2 h3 h4 hc hev
  go_enter Tryd.func49, Tryd.ntmps49
  go_upto_region 1 with fail
  rw [← HW0.out]
  go_wp2_with fail
  (refine (text_any rb B r 1 32 W0 HR0.out (by omega) (by omega)).mono ?_); rintro e w1 ⟨rfl, hto1⟩
  rw [H1.out] at hto1 ⊢
  have HTO1 := Lib.hid hto1
  have HA1 := Lib.hid (HA0.out.to hto1 hne)
  have hz1' : w.heap.size < w1.heap.size := Nat.lt_of_lt_of_le hzw hto1.grown.size
  have HRES1 := Lib.hid (show ResAt w1 by
    have hl := HRES.out.lt
    obtain ⟨ty, fr, hg⟩ := HRES.out
    exact ⟨ty, fr, (hto1.grown.block _ hl (fun e => hrb (Option.some.inj e))).trans hg⟩)
  clear hto1
  obtain ⟨E, hE⟩ : ∃ E, E = w1.heap.size := ⟨_, rfl⟩
  obtain ⟨W2, hW2⟩ : ∃ W2, W2 = w1.alloc (Obj.cells #[.string s, .int .i64 0, .slice none 0 0] 24) := ⟨_, rfl⟩
  have hb2 : Below w1.heap.size w1 W2 := by rw [hW2]; exact (Below.refl _ _).alloc (Nat.le_refl _) _
  have HTO2 := Lib.hid ((RdTo.pre HB0.out HTO1.out).below hb2)
  have HA2 := Lib.hid (HA1.out.below hb2)
  have HRES2 := Lib.hid (HRES1.out.below hb2)
  have HE2 := Lib.hid (show Cells3 W2 E (.string s) (.int .i64 0) (.slice none 0 0) by rw [hW2, hE]; exact Cells3.made _ _ _ _ _)
  have hEw : w.heap.size < E := by omega
  have hEr : E ≠ rb := by omega
  have hEA : w.heap.size ≠ E := by omega
  have HW2 := Lib.hid hW2
  have HEE := Lib.hid hE
  clear hb2 hW2 hE
  have e0 := HE2.out.c0
  go_upto_region 2 with fail
  rw [← HW2.out, ← HEE.out]
  go_wp2_with fail
  (refine (name_any s W2 HRES2.out).mono ?_); rintro e w3 ⟨rfl, hb3⟩
  have HTO3 := Lib.hid (HTO2.out.below hb3)
  have HA3 := Lib.hid (HA2.out.below hb3)
  have HE3 := Lib.hid (HE2.out.below hb3)
  clear hb3 e0
  have hz3 : E < w3.heap.size := HE3.out.lt
  go_upto_if 11 with fail
  go_cut [] (fun wx => RdTo rb B w wx r2 ∧ Cells3 wx w.heap.size (.string ⟨#[]⟩) (.int .i64 0) (.slice none 0 0) ∧ Cells3 wx E (.string s) (.int .i64 0) (.slice none 0 0))
  case first =>
    cases hnb : nameB s
    · have HNR := Lib.hid (show r1.refuse 31 = r2 by rw [← H2.out, hnb]; rfl)
      have HNB := Lib.hid hnb
      clear hnb
      go_wp2_with fail
      (refine (refuse_any rb B r1 31 w3 HTO3.out.at').mono ?_); rintro e w4 ⟨rfl, hto4⟩
      rw [HNR.out] at hto4
      have HTO4 := Lib.hid hto4
      clear hto4
      go_wp2_with fail
      go_meet
      exact ⟨HTO3.out.trans HTO4.out, HA3.out.to HTO4.out hne, HE3.out.to HTO4.out hEr⟩
    · have HNR := Lib.hid (show r1 = r2 by rw [← H2.out, hnb]; rfl)
      have HNB := Lib.hid hnb
      clear hnb
      go_wp2_with fail
      go_meet
      exact ⟨HNR.out ▸ HTO3.out, HA3.out, HE3.out⟩
  case rest =>
    obtain ⟨hto4, ha4, he4⟩ := hcut
    obtain ⟨W4, hW4⟩ : ∃ W4, W4 = wc := ⟨_, rfl⟩
    rw [← hW4] at hto4 ha4 he4 ⊢
    clear hW4
    have HTO4 := Lib.hid hto4
    have HA4 := Lib.hid ha4
    have HE4 := Lib.hid he4
    clear hto4 ha4 he4
    go_wp2_with fail
    (refine (number_any rb B r2 0 4611686018427387904 W4 HTO4.out.at').mono ?_); rintro e w5 ⟨rfl, hto5⟩
    rw [H3.out] at hto5 ⊢
    have HTO5 := Lib.hid (HTO4.out.trans hto5)
    have HA5 := Lib.hid (HA4.out.to hto5 hne)
    have HE5 := Lib.hid (HE4.out.to hto5 hEr)
    clear hto5
    have e1 := HE5.out.c1
    have f1 := HE5.out.f1
    obtain ⟨W6, hW6⟩ : ∃ W6, W6 = w5.setCell ⟨E, 1, none⟩ (.int .i64 tm) := ⟨_, rfl⟩
    have HTO6 := Lib.hid (show RdTo rb B w W6 r3 by rw [hW6]; exact HTO5.out.set hB hrl (by simp; omega) _)
    have HA6 := Lib.hid (show Cells3 W6 w.heap.size (.string ⟨#[]⟩) (.int .i64 0) (.slice none 0 0) by rw [hW6]; exact HA5.out.other hEA _)
    have HE6 := Lib.hid (show Cells3 W6 E (.string s) (.int .i64 tm) (.slice none 0 0) by rw [hW6]; exact HE5.out.set1 _)
    have HW6 := Lib.hid hW6
    clear hW6
    go_upto_region 5 with fail
    rw [← HW6.out]
    clear e1 f1
    go_wp2_with fail
    (refine (number_any rb B r3 0 16 W6 HTO6.out.at').mono ?_); rintro e w7 ⟨rfl, hto7⟩
    rw [H4.out] at hto7 ⊢
    have HTO7 := Lib.hid (HTO6.out.trans hto7)
    have HA7 := Lib.hid (HA6.out.to hto7 hne)
    have HE7 := Lib.hid (HE6.out.to hto7 hEr)
    have hz7 : E < w7.heap.size := HE7.out.lt
    clear hto7
    have e2 := HE7.out.c2
    have f2 := HE7.out.f2
    go_upto_region 7 with (at_make; refine wpList_make_own _ rfl _ _ 22 rfl (E + 1) 95 i0 _ 4 Tryd.underlying22 hi0 hz0 hz1 .i64 .i64 _ n rfl rfl rfl (by rw [hz2]; omega) (by unfold maxLen; omega) (by omega) ?_; intro w8 hown8 hgrow8; have e2 := hgrow8.cell e2 (by simp); have f2 := (hgrow8.frozen_far ⟨E, 2, none⟩ (by simpa using hz7) (by simp)).trans f2)
    obtain ⟨gg0, hgg0⟩ : ∃ g, g = w7.heap.size := ⟨_, rfl⟩
    rw [← hgg0] at hown8 ⊢
    obtain ⟨W9, hW9⟩ : ∃ W9, W9 = w8.setCell ⟨E, 2, none⟩ (.slice (some ⟨gg0, 0, none⟩) 0 n) := ⟨_, rfl⟩
    have HTO9 := Lib.hid (show RdTo rb B w W9 r4 by rw [hW9]; exact (HTO7.out.keep hgrow8 hB hrl (fun k e => by cases e)).set hB hrl (by simp; omega) _)
    have HA9 := Lib.hid (show Cells3 W9 w.heap.size (.string ⟨#[]⟩) (.int .i64 0) (.slice none 0 0) by rw [hW9]; exact (HA7.out.grown hgrow8 (by simp)).other hEA _)
    have HE9 := Lib.hid (show Cells3 W9 E (.string s) (.int .i64 tm) (.slice (some ⟨gg0, 0, none⟩) 0 n) by rw [hW9]; exact (HE7.out.grown hgrow8 (by simp)).set2 _)
    have HO9 := Lib.hid (show W9.ownsRow (E + 1) 95 4 (.slice (some ⟨gg0, 0, none⟩) 0 n) 0 (valCells []) by rw [hW9]; exact ownsRow_setCell_below hown8 (by simp) _)
    rw [← hW9]
    clear hW9 hown8 hgrow8 hgg0 e2 f2
    go_wp2_with fail
    go_loopw [23] (fun i wr => ∃ (k : Nat) (rk : Rd) (acc : List Val) (gg cp : Nat), k ≤ n ∧ i = .int .i64 k ∧ acc.length = k ∧ timesR valueR n r4 = (acc ++ (timesR valueR (n - k) rk).1, (timesR valueR (n - k) rk).2) ∧ RdTo rb B w wr rk ∧ Cells3 wr w.heap.size (.string ⟨#[]⟩) (.int .i64 0) (.slice none 0 0) ∧ Cells3 wr E (.string s) (.int .i64 tm) (.slice (some ⟨gg, 0, none⟩) k cp) ∧ wr.ownsRow (E + 1) 95 4 (.slice (some ⟨gg, 0, none⟩) k cp) k (valCells acc)) (fun i _ => n - (intOf i).toNat)
    case atStart => exact ⟨0, r4, [], gg0, n, Nat.zero_le _, rfl, rfl, rfl, HTO9.out, HA9.out, HE9.out, HO9.out⟩
    case round =>
      obtain ⟨k, rk, acc, gg, cp, hk, rfl, hacc, htm, hto, ha, he, ho⟩ := hrel
      have HACC := Lib.hid hacc
      have HTM := Lib.hid htm
      have HTO := Lib.hid hto
      have HA := Lib.hid ha
      have HE := Lib.hid he
      have HO := Lib.hid ho
      have hEl := he.lt
      have hzr := hto.grown.size
      have hgl := (ho.lt gg rfl).1
      have hgl2 := (ho.lt gg rfl).2
      clear hacc htm hto ha he ho
      by_cases hlt : k < n
      · have e2 := HE.out.c2
        have f2 := HE.out.f2
        obtain ⟨⟨⟨vk, vi, vs, vb⟩, rn⟩, hvr⟩ : ∃ x, x = valueR rk := ⟨_, rfl⟩
        have HVAL := Lib.hid (fun (W : World) (h : RdAt W rb B rk) (hb : B ≤ W.heap.size) => value_any rb B rk W h hb)
        rw [← hvr] at HVAL
        simp only [Val.v] at HVAL
        have HVR := Lib.hid hvr
        clear hvr
        have hggE : some E ≠ some gg := by intro e; injection e; omega
        have hggA : some w.heap.size ≠ some gg := by intro e; injection e; omega
        have hggr : gg ≠ rb := by omega
        have hwg : w.heap.size ≤ gg := by omega
        have hEw' : w.heap.size ≤ E := by omega
        go_wp2_with fail
        go_region_law (first
          | (refine step_append_lies _ (by rfl) _ _ _ (by rfl) (E + 1) 95 i0 _ 4 40 Tryd.underlying22 hi0 hz0 hz1 hz2 rfl (by omega) (.slice (some ⟨gg, 0, none⟩) k cp) k (valCells acc) (by rfl) (HO5.out.alloc _) ⟨_, 0, none⟩ 1 1 (Val.cells ⟨vk, vi, vs, vb⟩) (by rfl) (by rfl) (World.news_of_block (cs := #[.int .i64 vk, .int .i64 vi, .string vs, .bool vb]) (t := 95) (fr := (0, 0)) (heap_alloc_new _ _)) (by simp [Val.cells, Value.oneCell']) (by omega) (by unfold maxLen; omega) (by omega) (by simp; omega) _ rfl ?_; intro g2 cap2 w6 hown6 hgrow6 hat6 hlt6; have hE6 := (HE5.out.below ((Below.refl _ w5').alloc (Nat.le_refl _) (Obj.cells #[.int .i64 vk, .int .i64 vi, .string vs, .bool vb] 95))).grown hgrow6 hggE; have q2 := hE6.c2; have q3 := hE6.f2)
          | (go_simp; go_at_call 80; refine (HVAL.out _ (by first | exact HTO.out.at' | exact HTO.out.at'.below (Below.refl _ wr).drew) (by first | (simp; omega) | omega)).mono ?_; rintro e w5' ⟨rfl, hto5⟩; have HTO5 := Lib.hid (HTO.out.trans (RdTo.pre (Below.refl _ wr).drew hto5)); have HE5 := Lib.hid (HE.out.to (RdTo.pre (Below.refl _ wr).drew hto5) hEr); have HA5 := Lib.hid (HA.out.to (RdTo.pre (Below.refl _ wr).drew hto5) hne); have HO5 := Lib.hid (owns_to HO.out (RdTo.pre (Below.refl _ wr).drew hto5) (by omega)); have e2' := HE5.out.c2; have f2' := HE5.out.f2; have hz5 : E < w5'.heap.size := HE5.out.lt))
        all_goals
          have hb5 : Below w5'.heap.size w5' (w5'.alloc (Obj.cells #[.int .i64 vk, .int .i64 vi, .string vs, .bool vb] 95)) := (Below.refl _ w5').alloc (Nat.le_refl _) _
          have HREL := Lib.hid (show RdTo rb B w (w6.setCell ⟨E, 2, none⟩ (.slice (some ⟨g2, 0, none⟩) (k + 1) cap2)) rn from ((HTO5.out.below hb5).keep hgrow6 hB hrl (fun j e => by cases e; exact hwg)).set hB hrl hEw' _)
          have HRELA := Lib.hid (show Cells3 (w6.setCell ⟨E, 2, none⟩ (.slice (some ⟨g2, 0, none⟩) (k + 1) cap2)) w.heap.size (.string ⟨#[]⟩) (.int .i64 0) (.slice none 0 0) from ((HA5.out.below hb5).grown hgrow6 hggA).other hEA _)
          have HRELE := Lib.hid (hE6.set2 (.slice (some ⟨g2, 0, none⟩) (k + 1) cap2))
          have HRELO := Lib.hid (show (w6.setCell ⟨E, 2, none⟩ (.slice (some ⟨g2, 0, none⟩) (k + 1) cap2)).ownsRow (E + 1) 95 4 (.slice (some ⟨g2, 0, none⟩) (k + 1) cap2) (k + 1) (valCells (acc ++ [⟨vk, vi, vs, vb⟩])) by rw [valCells_snoc]; exact ownsRow_setCell_below hown6 (by simp) _)
          have HRELT := Lib.hid (show timesR valueR n r4 = ((acc ++ [⟨vk, vi, vs, vb⟩]) ++ (timesR valueR (n - (k + 1)) rn).1, (timesR valueR (n - (k + 1)) rn).2) by
            have e : n - k = (n - (k + 1)) + 1 := by omega
            rw [HTM.out, e, timesR_step, ← HVR.out])
          clear hb5 hown6 hgrow6 hat6 hlt6 hE6 q2 q3 e2' f2' hto5 e2 f2
          go_wp2_with fail
          go_roundw
          case rel => exact ⟨k + 1, rn, acc ++ [⟨vk, vi, vs, vb⟩], g2, cap2, by omega, by go_num, by rw [List.length_append, HACC.out]; rfl, HRELT.out, HREL.out, HRELA.out, HRELE.out, HRELO.out⟩
          case measure => simp [intOf]; omega
      · have HFIN := Lib.hid (show timesR valueR n r4 = (acc, rk) by
          rw [HTM.out, show n - k = 0 from by omega]
          simp [timesR])
        have hkn : k = n := by omega
        have HE0 := Lib.hid (show eventR r = (⟨s, tm, acc⟩, rk) by rw [HEV.out, HFIN.out])
        have e0 := HE.out.c0
        have e1 := HE.out.c1
        have e2 := HE.out.c2
        have a0 := HA.out.c0
        have a1 := HA.out.c1
        have a2 := HA.out.c2
        have b0 := HA.out.f0
        have b1 := HA.out.f1
        have b2 := HA.out.f2
        subst hkn
        go_wp2_with fail
        have hlen : acc.length = k := HACC.out
        refine bodyPost_ret (v := .agg #[.string s, .int .i64 tm, .slice (some ⟨gg, 0, none⟩) k cp]) (by simp [results, Tryd.results49, go_sem, a0, a1, a2]) rfl ⟨⟨gg, cp, by rw [HE0.out]; simp only [hlen], ?_⟩, ?_⟩
        · rw [HE0.out]
          simp only [hlen]
          exact own_base (ownsRow_setCell_below (ownsRow_setCell_below (ownsRow_setCell_below HO.out (by simp; omega) _) (by simp; omega) _) (by simp; omega) _) (by omega)
        · rw [HE0.out]
          exact ((HTO.out.set hB hrl (Nat.le_refl _) _).set hB hrl (Nat.le_refl _) _).set hB hrl (Nat.le_refl _) _
end Go.Proofs.YtmdhacboegmccaaDoor
