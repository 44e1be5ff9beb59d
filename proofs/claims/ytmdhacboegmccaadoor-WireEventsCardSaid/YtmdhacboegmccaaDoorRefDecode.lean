/- The document's own answer: Decode, for any bytes. -/
import Derived.Test.YtmdhacboegmccaaDoorRefValue
import Derived.Test.YtmdhacboegmccaaDoorDecode
namespace Go.Proofs.YtmdhacboegmccaaDoor
open Go Go.RowKit

theorem Cells3.toF {rb B : Nat} {l : List UInt8} {w w' : World} {b : Nat} {v0 v1 v2 : Value} {r : Rd} (h : Cells3 w b v0 v1 v2) (ht : RfTo rb B l w w' r) (hne : b ≠ rb) : Cells3 w' b v0 v1 v2 := h.keep (ht.grown.block b h.lt (fun e => hne (Option.some.inj e)))
theorem RfTo.keep {rb B : Nat} {l : List UInt8} {w w' w'' : World} {r : Rd} {row : Option Nat} (h : RfTo rb B l w w' r) (hg : w'.grownBy w'' row) (hB : B ≤ w.heap.size) (hrb : rb < w.heap.size) (hr : ∀ k, row = some k → w.heap.size ≤ k) : RfTo rb B l w w'' r := by
  have hz := h.grown.size
  exact ⟨grownBy_trans h.grown hg (Or.inr (fun g e => hr g e)), h.at'.keep (hg.block rb (by omega) (fun e => by have := hr rb e.symm; omega)) (fun k hk => hg.block k (by omega) (fun e => by have := hr k e.symm; omega))⟩
theorem owns_toF {rb B : Nat} {l : List UInt8} {w w' : World} {r : Rd} {base : Nat} {e : TypeId} {size : Nat} {v : Value} {n : Nat} {xs : List Value} (h : w.ownsRow base e size v n xs) (ht : RfTo rb B l w w' r) (hb : rb < base) : w'.ownsRow base e size v n xs :=
  h.kept ht.grown (by
    cases hv : v.ownBlock with
    | none => exact Or.inl rfl
    | some g =>
      right
      intro e
      have := (h.lt g hv).1
      injection e with e
      omega)
theorem RfTo.fresh {rb B : Nat} {l : List UInt8} {w W w' : World} {r : Rd} (hb : Below w.heap.size w W) (h : RfTo rb B l W w' r) (hrb : w.heap.size ≤ rb) : Below w.heap.size w w' :=
  hb.grown h.grown hb.size (fun k e => by cases e; exact hrb)
theorem RfAt.ill {w : World} {rb B : Nat} {l : List UInt8} {r : Rd} (h : RfAt w rb B l r) (h0 : r.fault ≠ 0) : r = ⟨[], r.fault⟩ := by
  obtain ⟨_, _, _, _, _, _, _, _, _, _, h6⟩ := h.ex
  obtain ⟨rs, f⟩ := r
  simp only at h0 h6 ⊢
  rw [h6 h0]

/-- What stands when k values are read. -/
def Half (n : Nat) (r4 : Rd) (k : Nat) (rk : Rd) (acc : List Val) : Prop :=
  acc.length = k ∧ ((rk.fault = 0 ∧ timesR valueR n r4 = (acc ++ (timesR valueR (n - k) rk).1, (timesR valueR (n - k) rk).2)) ∨ (rk.fault ≠ 0 ∧ (timesR valueR n r4).2 = rk))
theorem half_start {n : Nat} {r4 : Rd} (h : r4.fault ≠ 0 → r4 = ⟨[], r4.fault⟩) : Half n r4 0 r4 [] := by
  refine ⟨rfl, ?_⟩
  by_cases h0 : r4.fault = 0
  · exact Or.inl ⟨h0, by simp⟩
  · refine Or.inr ⟨h0, ?_⟩
    have e := times_ill value_codec n r4.fault h0
    rw [← h h0] at e
    exact e
theorem half_step {n : Nat} {r4 : Rd} {k : Nat} {rk : Rd} {acc : List Val} {a : Val} (h : Half n r4 k rk acc) (hk : k < n) (h0 : rk.fault = 0) (ha : (valueR rk).2.fault = 0 → a = (valueR rk).1) (hi : (valueR rk).2.fault ≠ 0 → (valueR rk).2 = ⟨[], (valueR rk).2.fault⟩) : Half n r4 (k + 1) (valueR rk).2 (acc ++ [a]) := by
  obtain ⟨hl, h⟩ := h
  refine ⟨by rw [List.length_append, hl]; rfl, ?_⟩
  rcases h with ⟨_, ht⟩ | ⟨h1, _⟩
  · rw [show n - k = (n - (k + 1)) + 1 by omega, timesR_step] at ht
    by_cases hv : (valueR rk).2.fault = 0
    · exact Or.inl ⟨hv, by rw [ha hv]; exact ht⟩
    · refine Or.inr ⟨hv, ?_⟩
      have e := times_ill value_codec (n - (k + 1)) (valueR rk).2.fault hv
      rw [← hi hv] at e
      rw [ht]
      exact e
  · exact absurd h0 h1
theorem half_end {n : Nat} {r4 : Rd} {rk : Rd} {acc : List Val} (h : Half n r4 n rk acc) (h0 : rk.fault = 0) : timesR valueR n r4 = (acc, rk) := by
  rcases h.2 with ⟨_, ht⟩ | ⟨h1, _⟩
  · rw [ht, Nat.sub_self]
    simp [timesR]
  · exact absurd h0 h1
theorem half_bad {n : Nat} {r4 : Rd} {k : Nat} {rk : Rd} {acc : List Val} (h : Half n r4 k rk acc) (h0 : rk.fault ≠ 0) : (timesR valueR n r4).2 = rk := by
  rcases h.2 with ⟨h1, _⟩ | ⟨_, h1⟩
  · exact absurd h1 h0
  · exact h1

/-- What stands within Decode: the reader, the result's block, the event's block E. -/
structure DecAt (w : World) (rb E B : Nat) (l : List UInt8) (W : World) (r : Rd) (v0 v1 v2 : Value) : Prop where
  below : Below w.heap.size w W
  at' : RfAt W rb B l r
  A : Cells3 W w.heap.size (.string ⟨#[]⟩) (.int .i64 0) (.slice none 0 0)
  e : Cells3 W E v0 v1 v2
  geo : w.heap.size < rb ∧ rb < E ∧ B ≤ w.heap.size
theorem DecAt.to {w W W' : World} {rb E B : Nat} {l : List UInt8} {r r' : Rd} {v0 v1 v2 : Value} (h : DecAt w rb E B l W r v0 v1 v2) (ht : RfTo rb B l W W' r') : DecAt w rb E B l W' r' v0 v1 v2 := by
  have hg := h.geo
  exact ⟨h.below.grown ht.grown h.below.size (fun k e => by cases e; omega), ht.at', h.A.toF ht (by omega), h.e.toF ht (by omega), hg⟩
theorem DecAt.post {w W W' : World} {rb E B : Nat} {l : List UInt8} {r : Rd} {v0 v1 v2 : Value} (h : DecAt w rb E B l W r v0 v1 v2) (hb : Below W.heap.size W W') : DecAt w rb E B l W' r v0 v1 v2 :=
  ⟨h.below.trans (hb.mono h.below.size), h.at'.below hb, h.A.below hb, h.e.below hb, h.geo⟩
theorem DecAt.grown {w W W' : World} {rb E B : Nat} {l : List UInt8} {r : Rd} {v0 v1 v2 : Value} {row : Option Nat} (h : DecAt w rb E B l W r v0 v1 v2) (hg : W.grownBy W' row) (hr : ∀ k, row = some k → E < k) : DecAt w rb E B l W' r v0 v1 v2 := by
  have hge := h.geo
  have h1 := h.at'.lt
  have h2 := h.below.size
  exact ⟨h.below.grown hg h2 (fun k e => by have := hr k e; omega), h.at'.keep (hg.block rb h1 (fun e => by have := hr _ e.symm; omega)) (fun k hk => hg.block k (by omega) (fun e => by have := hr _ e.symm; omega)), h.A.grown hg (fun e => by have := hr _ e.symm; omega), h.e.grown hg (fun e => by have := hr _ e.symm; omega), hge⟩
theorem DecAt.set {w W : World} {rb E B : Nat} {l : List UInt8} {r : Rd} {v0 v1 v2 : Value} (h : DecAt w rb E B l W r v0 v1 v2) (o : Nat) (x : Value) {u0 u1 u2 : Value} (he : Cells3 (W.setCell ⟨E, o, none⟩ x) E u0 u1 u2) : DecAt w rb E B l (W.setCell ⟨E, o, none⟩ x) r u0 u1 u2 := by
  have hg := h.geo
  exact ⟨h.below.setCell (p := ⟨E, o, none⟩) (by simp only; omega) _, h.at'.keep (Below.heap_setCell _ _ _ _ (by simp only; omega)) (fun k hk => Below.heap_setCell _ _ _ _ (by simp only; omega)), h.A.other (a := ⟨E, o, none⟩) (by simp only; omega) x, he, hg⟩

theorem owned_form3 {w : World} {base e size n : Nat} {v : Value} {xs : List Value} (h : w.ownsRow base e size v n xs) : ∃ va cap, v = .slice va n cap := by
  rcases h.2 with ⟨e, h0⟩ | ⟨g, cap', cur, e, _⟩
  · exact ⟨none, 0, by rw [e, h0]⟩
  · exact ⟨_, _, e⟩
/-- What Decode answers. -/
def DecTo (l : List UInt8) (w : World) (en : Ending) (w' : World) : Prop :=
  ((eventR ⟨l, 0⟩).2.fault = 0 ∧ ∃ va c, en = .returned (.tuple #[.agg #[.string (eventR ⟨l, 0⟩).1.ty, .int .i64 (eventR ⟨l, 0⟩).1.time, .slice va (eventR ⟨l, 0⟩).1.vals.length c], .int .i64 ((l.length : Int) - ((eventR ⟨l, 0⟩).2.rest.length : Int)), .int .i64 0]) ∧ w'.ownsRow w.heap.size 95 4 (.slice va (eventR ⟨l, 0⟩).1.vals.length c) (eventR ⟨l, 0⟩).1.vals.length (valCells (eventR ⟨l, 0⟩).1.vals)) ∨
  ((eventR ⟨l, 0⟩).2.fault ≠ 0 ∧ en = .returned (.tuple #[.agg #[.string ⟨#[]⟩, .int .i64 0, .slice none 0 0], .int .i64 0, .int .i64 (eventR ⟨l, 0⟩).2.fault]))

set_option maxHeartbeats 8000000 in
set_option maxRecDepth 100000 in
theorem refDecode_any (l : List UInt8) (ao : Option Addr) (cap : Nat) (w : World) (hb : BytesAt w ao l) (hlc : l.length ≤ cap) (hcm : cap ≤ maxLen) :
    Calls Tryd.prog 29 #[.slice ao l.length cap] w fun en w' => DecTo l w en w' ∧ Below w.heap.size w w' := by
  obtain ⟨i0, hi0, hz0, hz1, hz2⟩ := info_parts Tryd.infoVal
  obtain ⟨B, hBe⟩ : ∃ B, B = w.heap.size := ⟨_, rfl⟩
  obtain ⟨W1, hW1⟩ : ∃ W1, W1 = ((w.alloc (Obj.cells #[.string ⟨#[]⟩, .int .i64 0, .slice none 0 0] 24)).alloc (Obj.cells #[.slice ao l.length cap, .int .i64 0, .int .i64 0] 101)).alloc (Obj.cells #[.string ⟨#[]⟩, .int .i64 0, .slice none 0 0] 24) := ⟨_, rfl⟩
  have hb1 : Below w.heap.size w W1 := by rw [hW1]; exact (((Below.refl _ _).alloc (Nat.le_refl _) _).alloc (by simp) _).alloc (by simp; omega) _
  have hz1' : w.heap.size + 1 + 1 + 1 = W1.heap.size := by rw [hW1]; simp
  have hyA : W1.heap[w.heap.size]? = some (Obj.cells #[.string ⟨#[]⟩, .int .i64 0, .slice none 0 0] 24 (0, 0)) := by
    rw [hW1, Below.heap_alloc _ _ _ (by simp; omega), Below.heap_alloc _ _ _ (by simp)]
    exact heap_alloc_new w _
  have hyR : W1.heap[w.heap.size + 1]? = some (Obj.cells #[.slice ao l.length cap, .int .i64 0, .int .i64 0] 101 (0, 0)) := by
    rw [hW1, Below.heap_alloc _ _ _ (by simp)]
    have := heap_alloc_new (w.alloc (Obj.cells #[.string ⟨#[]⟩, .int .i64 0, .slice none 0 0] 24)) (Obj.cells #[.slice ao l.length cap, .int .i64 0, .int .i64 0] 101)
    rw [World.size_alloc] at this
    exact this
  have hyE : W1.heap[w.heap.size + 1 + 1]? = some (Obj.cells #[.string ⟨#[]⟩, .int .i64 0, .slice none 0 0] 24 (0, 0)) := by
    have := heap_alloc_new ((w.alloc (Obj.cells #[.string ⟨#[]⟩, .int .i64 0, .slice none 0 0] 24)).alloc (Obj.cells #[.slice ao l.length cap, .int .i64 0, .int .i64 0] 101)) (Obj.cells #[.string ⟨#[]⟩, .int .i64 0, .slice none 0 0] 24)
    rw [World.size_alloc, World.size_alloc] at this
    rw [hW1]
    exact this
  have hr1 : RfAt W1 (w.heap.size + 1) B l ⟨l, 0⟩ := by
    refine ⟨⟨ao, cap, 0, by simp [World.cell?, hyR], by simp [World.cell?, hyR], hlc, hcm, Nat.zero_le _, ?_, fun _ => rfl, fun e => absurd rfl e⟩, by simp [World.cell?, hyR], by simp [World.frozen?, hyR], by simp [World.frozen?, hyR]⟩
    rcases hb with h | ⟨b, o, rfl, h⟩
    · exact Or.inl h
    · cases l with
      | nil => exact Or.inl rfl
      | cons x l =>
        have hl := World.block_lt_of_cell? w _ (h 0 (by simp))
        simp only at hl
        exact Or.inr ⟨b, o, rfl, by omega, by omega, fun i hi => (hb1.cell (p := ⟨b, o + i, none⟩) hl).trans (h i hi)⟩
  have HR1 := Lib.hid hr1
  have HA1 := Lib.hid (Cells3.of hyA)
  have HE1 := Lib.hid (Cells3.of hyE)
  have HB1 := Lib.hid hb1
  have HW1 := Lib.hid hW1
  clear hb hb1 hyA hyR hyE hr1 hW1
  obtain ⟨rb, hrb⟩ : ∃ rb, rb = w.heap.size + 1 := ⟨_, rfl⟩
  obtain ⟨E, hE⟩ : ∃ E, E = w.heap.size + 1 + 1 := ⟨_, rfl⟩
  rw [← hrb] at HR1
  rw [← hE] at HE1
  have HRB := Lib.hid hrb
  have HEE := Lib.hid hE
  have hBw : B ≤ W1.heap.size := by omega
  have hrl : rb < W1.heap.size := by omega
  have hne : w.heap.size ≠ rb := by omega
  have hEr : E ≠ rb := by omega
  have hEA : w.heap.size ≠ E := by omega
  have hwE : w.heap.size < E := by omega
  have hrE : rb < E := by omega
  have hE1 : E + 1 = W1.heap.size := by omega
  have hgeo : w.heap.size < rb ∧ rb < E ∧ B ≤ w.heap.size := by omega
  have hwr : w.heap.size ≤ rb := by omega
  clear hrb hE hBe
  obtain ⟨⟨s, r1⟩, h1⟩ : ∃ x, textR 1 32 ⟨l, 0⟩ = x := ⟨_, rfl⟩
  obtain ⟨r2, h2⟩ : ∃ x, (if nameB s = true then r1 else r1.refuse 31) = x := ⟨_, rfl⟩
  obtain ⟨⟨tm, r3⟩, h3⟩ : ∃ x, numberR 0 4611686018427387904 r2 = x := ⟨_, rfl⟩
  obtain ⟨⟨c, r4⟩, h4⟩ : ∃ x, numberR 0 16 r3 = x := ⟨_, rfl⟩
  have hc := numberR_lo 0 16 (by omega) r3
  rw [h4] at hc
  simp only at hc
  obtain ⟨n, rfl⟩ : ∃ n : Nat, c = (n : Int) := ⟨c.toNat, by omega⟩
  have hn16 : n ≤ 16 := by omega
  have hev := eventR_eq ⟨l, 0⟩ s r1 r3 r4 tm n h1 (by rw [h2]; exact h3) h4
  rw [Int.toNat_natCast] at hev
  have HEV := Lib.hid hev
  have H1 := Lib.hid h1
  have H2 := Lib.hid h2
  have H3 := Lib.hid h3
  have H4 := Lib.hid h4
  clear h1 h2 h3 h4 hc hev
  go_enter Tryd.func29, Tryd.ntmps29
  go_upto_region 3 with fail
  rw [← HW1.out, ← HEE.out, ← HRB.out]
  go_wp2_with fail
  (with_reducible refine (refText_any rb B l ⟨l, 0⟩ 1 32 W1 HR1.out (by omega) (by omega)).mono ?_); rintro e w1 ⟨rfl, hto1⟩
  rw [H1.out] at hto1 ⊢
  have HD1 := Lib.hid ((show DecAt w rb E B l W1 ⟨l, 0⟩ (.string ⟨#[]⟩) (.int .i64 0) (.slice none 0 0) from ⟨HB1.out, HR1.out, HA1.out, HE1.out, hgeo⟩).to hto1)
  have e0 := HD1.out.e.c0
  have f0 := HD1.out.e.f0
  clear hto1
  simp only
  go_upto_region 4 with fail
  obtain ⟨W2, hW2⟩ : ∃ W2, W2 = w1.setCell ⟨E, 0, none⟩ (.string s) := ⟨_, rfl⟩
  rw [← hW2]
  have HD2 := Lib.hid (show DecAt w rb E B l W2 r1 (.string s) (.int .i64 0) (.slice none 0 0) by rw [hW2]; exact HD1.out.set 0 _ (HD1.out.e.set0 _))
  clear hW2 e0 f0 HD1
  have c2 := HD2.out.at'.c2
  have e0 := HD2.out.e.c0
  have f1 := HD2.out.e.f1
  have HIL2 := Lib.hid (refuse_self (r := r1) 31)
  have ways : (r1.fault == 0) = false ∨ ((r1.fault == 0) = true ∧ nameB s = true) ∨ ((r1.fault == 0) = true ∧ nameB s = false) := by
    cases (r1.fault == 0) <;> cases nameB s <;> simp
  rcases ways with hf | ⟨hf, hn⟩ | ⟨hf, hn⟩
  have HD3 := Lib.hid (show DecAt w rb E B l W2 r2 (.string s) (.int .i64 0) (.slice none 0 0) by
    have h2 := H2.out
    have hx := HIL2.out (by simpa using hf)
    have hr2 : r2 = r1 := by
      split at h2
      · exact h2.symm
      · rw [← h2]; exact hx
    rw [hr2]
    exact HD2.out)
  obtain ⟨W3, hW3⟩ : ∃ W3, W3 = W2 := ⟨_, rfl⟩
  go_upto_region 6 with fail
  rw [← hW3] at HD3 ⊢
  clear hW3 HD2 c2 e0 f1 HIL2 hf
  rotate_left
  have HN := Lib.hid hn
  have HD2' := Lib.hid (show DecAt w rb E B l W2 r2 (.string s) (.int .i64 0) (.slice none 0 0) by
    rw [← H2.out, if_pos hn]
    exact HD2.out)
  clear hn
  go_upto_region 6 with ((with_reducible refine (refName_any s _).mono ?_); rintro e W3 ⟨rfl, hb3⟩; rw [HN.out])
  have HD3 := Lib.hid (HD2'.out.post hb3)
  clear hb3 HD2 HD2' c2 e0 f1 HIL2 hf HN
  rotate_left
  have HN := Lib.hid hn
  have HR2 := Lib.hid (show r2 = r1.refuse 31 by rw [← H2.out, if_neg (by rw [hn]; decide)])
  clear hn
  go_wp2_with ((with_reducible refine (refName_any s _).mono ?_); rintro e w3 ⟨rfl, hb3⟩; rw [HN.out])
  have HD2' := Lib.hid (HD2.out.post hb3)
  have HFF := Lib.hid (refFault_any rb B l r1 31 (by decide) w3 HD2'.out.at')
  clear hb3
  (with_reducible refine HFF.out.mono ?_); rintro e W3 ⟨rfl, hto3⟩
  go_upto_region 6 with fail
  have HD3 := Lib.hid (show DecAt w rb E B l W3 r2 (.string s) (.int .i64 0) (.slice none 0 0) by rw [HR2.out]; exact HD2'.out.to hto3)
  clear hto3 HD2 HD2' c2 e0 f1 HIL2 hf HN HFF HR2
  rotate_left
  all_goals
    have HNM := Lib.hid (refNumber_any rb B l r2 0 4611686018427387904 W3 HD3.out.at')
    rw [H3.out] at HNM
    simp only at HNM
    have e1 := HD3.out.e.c1
    go_wp2_with fail
    (with_reducible refine HNM.out.mono ?_); rintro e w4 ⟨rfl, hto4⟩
    have HD4 := Lib.hid (HD3.out.to hto4)
    have f1 := HD4.out.e.f1
    have e1' := HD4.out.e.c1
    clear hto4 e1
    go_upto_region 7 with fail
    obtain ⟨W5, hW5⟩ : ∃ W5, W5 = w4.setCell ⟨E, 1, none⟩ (.int .i64 tm) := ⟨_, rfl⟩
    rw [← hW5]
    have HD5 := Lib.hid (show DecAt w rb E B l W5 r3 (.string s) (.int .i64 tm) (.slice none 0 0) by rw [hW5]; exact HD4.out.set 1 _ (HD4.out.e.set1 _))
    clear hW5 f1 e1' HD3 HD4 HNM
    have HNM := Lib.hid (refNumber_any rb B l r3 0 16 W5 HD5.out.at')
    rw [H4.out] at HNM
    simp only at HNM
    go_wp2_with fail
    (with_reducible refine HNM.out.mono ?_); rintro e w6 ⟨rfl, hto6⟩
    have HD6 := Lib.hid (HD5.out.to hto6)
    have z6 := HD6.out.below.size
    clear hto6 HD5 HNM
    go_wp2_with fail
    have hz6 : E + 1 ≤ w6.heap.size := HD6.out.e.lt
    go_loopw [8] (fun i wr => ∃ (k : Nat) (rk : Rd) (acc : List Val) (v : Value), k ≤ n ∧ i = .int .i64 k ∧ Half n r4 k rk acc ∧ DecAt w rb E B l wr rk (.string s) (.int .i64 tm) v ∧ wr.ownsRow (E + 1) 95 4 v k (valCells acc)) (fun i _ => n - (intOf i).toNat)
    case atStart => exact ⟨0, r4, [], .slice none 0 0, Nat.zero_le _, rfl, half_start HD6.out.at'.ill, HD6.out, World.ownsRow_nil _ _ _ _⟩
    case round =>
      obtain ⟨k, rk, acc, v, hk, rfl, hhalf, hd, hown⟩ := hrel
      have HH := Lib.hid hhalf
      have HD := Lib.hid hd
      have HO := Lib.hid hown
      have zr := hd.below.size
      have hEl := hd.e.lt
      have k0 : (0 : Int) ≤ (k : Int) := by omega
      clear hhalf hd hown
      have hfc := HD.out.at'.c2
      have a0 := HD.out.A.c0
      have a1 := HD.out.A.c1
      have a2 := HD.out.A.c2
      have b0 := HD.out.A.f0
      have b1 := HD.out.A.f1
      have b2 := HD.out.A.f2
      cases hf : (rk.fault == 0)
      case false =>
        have hf2 : (rk.fault != 0) = true := by simp [bne, hf]
        have HEF := Lib.hid (show (eventR ⟨l, 0⟩).2.fault ≠ 0 ∧ Ending.returned (.tuple #[.agg #[.string ⟨#[]⟩, .int .i64 0, .slice none 0 0], .int .i64 0, .int .i64 rk.fault]) = .returned (.tuple #[.agg #[.string ⟨#[]⟩, .int .i64 0, .slice none 0 0], .int .i64 0, .int .i64 (eventR ⟨l, 0⟩).2.fault]) by
          have h0 : rk.fault ≠ 0 := by simpa using hf
          have e : (eventR ⟨l, 0⟩).2 = rk := by rw [HEV.out]; exact half_bad HH.out h0
          rw [e]
          exact ⟨h0, rfl⟩)
        by_cases hlt : k < n
        · have k1 : (k : Int) < (n : Int) := by omega
          go_wp2_with fail
          go_region
          all_goals
            go_wp2_with fail
            refine bodyPost_ret (v := .tuple #[.agg #[.string ⟨#[]⟩, .int .i64 0, .slice none 0 0], .int .i64 0, .int .i64 rk.fault]) (by simp [results, Tryd.results29, go_sem, a0, a1, a2]) rfl ⟨Or.inr ⟨HEF.out.1, HEF.out.2⟩, ?_⟩
            exact (((HD.out.below.setCell (Nat.le_refl _) _).setCell (Nat.le_refl _) _).setCell (Nat.le_refl _) _).drew
        · have k1 : ¬ (k : Int) < (n : Int) := by omega
          go_wp2_with fail
          go_region
          all_goals
            go_wp2_with fail
            refine bodyPost_ret (v := .tuple #[.agg #[.string ⟨#[]⟩, .int .i64 0, .slice none 0 0], .int .i64 0, .int .i64 rk.fault]) (by simp [results, Tryd.results29, go_sem, a0, a1, a2]) rfl ⟨Or.inr ⟨HEF.out.1, HEF.out.2⟩, ?_⟩
            exact (((HD.out.below.setCell (Nat.le_refl _) _).setCell (Nat.le_refl _) _).setCell (Nat.le_refl _) _).drew
      case true =>
        have h0 : rk.fault = 0 := by simpa using hf
        have hf2 : (rk.fault != 0) = false := by simp [bne, hf]
        by_cases hlt : k < n
        · have k1 : (k : Int) < (n : Int) := by omega
          have HVAL := Lib.hid (fun (W : World) (h : RfAt W rb B l rk) (hB : B ≤ W.heap.size) => (refValue_any rb B l rk W h hB).mono (R' := fun en w' => (∃ vk vi vs vb, en = .returned (.agg #[.int .i64 vk, .int .i64 vi, .string vs, .bool vb]) ∧ ((valueR rk).2.fault = 0 → (⟨vk, vi, vs, vb⟩ : Val) = (valueR rk).1)) ∧ RfTo rb B l W w' (valueR rk).2) (fun en w' h => ⟨by obtain ⟨⟨⟨vk, vi, vs, vb⟩, e, h⟩, _⟩ := h; exact ⟨vk, vi, vs, vb, e, h⟩, h.2⟩))
          have H0 := Lib.hid h0
          have hrow : ∀ j, v.ownBlock = some j → E < j := fun j hj => by have := (HO.out.lt j hj).1; omega
          have HROW := Lib.hid hrow
          have e2 := HD.out.e.c2
          have f2 := HD.out.e.f2
          have hBr : B ≤ wr.heap.size := by omega
          clear h0 hrow a0 a1 a2 b0 b1 b2 hf2
          go_wp2_with fail
          go_region_law (first
            | (refine step_append_lies _ (by rfl) _ _ _ (by rfl) (E + 1) 95 i0 _ 4 40 Tryd.underlying22 hi0 hz0 hz1 hz2 rfl (by omega) v k (valCells acc) (by rfl) (HO5.out.alloc _) ⟨_, 0, none⟩ 1 1 (Val.cells ⟨vk, vi, vs, vb⟩) (by rfl) (by rfl) (World.news_of_block (cs := #[.int .i64 vk, .int .i64 vi, .string vs, .bool vb]) (t := 95) (fr := (0, 0)) (heap_alloc_new _ _)) (by simp [Val.cells, Value.oneCell']) (by omega) (by unfold maxLen; omega) (by omega) (by simp; omega) _ rfl ?_; intro g2 cap2 w6' hown6 hgrow6 hat6 hlt6; have HDD := Lib.hid ((HD5.out.post ((Below.refl _ w5').alloc (Nat.le_refl _) (Obj.cells #[.int .i64 vk, .int .i64 vi, .string vs, .bool vb] 95))).grown hgrow6 HROW.out); have q2 := HDD.out.e.c2; have q3 := HDD.out.e.f2)
            | (go_simp; go_at_call 60; refine (HVAL.out _ (by first | exact HD.out.at' | exact HD.out.at'.below (Below.refl _ wr).drew) (by first | (simp; omega) | omega)).mono ?_; rintro e w5' ⟨⟨vk, vi, vs, vb, rfl, hav⟩, hto5⟩; have hto5' := RfTo.pre (Below.refl _ wr).drew hto5; have HD5 := Lib.hid (HD.out.to hto5'); have HO5 := Lib.hid (owns_toF HO.out hto5' (by omega)); have e2' := HD5.out.e.c2; have f2' := HD5.out.e.f2; have hz5 : E < w5'.heap.size := HD5.out.e.lt))
          all_goals
            have HREL := Lib.hid (HDD.out.set 2 (.slice (some ⟨g2, 0, none⟩) (k + 1) cap2) (HDD.out.e.set2 _))
            have HRELO := Lib.hid (show (w6'.setCell ⟨E, 2, none⟩ (.slice (some ⟨g2, 0, none⟩) (k + 1) cap2)).ownsRow (E + 1) 95 4 (.slice (some ⟨g2, 0, none⟩) (k + 1) cap2) (k + 1) (valCells (acc ++ [⟨vk, vi, vs, vb⟩])) by rw [valCells_snoc]; exact ownsRow_setCell_below hown6 (by simp) _)
            have HST := Lib.hid (half_step HH.out hlt H0.out hav HD5.out.at'.ill)
            clear hown6 hgrow6 hat6 hlt6 q2 q3 e2' f2' hto5 hto5' e2 f2 hav
            go_wp2_with fail
            go_roundw
            case rel => exact ⟨k + 1, (valueR rk).2, acc ++ [⟨vk, vi, vs, vb⟩], .slice (some ⟨g2, 0, none⟩) (k + 1) cap2, by omega, by go_num, HST.out, HREL.out, HRELO.out⟩
            case measure => simp [intOf]; omega
        · have k1 : ¬ (k : Int) < (n : Int) := by omega
          obtain rfl : k = n := by omega
          obtain ⟨ao', cap', p, c0, c1, hp1, hp2, hp3, _, hp5, _⟩ := HD.out.at'.ex
          obtain ⟨vo, vc, rfl⟩ := owned_form3 HO.out
          have HLEN := Lib.hid (show acc.length = k from HH.out.1)
          have HEF := Lib.hid (fun (W : World) (hw : W.ownsRow w.heap.size 95 4 (.slice vo k vc) k (valCells acc)) => (show (eventR ⟨l, 0⟩).2.fault = 0 ∧ ∃ va c, Ending.returned (.tuple #[.agg #[.string s, .int .i64 tm, .slice vo k vc], .int .i64 (p : Int), .int .i64 0]) = .returned (.tuple #[.agg #[.string (eventR ⟨l, 0⟩).1.ty, .int .i64 (eventR ⟨l, 0⟩).1.time, .slice va (eventR ⟨l, 0⟩).1.vals.length c], .int .i64 ((l.length : Int) - ((eventR ⟨l, 0⟩).2.rest.length : Int)), .int .i64 0]) ∧ W.ownsRow w.heap.size 95 4 (.slice va (eventR ⟨l, 0⟩).1.vals.length c) (eventR ⟨l, 0⟩).1.vals.length (valCells (eventR ⟨l, 0⟩).1.vals) by
            have e := half_end HH.out h0
            rw [e] at HEV
            rw [HEV.out]
            simp only [HLEN.out]
            refine ⟨h0, vo, vc, ?_, hw⟩
            rw [hp5 h0, List.length_drop, show (l.length : Int) - ((l.length - p : Nat) : Int) = (p : Int) by omega]))
          clear hp5 h0
          have e0 := HD.out.e.c0
          have e1 := HD.out.e.c1
          have e2 := HD.out.e.c2
          go_wp2_with fail
          go_region
          all_goals
            go_wp2_with fail
            refine bodyPost_ret (v := .tuple #[.agg #[.string s, .int .i64 tm, .slice vo k vc], .int .i64 (p : Int), .int .i64 0]) (by simp [results, Tryd.results29, go_sem, a0, a1, a2]) rfl ⟨Or.inl (HEF.out _ ?_), ?_⟩
            · exact own_base (ownsRow_setCell_below (ownsRow_setCell_below (ownsRow_setCell_below HO.out (a := ⟨w.heap.size, 0, none⟩) (by simp; omega) _) (a := ⟨w.heap.size, 1, none⟩) (by simp; omega) _) (a := ⟨w.heap.size, 2, none⟩) (by simp; omega) _) (by omega)
            · exact (((HD.out.below.setCell (Nat.le_refl _) _).setCell (Nat.le_refl _) _).setCell (Nat.le_refl _) _).drew
end Go.Proofs.YtmdhacboegmccaaDoor
