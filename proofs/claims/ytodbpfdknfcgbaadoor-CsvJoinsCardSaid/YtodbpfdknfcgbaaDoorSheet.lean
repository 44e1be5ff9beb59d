/- The document's own sheet: what it is in memory, and its endCell and endRow. -/
import Derived.Test.YtodbpfdknfcgbaaDoorRefPure
namespace Go.Proofs.YtodbpfdknfcgbaaDoor
open Go Go.RowKit

/-- Two rows of different types are of different blocks. -/
theorem owns_ne {w : World} {B C e e' s s' n n' : Nat} {v v' : Value} {xs xs' : List Value} (h : w.ownsRow B e s v n xs) (h' : w.ownsRow C e' s' v' n' xs') (he : e ≠ e') : v.ownBlock = none ∨ v.ownBlock ≠ v'.ownBlock := by
  rcases h.2 with ⟨rfl, _⟩ | ⟨g, cap, cur, rfl, _, hg, _⟩
  · exact Or.inl rfl
  · rcases h'.2 with ⟨rfl, _⟩ | ⟨g', cap', cur', rfl, _, hg', _⟩
    · exact Or.inr (by simp [Value.ownBlock])
    · refine Or.inr fun e1 => ?_
      have e2 : g = g' := Option.some.inj e1
      subst e2
      rw [hg] at hg'
      injection hg' with hg'
      injection hg' with _ h2 _
      exact he h2
/-- A block of four cells. -/
def Four (w : World) (b : Nat) (T : TypeId) (v0 v1 v2 v3 : Value) : Prop := w.heap[b]? = some (.cells #[v0, v1, v2, v3] T (0, 0))
theorem Four.lt {w : World} {b : Nat} {T : TypeId} {v0 v1 v2 v3 : Value} (h : Four w b T v0 v1 v2 v3) : b < w.heap.size := (Array.getElem?_eq_some_iff.1 h).1
theorem Four.cells {w : World} {b : Nat} {T : TypeId} {v0 v1 v2 v3 : Value} (h : Four w b T v0 v1 v2 v3) : w.cell? ⟨b, 0, none⟩ = some v0 ∧ w.cell? ⟨b, 1, none⟩ = some v1 ∧ w.cell? ⟨b, 2, none⟩ = some v2 ∧ w.cell? ⟨b, 3, none⟩ = some v3 ∧ w.frozen? ⟨b, 0, none⟩ = false ∧ w.frozen? ⟨b, 1, none⟩ = false ∧ w.frozen? ⟨b, 2, none⟩ = false ∧ w.frozen? ⟨b, 3, none⟩ = false := by
  unfold Four at h
  refine ⟨?_, ?_, ?_, ?_, ?_, ?_, ?_, ?_⟩ <;> simp [World.cell?, World.frozen?, h]
theorem Four.kept {w w' : World} {b : Nat} {T : TypeId} {v0 v1 v2 v3 : Value} {row : Option Nat} (h : Four w b T v0 v1 v2 v3) (hg : w.grownBy w' row) (hr : some b ≠ row) : Four w' b T v0 v1 v2 v3 := (hg.block b h.lt hr).trans h
theorem Four.below {w w' : World} {b : Nat} {T : TypeId} {v0 v1 v2 v3 : Value} (h : Four w b T v0 v1 v2 v3) (hb : Below w.heap.size w w') : Four w' b T v0 v1 v2 v3 := (hb.block b h.lt).trans h
theorem Four.set {w : World} {b : Nat} {T : TypeId} {v0 v1 v2 v3 : Value} (h : Four w b T v0 v1 v2 v3) (x : Value) : Four (w.setCell ⟨b, 0, none⟩ x) b T x v1 v2 v3 ∧ Four (w.setCell ⟨b, 1, none⟩ x) b T v0 x v2 v3 ∧ Four (w.setCell ⟨b, 2, none⟩ x) b T v0 v1 x v3 ∧ Four (w.setCell ⟨b, 3, none⟩ x) b T v0 v1 v2 x := by
  unfold Four at h ⊢
  refine ⟨?_, ?_, ?_, ?_⟩ <;> simp [World.setCell, Array.getElem?_modify, h]
theorem set_grown (w : World) (b o : Nat) (x : Value) : w.grownBy (w.setCell ⟨b, o, none⟩ x) (some b) := ⟨rfl, rfl, rfl, by simp [World.setCell], fun k _ hne => Below.heap_setCell _ _ _ _ (by intro e; subst e; exact hne rfl)⟩
theorem four_owns {w : World} {B b e s n : Nat} {T : TypeId} {v0 v1 v2 v3 v : Value} {xs : List Value} (h : Four w b T v0 v1 v2 v3) (ho : w.ownsRow B e s v n xs) (he : e ≠ T) : v.ownBlock ≠ some b := by
  rcases ho.2 with ⟨rfl, _⟩ | ⟨g, cap, cur, rfl, _, hg, _⟩
  · simp [Value.ownBlock]
  · intro e1
    have e2 : g = b := Option.some.inj e1
    subst e2
    unfold Four at h
    rw [hg] at h
    injection h with h
    injection h with _ h2 _
    exact he h2
abbrev TS : TypeId := 68
/-- The sheet. -/
structure Sh (B : Nat) (w : World) (b : Nat) (acc : List RowX) (v0 : Value) (row : List (List UInt8)) (v1 : Value) (cell : List UInt8) (v2 : Value) (st : Nat) : Prop where
  four : Four w b TS v0 v1 v2 (.int .i64 st)
  lo : B ≤ b
  o0 : w.ownsRow B 27 1 v0 acc.length (rowsC acc)
  o1 : w.ownsRow B 9 1 v1 row.length (strC row)
  o2 : w.ownsRow B 5 1 v2 cell.length (bytesC cell)
  rows : ∀ x ∈ acc, ROwn B (fun g => v1.ownBlock = some g) w x
theorem Sh.drew {B b : Nat} {w : World} {acc : List RowX} {v0 v1 v2 : Value} {row : List (List UInt8)} {cell : List UInt8} {st : Nat} {w' : World} (h : Sh B w b acc v0 row v1 cell v2 st) (hb : Below w.heap.size w w') : Sh B w' b acc v0 row v1 cell v2 st :=
  ⟨h.four.below hb, h.lo, owns_below h.o0 hb, owns_below h.o1 hb, owns_below h.o2 hb, fun x hx => (h.rows x hx).kept (grownBy_of_below hb none) (fun _ h => by cases h) (fun _ _ h => h)⟩
theorem ROwn.set {B b o : Nat} {no : Nat → Prop} {w : World} {x : RowX} {T : TypeId} {v0 v1 v2 v3 : Value} (h : ROwn B no w x) (hf : Four w b T v0 v1 v2 v3) (hT : 9 ≠ T) (y : Value) : ROwn B no (w.setCell ⟨b, o, none⟩ y) x :=
  ⟨h.own.kept (set_grown w b o y) (Or.inr (four_owns hf h.own hT)), h.there⟩
theorem Sh.setSt {B b : Nat} {w : World} {acc : List RowX} {v0 v1 v2 : Value} {row : List (List UInt8)} {cell : List UInt8} {st : Nat} (h : Sh B w b acc v0 row v1 cell v2 st) (st' : Nat) : Sh B (w.setCell ⟨b, 3, none⟩ (.int .i64 st')) b acc v0 row v1 cell v2 st' :=
  ⟨(h.four.set _).2.2.2, h.lo, h.o0.kept (set_grown w b 3 _) (Or.inr (four_owns h.four h.o0 (by decide))), h.o1.kept (set_grown w b 3 _) (Or.inr (four_owns h.four h.o1 (by decide))), h.o2.kept (set_grown w b 3 _) (Or.inr (four_owns h.four h.o2 (by decide))), fun x hx => (h.rows x hx).set h.four (by decide) _⟩
/-- The cell's list turned into another one. -/
theorem Sh.setCellV {B b : Nat} {w : World} {acc : List RowX} {v0 v1 v2 v2' : Value} {row : List (List UInt8)} {cell cell' : List UInt8} {st : Nat} (h : Sh B w b acc v0 row v1 cell v2 st) (ho : w.ownsRow B 5 1 v2' cell'.length (bytesC cell')) : Sh B (w.setCell ⟨b, 2, none⟩ v2') b acc v0 row v1 cell' v2' st :=
  ⟨(h.four.set _).2.2.1, h.lo, h.o0.kept (set_grown w b 2 _) (Or.inr (four_owns h.four h.o0 (by decide))), h.o1.kept (set_grown w b 2 _) (Or.inr (four_owns h.four h.o1 (by decide))), ho.kept (set_grown w b 2 _) (Or.inr (four_owns h.four ho (by decide))), fun x hx => (h.rows x hx).set h.four (by decide) _⟩
/-- Behind an append to the row, and its store. -/
theorem Sh.rowGrown {B b g2 cap k : Nat} {w w7 : World} {acc : List RowX} {v0 v1 v2 : Value} {row row' : List (List UInt8)} {cell : List UInt8} {st : Nat} (h : Sh B w b acc v0 row v1 cell v2 st) (hg : w.grownBy w7 v1.ownBlock) (hat : v1.ownBlock = some g2 ∨ w.heap.size ≤ g2) (hk : k = row'.length) (ho : w7.ownsRow B 9 1 (.slice (some ⟨g2, 0, none⟩) k cap) k (strC row')) : Sh B (w7.setCell ⟨b, 1, none⟩ (.slice (some ⟨g2, 0, none⟩) k cap)) b acc v0 row' (.slice (some ⟨g2, 0, none⟩) k cap) cell v2 st := by
  subst hk
  have f7 := h.four.kept hg (four_owns h.four h.o1 (by decide)).symm
  have q0 := h.o0.kept hg (owns_ne h.o0 h.o1 (by decide))
  have q2 := h.o2.kept hg (owns_ne h.o2 h.o1 (by decide))
  refine ⟨(f7.set _).2.1, h.lo, q0.kept (set_grown w7 b 1 _) (Or.inr (four_owns f7 q0 (by decide))), ho.kept (set_grown w7 b 1 _) (Or.inr (four_owns f7 ho (by decide))), q2.kept (set_grown w7 b 1 _) (Or.inr (four_owns f7 q2 (by decide))), fun x hx => ?_⟩
  refine ROwn.set ((h.rows x hx).kept hg (fun g e => e) (fun g hlt hV => ?_)) f7 (by decide) _
  have e : g2 = g := Option.some.inj hV
  subst e
  rcases hat with h1 | h1
  · exact h1
  · omega
/-- Behind an append to the cell, and its store. -/
theorem Sh.cellGrown {B b : Nat} {w w7 : World} {acc : List RowX} {v0 v1 v2 v2' : Value} {row : List (List UInt8)} {cell cell' : List UInt8} {st : Nat} (h : Sh B w b acc v0 row v1 cell v2 st) (hg : w.grownBy w7 v2.ownBlock) (ho : w7.ownsRow B 5 1 v2' cell'.length (bytesC cell')) : Sh B (w7.setCell ⟨b, 2, none⟩ v2') b acc v0 row v1 cell' v2' st := by
  have f7 := h.four.kept hg (four_owns h.four h.o2 (by decide)).symm
  have q0 := h.o0.kept hg (owns_ne h.o0 h.o2 (by decide))
  have q1 := h.o1.kept hg (owns_ne h.o1 h.o2 (by decide))
  refine ⟨(f7.set _).2.2.1, h.lo, q0.kept (set_grown w7 b 2 _) (Or.inr (four_owns f7 q0 (by decide))), q1.kept (set_grown w7 b 2 _) (Or.inr (four_owns f7 q1 (by decide))), ho.kept (set_grown w7 b 2 _) (Or.inr (four_owns f7 ho (by decide))), fun x hx => ?_⟩
  obtain ⟨vg, e, hne, hlt, _⟩ := (h.rows x hx).lt
  have hk := (h.rows x hx).own.kept hg (owns_ne (h.rows x hx).own h.o2 (by decide))
  exact ROwn.set (no := fun g => v1.ownBlock = some g) ⟨hk, vg, e, hne⟩ f7 (by decide) _
theorem sh_conv {B b cb : Nat} {w : World} {acc : List RowX} {v0 v1 : Value} {row : List (List UInt8)} {cell : List UInt8} {vb : Option Addr} {st : Nat} (h : Sh B w b acc v0 row v1 cell (.slice vb cell.length cb) st) (W : World) (hb : Below w.heap.size w W) : (convert 58 9 (.slice vb cell.length cb)).run Tryd.prog W = .ok (.string ⟨cell.toArray⟩) W := conv_owned (owns_below h.o2 hb)

set_option maxHeartbeats 8000000 in
set_option maxRecDepth 100000 in
theorem endCell_any (B b : Nat) (acc : List RowX) (v0 : Value) (row : List (List UInt8)) (va : Option Addr) (ca : Nat) (cell : List UInt8) (vb : Option Addr) (cb : Nat) (st : Nat) (w : World) (h : Sh B w b acc v0 row (.slice va row.length ca) cell (.slice vb cell.length cb) st) (hB : B ≤ w.heap.size) (hrl : row.length ≤ 100000) :
    Calls Tryd.prog 24 #[.pointer (some ⟨b, 0, none⟩)] w fun e w' => e = .returned (.tuple #[]) ∧ Below B w w' ∧ ∃ va' ca', Sh B w' b acc v0 (row ++ [cell]) (.slice va' (row.length + 1) ca') [] (.slice none 0 0) 0 := by
  obtain ⟨s0, hs0, hy0, hy1, hy2⟩ := info_parts Tryd.infoStr
  obtain ⟨c0, c1, c2, c3, f0, f1, f2, f3⟩ := h.four.cells
  have hcv := sh_conv h w.drew (Below.refl _ w).drew
  have hcw := sh_conv h w (Below.refl _ w)
  obtain ⟨s, hs⟩ : ∃ s : ByteArray, s = ⟨cell.toArray⟩ := ⟨_, rfl⟩
  rw [← hs] at hcv hcw
  have HS := Lib.hid hs
  have hrow : (Value.slice va row.length ca).ownBlock ≠ some b := four_owns h.four h.o1 (by decide)
  have HROW := Lib.hid hrow
  have H := Lib.hid h
  have hbl := h.four.lt
  have hO1 := Lib.hid h.o1
  obtain ⟨n, hn⟩ : ∃ n, n = row.length := ⟨_, rfl⟩
  obtain ⟨m, hm⟩ : ∃ m, m = cell.length := ⟨_, rfl⟩
  rw [← hn] at c1 hO1 HROW H hrl ⊢
  rw [← hm] at c2 hcv hcw H
  have HN := Lib.hid hn
  have HM := Lib.hid hm
  clear h hs hrow c0 hn hm
  go_enter Tryd.func24, Tryd.ntmps24
  go_wp2_with fail
  go_region_law (first
    | (refine step_append_lies _ (by rfl) _ _ _ (by rfl) B 9 s0 _ 1 16 Tryd.underlying27 hs0 hy0 hy1 hy2 rfl (by omega) (.slice va n ca) n (strC row) (by rfl) (by first | exact hO1.out.alloc _ | exact (hO1.out.alloc _).drew | exact (hO1.out.drew).alloc _) ⟨_, 0, none⟩ 1 1 [.string s] (by rfl) (by rfl) (World.news_of_block (cs := #[.string s]) (t := 9) (fr := (0, 0)) (heap_alloc_new _ _)) (by simp [Value.oneCell']) (by omega) (by unfold maxLen; omega) (by omega) (by simp; omega) _ rfl ?_; intro g2 cap2 w7 hown7 hgrow7 hat7 hlt7; have hF7 := (H.out.four.below (by first | exact (Below.refl _ w).alloc (Nat.le_refl _) (Obj.cells #[.string s] 9) | exact ((Below.refl _ w).alloc (Nat.le_refl _) (Obj.cells #[.string s] 9)).drew)).kept hgrow7 HROW.out.symm; obtain ⟨k0, k1, k2, k3, e0, e1, e2, e3⟩ := hF7.cells))
  all_goals
    go_wp2_with fail
    have hg := grownBy_trans (grownBy_of_below (by first | exact (Below.refl _ w).alloc (Nat.le_refl _) (Obj.cells #[.string s] 9) | exact ((Below.refl _ w).alloc (Nat.le_refl _) (Obj.cells #[.string s] 9)).drew) (Value.slice va n ca).ownBlock) hgrow7 (Or.inl rfl)
    have hs1 := H.out.rowGrown (row' := row ++ [cell]) (k := n + 1) hg (by rcases hat7 with h | h; exact Or.inl h; exact Or.inr (by rw [h]; simp)) (by rw [List.length_append, HN.out]; rfl) (by rw [strC_snoc, ← HS.out]; exact hown7)
    have hs2 := (hs1.setCellV (cell' := []) (World.ownsRow_nil _ _ _ _)).setSt 0
    exact bodyPost_end (v := .tuple #[]) (by simp [results, Tryd.results24, go_sem]) rfl ⟨rfl, ((Below.setCell (Below.setCell (Below.setCell ((Below.refl B w).grown hg hB (ownBlock_lo hO1.out)) H.out.lo _) H.out.lo _) H.out.lo _)), _, _, hs2⟩
/-- Behind an append to the rows, its store, and the row's end. -/
theorem Sh.rowsGrown {B b vg ca k : Nat} {w w7 : World} {acc : List RowX} {v0 v0' v2 : Value} {row : List (List UInt8)} {cell : List UInt8} {st : Nat} (h : Sh B w b acc v0 row (.slice (some ⟨vg, 0, none⟩) row.length ca) cell v2 st) (hg : w.grownBy w7 v0.ownBlock) (hk : k = acc.length + 1) (ho : w7.ownsRow B 27 1 v0' k (rowsC (acc ++ [⟨row, some ⟨vg, 0, none⟩, ca⟩]))) : Sh B ((w7.setCell ⟨b, 0, none⟩ v0').setCell ⟨b, 1, none⟩ (.slice none 0 0)) b (acc ++ [⟨row, some ⟨vg, 0, none⟩, ca⟩]) v0' [] (.slice none 0 0) cell v2 st := by
  subst hk
  have f7 := h.four.kept hg (four_owns h.four h.o0 (by decide)).symm
  have f8 := (f7.set v0').1
  have q1 := h.o1.kept hg (owns_ne h.o1 h.o0 (by decide))
  have q2 := h.o2.kept hg (owns_ne h.o2 h.o0 (by decide))
  have ho8 := ho.kept (set_grown w7 b 0 v0') (Or.inr (four_owns f7 ho (by decide)))
  have q28 := q2.kept (set_grown w7 b 0 v0') (Or.inr (four_owns f7 q2 (by decide)))
  refine ⟨(f8.set _).2.1, h.lo, ?_, World.ownsRow_nil _ _ _ _, q28.kept (set_grown _ b 1 _) (Or.inr (four_owns f8 q28 (by decide))), ?_⟩
  · rw [List.length_append]
    exact ho8.kept (set_grown _ b 1 _) (Or.inr (four_owns f8 ho8 (by decide)))
  · have old : ∀ x ∈ acc ++ [(⟨row, some ⟨vg, 0, none⟩, ca⟩ : RowX)], ROwn B (fun _ => False) w7 x := by
      intro x hx
      rcases List.mem_append.1 hx with hx | hx
      · obtain ⟨vg', e, _, _, _⟩ := (h.rows x hx).lt
        exact ⟨(h.rows x hx).own.kept hg (owns_ne (h.rows x hx).own h.o0 (by decide)), vg', e, fun h => h⟩
      · rw [List.mem_singleton.1 hx]
        exact ⟨q1, vg, rfl, fun h => h⟩
    intro x hx
    obtain ⟨o, t⟩ := ((old x hx).set f7 (by decide) v0' (o := 0)).set f8 (by decide) (.slice none 0 0) (o := 1)
    obtain ⟨vg', e, _⟩ := t
    exact ⟨o, vg', e, by simp [Value.ownBlock]⟩

set_option maxHeartbeats 8000000 in
set_option maxRecDepth 100000 in
theorem endRow_any (B b : Nat) (acc : List RowX) (vo : Option Addr) (co : Nat) (row : List (List UInt8)) (va : Option Addr) (ca : Nat) (cell : List UInt8) (vb : Option Addr) (cb : Nat) (st : Nat) (w : World) (h : Sh B w b acc (.slice vo acc.length co) row (.slice va row.length ca) cell (.slice vb cell.length cb) st) (hB : B ≤ w.heap.size) (hrl : row.length ≤ 100000) (hal : acc.length ≤ 1000000) :
    Calls Tryd.prog 25 #[.pointer (some ⟨b, 0, none⟩)] w fun e w' => e = .returned (.tuple #[]) ∧ Below B w w' ∧ ∃ vg cg vo' co', Sh B w' b (acc ++ [⟨row ++ [cell], some ⟨vg, 0, none⟩, cg⟩]) (.slice vo' (acc.length + 1) co') [] (.slice none 0 0) [] (.slice none 0 0) 0 := by
  obtain ⟨s0, hs0, hy0, hy1, hy2⟩ := info_parts Tryd.infoRow
  have H := Lib.hid h
  clear h
  go_enter Tryd.func25, Tryd.ntmps25
  go_wp2_with fail
  refine (endCell_any B b acc _ row va ca cell vb cb st w H.out hB hrl).mono ?_; rintro e w2 ⟨rfl, hb2, va2, ca2, h2⟩
  have hzw := hb2.size
  have hB2 : B ≤ w2.heap.size := by omega
  obtain ⟨c0, c1, c2, c3, f0, f1, f2, f3⟩ := h2.four.cells
  obtain ⟨vg, rfl⟩ : ∃ g, va2 = some ⟨g, 0, none⟩ := by
    rcases owned_case (k := row.length + 1) (by have := h2.o1; rw [List.length_append] at this; exact this) with ⟨h0, _⟩ | h
    · omega
    · exact h
  have hrow : (Value.slice vo acc.length co).ownBlock ≠ some b := four_owns h2.four h2.o0 (by decide)
  have HROW := Lib.hid hrow
  have H2 := Lib.hid h2
  have HB2 := Lib.hid hb2
  have hO0 := Lib.hid h2.o0
  have hbl := h2.four.lt
  obtain ⟨n, hn⟩ : ∃ n, n = acc.length := ⟨_, rfl⟩
  rw [← hn] at c0 hO0 HROW H2 hal
  have HN := Lib.hid hn
  obtain ⟨k, hk⟩ : ∃ k, k = row.length + 1 := ⟨_, rfl⟩
  rw [← hk] at c1 H2
  have HK := Lib.hid hk
  clear h2 hrow hb2 hn hk
  go_wp2_with fail
  go_region_law (first
    | (refine step_append_lies _ (by rfl) _ _ _ (by rfl) B 27 s0 _ 1 24 Tryd.underlying22 hs0 hy0 hy1 hy2 rfl (by omega) (.slice vo n co) n (rowsC acc) (by rfl) (by first | exact hO0.out.alloc _ | exact (hO0.out.alloc _).drew | exact (hO0.out.drew).alloc _) ⟨_, 0, none⟩ 1 1 [.slice (some ⟨vg, 0, none⟩) k ca2] (by rfl) (by rfl) (World.news_of_block (cs := #[.slice (some ⟨vg, 0, none⟩) k ca2]) (t := 27) (fr := (0, 0)) (heap_alloc_new _ _)) (by simp [Value.oneCell']) (by omega) (by unfold maxLen; omega) (by omega) (by simp; omega) _ rfl ?_; intro g2 cap2 w7 hown7 hgrow7 hat7 hlt7; have hF7 := (H2.out.four.below (by first | exact (Below.refl _ w2).alloc (Nat.le_refl _) (Obj.cells #[.slice (some ⟨vg, 0, none⟩) k ca2] 27) | exact ((Below.refl _ w2).alloc (Nat.le_refl _) (Obj.cells #[.slice (some ⟨vg, 0, none⟩) k ca2] 27)).drew)).kept hgrow7 HROW.out.symm; obtain ⟨k0, k1, k2, k3, e0, e1, e2, e3⟩ := hF7.cells))
  all_goals
    go_wp2_with fail
    have hg := grownBy_trans (grownBy_of_below (by first | exact (Below.refl _ w2).alloc (Nat.le_refl _) (Obj.cells #[.slice (some ⟨vg, 0, none⟩) k ca2] 27) | exact ((Below.refl _ w2).alloc (Nat.le_refl _) (Obj.cells #[.slice (some ⟨vg, 0, none⟩) k ca2] 27)).drew) (Value.slice vo n co).ownBlock) hgrow7 (Or.inl rfl)
    have hkl : k = (row ++ [cell]).length := by rw [List.length_append, HK.out]; rfl
    have hh := H2.out
    rw [hkl] at hh
    have hs1 := hh.rowsGrown (v0' := .slice (some ⟨g2, 0, none⟩) (n + 1) cap2) (k := n + 1) hg (by rw [HN.out]) (by rw [rowsC_snoc]; rw [hkl] at hown7; exact hown7)
    refine bodyPost_end (v := .tuple #[]) (by simp [results, Tryd.results25, go_sem]) rfl ⟨rfl, (Below.setCell (Below.setCell (HB2.out.grown hg hB2 (ownBlock_lo hO0.out)) H2.out.lo _) H2.out.lo _), vg, ca2, some ⟨g2, 0, none⟩, cap2, ?_⟩
    rw [← HN.out]
    exact hs1
end Go.Proofs.YtodbpfdknfcgbaaDoor
