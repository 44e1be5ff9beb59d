/- Package schema: a catalog in memory (its map under the exact reader of its elements), New, and Declare for every catalog and every type. -/
import Derived.Test.YtepiegbmcaggdaaDoorOwn
import Derived.Maps.OwnSet
namespace Go.Proofs.YtepiegbmcaggdaaDoor
open Go Go.RowKit Go.Maps

/-- How an element of the map reads: as itself. -/
def exactR (v : Value) : Option (DataW Value × List MemPlace) := some (.held v, [])
/-- A declared type as a value. -/
def typeV (n : ByteArray) (a : Option Addr) (len cap : Nat) : Value := .agg #[.string n, .slice a len cap]
/-- The zero type. -/
def zeroT : Value := typeV ⟨#[]⟩ none 0 0
/-- A name as the map's key. -/
def keyL (n : ByteArray) : Lit := .string n.data.toList
/-- Each element has the shape of a type. -/
def Shaped (D : DataW Value) : Prop := ∀ kl v, D.atKey kl (.held zeroT) = .held v → ∃ n a l c, v = typeV n a l c
/-- The catalog at block cb, its map at block mb, of at most n types, which reads as D. -/
structure CatAt (w : World) (cb mb n : Nat) (D : DataW Value) : Prop where
  cell : w.cell? ⟨cb, 0, none⟩ = some (.map (some mb))
  owns : w.ownsMap Tryd.prog 9 exactR mb n D
  shaped : Shaped D
  ne : cb ≠ mb

theorem law : Keyed Tryd.prog 9 := string_keyed Tryd.underlying9
theorem zeroType (w : World) : (zeroValue 27).run Tryd.prog w = .ok zeroT w := by kernel_rfl

theorem CatAt.grown {w w' : World} {cb mb n : Nat} {D : DataW Value} (h : CatAt w cb mb n D) {row : Option Nat} (hg : w.grownBy w' row) (h1 : some mb ≠ row) (h2 : some cb ≠ row) : CatAt w' cb mb n D :=
  ⟨(World.cell?_of_block (hg.block cb (World.block_lt_of_cell? w _ h.cell) h2)).trans h.cell, h.owns.kept hg h1, h.shaped, h.ne⟩
theorem grown_of_below {w w' : World} (h : Below w.heap.size w w') (row : Option Nat) : w.grownBy w' row := ⟨h.os, h.tape, h.output, h.size, fun k hk _ => h.block k hk⟩
theorem CatAt.below {w w' : World} {cb mb n : Nat} {D : DataW Value} (h : CatAt w cb mb n D) (hb : Below w.heap.size w w') : CatAt w' cb mb n D :=
  h.grown (grown_of_below hb none) (by simp) (by simp)
theorem CatAt.lt {w : World} {cb mb n : Nat} {D : DataW Value} (h : CatAt w cb mb n D) : cb < w.heap.size ∧ mb < w.heap.size := ⟨World.block_lt_of_cell? w _ h.cell, h.owns.lt⟩

/-- What a look-up gives. -/
theorem CatAt.look {w : World} {cb mb n : Nat} {D : DataW Value} (h : CatAt w cb mb n D) (s : ByteArray) (hs : s.size ≤ maxLen) :
    ∃ nm a l c, (Instr.lookup 56 (.map (some mb)) (.string s) true).run Tryd.prog w = .ok (.tuple #[.agg #[.string nm, .slice a l c], .bool (Maps.has D (keyL s))]) w ∧ D.atKey (keyL s) (.held zeroT) = .held (typeV nm a l c) := by
  obtain ⟨v, ps, hrun, hv⟩ := h.owns.look_ok law Tryd.underlying56 (zeroType w) (zd := .held zeroT) (zp := []) rfl (WideMaps.keyOf_string_mk Tryd.underlying9 hs)
  have e : D.atKey (keyL s) (.held zeroT) = .held v := by
    have := (Option.some.inj hv)
    exact (congrArg Prod.fst this).symm
  obtain ⟨nm, a, l, c, rfl⟩ := h.shaped _ _ e
  exact ⟨nm, a, l, c, hrun, e⟩

/-- .. in whatever world in which the map's block is as it was. -/
theorem CatAt.look_at {w : World} {cb mb n : Nat} {D : DataW Value} (h : CatAt w cb mb n D) {s : ByteArray} (hs : s.size ≤ maxLen) {nm : ByteArray} {a : Option Addr} {l c : Nat} (e : D.atKey (keyL s) (.held zeroT) = .held (typeV nm a l c)) (W : World) (hW : W.heap[mb]? = w.heap[mb]?) :
    (Instr.lookup 56 (.map (some mb)) (.string s) true).run Tryd.prog W = .ok (.tuple #[.agg #[.string nm, .slice a l c], .bool (Maps.has D (keyL s))]) W := by
  have ho : W.ownsMap Tryd.prog 9 exactR mb n D := by
    obtain ⟨es, clock, hb, r⟩ := h.owns
    exact ⟨es, clock, hW.trans hb, r⟩
  obtain ⟨v, ps, hrun, hv⟩ := ho.look_ok law Tryd.underlying56 (zeroType W) (zd := .held zeroT) (zp := []) rfl (WideMaps.keyOf_string_mk Tryd.underlying9 hs)
  have e2 : D.atKey (keyL s) (.held zeroT) = .held v := (congrArg Prod.fst (Option.some.inj hv)).symm
  rw [e] at e2
  cases e2
  exact hrun

theorem grown_set (W : World) (b i : Nat) (v : Value) : W.grownBy (W.setCell ⟨b, i, none⟩ v) (some b) :=
  ⟨rfl, rfl, rfl, by simp [World.setCell], fun k _ hk => Below.heap_setCell _ _ _ _ (by intro e; exact hk (by rw [e]))⟩
theorem grown_trans {a b c : World} {row : Option Nat} (h : a.grownBy b row) (k : b.grownBy c row) : a.grownBy c row :=
  ⟨k.os.trans h.os, k.tape.trans h.tape, k.output.trans h.output, Nat.le_trans h.size k.size, fun i hi hr => (k.block i (Nat.lt_of_lt_of_le hi h.size) hr).trans (h.block i hi hr)⟩

theorem undrew {w w' : World} {row : Option Nat} (h : w.drew.grownBy w' row) : w.grownBy w' row := ⟨h.os, h.tape, h.output, h.size, h.block⟩
theorem ownsRow_grown {w w' : World} {base : Nat} {e : TypeId} {size g n cap m : Nat} {xs : List Value} (h : w.ownsRow base e size (.slice (some ⟨g, 0, none⟩) n cap) n xs) (hg : w.grownBy w' (some m)) (hm : m < base) : w'.ownsRow base e size (.slice (some ⟨g, 0, none⟩) n cap) n xs := by
  obtain ⟨h1, h2⟩ := h
  refine ⟨h1, ?_⟩
  rcases h2 with h2 | ⟨g', cap', cur, hv, hg', hh, r⟩
  · exact Or.inl h2
  · exact Or.inr ⟨g', cap', cur, hv, hg', (hg.block g' (Array.getElem?_eq_some_iff.1 hh).1 (by intro e; cases e; omega)).trans hh, r⟩
theorem keyL_ok (n : ByteArray) : WideAt.IsKeyLit (keyL n) := trivial
theorem Shaped.put {D : DataW Value} (h : Shaped D) (hD : IsMap D) (n : ByteArray) (k : ByteArray) (a : Option Addr) (l c : Nat) : Shaped (D.put (keyL k) (.held (typeV n a l c))) := by
  intro kl v e
  by_cases hk : kl = keyL k
  · subst hk
    rw [atKey_put_same hD (keyL_ok k)] at e
    cases e
    exact ⟨_, _, _, _, rfl⟩
  · rw [atKey_put_other hk] at e
    exact h kl v e

theorem ne_some {a b : Nat} (h : a ≠ b) : some a ≠ some b := by intro e; cases e; exact h rfl

theorem new_any (w : World) : Calls Tryd.prog 6 #[] w fun e w' => e = .returned (.pointer (some ⟨w.heap.size + 1, 0, none⟩)) ∧ CatAt w' (w.heap.size + 1) w.heap.size 0 (.map []) ∧ Below w.heap.size w w' := by
  have hmm := @run_makeMap Tryd.prog
  go_enter Tryd.func6, Tryd.ntmps6
  go_wp2
  go_ret
  refine ⟨rfl, ⟨by simp, (World.ownsMap_made w Tryd.prog 9 exactR).alloc _, ?_, by simp⟩, ((Below.refl _ _).alloc (Nat.le_refl _) _).alloc (by simp) _⟩
  intro kl v e
  cases e
  exact ⟨_, _, _, _, rfl⟩

set_option maxRecDepth 100000 in
set_option maxHeartbeats 2000000 in
theorem declare_fault (n : ByteArray) (l : List Attr) (ao : Option Addr) (cap cb : Nat) (w : World) (hr : ResAt w) (hk : KindAt w) (hcap : l.length ≤ cap) (hc : AttrsAt w ao l) (hf : faultB n l ≠ 0) :
    Calls Tryd.prog 8 #[.pointer (some ⟨cb, 0, none⟩), .agg #[.string n, .slice ao l.length cap]] w fun e w' => e = .returned (.int .i64 (faultB n l)) ∧ Below w.heap.size w w' := by
  have hfb : (faultB n l == 0) = false := by simpa using hf
  have HR := Lib.hid (hr.alloc (Obj.cells #[Value.string n, Value.slice ao l.length cap] 27))
  have HK := Lib.hid (hk.alloc (Obj.cells #[Value.string n, Value.slice ao l.length cap] 27))
  have HC := Lib.hid (hc.below' (w' := w.alloc (Obj.cells #[Value.string n, Value.slice ao l.length cap] 27)) ((Below.refl _ _).alloc (Nat.le_refl _) _))
  clear hr hk hc hf
  go_enter Tryd.func8, Tryd.ntmps8
  go_wp2_with (go_at_call 19; refine (fault_any n l ao cap _ HR.out HK.out hcap HC.out).mono ?_; rintro e w1 ⟨rfl, hb1⟩)
  go_ret
  exact ⟨rfl, below_new hb1⟩

set_option maxRecDepth 100000 in
set_option maxHeartbeats 2000000 in
theorem declare_ok (n : ByteArray) (l : List Attr) (ao : Option Addr) (cap cb mb sz : Nat) (D : DataW Value) (w : World) (hr : ResAt w) (hk : KindAt w) (hcap : l.length ≤ cap) (hc : AttrsAt w ao l) (hcat : CatAt w cb mb sz D) (hn : n.size ≤ 32) (hl : l.length ≤ 16) (hls : ∀ a ∈ l, a.1.size ≤ 32)
    (hf : faultB n l = 0) (hh : Maps.has D (keyL n) = false) (hsz : Maps.size D < 64) (hsm : sz ≤ 1000) :
    Calls Tryd.prog 8 #[.pointer (some ⟨cb, 0, none⟩), .agg #[.string n, .slice ao l.length cap]] w fun e w' => e = .returned (.int .i64 0) ∧ w.grownBy w' (some mb) ∧ ∃ g cap', CatAt w' cb mb (sz + 1) (D.put (keyL n) (.held (typeV n (some ⟨g, 0, none⟩) l.length cap'))) ∧ AttrsAt w' (some ⟨g, 0, none⟩) l ∧ l.length ≤ cap' ∧ w.heap.size ≤ g := by
  have hfb : (faultB n l == 0) = true := by simpa using hf
  have HR := Lib.hid (hr.alloc (Obj.cells #[Value.string n, Value.slice ao l.length cap] 27))
  have HK := Lib.hid (hk.alloc (Obj.cells #[Value.string n, Value.slice ao l.length cap] 27))
  have HC := Lib.hid (hc.below' (w' := w.alloc (Obj.cells #[Value.string n, Value.slice ao l.length cap] 27)) ((Below.refl _ _).alloc (Nat.le_refl _) _))
  have HCT := Lib.hid (hcat.below (w' := w.alloc (Obj.cells #[Value.string n, Value.slice ao l.length cap] 27)) ((Below.refl _ _).alloc (Nat.le_refl _) _))
  obtain ⟨hcb, hmb⟩ := hcat.lt
  have HH := Lib.hid hh
  have HF := Lib.hid hf
  clear hr hk hc hf hcat hh
  go_enter Tryd.func8, Tryd.ntmps8
  go_wp2_with (go_at_call 19; refine (fault_any n l ao cap _ HR.out HK.out hcap HC.out).mono ?_; rintro e w1 ⟨rfl, hb1⟩)
  have hct1 := HCT.out.below hb1
  obtain ⟨nm, a, ln, c, hlk, hat⟩ := hct1.look n (by unfold maxLen; omega)
  have HL := Lib.hid (hct1.look_at (by unfold maxLen; omega) hat)
  have HCT1 := Lib.hid hct1
  have g0 := hct1.cell
  have g1 := cell_new hb1 0 _ rfl
  have g2 := cell_new hb1 1 _ rfl
  have hs1 : w.heap.size + 1 ≤ w1.heap.size := by have := hb1.size; simpa using this
  clear hct1 hat
  rw [HH.out] at hlk
  go_region_held3 (fun w' => w'.cell? ⟨cb, 0, none⟩ = some (.map (some mb)) ∧ w'.cell? ⟨w.heap.size, 0, none⟩ = some (.string n) ∧ (Instr.lookup 56 (.map (some mb)) (.string n) true).run Tryd.prog w' = .ok (.tuple #[.agg #[.string nm, .slice a ln c], .bool false]) w')
    ((go_split_ands; refine ⟨by go_keep, by go_keep, ?_⟩; rw [← HH.out]; (first | exact HL.out _ rfl | exact HL.out _ (Below.heap_alloc _ _ mb (by omega)))))
    (fail)
  all_goals
    rename_i hHeld
    clear hHeld
    obtain ⟨W2, hW2⟩ : ∃ W2, W2 = (w1.alloc (Obj.cells #[Value.string nm, Value.slice a ln c] 27)).drew := ⟨_, rfl⟩
    have hb2 : Below w1.heap.size w1 W2 := by rw [hW2]; exact ((Below.refl _ _).alloc (Nat.le_refl _) _).drew
    have hs2 : w1.heap.size + 1 ≤ W2.heap.size := by rw [hW2]; simp
    have hf0 : w1.frozen? ⟨w.heap.size, 0, none⟩ = false := by rw [hb1.frozen (p := ⟨w.heap.size, 0, none⟩) (by simp)]; simp
    have hf1 : w1.frozen? ⟨w.heap.size, 1, none⟩ = false := by rw [hb1.frozen (p := ⟨w.heap.size, 1, none⟩) (by simp)]; simp
    rw [← hW2]
    have p0 := (hb2.cell (p := ⟨w.heap.size, 0, none⟩) (by simp; omega)).trans g1
    have p1 := (hb2.cell (p := ⟨w.heap.size, 1, none⟩) (by simp; omega)).trans g2
    have q0 := (hb2.frozen (p := ⟨w.heap.size, 0, none⟩) (by simp; omega)).trans hf0
    have q1 := (hb2.frozen (p := ⟨w.heap.size, 1, none⟩) (by simp; omega)).trans hf1
    have pc := (hb2.cell (p := ⟨cb, 0, none⟩) (by simp; omega)).trans g0
    have HCT2 := Lib.hid (HCT1.out.below hb2)
    have HC2 := Lib.hid ((HC.out.below' hb1).below' hb2)
    have HB2 := Lib.hid ((below_new hb1).trans (hb2.mono (by omega)))
    clear hW2 hb1 hb2 g0 g1 g2 hf0 hf1 hlk HL
    go_wp2_with (first | (at_len; refine wpList_len_own _ rfl _ 56 rfl 9 27 Tryd.underlying56 exactR mb sz D rfl HCT2.out.owns ?_) | (go_at_call 20; refine (own_any n l ao cap _ hn hl hls HC2.out).mono ?_; rintro e w3 ⟨⟨g, cp, rfl, hown3⟩, hb3⟩; have r0 := (hb3.cell (p := ⟨w.heap.size, 0, none⟩) (by simp; omega)).trans p0; have r1 := (hb3.cell (p := ⟨w.heap.size, 1, none⟩) (by simp; omega)).trans p1; have t0 := (hb3.frozen (p := ⟨w.heap.size, 0, none⟩) (by simp; omega)).trans q0; have t1 := (hb3.frozen (p := ⟨w.heap.size, 1, none⟩) (by simp; omega)).trans q1; have rc := (hb3.cell (p := ⟨cb, 0, none⟩) (by simp; omega)).trans pc))
    obtain ⟨W4, hW4⟩ : ∃ W4, W4 = (w3.setCell { block := w.heap.size, off := 0 } (Value.string n)).setCell { block := w.heap.size, off := 1 } (Value.slice (some { block := g, off := 0 }) l.length cp) := ⟨_, rfl⟩
    have hs3 : W2.heap.size ≤ w3.heap.size := hb3.size
    have HX := Lib.hid (show CatAt W4 cb mb sz D by
      rw [hW4]
      exact ((HCT2.out.below hb3).grown (grown_set w3 _ _ _) (ne_some (by omega)) (ne_some (by omega))).grown (grown_set _ _ _ _) (ne_some (by omega)) (ne_some (by omega)))
    have HBW := Lib.hid (show Below w.heap.size w W4 by
      rw [hW4]
      exact ((HB2.out.trans (hb3.mono (by omega))).setCell (Nat.le_refl _) _).setCell (Nat.le_refl _) _)
    have z0 : W4.cell? ⟨w.heap.size, 0, none⟩ = some (.string n) := by
      rw [hW4, World.cell?_setCell_other _ _ _ _ (by intro e; cases e)]
      exact World.cell?_setCell_same _ _ _ r0
    have z1 : W4.cell? ⟨w.heap.size, 1, none⟩ = some (.slice (some ⟨g, 0, none⟩) l.length cp) := by
      rw [hW4]
      exact World.cell?_setCell_same _ _ _ ((World.cell?_setCell_other _ _ _ _ (by intro e; cases e)).trans r1)
    have zc := HX.out.cell
    have HA4 := Lib.hid (show W4.ownsRow (w.heap.size + 1) 38 2 (.slice (some ⟨g, 0, none⟩) l.length cp) l.length (attrCells l) by
      rw [hW4]
      exact ownsRow_base (ownsRow_setCell_below (ownsRow_setCell_below hown3 (by first | omega | (simp; omega)) _) (by first | omega | (simp; omega)) _) (by omega))
    rw [← hW4]
    obtain ⟨w6, hup, hown6, hgr6⟩ := (show W4.drew.ownsMap Tryd.prog 9 exactR mb sz D from HX.out.owns).update law Tryd.underlying56 (by unfold maxLen; omega) (WideMaps.keyOf_string_mk Tryd.underlying9 (s := n) (by unfold maxLen; omega)) (val := .agg #[.string n, .slice (some ⟨g, 0, none⟩) l.length cp]) rfl
    have HO6 := Lib.hid hown6
    have HG6 := Lib.hid hgr6
    clear hown6 hgr6 hW4 hown3 r0 r1 t0 t1 rc hb3 p0 p1 q0 q1 pc
    go_region
    all_goals
      go_wp2
      go_ret
      have hg := undrew HG6.out
      have ho := AttrsAt.owned (ownsRow_grown HA4.out hg (by omega))
      exact ⟨rfl, grown_trans (grown_of_below HBW.out _) hg, g, cp, ⟨(World.cell?_of_block (hg.block cb (World.block_lt_of_cell? W4 _ HX.out.cell) (fun e => HX.out.ne (by injection e)))).trans HX.out.cell, HO6.out, HX.out.shaped.put HX.out.owns.isMap _ _ _ _ _, HX.out.ne⟩, ho.1, ho.2.1, by omega⟩
end Go.Proofs.YtepiegbmcaggdaaDoor
