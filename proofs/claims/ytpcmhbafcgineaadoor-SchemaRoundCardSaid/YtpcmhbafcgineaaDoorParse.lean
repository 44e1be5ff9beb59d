/- Package schema, Parse at a text that spells a declaration. -/
import Derived.Test.YtpcmhbafcgineaaDoorDecl
namespace Go.Proofs.YtpcmhbafcgineaaDoor
open Go Go.RowKit

set_option maxHeartbeats 8000000 in
set_option maxRecDepth 100000 in
theorem parse_ok (t : ByteArray) (n : ByteArray) (l : List SpA) (g g0 g1 g2 ge : List UInt8) (w : World) (hres : ResAt w) (hkd : KindAt w) (ht : t.size ≤ 4096)
    (hl : l.length ≤ 16) (hgood : ∀ x ∈ l, x.Good) (hn : nameB n = true) (hnew : ∀ k (h : k < l.length), hasB ((l.map SpA.attr).take k) l[k].n = false)
    (hL : GoodL (declToks g0 g1 g2 ge n l)) (hg : g.all blankB = true) (htx : t.data.toList = g ++ spell (declToks g0 g1 g2 ge n l)) :
    Calls Tryd.prog 13 #[.string t] w fun e w' => (∃ gg cap, e = .returned (.tuple #[.agg #[.string n, .slice (some ⟨gg, 0, none⟩) l.length cap], .int .i64 0, .int .i64 0]) ∧ w'.ownsRow w.heap.size 38 2 (.slice (some ⟨gg, 0, none⟩) l.length cap) l.length (attrCells (l.map SpA.attr))) ∧ Below w.heap.size w w' := by
  obtain ⟨p0, hp0⟩ : ∃ p0, p0 = skipB t (0 + 0) := ⟨_, rfl⟩
  have hat : AtL t p0 (declToks g0 g1 g2 ge n l) := by
    rw [hp0]
    exact AtL.skip (Nat.zero_le _) (by simpa using htx) hg hL
  have htm : t.size ≤ maxLen := by unfold maxLen; omega
  obtain ⟨W0, hW0⟩ : ∃ W0, W0 = (w.alloc (Obj.cells #[Value.string ⟨#[]⟩, Value.slice none 0 0] 27)).alloc (Obj.cells #[Value.string t, Value.int .i64 0] 65) := ⟨_, rfl⟩
  have HB0 := Lib.hid (show Below w.heap.size w W0 by rw [hW0]; exact ((Below.refl _ _).alloc (Nat.le_refl _) _).alloc (by simp) _)
  have hz0 : w.heap.size + 2 = W0.heap.size := by rw [hW0]; simp
  have hy : W0.heap[w.heap.size + 1]? = some (Obj.cells #[Value.string t, Value.int .i64 0] 65 (0, 0)) := by
    have := heap_alloc_new (w.alloc (Obj.cells #[Value.string ⟨#[]⟩, Value.slice none 0 0] 27)) (Obj.cells #[Value.string t, Value.int .i64 0] 65)
    rw [World.size_alloc] at this
    rw [hW0]
    exact this
  have hy1 : W0.heap[w.heap.size]? = some (Obj.cells #[Value.string ⟨#[]⟩, Value.slice none 0 0] 27 (0, 0)) := by
    rw [hW0, Below.heap_alloc _ _ _ (by simp)]
    exact heap_alloc_new w _
  have hr : ReadAt W0 (w.heap.size + 1) t 0 := ⟨by simp [World.cell?, hy], by simp [World.cell?, hy], by simp [World.frozen?, hy]⟩
  have z0 : W0.cell? ⟨w.heap.size, 0, none⟩ = some (.string ⟨#[]⟩) := by simp [World.cell?, hy1]
  have z1 : W0.cell? ⟨w.heap.size, 1, none⟩ = some (.slice none 0 0) := by simp [World.cell?, hy1]
  have y0 : W0.frozen? ⟨w.heap.size, 0, none⟩ = false := by simp [World.frozen?, hy1]
  have y1 : W0.frozen? ⟨w.heap.size, 1, none⟩ = false := by simp [World.frozen?, hy1]
  have hkl := hkd.lt
  have hrl := hres.lt
  have HR0 := Lib.hid hr
  have HRes0 := Lib.hid (hres.below HB0.out)
  have HKD0 := Lib.hid (hkd.below HB0.out (Nat.le_refl _))
  have HW0 := Lib.hid hW0
  have HP0 := Lib.hid hp0
  have HN := Lib.hid hn
  have HGOOD := Lib.hid hgood
  have hne1 : 1 ≠ w.heap.size + 1 := by omega
  have hne0 : 0 ≠ w.heap.size + 1 := by omega
  have HDECL := Lib.hid (fun (W : World) (h1 : ReadTo (w.heap.size + 1) W0 W p0) => declaration_ok t p0 (w.heap.size + 1) n l g0 g1 g2 ge W (res_to h1 HRes0.out hne0) (kind_to h1 HKD0.out hne1) hne1 hne0 (h1.place HR0.out) htm hl hgood hn hnew hL hat)
  clear hres hkd hgood hn hnew hL hat htx hg hp0 hW0 hr hy hy1 hkl hrl
  go_enter Tryd.func13, Tryd.ntmps13
  go_wp2_with fail
  rw [← HW0.out]
  refine (move_any t 0 0 (w.heap.size + 1) _ HR0.out (by omega) htm).mono ?_; rintro e w2 ⟨rfl, w1, hb1, rfl⟩
  rw [← HP0.out]
  have HT := Lib.hid (ReadTo.of (rb := w.heap.size + 1) (q := p0) hb1)
  obtain ⟨w2, hw2⟩ : ∃ w2, w2 = w1.setCell ⟨w.heap.size + 1, 1, none⟩ (.int .i64 (p0 : Nat)) := ⟨_, rfl⟩
  rw [← hw2] at HT ⊢
  clear hw2 hb1
  go_wp2_with fail
  refine (HDECL.out w2 HT.out).mono ?_; rintro e w3 ⟨⟨va, cap, rfl, hown⟩, q, hto⟩
  have HT3 := Lib.hid (HT.out.trans hto)
  have HOWN := Lib.hid hown
  have z2 := HT.out.size
  have z3 := hto.size
  clear hown hto
  have z0' := (HT3.out.cell (b := w.heap.size) (o := 0) (by omega) (by omega)).trans z0
  have z1' := (HT3.out.cell (b := w.heap.size) (o := 1) (by omega) (by omega)).trans z1
  have y0' := (HT3.out.frozen (b := w.heap.size) (o := 0) (by omega)).trans y0
  have y1' := (HT3.out.frozen (b := w.heap.size) (o := 1) (by omega)).trans y1
  clear z0 z1 y0 y1
  go_wp2_with fail
  have hcat := (owned_attrs (k := l.length) (by rw [List.length_map]) HOWN.out).1
  have HAT3 := Lib.hid (hcat.below' ((Below.refl w3.heap.size w3).alloc (Nat.le_refl _) (Obj.cells #[Value.string n, Value.slice va l.length cap] 27)))
  have HO := own_any n (l.map SpA.attr) va cap _ (name_size HN.out) (by rw [List.length_map]; exact hl) (by
    intro a ha
    rw [List.mem_map] at ha
    obtain ⟨x, hx, rfl⟩ := ha
    exact name_size (attr_name (HGOOD.out x hx).name)) HAT3.out
  rw [List.length_map] at HO
  clear hcat
  refine HO.mono ?_; rintro e w4 ⟨⟨gg, cp, rfl, hown4⟩, hb4⟩
  clear HO
  have HOWN4 := Lib.hid hown4
  have hb34 : Below w3.heap.size w3 w4 := below_new hb4
  have HB34 := Lib.hid hb34
  have z4 := hb34.size
  have z0'' := (hb34.cell (p := ⟨w.heap.size, 0, none⟩) (by simp; omega)).trans z0'
  have z1'' := (hb34.cell (p := ⟨w.heap.size, 1, none⟩) (by simp; omega)).trans z1'
  have y0'' := (hb34.frozen (p := ⟨w.heap.size, 0, none⟩) (by simp; omega)).trans y0'
  have y1'' := (hb34.frozen (p := ⟨w.heap.size, 1, none⟩) (by simp; omega)).trans y1'
  clear z0' z1' y0' y1' hown4 hb4 hb34
  go_wp2_with fail
  refine bodyPost_ret (v := .tuple #[.agg #[.string n, .slice (some ⟨gg, 0, none⟩) l.length cp], .int .i64 0, .int .i64 0]) (by simp [results, Tryd.results13, go_sem, z0'', z1'']) rfl ⟨⟨gg, cp, rfl, ?_⟩, ?_⟩
  · exact ownsRow_base (ownsRow_setCell_below (ownsRow_setCell_below HOWN4.out (by simp; omega) _) (by simp; omega) _) (by simp; omega)
  · have h1 : Below w.heap.size w w3 := HB0.out.trans ((Below.setCell (Below.refl _ W0) (p := ⟨w.heap.size + 1, 1, none⟩) (by simp) _).trans (Below.mono HT3.out (by omega)))
    exact Below.setCell (Below.setCell (h1.trans (HB34.out.mono (by omega))) (Nat.le_refl _) _) (Nat.le_refl _) _
end Go.Proofs.YtpcmhbafcgineaaDoor
