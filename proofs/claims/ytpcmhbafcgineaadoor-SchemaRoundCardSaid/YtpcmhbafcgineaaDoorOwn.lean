/- Package schema: the copy that shares nothing with a type, for every name and every list of attributes: the same name, the same attributes, in new memory. -/
import Derived.Test.YtpcmhbafcgineaaDoorFault
import Derived.Test.YtpcmhbafcgineaaDoorShelf
import Derived.Deep.RegionHeld3
import Derived.Deep.AppendLies
namespace Go.Proofs.YtpcmhbafcgineaaDoor
open Go Go.RowKit

theorem clone_any (s : ByteArray) (w : World) (hlim : s.size ≤ 281474976710656) : Calls Tryd.prog 33 #[.string s] w fun e w' => e = .returned (.string s) ∧ Below w.heap.size w w' := by
  go_enter Tryd.func33, Tryd.ntmps33
  go_wp2_with (go_at_call 47; refine (Tryd.stringslite_Clone s _ hlim).mono ?_; rintro e w' ⟨rfl, hb⟩)
  go_ret
  exact ⟨rfl, hb⟩

/-- The cells of a list of attributes. -/
def attrCells (l : List Attr) : List Value := l.flatMap fun a => [.string a.1, .int .i64 a.2]
theorem attrCells_length : ∀ l : List Attr, (attrCells l).length = l.length * 2
  | [] => rfl
  | a :: r => by
    have := attrCells_length r
    simp only [attrCells, List.flatMap_cons, List.length_append, List.length_cons, List.length_nil] at this ⊢
    omega
theorem attrCells_take (l : List Attr) (k : Nat) (hk : k < l.length) : attrCells (l.take k) ++ [.string l[k].1, .int .i64 l[k].2] = attrCells (l.take (k + 1)) := by
  rw [List.take_succ_eq_append_getElem hk]
  simp only [attrCells, List.flatMap_append, List.flatMap_cons, List.flatMap_nil, List.append_nil]
theorem attrCells_get (l : List Attr) (i : Nat) (h : i < l.length) : (attrCells l)[i * 2]? = some (.string l[i].1) ∧ (attrCells l)[i * 2 + 1]? = some (.int .i64 l[i].2) := by
  induction l generalizing i with
  | nil => simp at h
  | cons a r ih =>
    cases i with
    | zero => simp [attrCells]
    | succ i =>
      have := ih i (by simp at h; omega)
      have e1 : (i + 1) * 2 = i * 2 + 2 := by omega
      have e2 : (i + 1) * 2 + 1 = i * 2 + 1 + 2 := by omega
      rw [e1]
      simp only [attrCells, List.flatMap_cons, List.cons_append, List.nil_append, List.getElem_cons_succ] at this ⊢
      exact ⟨this.1, this.2⟩

/-- What the call owns reads as the list. -/
theorem AttrsAt.owned {w : World} {base g cap : Nat} {l : List Attr} (h : w.ownsRow base 38 2 (.slice (some ⟨g, 0, none⟩) l.length cap) l.length (attrCells l)) : AttrsAt w (some ⟨g, 0, none⟩) l ∧ l.length ≤ cap ∧ (base ≤ g) ∧ g < w.heap.size := by
  obtain ⟨h1, h2⟩ := h
  rcases h2 with ⟨e, _⟩ | ⟨g', cap', cur, e, hb, hh, hn, hc, hs, ht⟩
  · cases e
  · cases e
    refine ⟨Or.inr ⟨g, 0, rfl, fun i hi => ?_⟩, hn, hb, (Array.getElem?_eq_some_iff.1 hh).1⟩
    have hg := attrCells_get l i hi
    rw [← ht] at hg
    rw [List.getElem?_take, List.getElem?_take, if_pos (by omega), if_pos (by omega)] at hg
    simp only [World.cell?, hh, Nat.zero_add]
    simpa using hg

theorem Tryd.infoAttr : (Tryd.prog.info? 38).map (fun i => (i.zero, i.size, i.bytes)) = some (some (.agg #[.string ⟨#[]⟩, .int .i64 0]), 2, 24) := by kernel_rfl

theorem ownsRow_below {w w' : World} {base : Nat} {e : TypeId} {size : Nat} {v : Value} {n : Nat} {xs : List Value} (h : w.ownsRow base e size v n xs) (hb : Below w.heap.size w w') : w'.ownsRow base e size v n xs := by
  obtain ⟨h1, h2⟩ := h
  refine ⟨h1, ?_⟩
  rcases h2 with h2 | ⟨g, cap, cur, hv, hg, hh, r⟩
  · exact Or.inl h2
  · exact Or.inr ⟨g, cap, cur, hv, hg, (hb.block g (Array.getElem?_eq_some_iff.1 hh).1).trans hh, r⟩
theorem ownsRow_base {w : World} {base base' : Nat} {e : TypeId} {size : Nat} {v : Value} {n : Nat} {xs : List Value} (h : w.ownsRow base e size v n xs) (hb : base' ≤ base) : w.ownsRow base' e size v n xs := by
  obtain ⟨h1, h2⟩ := h
  refine ⟨h1, ?_⟩
  rcases h2 with h2 | ⟨g, cap, cur, hv, hg, hh, r⟩
  · exact Or.inl h2
  · exact Or.inr ⟨g, cap, cur, hv, by omega, hh, r⟩
theorem ownsRow_lo {w : World} {base : Nat} {e : TypeId} {size g n cap : Nat} {xs : List Value} (h : w.ownsRow base e size (.slice (some ⟨g, 0, none⟩) n cap) n xs) : base ≤ g := by
  rcases h.2 with ⟨h2, _⟩ | ⟨g, cap, cur, hv, hg, _⟩
  · cases h2
  · cases hv; exact hg
theorem ownsRow_lt {w : World} {base : Nat} {e : TypeId} {size g n cap : Nat} {xs : List Value} (h : w.ownsRow base e size (.slice (some ⟨g, 0, none⟩) n cap) n xs) : g < w.heap.size := by
  rcases h.2 with ⟨h2, _⟩ | ⟨g, cap, cur, hv, hg, hh, _⟩
  · cases h2
  · cases hv; exact (Array.getElem?_eq_some_iff.1 hh).1
/-- The world behind the first two blocks of the call: the boxed parameter, the result's cell. -/
def ownW (w : World) (n : ByteArray) (v : Value) : World := (w.alloc (Obj.cells #[Value.string n, v] 27)).alloc (Obj.cells #[Value.string { data := #[] }, Value.slice none 0 0] 27)
theorem ownW_size (w : World) (n : ByteArray) (v : Value) : (ownW w n v).heap.size = w.heap.size + 2 := by simp [ownW]
theorem ownW_below (w : World) (n : ByteArray) (v : Value) : Below w.heap.size w (ownW w n v) := ((Below.refl _ _).alloc (Nat.le_refl _) _).alloc (by simp) _
theorem ownW_cells {w w' : World} {n : ByteArray} {v : Value} (h : Below (w.heap.size + 2) (ownW w n v) w') : w'.cell? ⟨w.heap.size, 0, none⟩ = some (.string n) ∧ w'.cell? ⟨w.heap.size, 1, none⟩ = some v ∧ w'.cell? ⟨w.heap.size + 1, 0, none⟩ = some (.string ⟨#[]⟩) ∧ w'.cell? ⟨w.heap.size + 1, 1, none⟩ = some (.slice none 0 0) ∧ w'.frozen? ⟨w.heap.size + 1, 0, none⟩ = false ∧ w'.frozen? ⟨w.heap.size + 1, 1, none⟩ = false ∧ w.heap.size + 2 ≤ w'.heap.size := by
  have hs := h.size
  rw [ownW_size] at hs
  have hy : (ownW w n v).heap[w.heap.size + 1]? = some (Obj.cells #[Value.string { data := #[] }, Value.slice none 0 0] 27) := by
    have := heap_alloc_new (w.alloc (Obj.cells #[Value.string n, v] 27)) (Obj.cells #[Value.string { data := #[] }, Value.slice none 0 0] 27)
    rwa [World.size_alloc] at this
  refine ⟨?_, ?_, ?_, ?_, ?_, ?_, hs⟩
  · rw [h.cell (p := ⟨w.heap.size, 0, none⟩) (by simp)]
    simp [ownW]
  · rw [h.cell (p := ⟨w.heap.size, 1, none⟩) (by simp)]
    simp [ownW]
  · rw [h.cell (p := ⟨w.heap.size + 1, 0, none⟩) (by simp)]
    simp [World.cell?, hy]
  · rw [h.cell (p := ⟨w.heap.size + 1, 1, none⟩) (by simp)]
    simp [World.cell?, hy]
  · rw [h.frozen (p := ⟨w.heap.size + 1, 0, none⟩) (by simp)]
    simp [World.frozen?, hy]
  · rw [h.frozen (p := ⟨w.heap.size + 1, 1, none⟩) (by simp)]
    simp [World.frozen?, hy]

set_option maxRecDepth 100000 in
set_option maxHeartbeats 2000000 in
theorem own_any (n : ByteArray) (l : List Attr) (ao : Option Addr) (cap : Nat) (w : World) (hn : n.size ≤ 32) (hl : l.length ≤ 16) (hls : ∀ a ∈ l, a.1.size ≤ 32) (hc : AttrsAt w ao l) :
    Calls Tryd.prog 20 #[.agg #[.string n, .slice ao l.length cap]] w fun e w' => (∃ g cap', e = .returned (.agg #[.string n, .slice (some ⟨g, 0, none⟩) l.length cap']) ∧ w'.ownsRow w.heap.size 38 2 (.slice (some ⟨g, 0, none⟩) l.length cap') l.length (attrCells l)) ∧ Below w.heap.size w w' := by
  obtain ⟨i0, hi0, hz0, hz1, hz2⟩ := info_parts Tryd.infoAttr
  obtain ⟨b, o, hcell⟩ : ∃ b o, ∀ i (h : i < l.length), ao = some ⟨b, o, none⟩ ∧ w.cell? ⟨b, o + i * 2, none⟩ = some (.string l[i].1) ∧ w.cell? ⟨b, o + i * 2 + 1, none⟩ = some (.int .i64 l[i].2) := by
    rcases hc with h | ⟨b, o, rfl, h⟩
    · exact ⟨0, 0, fun i hi => absurd hi (by simp [h])⟩
    · exact ⟨b, o, fun i hi => ⟨rfl, h i hi⟩⟩
  have HC := Lib.hid hcell
  have HLS := Lib.hid hls
  clear hcell hc hls
  go_enter Tryd.func20, Tryd.ntmps20
  go_wp2_with (at_make; refine wpList_make_own _ rfl _ _ 25 rfl (w.heap.size + 2) 38 i0 _ 2 Tryd.underlying25 hi0 hz0 hz1 .i64 .i64 _ l.length rfl rfl rfl (by rw [hz2]; omega) (by unfold maxLen; omega) (by simp) ?_; intro w1 hown1 hgrow1; have hb1 : Below (w.heap.size + 2) (ownW w n (.slice ao l.length cap)) w1 := (Below.refl _ _).grown hgrow1 (Nat.le_of_eq (ownW_size _ _ _).symm) (fun k hk => by cases hk); have c1 := (ownW_cells hb1).2.1)
  have HB1 := Lib.hid hb1
  have HO1 := Lib.hid (show w1.ownsRow (w.heap.size + 2) 38 2 (.slice (some ⟨w.heap.size + 1 + 1, 0, none⟩) 0 l.length) 0 [] by simpa using hown1)
  clear hb1 hown1 hgrow1 c1
  go_loopw [3, 13] (fun v i wr => ∃ k gg cp : Nat, k ≤ l.length ∧ i = .int .i64 k ∧ v = .slice (some ⟨gg, 0, none⟩) k cp ∧ wr.ownsRow (w.heap.size + 2) 38 2 (.slice (some ⟨gg, 0, none⟩) k cp) k (attrCells (l.take k)) ∧ Below (w.heap.size + 2) (ownW w n (.slice ao l.length cap)) wr) (fun _ i _ => l.length - (intOf i).toNat)
  case atStart => exact ⟨0, _, _, Nat.zero_le _, rfl, rfl, HO1.out, HB1.out⟩
  case round =>
    obtain ⟨k, gg, cp, hk, rfl, rfl, hown, hbel⟩ := hrel
    have HO := Lib.hid hown
    have HB := Lib.hid hbel
    have hsz : w.heap.size + 2 ≤ wr.heap.size := (ownW_cells hbel).2.2.2.2.2.2
    clear hown
    by_cases hlt : k < l.length
    · obtain ⟨hao, g1, g2⟩ := HC.out k hlt
      subst hao
      have hbl := World.block_lt_of_cell? w _ g1
      simp only at hbl
      have hbw := (ownW_below w n _).trans (hbel.mono (by omega))
      have d1 := (hbw.cell (p := ⟨b, o + k * 2, none⟩) hbl).trans g1
      have d2 := (hbw.cell (p := ⟨b, o + k * 2 + 1, none⟩) hbl).trans g2
      clear g1 g2 hbw hbel
      have HS := Lib.hid (HLS.out l[k] (List.getElem_mem hlt))
      have HT := Lib.hid (attrCells_take l k hlt)
      obtain ⟨⟨m, kd⟩, hm⟩ : ∃ a : Attr, a = l[k] := ⟨_, rfl⟩
      rw [← hm] at d1 d2 HS HT
      have hms : m.size ≤ 32 := HS.out
      clear hm
      have hoB : (wr.alloc (Obj.cells #[Value.string m, Value.int IntKind.i64 kd] 38)).ownsRow (w.heap.size + 2) 38 2 (.slice (some ⟨gg, 0, none⟩) k cp) k (attrCells (l.take k)) := HO.out.alloc _
      have HOB := Lib.hid hoB
      clear hoB
      have k0 : (wr.alloc (Obj.cells #[Value.string m, Value.int IntKind.i64 kd] 38)).cell? ⟨wr.heap.size, 0, none⟩ = some (.string m) := by simp
      have k1 : (wr.alloc (Obj.cells #[Value.string m, Value.int IntKind.i64 kd] 38)).cell? ⟨wr.heap.size, 1, none⟩ = some (.int .i64 kd) := by simp
      have hgl := ownsRow_lt HO.out
      have hne : some wr.heap.size ≠ some gg := by intro e; injection e; omega
      go_wp2_with fail
      go_region_held3 (fun w' => w'.cell? ⟨wr.heap.size, 0, none⟩ = some (.string m) ∧ w'.cell? ⟨wr.heap.size, 1, none⟩ = some (.int .i64 kd))
        (first
          | go_keep
          | exact ⟨r0, r1⟩
          | exact ⟨s0, s1⟩)
        ((first
          | (go_at_call 33; refine (clone_any m _ (by omega)).mono ?_; rintro e w2 ⟨rfl, hbC⟩; have hbD : Below (wr.alloc (Obj.cells #[Value.string m, Value.int IntKind.i64 kd] 38)).heap.size (wr.alloc (Obj.cells #[Value.string m, Value.int IntKind.i64 kd] 38)) w2 := (Below.refl _ _).drew.trans hbC; have r0 := (hbD.cell (p := ⟨wr.heap.size, 0, none⟩) (by simp)).trans k0; have r1 := (hbD.cell (p := ⟨wr.heap.size, 1, none⟩) (by simp)).trans k1; have hsz2 : wr.heap.size + 1 ≤ w2.heap.size := by (have := hbD.size; simpa using this))
          | (refine step_append_lies _ (by rfl) _ _ _ (by rfl) (w.heap.size + 2) 38 i0 _ 2 24 Tryd.underlying25 hi0 hz0 hz1 hz2 rfl (by omega) (.slice (some ⟨gg, 0, none⟩) k cp) k (attrCells (l.take k)) (by rfl) ((ownsRow_below HOB.out hbD).alloc _) ⟨_, 0, none⟩ 1 1 [.string m, .int .i64 kd] (by rfl) (by rfl) (World.news_of_block (cs := #[.string m, .int .i64 kd]) (t := 38) (fr := (0, 0)) (heap_alloc_new _ _)) (by simp [Value.oneCell']) (by omega) (by unfold maxLen; omega) (by omega) (by simp; omega) _ rfl ?_; intro g2 cap2 w3 hown3 hgrow3 hat3 hlt3; have s0 := (hgrow3.cell_far ⟨wr.heap.size, 0, none⟩ (by simp; omega) hne).trans ((World.cell?_alloc_lt _ _ _ (by simp; omega)).trans r0); have s1 := (hgrow3.cell_far ⟨wr.heap.size, 1, none⟩ (by simp; omega) hne).trans ((World.cell?_alloc_lt _ _ _ (by simp; omega)).trans r1))))
      go_wp2
      go_roundw
      case rel => exact ⟨k + 1, g2, cap2, by omega, by go_num, rfl, HT.out ▸ hown3, ((below_step HB.out hsz hbD).alloc (by omega) _).grown hgrow3 (by simp; omega) (fun j hj => by cases hj; exact ownsRow_lo HO.out)⟩
      case measure => simp [intOf]; omega
    · obtain rfl : k = l.length := by omega
      have hz := ownW_cells hbel
      obtain ⟨e0, e1, e2, e3, f2, f3, _⟩ := hz
      clear hbel
      go_wp2_with (go_at_call 33; refine (clone_any n _ (by omega)).mono ?_; rintro e w2 ⟨rfl, hbC⟩; have r2 := (hbC.cell (p := ⟨w.heap.size + 1, 0, none⟩) (by simp; omega)).trans e2; have r3 := (hbC.cell (p := ⟨w.heap.size + 1, 1, none⟩) (by simp; omega)).trans e3; have q2 := (hbC.frozen (p := ⟨w.heap.size + 1, 0, none⟩) (by simp; omega)).trans f2; have q3 := (hbC.frozen (p := ⟨w.heap.size + 1, 1, none⟩) (by simp; omega)).trans f3)
      have HX : w2.ownsRow (w.heap.size + 2) 38 2 (.slice (some ⟨gg, 0, none⟩) l.length cp) l.length (attrCells l) := by
        have := ownsRow_below HO.out hbC
        rwa [List.take_of_length_le (Nat.le_refl _)] at this
      exact bodyPost_ret (v := .agg #[.string n, .slice (some ⟨gg, 0, none⟩) l.length cp]) (by simp [results, Tryd.results20, go_sem, r2, r3]) rfl
        ⟨⟨gg, cp, rfl, ownsRow_base (ownsRow_setCell_below (ownsRow_setCell_below HX (by simp) _) (by simp) _) (by omega)⟩,
          (((ownW_below w n _).trans (HB.out.mono (by omega))).trans (hbC.mono (by omega))).setCell (by simp) _ |>.setCell (by simp) _⟩
end Go.Proofs.YtpcmhbafcgineaaDoor
