/- Package csv: Split, for every text. -/
import Derived.Test.YtdkddnlolnbpgaaDoorRow
namespace Go.Proofs.YtdkddnlolnbpgaaDoor
open Go Go.RowKit

theorem ReadTo.grownBy {rb : Nat} {w w' : World} {q : Nat} (h : ReadTo rb w w' q) : w.grownBy w' (some rb) :=
  ⟨h.os, h.tape, h.output, h.size, fun k hk hne => (h.block k hk).trans (Below.heap_setCell _ _ _ _ (fun e => hne (by rw [e])))⟩
/-- A row of cells as it lies in memory. -/
structure RowX where
  c : List (List UInt8)
  ao : Option Addr
  cap : Nat
def RowX.cell (x : RowX) : Value := .slice x.ao x.c.length x.cap
def rowsC (l : List RowX) : List Value := l.map RowX.cell
theorem rowsC_len (l : List RowX) : (rowsC l).length = l.length := by simp [rowsC]
def cellsOf (l : List RowX) : List (List (List UInt8)) := l.map RowX.c
theorem cellsOf_snoc (l : List RowX) (x : RowX) : cellsOf (l ++ [x]) = cellsOf l ++ [x.c] := by simp [cellsOf]
theorem rowsC_snoc (l : List RowX) (x : RowX) : rowsC (l ++ [x]) = rowsC l ++ [x.cell] := by simp [rowsC]
theorem Tryd.infoRow : (Tryd.prog.info? 28).map (fun i => (i.zero, i.size, i.bytes)) = some (some (.slice none 0 0), 1, 24) := by kernel_rfl
/-- A row that the call owns, apart from the list of the rows. -/
structure ROwn (B : Nat) (no : Nat → Prop) (w : World) (x : RowX) : Prop where
  own : w.ownsRow B 9 1 (.slice x.ao x.c.length x.cap) x.c.length (strC x.c)
  there : ∃ vg, x.ao = some ⟨vg, 0, none⟩ ∧ ¬ no vg
theorem ROwn.lt {B : Nat} {no : Nat → Prop} {w : World} {x : RowX} (h : ROwn B no w x) : ∃ vg, x.ao = some ⟨vg, 0, none⟩ ∧ ¬ no vg ∧ vg < w.heap.size ∧ B ≤ vg := by
  obtain ⟨vg, e, hne⟩ := h.there
  have := h.own.lt vg (by rw [e]; rfl)
  exact ⟨vg, e, hne, this.2, this.1⟩
theorem ROwn.kept {B : Nat} {no no' : Nat → Prop} {w w' : World} {x : RowX} {row : Option Nat} (h : ROwn B no w x) (hg : w.grownBy w' row) (hr : ∀ g, row = some g → no g) (hn : ∀ g, g < w.heap.size → no' g → no g) : ROwn B no' w' x := by
  obtain ⟨vg, e, hne, hlt, _⟩ := h.lt
  refine ⟨h.own.kept hg (Or.inr ?_), vg, e, fun h => hne (hn vg hlt h)⟩
  rw [e]
  intro h2
  exact hne (hr vg h2.symm)

theorem ReadAt.grown {w w' : World} {rb : Nat} {t : ByteArray} {p : Nat} {row : Option Nat} (h : ReadAt w rb t p) (hg : w.grownBy w' row) (hr : row ≠ some rb) : ReadAt w' rb t p := by
  have hb := hg.block rb h.lt (fun e => hr e.symm)
  exact ⟨(World.cell?_of_block (a := ⟨rb, 0, none⟩) hb).trans h.c0, (World.cell?_of_block (a := ⟨rb, 1, none⟩) hb).trans h.c1, (World.frozen?_of_block (a := ⟨rb, 1, none⟩) hb).trans h.f1⟩
/-- The place that Split tells. -/
def atR (n : Nat) (R : List (List (List UInt8)) × List UInt8 × Int) : Int := if R.2.2 = 0 then 0 else ((n - R.2.1.length : Nat) : Int)

set_option maxHeartbeats 8000000 in
set_option maxRecDepth 100000 in
theorem split_any (t : ByteArray) (w : World) (ht : t.size ≤ 65536) :
    Calls Tryd.prog 8 #[.string t] w fun e w' => (∃ (l : List RowX) (va : Option Addr) (cap : Nat), e = .returned (.tuple #[.slice va l.length cap, .int .i64 (atR t.size (splitR [] t.data.toList)), .int .i64 (splitR [] t.data.toList).2.2]) ∧ cellsOf l = (splitR [] t.data.toList).1 ∧ w'.ownsRow w.heap.size 28 1 (.slice va l.length cap) l.length (rowsC l) ∧ ∀ x ∈ l, ROwn w.heap.size (fun g => (Value.slice va l.length cap).ownBlock = some g) w' x) ∧ Below w.heap.size w w' := by
  obtain ⟨s0, hs0, hy0, hy1, hy2⟩ := info_parts Tryd.infoRow
  have hq : ¬ (65536 : Int) < (t.size : Int) := by omega
  obtain ⟨R, hR⟩ : ∃ R, R = splitR [] t.data.toList := ⟨_, rfl⟩
  rw [← hR]
  have HRR := Lib.hid hR
  clear hR
  obtain ⟨W0, hW0⟩ : ∃ W0, W0 = w.alloc (Obj.cells #[Value.string t, Value.int .i64 0] 61) := ⟨_, rfl⟩
  have HB0 := Lib.hid (show Below w.heap.size w W0 by rw [hW0]; exact (Below.refl _ _).alloc (Nat.le_refl _) _)
  have HRD0 := Lib.hid (show ReadAt W0 w.heap.size t 0 by
    have hy : W0.heap[w.heap.size]? = some (Obj.cells #[Value.string t, Value.int .i64 0] 61 (0, 0)) := by rw [hW0]; exact heap_alloc_new _ _
    exact ⟨by simp [World.cell?, hy], by simp [World.cell?, hy], by simp [World.frozen?, hy]⟩)
  have HW0 := Lib.hid hW0
  clear hW0
  go_enter Tryd.func8, Tryd.ntmps8
  go_wp2_with fail
  rw [← HW0.out]
  go_loopg [5, 6] (t.size + 1) (fun g v5 v6 wx => ∃ (acc : List RowX) (va : Option Addr) (cp rb q : Nat), v5 = .slice va acc.length cp ∧ v6 = .pointer (some ⟨rb, 0, none⟩) ∧ wx.ownsRow w.heap.size 28 1 (.slice va acc.length cp) acc.length (rowsC acc) ∧ (∀ x ∈ acc, ROwn w.heap.size (fun g => g = rb ∨ (Value.slice va acc.length cp).ownBlock = some g) wx x) ∧ (Value.slice va acc.length cp).ownBlock ≠ some rb ∧ ReadAt wx rb t q ∧ w.heap.size ≤ rb ∧ Below w.heap.size w wx ∧ q ≤ t.size ∧ splitR (cellsOf acc) (restB t q) = R ∧ acc.length + (restB t q).length ≤ t.size ∧ (restB t q).length < g)
  case atStart => exact ⟨[], none, 0, w.heap.size, 0, rfl, rfl, World.ownsRow_nil _ _ _ _, by simp, by simp [Value.ownBlock], HRD0.out, Nat.le_refl _, HB0.out, Nat.zero_le _, HRR.out.symm, by rw [rest_len]; simp, by rw [rest_len]; omega⟩
  case round =>
    obtain ⟨acc, va, cp, rb, q, rfl, rfl, hown, hrows, hne, hrd, hrb, hbel, hq, hsp, hal, hlg⟩ := hrel
    obtain ⟨g, rfl⟩ : ∃ g, gk = g + 1 := ⟨gk - 1, by omega⟩
    have HO := Lib.hid hown
    have HRW := Lib.hid hrows
    have HNE := Lib.hid hne
    have HRD := Lib.hid hrd
    have HBE := Lib.hid hbel
    have HSP := Lib.hid hsp
    have hzw := hbel.size
    have hrl := hrd.lt
    have hl := rest_len t q
    have e0 := hrd.c0
    have e1 := hrd.c1
    have ha2 : acc.length ≤ 65536 := by omega
    obtain ⟨n, hn⟩ : ∃ n, n = acc.length := ⟨_, rfl⟩
    rw [← hn] at HO HRW HNE hal ha2 ⊢
    have HN := Lib.hid hn
    have q0 : (0 : Int) ≤ (q : Int) := by omega
    clear hown hrows hne hrd hbel hsp hn
    by_cases hqt : q < t.size
    · have q1 : (q : Int) < (t.size : Int) := by omega
      have hne2 : restB t q ≠ [] := by
        intro h
        rw [h] at hl
        simp at hl
        omega
      have HROW := Lib.hid (row_any t q rb wr HRD.out hq ht)
      obtain ⟨⟨cs, l2, f⟩, hx⟩ : ∃ x, x = rowR [] (restB t q) := ⟨_, rfl⟩
      rw [← hx] at HROW
      simp only at HROW
      have HX := Lib.hid hx.symm
      have hl2 : l2.length ≤ t.size - q := by
        have := row_len _ [] (restB t q) (Nat.le_refl _)
        rw [← hx, hl] at this
        exact this
      clear hx
      cases hf : (f == 0)
      · have hf2 : (f != 0) = true := by simp [bne, hf]
        have HF := Lib.hid (show R = ([], l2, f) by rw [← HSP.out, splitR_bad hne2 (by rw [HX.out]; simpa using hf), HX.out])
        have HF0 := Lib.hid (show ¬ f = 0 by simpa using hf)
        clear hf
        go_wp2_with fail
        refine HROW.out.mono ?_; rintro e w2 ⟨va2, cp2, rfl, hown2, hto2⟩
        have r1 := (hto2.place HRD.out).c1
        have HB2 := Lib.hid (show Below w.heap.size w w2 from HBE.out.grown hto2.grownBy hzw (fun k hk => by injection hk with hk; omega))
        clear hown2 hto2
        go_wp2_with fail
        go_region_held3 (fun w' => w'.cell? ⟨rb, 1, none⟩ = some (.int .i64 ((t.size - l2.length : Nat) : Int))) (go_keep) (fail)
        all_goals
          go_wp2_with fail
          go_ret3
          rw [HF.out]
          exact ⟨⟨[], none, 0, by rw [atR, if_neg HF0.out]; rfl, rfl, World.ownsRow_nil _ _ _ _, by simp⟩, HB2.out.drew⟩
      · obtain rfl : f = 0 := by simpa using hf
        clear hf
        have HF := Lib.hid (show splitR (cellsOf acc ++ [cs]) l2 = R by rw [← HSP.out, splitR_more hne2 (by rw [HX.out]), HX.out])
        have HCS := Lib.hid (show cs ≠ [] by
          have := row_cells _ [] (restB t q) (Nat.le_refl _) (by rw [HX.out])
          rw [HX.out] at this
          exact this)
        have HL2 := Lib.hid (show l2.length < t.size - q by
          have := row_ok _ [] (restB t q) (Nat.le_refl _) hne2 (by rw [HX.out])
          rw [HX.out, hl] at this
          exact this)
        have HSF := Lib.hid (show restB t (t.size - l2.length) = l2 by
          have := row_suffix _ [] (restB t q) (Nat.le_refl _)
          rw [HX.out] at this
          exact rest_suffix (this.trans (rest_is_suffix t q)))
        go_wp2_with fail
        refine HROW.out.mono ?_; rintro e w2 ⟨va2, cp2, rfl, hown2, hto2⟩
        obtain ⟨p2, hp2⟩ : ∃ p2, p2 = t.size - l2.length := ⟨_, rfl⟩
        rw [← hp2] at hto2 HSF
        have HP2 := Lib.hid hp2
        obtain ⟨vg, rfl⟩ : ∃ vg, va2 = some ⟨vg, 0, none⟩ := by
          rcases owned_case hown2 with ⟨h0, _, _⟩ | h
          · exact absurd (List.eq_nil_of_length_eq_zero h0) HCS.out
          · exact h
        have hvg := hown2.lt vg rfl
        have hz2 := hto2.size
        have HRD2 := Lib.hid (hto2.place HRD.out)
        have HO2 := Lib.hid (HO.out.kept hto2.grownBy (Or.inr HNE.out))
        have HB2 := Lib.hid (show Below w.heap.size w w2 from HBE.out.grown hto2.grownBy hzw (fun k hk => by injection hk with hk; omega))
        have HR2 := Lib.hid (show ∀ x ∈ acc ++ [⟨cs, some ⟨vg, 0, none⟩, cp2⟩], ROwn w.heap.size (fun g => g = rb ∨ (Value.slice va n cp).ownBlock = some g) w2 x by
          intro x hx
          rcases List.mem_append.1 hx with hx | hx
          · exact (HRW.out x hx).kept hto2.grownBy (fun g h => Or.inl (Option.some.inj h).symm) (fun _ _ h => h)
          · rw [List.mem_singleton.1 hx]
            refine ⟨own_base hown2 hzw, vg, rfl, ?_⟩
            rintro (h | h)
            · omega
            · have := HO.out.lt vg h
              omega)
        clear hown2 hto2 hp2
        go_wp2_with (at_builtin; go_must (refine wpList_append_lies _ (by rfl) _ _ _ (by rfl) w.heap.size 28 s0 _ 1 24 Tryd.underlying40 hs0 hy0 hy1 hy2 rfl (by omega) (.slice va n cp) n (rowsC acc) (by rfl) (HO2.out.alloc _) ⟨_, 0, none⟩ 1 1 [.slice (some ⟨vg, 0, none⟩) cs.length cp2] (by rfl) (by rfl) (World.news_of_block (cs := #[.slice (some ⟨vg, 0, none⟩) cs.length cp2]) (t := 28) (fr := (0, 0)) (heap_alloc_new _ _)) (by simp [Value.oneCell']) (by omega) (by unfold maxLen; omega) (by omega) (by simp; omega) _ rfl ?_; intro g2 cap2 w7 hown7 hgrow7 hat7 hlt7; have hrd7 := (HRD2.out.below ((Below.refl _ w2).alloc (Nat.le_refl _) (Obj.cells #[Value.slice (some ⟨vg, 0, none⟩) cs.length cp2] 28))).grown hgrow7 HNE.out; have k0 := hrd7.c0; have k1 := hrd7.c1))
        have hb7 : Below w2.heap.size w2 (w2.alloc (Obj.cells #[Value.slice (some ⟨vg, 0, none⟩) cs.length cp2] 28)) := (Below.refl _ w2).alloc (Nat.le_refl _) _
        have hg7 := grownBy_trans (grownBy_of_below hb7 (Value.slice va n cp).ownBlock) hgrow7 (Or.inl rfl)
        obtain ⟨W8, hW8⟩ : ∃ W8, W8 = w7.alloc (Obj.cells #[Value.string t, Value.int .i64 (p2 : Int)] 61) := ⟨_, rfl⟩
        have hb8 : Below w7.heap.size w7 W8 := by rw [hW8]; exact (Below.refl _ _).alloc (Nat.le_refl _) _
        have hy8 : W8.heap[w7.heap.size]? = some (Obj.cells #[Value.string t, Value.int .i64 (p2 : Int)] 61 (0, 0)) := by rw [hW8]; exact heap_alloc_new _ _
        have HRD8 := Lib.hid (show ReadAt W8 w7.heap.size t p2 from ⟨by simp [World.cell?, hy8], by simp [World.cell?, hy8], by simp [World.frozen?, hy8]⟩)
        have hz7 := hg7.size
        have HB8 := Lib.hid ((HB2.out.grown hg7 (by omega) (ownBlock_lo HO2.out)).trans (hb8.mono (by omega)))
        have HO8 := Lib.hid (show W8.ownsRow w.heap.size 28 1 (.slice (some ⟨g2, 0, none⟩) (n + 1) cap2) (n + 1) (rowsC (acc ++ [⟨cs, some ⟨vg, 0, none⟩, cp2⟩])) by
          rw [rowsC_snoc]
          exact owns_below hown7 hb8)
        have hat8 : ∀ k, k < w2.heap.size → k = g2 → (Value.slice va n cp).ownBlock = some k := by
          intro k hk e
          rcases hat7 with h | h
          · rw [h, e]
          · rw [World.size_alloc] at h; omega
        have HR8 := Lib.hid (show ∀ x ∈ acc ++ [⟨cs, some ⟨vg, 0, none⟩, cp2⟩], ROwn w.heap.size (fun g => g = w7.heap.size ∨ (Value.slice (some ⟨g2, 0, none⟩) (n + 1) cap2).ownBlock = some g) W8 x from fun x hx =>
          ((HR2.out x hx).kept hg7 (fun g h => Or.inr h) (no' := fun g => g = w7.heap.size ∨ (Value.slice (some ⟨g2, 0, none⟩) (n + 1) cap2).ownBlock = some g) (fun k hk h => by
            rcases h with h | h
            · omega
            · exact Or.inr (hat8 k hk (by injection h with h; exact h.symm)))).kept (grownBy_of_below hb8 none) (fun _ h => by cases h) (fun _ _ h => h))
        have HW8 := Lib.hid hW8
        clear hown7 hgrow7 hat7 hb7 hg7 hW8 hy8 hb8 hrd7 hat8
        go_wp2_with fail
        rw [← HW8.out]
        have e : (acc ++ [(⟨cs, some ⟨vg, 0, none⟩, cp2⟩ : RowX)]).length = n + 1 := by rw [List.length_append, HN.out]; rfl
        have h1 := rest_len t p2
        have h2 := HP2.out
        have h3 := HL2.out
        go_roundg g
        case rel => exact ⟨acc ++ [⟨cs, some ⟨vg, 0, none⟩, cp2⟩], some ⟨g2, 0, none⟩, cap2, w7.heap.size, p2, by rw [e], rfl, by rw [e]; exact HO8.out, by rw [e]; exact HR8.out, by rw [e]; intro h; exact absurd (Option.some.inj h) (Nat.ne_of_lt hlt7), HRD8.out, by omega, HB8.out, by omega, by rw [cellsOf_snoc, HSF.out]; exact HF.out, by omega, by omega⟩
        case measure => omega
    · go_wp2_with fail
      have h0 : restB t q = [] := List.eq_nil_of_length_eq_zero (by omega)
      have HF : R = (cellsOf acc, [], 0) := by rw [← HSP.out, h0, splitR_nil]
      go_ret3
      rw [HF]
      have hn := HN.out
      subst hn
      exact ⟨⟨acc, va, cp, rfl, rfl, HO.out, fun x hx => (HRW.out x hx).kept (grownBy_refl _ none) (fun _ h => by cases h) (fun _ _ h => Or.inr h)⟩, HBE.out⟩
end Go.Proofs.YtdkddnlolnbpgaaDoor
