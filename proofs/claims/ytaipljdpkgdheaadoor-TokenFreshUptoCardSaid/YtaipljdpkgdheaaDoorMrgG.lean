/- Texts put together: FreshWalk, Laid6. -/
import Derived.Test.YtaipljdpkgdheaaDoorLaidT
import Derived.Test.YtaipljdpkgdheaaDoorMrgA
import Derived.Test.YtaipljdpkgdheaaDoorMrgB
import Derived.Test.YtaipljdpkgdheaaDoorMrgC
import Derived.Test.YtaipljdpkgdheaaDoorMrgD
import Derived.Test.YtaipljdpkgdheaaDoorMrgE
import Derived.Test.YtaipljdpkgdheaaDoorMrgF
/- The walk of TokenFresh. -/
namespace Go.Proofs.YtaipljdpkgdheaaDoor
open Go Go.RowKit

theorem texts_cell {w : World} {ao : Option Addr} {l : List ByteArray} (h : TextsAt w ao l) (i : Nat) (hi : i < l.length) : ∃ b o, ao = some ⟨b, o, none⟩ ∧ b < w.heap.size ∧ w.cell? ⟨b, o + i, none⟩ = some (.string l[i]) := by
  rcases h with h | ⟨b, o, e, hlt, h⟩
  · rw [h] at hi; simp at hi
  · exact ⟨b, o, e, hlt, h i hi⟩
theorem BookAt.whole {w : World} {bb : Nat} {L : Value} {ls : List LstX} (h : BookAt w bb L ls) (hn : ls.length ≤ 9223372036854775807) :
    Calls Tryd.prog 17 #[.pointer (some ⟨bb, 0, none⟩)] w fun e w' => e = .returned (.bool true) ∧ w' = w := by
  obtain ⟨la, lc, rfl, _⟩ := h.form
  obtain ⟨m, hb⟩ := h.box
  exact whole_any bb la ls lc m w hb h.lists hn

/-- So many of the lists are taken. -/
structure Taken (wp : World) (bc : Nat) (es : List Ent) (i : Nat) (wz : World) : Prop where
  book : ∃ L ls, BookAt wz bc L ls ∧ ls.length ≤ 2 * i ∧ ∀ b, BFoot bc L ls b → b = bc ∨ (∃ j, ∃ h : j < es.length, j < i ∧ es[j].va = some ⟨b, 0, none⟩) ∨ wp.heap.size ≤ b
  same : ∀ b, b < wp.heap.size → b ≠ bc → (∀ j (h : j < es.length), j < i → es[j].va ≠ some ⟨b, 0, none⟩) → wz.heap[b]? = wp.heap[b]?
  bel : Below bc wp wz
theorem Taken.next {wp wz w' : World} {bc i : Nat} {es : List Ent} {L : Value} {ls : List LstX} {e : Ending} (h : Taken wp bc es i wz) (hi : i < es.length) (hln : ls.length ≤ 2 * i)
    (hft : ∀ b, BFoot bc L ls b → b = bc ∨ (∃ j, ∃ h : j < es.length, j < i ∧ es[j].va = some ⟨b, 0, none⟩) ∨ wp.heap.size ≤ b) (ht : TakeTo bc L ls es[i].va wz e w') : Taken wp bc es (i + 1) w' := by
  obtain ⟨_, ⟨L', ls', hb', hln', hf'⟩, hfr, hbel⟩ := ht
  have hz := h.bel.size
  refine ⟨⟨L', ls', hb', by omega, fun b hf => ?_⟩, fun b h1 h2 h3 => ?_, h.bel.trans hbel⟩
  · rcases hf' b hf with h4 | h4 | h4
    · rcases hft b h4 with h5 | ⟨j, hj, hji, h5⟩ | h5
      · exact Or.inl h5
      · exact Or.inr (Or.inl ⟨j, hj, by omega, h5⟩)
      · exact Or.inr (Or.inr h5)
    · exact Or.inr (Or.inl ⟨i, hi, by omega, h4⟩)
    · exact Or.inr (Or.inr (by omega))
  · refine (hfr b (by omega) (fun hf => ?_) (h3 i hi (by omega))).trans (h.same b h1 h2 fun j hj hji => h3 j hj (by omega))
    rcases hft b hf with h5 | ⟨j, hj, hji, h5⟩ | h5
    · exact h2 h5
    · exact h3 j hj (by omega) h5
    · omega
theorem own_form {w : World} {B : Nat} {e : TypeId} {size n : Nat} {v : Value} {xs : List Value} (h : w.ownsRow B e size v n xs) : ∃ a c, v = .slice a n c ∧ (a = none → n = 0) := by
  rcases h.2 with ⟨e, h0⟩ | ⟨g, cap, cur, e, _⟩
  · exact ⟨none, 0, by rw [e, h0], fun _ => h0⟩
  · exact ⟨_, _, e, fun h => by cases h⟩
theorem list_cell {w : World} {B n cap : Nat} {e : TypeId} {va : Option Addr} {xs : List Value} (h : w.ownsRow B e 1 (.slice va n cap) n xs) (i : Nat) (hi : i < xs.length) : ∃ g, va = some ⟨g, 0, none⟩ ∧ g < w.heap.size ∧ w.cell? ⟨g, i, none⟩ = some xs[i] := by
  rcases owned_case h with ⟨h0, _, _⟩ | ⟨g, rfl⟩
  · have := h.1
    omega
  · refine ⟨g, rfl, own_lt_size h g rfl, ?_⟩
    have := h.cells (g := g) rfl i xs[i] (List.getElem?_eq_getElem hi)
    rwa [add_zero_block] at this
theorem owns_low {w : World} {B B' : Nat} {e : TypeId} {size n : Nat} {v : Value} {xs : List Value} (h : w.ownsRow B e size v n xs) (hB : B' ≤ B) : w.ownsRow B' e size v n xs :=
  ⟨h.1, h.2.imp id fun ⟨g, cap, cur, hv, hb, r⟩ => ⟨g, cap, cur, hv, Nat.le_trans hB hb, r⟩⟩

set_option maxHeartbeats 8000000 in
set_option maxRecDepth 100000 in
theorem fresh_any (l : List ByteArray) (ao : Option Addr) (cap : Nat) (w : World) (hT : Tabs w) (hW : WordsAt w) (hl : TextsAt w ao l) (hn : l.length ≤ 1048576) (hs : ∀ s ∈ l, s.size ≤ 140737488351232) :
    Calls Tryd.prog 7 #[.slice ao l.length cap] w fun e w' => e = .returned (.bool true) ∧ Below w.heap.size w w' := by
  obtain ⟨ti, hti, hy0, hy1, hy2⟩ := info_parts Tryd.infoToks
  have HT := Lib.hid hT
  have HL := Lib.hid hl
  have HS := Lib.hid hs
  have HBG := Lib.hid (begun_any w hT hW)
  obtain ⟨N, hN⟩ : ∃ N, N = l.length := ⟨_, rfl⟩
  rw [← hN] at hn ⊢
  have HN := Lib.hid hN
  have N0 : (0 : Int) ≤ (N : Int) := by omega
  clear hT hW hl hs hN
  go_enter Tryd.func7, Tryd.ntmps7
  go_wp2_with fail
  refine HBG.out.mono ?_; rintro e w1 ⟨rfl, hb1⟩
  obtain ⟨bb, hbb⟩ : ∃ bb, bb = w1.heap.size := ⟨_, rfl⟩
  obtain ⟨V, hV⟩ : ∃ V, V = w1.alloc (Obj.cells #[.slice none 0 0, .int .i64 0] 43) := ⟨_, rfl⟩
  have HBK := Lib.hid (show BookAt V bb (.slice none 0 0) [] from BookAt.fresh (by rw [hV, hbb]; exact heap_alloc_new _ _))
  have HBV := Lib.hid (show Below w.heap.size w V by rw [hV]; exact hb1.alloc hb1.size _)
  have hle : w.heap.size ≤ bb := by have := hb1.size; omega
  have HV := Lib.hid hV
  have HBB := Lib.hid hbb
  clear hV hbb hb1
  go_upto_region 4 with fail
  rw [← HV.out, ← HBB.out]
  go_wp2_with fail
  go_loopg [4] (N + 1) (fun g v4 wr => ∃ i : Nat, i ≤ N ∧ v4 = .int .i64 (i : Int) ∧ (∃ L ls, BookAt wr bb L ls ∧ ls.length ≤ 2 * i) ∧ Below w.heap.size w wr ∧ N - i < g)
  case atStart => exact ⟨0, Nat.zero_le _, rfl, ⟨_, _, HBK.out, by simp⟩, HBV.out, by omega⟩
  case round =>
    obtain ⟨i, hi, rfl, ⟨L, ls, hbk, hln⟩, hbel, hg⟩ := hrel
    obtain ⟨g, rfl⟩ : ∃ g, gk = g + 1 := ⟨gk - 1, by omega⟩
    have HBE := Lib.hid hbel
    have HBK := Lib.hid hbk
    have hzw := hbel.size
    have hbbw := (hbk.lt (Or.inl rfl)).1
    clear hbel hbk
    have i0 : (0 : Int) ≤ (i : Int) := by omega
    by_cases hlt : i < N
    · have i1 : (i : Int) < (N : Int) := by omega
      have hil : i < l.length := by rw [← HN.out]; exact hlt
      obtain ⟨b, o, rfl, hbw, d0⟩ := texts_cell HL.out i hil
      have d1 := (HBE.out.cell (p := ⟨b, o + i, none⟩) hbw).trans d0
      obtain ⟨acc, hacc, hsc⟩ := scanned_any l[i] (HS.out _ (List.getElem_mem hil))
      obtain ⟨t, ht⟩ : ∃ t, t = l[i] := ⟨_, rfl⟩
      rw [← ht] at d1 hsc
      have HSC := Lib.hid (hsc wr (HT.out.below HBE.out))
      clear d0 ht hsc
      go_wp2_with fail
      refine HSC.out.mono ?_; rintro e w2 ⟨⟨va, vb, ca, cb, B2, rfl, ho1, _, _, _⟩, hb2⟩
      have HTK := Lib.hid (bookTake_any bb acc.length ca L ls va w2 (HBK.out.below hb2) (rowM_of ho1 (by omega)) (fun g e hf => by
        have h1 := (HBK.out.lt hf).1
        have h2 := ownBlock_lo ho1 g (by rw [e]; rfl)
        omega) (by omega) (by omega))
      have HB2 := Lib.hid (HBE.out.trans (hb2.mono hzw))
      clear ho1 hb2
      go_wp2_with fail
      refine HTK.out.mono ?_; rintro e w3 ⟨rfl, ⟨L', ls', hbk3, hln3, _⟩, _, hbel3⟩
      have HBK3 := Lib.hid hbk3
      have HB3 := Lib.hid (HB2.out.trans (hbel3.mono hle))
      have HWH := Lib.hid (hbk3.whole (by omega))
      clear hbk3 hbel3
      go_upto_region 11 with fail
      by_cases h64 : i % 64 = 0
      · have h65 : ((i : Int) % 64 == 0) = true := by
          have : (i : Int) % 64 = 0 := by omega
          rw [this]; rfl
        clear h64
        go_wp2_with fail
        refine HWH.out.mono ?_; rintro e w4 ⟨rfl, rfl⟩
        go_wp2_with fail
        go_roundg g
        case rel => exact ⟨i + 1, by omega, by go_num, ⟨_, _, HBK3.out, by omega⟩, HB3.out, by omega⟩
        case measure => omega
      · have h65 : ((i : Int) % 64 == 0) = false := by
          have : ¬ (i : Int) % 64 = 0 := by omega
          simpa using this
        clear h64
        go_wp2_with fail
        go_roundg g
        case rel => exact ⟨i + 1, by omega, by go_num, ⟨_, _, HBK3.out, by omega⟩, HB3.out, by omega⟩
        case measure => omega
    · have i1 : ¬ (i : Int) < (N : Int) := by omega
      obtain ⟨bc, hbc⟩ : ∃ bc, bc = wr.heap.size := ⟨_, rfl⟩
      obtain ⟨V1, hV1⟩ : ∃ V, V = wr.alloc (Obj.cells #[.slice none 0 0, .int .i64 0] 43) := ⟨_, rfl⟩
      obtain ⟨V2, hV2⟩ : ∃ V, V = V1.alloc (Obj.cells #[.slice none 0 0, .int .i64 0] 43) := ⟨_, rfl⟩
      have hz1 : V1.heap.size = bc + 1 := by rw [hV1, hbc]; exact World.size_alloc _ _
      have hz2 : V2.heap.size = bc + 2 := by rw [hV2, World.size_alloc, hz1]
      have HBE1 := Lib.hid (show Below wr.heap.size wr V2 by rw [hV2, hV1]; exact ((Below.refl _ _).alloc (Nat.le_refl _) _).alloc (by rw [World.size_alloc]; omega) _)
      have HBKc := Lib.hid (show BookAt V2 bc (.slice none 0 0) [] from BookAt.fresh (by rw [hV2, heap_alloc_old _ _ (by omega), hV1, hbc]; exact heap_alloc_new _ _))
      have HBXd := Lib.hid (show BookBox V2 (bc + 1) (.slice none 0 0) 0 by unfold BookBox; rw [hV2, ← hz1]; exact heap_alloc_new _ _)
      have HBKb := Lib.hid (HBK.out.below HBE1.out)
      have HFT := Lib.hid (show ∀ x, BFoot bb L ls x → x < bc from fun x hf => by rw [hbc]; exact (HBK.out.lt hf).1)
      have HBV2 := Lib.hid (HBE.out.trans (HBE1.out.mono hzw))
      have hbcw : w.heap.size ≤ bc := by omega
      have HV1 := Lib.hid hV1
      have HV2 := Lib.hid hV2
      have HBC := Lib.hid hbc
      have HZ1 := Lib.hid hz1
      have HZ2 := Lib.hid hz2
      clear hV1 hV2 hbc hz1 hz2 HBE HBK hzw hbbw HBV
      go_upto_region 16 with fail
      rw [← HV1.out, ← HV2.out, ← HBC.out]
      have HLNb := Lib.hid (show ls.length ≤ 9223372036854775807 by omega)
      clear hln hi hlt i1 i0 hg HV1 HV2
      go_wp2_with fail
      go_loopg [8, 9, 12] (2 * N + 1) (fun g v8 v9 v12 wr => ∃ j : Nat, j ≤ 2 * N ∧ v12 = .int .i64 (j : Int) ∧ (∃ es, Ents wr (bc + 2) v8 v9 es ∧ es.length ≤ j) ∧ Below (bc + 1) V2 wr ∧ (∃ m, BookBox wr (bc + 1) (.slice none 0 0) m) ∧ 2 * N - j < g)
      case atStart => exact ⟨0, Nat.zero_le _, rfl, ⟨[], Ents.nil _ _, Nat.le_refl _⟩, Below.refl _ _, ⟨_, HBXd.out⟩, by omega⟩
      case round =>
        obtain ⟨j, hj, rfl, ⟨es, hes, hel⟩, hbel, ⟨m, hbx⟩, hg⟩ := hrel
        obtain ⟨g, rfl⟩ : ∃ g, gk = g + 1 := ⟨gk - 1, by omega⟩
        have HES := Lib.hid hes
        have HBE := Lib.hid hbel
        have HBX := Lib.hid hbx
        have HBW := Lib.hid (HBV2.out.trans (hbel.mono (by omega)))
        have hzy : bc + 2 ≤ wr.heap.size := by have := hbel.size; have := HZ2.out; omega
        clear hes hbel hbx
        have j0 : (0 : Int) ≤ (j : Int) := by omega
        by_cases hlt : j < 2 * N
        · have j1 : (j : Int) < 2 * (N : Int) := by omega
          obtain ⟨k, hk⟩ : ∃ k : Nat, k = j / 2 := ⟨_, rfl⟩
          have hkN : k < N := by omega
          have e1 : (j : Int) / 2 = (k : Int) := by omega
          have k0 : (0 : Int) ≤ (k : Int) := by omega
          have k1 : (k : Int) < (N : Int) := by omega
          have hkl : k < l.length := by rw [← HN.out]; exact hkN
          obtain ⟨b, o, rfl, hbw, d0⟩ := texts_cell HL.out k hkl
          have d1 := (HBW.out.cell (p := ⟨b, o + k, none⟩) hbw).trans d0
          obtain ⟨acc, hacc, hsc⟩ := scanned_any l[k] (HS.out _ (List.getElem_mem hkl))
          obtain ⟨t, ht⟩ : ∃ t, t = l[k] := ⟨_, rfl⟩
          rw [← ht] at d1 hsc
          have HSC := Lib.hid (hsc wr (HT.out.below HBW.out))
          have HE1 := Lib.hid e1
          clear d0 ht hsc hk
          go_wp2_with fail
          refine HSC.out.mono ?_; rintro e w2 ⟨⟨va, vb, ca, cb, B2, rfl, ho1, ho2, hB2, _⟩, hb2⟩
          have HX := Lib.hid (show EntOk w2 (bc + 2) ⟨va, ca, vb, cb, acc⟩ from ⟨owns_low ho1 hzy, owns_low ho2 (by omega), hacc⟩)
          have HNEW := Lib.hid (show ∀ g, va = some ⟨g, 0, none⟩ → wr.heap.size ≤ g from fun g e => ownBlock_lo ho1 g (by rw [e]; rfl))
          have HBX2 := Lib.hid ((hb2.block (bc + 1) (by omega)).trans HBX.out)
          have HES2 := Lib.hid (HES.out.below hb2)
          have HB2 := Lib.hid (HBE.out.trans (hb2.mono (by omega)))
          have hz2 := hb2.size
          clear ho1 ho2 hb2
          have HOV := Lib.hid (over_any (bc + 1) (.slice none 0 0) m (100 * (acc.length : Int)) w2 HBX2.out)
          clear e1 HE1
          go_wp2_with fail
          refine HOV.out.mono ?_; rintro e w3 ⟨⟨bo, rfl⟩, m', hw3⟩
          have HX3 := Lib.hid (show EntOk w3 (bc + 2) ⟨va, ca, vb, cb, acc⟩ from HX.out.keep fun b h _ => by rw [hw3]; exact heap_setCell_other _ _ _ _ (by show b ≠ bc + 1; omega))
          have HES3 := Lib.hid (HES2.out.keep (w' := w3) fun b h _ => by rw [hw3]; exact heap_setCell_other _ _ _ _ (by show b ≠ bc + 1; omega))
          have HBX3 := Lib.hid (show BookBox w3 (bc + 1) (.slice none 0 0) m' by rw [hw3]; exact BookBox.set1 HBX2.out m')
          have HB3 := Lib.hid (show Below (bc + 1) V2 w3 by rw [hw3]; exact HB2.out.setCell (Nat.le_refl _) _)
          have hz3 : w3.heap.size = w2.heap.size := by rw [hw3]; simp [World.setCell]
          have hz4 : bc + 2 ≤ w3.heap.size := by omega
          have HZ3 := Lib.hid hz3
          clear hw3 hz3 HX HES2 HBX2 HB2
          cases bo
          focus
            obtain ⟨M, hM⟩ : ∃ M, M = es.length := ⟨_, rfl⟩
            have hM2 : M ≤ 2097152 := by omega
            have HM := Lib.hid hM
            have HG3 := Lib.hid HES3.out.gr
            have HD3 := Lib.hid HES3.out.wr
            rw [← hM] at HG3 HD3
            clear hM
            go_upto_region 24 with (at_builtin; go_must (refine wpList_append_lies _ (by rfl) _ _ _ (by rfl) (bc + 2) 23 ti _ 1 24 Tryd.underlying41 hti hy0 hy1 hy2 rfl (by omega) u8 M (es.map Ent.got) (by rfl) (HG3.out.alloc _) ⟨_, 0, none⟩ 1 1 [.slice va acc.length ca] (by rfl) (by rfl) (World.news_of_block (cs := #[.slice va acc.length ca]) (t := 23) (fr := (0, 0)) (heap_alloc_new _ _)) (by simp [Value.oneCell']) (by omega) (by unfold maxLen; omega) (by omega) (by simp; omega) _ rfl ?_; intro g5 c5 w5 hown5 hgrow5 hat5 hlt5))
            have HD5 := Lib.hid (owns_keep HD3.out (w' := w5) fun g e => (hgrow5.block g (by rw [World.size_alloc]; have := own_lt_size HD3.out g e; omega) (fun e2 => HES3.out.ne g e2.symm e)).trans (heap_alloc_old _ _ (own_lt_size HD3.out g e)))
            have hz5 : bc + 2 ≤ w5.heap.size := by have := hgrow5.size; rw [World.size_alloc] at this; omega
            have HOWN5 := Lib.hid hown5
            have HGROW5 := Lib.hid hgrow5
            have HAT5 := Lib.hid hat5
            clear hown5 hgrow5 hat5 hlt5
            go_wp2_with (at_builtin; go_must (refine wpList_append_lies _ (by rfl) _ _ _ (by rfl) (bc + 2) 23 ti _ 1 24 Tryd.underlying41 hti hy0 hy1 hy2 rfl (by omega) u9 M (es.map Ent.want) (by rfl) (HD5.out.alloc _) ⟨_, 0, none⟩ 1 1 [.slice vb acc.length cb] (by rfl) (by rfl) (World.news_of_block (cs := #[.slice vb acc.length cb]) (t := 23) (fr := (0, 0)) (heap_alloc_new _ _)) (by simp [Value.oneCell']) (by omega) (by unfold maxLen; omega) (by omega) (by simp; omega) _ rfl ?_; intro g6 c6 w6 hown6 hgrow6 hat6 hlt6))
            have HES6 := Lib.hid (Ents.next (x := ⟨va, ca, vb, cb, acc⟩) (G' := .slice (some ⟨g5, 0, none⟩) (M + 1) c5) (D' := .slice (some ⟨g6, 0, none⟩) (M + 1) c6) HES3.out HX3.out (fun i hi gi gj e1 e2 => by
              have h1 := HNEW.out gj e2
              have h2 := own_lt_size (HES.out.ok i hi).a gi (show (Ent.got es[i]).ownBlock = some gi by unfold Ent.got; rw [e1]; rfl)
              omega) HGROW5.out (by rw [← HM.out]; exact HOWN5.out) (HAT5.out.imp (fun h => h.symm) (fun h => by rw [h]; rfl)) hgrow6 (by rw [← HM.out]; exact hown6) (hat6.imp (fun h => h.symm) (fun h => by rw [h]; rfl)))
            have HB6 := Lib.hid (show Below (bc + 1) V2 w6 from (((HB3.out.alloc (by omega) _).grown HGROW5.out (by rw [World.size_alloc]; omega) fun k e => by have := ownBlock_lo HG3.out k e; omega).alloc (by omega) _).grown hgrow6 (by rw [World.size_alloc]; omega) fun k e => by have := ownBlock_lo HD5.out k e; omega)
            have HBX6 := Lib.hid (show BookBox w6 (bc + 1) (.slice none 0 0) m' from
              (hgrow6.block (bc + 1) (by rw [World.size_alloc]; omega) (fun e => by have := ownBlock_lo HD5.out (bc + 1) e.symm; omega)).trans ((heap_alloc_old _ _ (by omega)).trans
                ((HGROW5.out.block (bc + 1) (by rw [World.size_alloc]; omega) (fun e => by have := ownBlock_lo HG3.out (bc + 1) e.symm; omega)).trans ((heap_alloc_old _ _ (by omega)).trans HBX3.out))))
            clear hown6 hgrow6 hat6 hlt6
            go_wp2_with fail
            go_roundg g
            case rel => exact ⟨j + 1, by omega, by go_num, ⟨_, HES6.out, by simp; omega⟩, HB6.out, ⟨_, HBX6.out⟩, by omega⟩
            case measure => omega
          · go_wp2_with fail
            go_roundg g
            case rel => exact ⟨j + 1, by omega, by go_num, ⟨es, HES3.out, by omega⟩, HB3.out, ⟨_, HBX3.out⟩, by omega⟩
            case measure => omega
        · have j1 : ¬ (j : Int) < 2 * (N : Int) := by omega
          obtain ⟨ga, gc, hG, hG0⟩ := own_form HES.out.gr
          obtain ⟨da, dc, hD, hD0⟩ := own_form HES.out.wr
          obtain ⟨M, hM⟩ : ∃ M, M = es.length := ⟨_, rfl⟩
          have hM2 : M ≤ 2097152 := by omega
          rw [← hM] at hG hD hG0 hD0
          subst hG hD
          have HM := Lib.hid hM
          obtain ⟨wo, rfl⟩ : ∃ x, x = wr := ⟨_, rfl⟩
          have HGR := Lib.hid HES.out.gr
          have HDR := Lib.hid HES.out.wr
          rw [← HM.out] at HGR HDR
          have HG0 := Lib.hid hG0
          have HD0 := Lib.hid hD0
          clear hM hG0 hD0 hel hlt hj
          go_wp2_with fail
          go_loopg [16] (M + 1) (fun g v16 wz => ∃ i : Nat, i ≤ M ∧ v16 = .int .i64 (i : Int) ∧ Below wo.heap.size wo wz ∧ M - i < g)
          case atStart => exact ⟨0, Nat.zero_le _, rfl, Below.refl _ _, by omega⟩
          case round =>
            obtain ⟨i, hi, rfl, hbel, hg⟩ := hrel
            obtain ⟨g, rfl⟩ : ∃ g, gk = g + 1 := ⟨gk - 1, by omega⟩
            have HBE4 := Lib.hid hbel
            clear hbel
            have i0 : (0 : Int) ≤ (i : Int) := by omega
            by_cases hlt : i < M
            · have i1 : (i : Int) < (M : Int) := by omega
              have hil : i < es.length := by rw [← HM.out]; exact hlt
              obtain ⟨g1, rfl, hg1, d1⟩ := list_cell HGR.out i (show i < (es.map Ent.got).length by rw [List.length_map]; exact hil)
              obtain ⟨g2, rfl, hg2, d2⟩ := list_cell HDR.out i (show i < (es.map Ent.want).length by rw [List.length_map]; exact hil)
              simp only [List.getElem_map] at d1 d2
              have HEN := Lib.hid (HES.out.ok i hil)
              have d3 := (HBE4.out.cell (p := ⟨g1, i, none⟩) hg1).trans d1
              have d4 := (HBE4.out.cell (p := ⟨g2, i, none⟩) hg2).trans d2
              obtain ⟨⟨va, ca, vb, cb, acc⟩, hx⟩ : ∃ x, x = es[i] := ⟨_, rfl⟩
              rw [← hx] at d3 d4 HEN
              simp only [Ent.got, Ent.want] at d3 d4
              have HEQ := Lib.hid (show ∀ W, Below wr.heap.size wr W → Calls Tryd.prog 19 #[.slice va acc.length ca, .slice vb acc.length cb] W fun e w' => e = .returned (.bool true) ∧ Below W.heap.size W w' from fun W hW => by
                have h1 := toks_row (owns_below (owns_below HEN.out.a HBE4.out) hW) rfl
                have h2 := toks_row (owns_below (owns_below HEN.out.b HBE4.out) hW) rfl
                have h3 := HEN.out.len
                have h := eqToks_any (acc.map Tk.asTok) va vb ca cb W (by rw [List.length_map]; unfold maxLen; simp only at h3; omega) h1 h2
                rwa [List.length_map] at h)
              clear hx d1 d2
              go_upto_region 28 with fail
              go_region_with (go_at_call 19; (with_reducible refine (HEQ.out _ (by exact (Below.refl _ _).drew)).mono ?_); rintro e w5 ⟨rfl, hb5⟩; have HB5 := Lib.hid hb5; clear hb5)
              all_goals
                have HB6 := Lib.hid (HBE4.out.drew.trans (HB5.out.mono HBE4.out.drew.size))
                go_wp2_with fail
                go_roundg g
                case rel => exact ⟨i + 1, by omega, by go_num, HB6.out, by omega⟩
                case measure => omega
            · have i1 : ¬ (i : Int) < (M : Int) := by omega
              obtain ⟨wp, rfl⟩ : ∃ x, x = wr := ⟨_, rfl⟩
              have HESp := Lib.hid (HES.out.below HBE4.out)
              have HBCp := Lib.hid (HBKc.out.keep (w' := wp) fun b hf => by
                have h1 : b = bc := by
                  rcases hf with h | h | ⟨x, h, _⟩
                  · exact h
                  · cases h
                  · exact absurd h (by simp)
                subst h1
                exact (HBE4.out.block b (by omega)).trans (HBE.out.block b (by omega)))
              have HGRp := Lib.hid HESp.out.gr
              rw [← HM.out] at HGRp
              have HBWp := Lib.hid (show Below bc V2 wp from (HBE.out.mono (by omega)).trans (HBE4.out.mono (by omega)))
              have hzp : bc + 2 ≤ wp.heap.size := by have := HBE4.out.size; omega
              clear HES HGR HDR HBE4 HBX HBE HBXd
              go_wp2_with fail
              clear hi hlt i1 hg
              go_loopg [17] (M + 1) (fun g v17 wz => ∃ i : Nat, i ≤ M ∧ v17 = .int .i64 (i : Int) ∧ Taken wp bc es i wz ∧ M - i < g)
              case atStart => exact ⟨0, Nat.zero_le _, rfl, ⟨⟨_, [], HBCp.out, Nat.le_refl _, fun b hf => Or.inl (by
                rcases hf with h | h | ⟨x, h, _⟩
                · exact h
                · cases h
                · exact absurd h (by simp))⟩, fun _ _ _ _ => rfl, Below.refl _ _⟩, by omega⟩
              case round =>
                obtain ⟨i, hi, rfl, htk, hg⟩ := hrel
                obtain ⟨g, rfl⟩ : ∃ g, gk = g + 1 := ⟨gk - 1, by omega⟩
                obtain ⟨L, ls, hbk, hln, hft⟩ := htk.book
                have HTA := Lib.hid htk
                clear htk
                have i0 : (0 : Int) ≤ (i : Int) := by omega
                by_cases hlt : i < M
                · have i1 : (i : Int) < (M : Int) := by omega
                  have hil : i < es.length := by rw [← HM.out]; exact hlt
                  obtain ⟨g1, rfl, hg1, d1⟩ := list_cell HGRp.out i (show i < (es.map Ent.got).length by rw [List.length_map]; exact hil)
                  simp only [List.getElem_map] at d1
                  have hg1b := ownBlock_lo HGRp.out g1 rfl
                  have d2 : wr.cell? ⟨g1, i, none⟩ = some es[i].got := (World.cell?_of_block (a := ⟨g1, i, none⟩) (HTA.out.same g1 hg1 (by omega) fun j hj _ e => tok_ne (HESp.out.ok j hj).a HGRp.out g1 (show (Ent.got es[j]).ownBlock = some g1 by unfold Ent.got; rw [e]; rfl) rfl)).trans d1
                  have hrm := rowM_of (mk := markM ls.length) (show wp.ownsRow (bc + 2) 28 3 (.slice es[i].va es[i].acc.length es[i].ca) es[i].acc.length (tkCells es[i].acc) from (HESp.out.ok i hil).a) (show bc + 1 ≤ bc + 2 by omega)
                  have hlow : ∀ g, es[i].va = some ⟨g, 0, none⟩ → bc + 2 ≤ g ∧ g < wp.heap.size := fun g e => ⟨ownBlock_lo (HESp.out.ok i hil).a g (show (Ent.got es[i]).ownBlock = some g by unfold Ent.got; rw [e]; rfl), own_lt_size (HESp.out.ok i hil).a g (show (Ent.got es[i]).ownBlock = some g by unfold Ent.got; rw [e]; rfl)⟩
                  have hrise : ∀ g, es[i].va = some ⟨g, 0, none⟩ → ∀ j (hj : j < es.length), j < i → es[j].va ≠ some ⟨g, 0, none⟩ := fun g e j hj hji e2 => by
                    have := HESp.out.rise j i hj hil hji g g e2 e
                    omega
                  have HTK := Lib.hid (bookTake_any bc es[i].acc.length es[i].ca L ls es[i].va wr hbk (hrm.keep fun g e => HTA.out.same g (hlow g e).2 (by have := (hlow g e).1; omega) (hrise g e)) (fun g e hf => by
                    have h1 := hlow g e
                    rcases hft g hf with h | ⟨j, hj, hji, h⟩ | h
                    · omega
                    · exact hrise g e j hj hji h
                    · omega) (by have := (HESp.out.ok i hil).len; omega) (by omega))
                  have HLW := Lib.hid hlow
                  have HNXT := Lib.hid (show ∀ w', TakeTo bc L ls es[i].va wr (.returned (.tuple #[])) w' → Taken wp bc es (i + 1) w' from fun w' h => HTA.out.next hil hln hft h)
                  obtain ⟨x, hx⟩ : ∃ x, x = es[i] := ⟨_, rfl⟩
                  rw [← hx] at d2 HTK HNXT
                  obtain ⟨va, ca, vb, cb, acc⟩ := x
                  simp only [Ent.got] at d2
                  clear hx d1 hrm hlow hrise hbk hft
                  go_wp2_with fail
                  refine HTK.out.mono ?_; rintro e w5 hto
                  obtain rfl := hto.1
                  have HT5 := Lib.hid (HNXT.out w5 hto)
                  clear hto
                  go_wp2_with fail
                  go_roundg g
                  case rel => exact ⟨i + 1, by omega, by go_num, HT5.out, by omega⟩
                  case measure => omega
                · have i1 : ¬ (i : Int) < (M : Int) := by omega
                  have HB9 := Lib.hid (HBWp.out.trans HTA.out.bel)
                  have hbkb := HBKb.out.keep (w' := wr) fun b hf => HB9.out.block b (HFT.out b hf)
                  have HW1 := Lib.hid (hbkb.whole HLNb.out)
                  have HW2 := Lib.hid (hbk.whole (by omega))
                  clear hbk hft hbkb
                  go_wp2_with (first | (go_at_call 17; (with_reducible refine HW1.out.mono ?_); rintro e w6 ⟨rfl, rfl⟩) | (go_at_call 17; (with_reducible refine HW2.out.mono ?_); rintro e w7 ⟨rfl, rfl⟩))
                  go_ret
                  exact ⟨rfl, HBV2.out.trans (HB9.out.mono hbcw)⟩
end Go.Proofs.YtaipljdpkgdheaaDoor
/- What the rows' list of six package-level variables gives. -/
namespace Go.Proofs.YtaipljdpkgdheaaDoor
open Go Go.RowKit

/-- An array of strings that reads as these strings holds just these, cell for cell. -/
theorem cells_of_strs {H : Type} {enc : TypeId × Value → H} {P : Program} {w : World} {base : Nat} {sp : Nat → Bool} {held : Bool} {fuel : Nat} {t e : TypeId} {cs : List Value} {ls : List (List UInt8)} {p : List MemPlace}
    (ht : P.underlying t = some (.array ls.length e)) (he : P.underlying e = some .string) (hce : P.cellsOf e = 1) (hct : P.cellsOf t = ls.length)
    (h : DataW.trod enc P w base sp held fuel t cs = some (.agg (ls.map fun l => .lit (.string l)), p)) : cs = ls.map fun l => Value.string ⟨l.toArray⟩ := by
  obtain ⟨xs, m, rfl, hx, hlen, hn, hel⟩ := DataW.trod_array ht h
  simp only [Prod.mk.injEq, DataW.agg.injEq] at hx
  apply List.ext_getElem?
  intro i
  by_cases hi : i < ls.length
  · have h1 := hel i hi
    have hxi : i < xs.length := by omega
    rw [hce, Nat.mul_one, List.getElem?_eq_getElem hxi] at h1
    obtain ⟨s, e1, e2, _⟩ := DataW.trod_string he h1
    have e3 : (xs.map (·.1))[i]? = some (.lit (.string s.data.toList)) := by simp [List.getElem?_eq_getElem hxi, e2]
    rw [← hx.1] at e3
    simp only [List.getElem?_map, List.getElem?_eq_getElem hi, Option.map_some, Option.some.injEq, DataW.lit.injEq, Lit.string.injEq] at e3
    have e4 : cs[i]? = some (.string s) := by
      have := congrArg (fun l => l[0]?) e1
      simpa using this
    rw [e4]
    simp only [List.getElem?_map, List.getElem?_eq_getElem hi, Option.map_some, e3]
  · rw [List.getElem?_eq_none (by omega), List.getElem?_eq_none (by simp; omega)]

theorem heap_of_var {P : Program} {w : World} {name : String} {g : Nat} {cs : Array Value} (hg : P.globalNamed name = some g) (h : w.var? P name = some cs) : ∃ t fr, w.heap[g]? = some (.cells cs t fr) := by
  simp only [World.var?, hg, Option.bind_some] at h
  split at h
  · rename_i c t fr hh
    cases h
    exact ⟨t, fr, hh⟩
  · cases h

theorem gWrd : Tryd.prog.globalNamed "refrain/token.words" = some 0 := by kernel_rfl
theorem tWrd : (Tryd.prog.globals[0]?).map (·.type) = some 82 := by kernel_rfl
theorem cellsStr6 : Tryd.prog.cellsOf 9 = 1 := by kernel_rfl
theorem cells16 : Tryd.prog.cellsOf 82 = 16 := by kernel_rfl
/-- The listed variables. -/
abbrev tokLaid6 : List (String × DataW Unit) := tokLaid ++ [("refrain/token.words", Rows.laid_refrain_token_words)]
set_option maxRecDepth 100000 in
theorem tabs6_of {W : World} (h : laidMetH Tryd.prog tokLaid6 W) : Tabs W ∧ WordsAt W := by
  rw [MakeChecks.laidMetH_plain _ _ _ (by kernel_rfl)] at h
  obtain ⟨ps, hl, _, _⟩ := h
  obtain ⟨_, _, _, _, _, _, _, _, _, _, hl, _⟩ := hl
  obtain ⟨_, _, _, _, _, _, _, _, _, _, hl, _⟩ := hl
  obtain ⟨g0, t0, cs0, f0, p0, q0, hg0, ht0, hv0, hd0, hl, _⟩ := hl
  obtain ⟨g1, t1, cs1, f1, p1, q1, hg1, ht1, hv1, hd1, hl, _⟩ := hl
  obtain ⟨g2, t2, cs2, f2, p2, q2, hg2, ht2, hv2, hd2, hl, _⟩ := hl
  obtain ⟨g3, t3, cs3, f3, p3, q3, hg3, ht3, hv3, hd3, _, _⟩ := hl
  obtain rfl := Option.some.inj (gPow.symm.trans hg0)
  obtain rfl := Option.some.inj (tPow.symm.trans ht0)
  obtain rfl := Option.some.inj (gRan.symm.trans hg1)
  obtain rfl := Option.some.inj (tRan.symm.trans ht1)
  obtain rfl := Option.some.inj (gSyn.symm.trans hg2)
  obtain rfl := Option.some.inj (tSyn.symm.trans ht2)
  obtain rfl := Option.some.inj (gWrd.symm.trans hg3)
  obtain rfl := Option.some.inj (tWrd.symm.trans ht3)
  have e3 := cells_of_strs (ls := wrdL) Tryd.underlying82 Tryd.underlying9 cellsStr6 cells16 hd3
  obtain ⟨t4, fr4, hh4⟩ := heap_of_var gWrd hv3
  refine ⟨?_, t4, fr4, by rw [hh4, show cs3 = wrdCells from by rw [← Array.toArray_toList (xs := cs3), e3]; rfl]⟩
  obtain ⟨u1, v1, e1⟩ := iface_of_trod Tryd.underlying66 hd1
  obtain ⟨u2, v2, e2⟩ := iface_of_trod Tryd.underlying66 hd2
  refine ⟨?_, ⟨u2, v2, by rw [hv2, arr_of_list e2]⟩, ⟨u1, v1, by rw [hv1, arr_of_list e1]⟩⟩
  have hd : DataW.trod _ Tryd.prog W 0 _ false f0 132 cs0.toList = some (Lib.tabData .u64 Lib.pow10Tab, p0) := hd0
  unfold Lib.TabIs
  rw [hv0, ← Lib.cells_of_tab Tryd.underlying132 Tryd.underlying121 cellsU64 cells20 hd]
/-- A world for the witnesses: the settled one, the listed variables as they are laid. -/
noncomputable def laidWorld6 (os : Os) : World := World.laidAll Tryd.prog os tokLaid6
set_option maxRecDepth 100000 in
theorem laid_met6 (os : Os) (args : Array Value) : laidMet Tryd.prog tokLaid6 ((laidWorld6 os).forCall (fun _ _ => 0) ⟨#[], args, []⟩).memory := laidMet_laidAll args (by kernel_rfl) (by kernel_rfl)
end Go.Proofs.YtaipljdpkgdheaaDoor
