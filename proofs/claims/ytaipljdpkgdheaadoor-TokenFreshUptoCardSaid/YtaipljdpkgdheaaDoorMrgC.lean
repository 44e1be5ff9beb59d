/- Texts put together: WordAny, EqToks, BegunT, RefCan, RefQuoted. -/
import Derived.Deep.LoopGhost
import Derived.Test.YtaipljdpkgdheaaDoorSpell
import Derived.BigQuiet
import Derived.Test.YtaipljdpkgdheaaDoorMayBe
import Derived.Deep.RegionHeld3
import Derived.Deep.RegionLaw
import Derived.Test.YtaipljdpkgdheaaDoorMrgA
import Derived.Test.YtaipljdpkgdheaaDoorMrgB
/- Package token: Word, over the table of the words of the language; the reference's Word. -/
namespace Go.Proofs.YtaipljdpkgdheaaDoor
open Go Go.RowKit

def wrdL : List (List UInt8) := [[80, 65, 84, 84, 69, 82, 78], [83, 69, 81], [80, 65, 82, 84, 73, 84, 73, 79, 78], [66, 89], [87, 72, 69, 82, 69], [87, 73, 84, 72, 73, 78], [82, 69, 84, 85, 82, 78], [65, 78, 68], [79, 82], [78, 79, 84], [84, 82, 85, 69], [70, 65, 76, 83, 69], [84, 89, 80, 69], [73, 78, 84], [83, 84, 82], [66, 79, 79, 76]]
def wrdCells : Array Value := #[.string ⟨#[80, 65, 84, 84, 69, 82, 78]⟩, .string ⟨#[83, 69, 81]⟩, .string ⟨#[80, 65, 82, 84, 73, 84, 73, 79, 78]⟩, .string ⟨#[66, 89]⟩, .string ⟨#[87, 72, 69, 82, 69]⟩, .string ⟨#[87, 73, 84, 72, 73, 78]⟩, .string ⟨#[82, 69, 84, 85, 82, 78]⟩, .string ⟨#[65, 78, 68]⟩, .string ⟨#[79, 82]⟩, .string ⟨#[78, 79, 84]⟩, .string ⟨#[84, 82, 85, 69]⟩, .string ⟨#[70, 65, 76, 83, 69]⟩, .string ⟨#[84, 89, 80, 69]⟩, .string ⟨#[73, 78, 84]⟩, .string ⟨#[83, 84, 82]⟩, .string ⟨#[66, 79, 79, 76]⟩]
def wrdS (j : Nat) : ByteArray := ⟨(wrdL.getD j []).toArray⟩
/-- The table of the words lies in its variable. -/
def WordsAt (w : World) : Prop := ∃ t fr, w.heap[0]? = some (.cells wrdCells t fr)
theorem WordsAt.lt {w : World} (h : WordsAt w) : 0 < w.heap.size := by
  obtain ⟨t, fr, h⟩ := h
  exact (Array.getElem?_eq_some_iff.1 h).1
theorem WordsAt.below {w w' : World} (h : WordsAt w) (hb : Below w.heap.size w w') : WordsAt w' := by
  have hl := h.lt
  obtain ⟨t, fr, h⟩ := h
  exact ⟨t, fr, (hb.block _ hl).trans h⟩
def isWrd (l : List UInt8) : Bool := wrdL.contains l
theorem wrd_index : ∀ k : Nat, k < 16 → ∀ w : World, (Instr.index 82 (.agg wrdCells) (.int .i64 k)).run Tryd.prog w = .ok (.string (wrdS k)) w
  | 0, _, _ => by kernel_rfl | 1, _, _ => by kernel_rfl | 2, _, _ => by kernel_rfl | 3, _, _ => by kernel_rfl
  | 4, _, _ => by kernel_rfl | 5, _, _ => by kernel_rfl | 6, _, _ => by kernel_rfl | 7, _, _ => by kernel_rfl
  | 8, _, _ => by kernel_rfl | 9, _, _ => by kernel_rfl | 10, _, _ => by kernel_rfl | 11, _, _ => by kernel_rfl
  | 12, _, _ => by kernel_rfl | 13, _, _ => by kernel_rfl | 14, _, _ => by kernel_rfl | 15, _, _ => by kernel_rfl
  | n + 16, h, _ => by omega
theorem wrd_hit (s : ByteArray) (k : Nat) (hk : k < 16) (h : (s.toList == (wrdS k).toList) = true) : isWrd s.data.toList = true := by
  unfold isWrd
  rw [beq_iff_eq, ByteArray.toList_eq] at h
  have e : (wrdS k).toList = wrdL.getD k [] := by simp [wrdS]
  have hl : k < wrdL.length := by simpa [wrdL] using hk
  have e2 : wrdL.getD k [] = wrdL[k]'hl := by simp [List.getD, List.getElem?_eq_getElem hl]
  rw [h, e, e2, List.contains_iff_mem]
  exact List.getElem_mem hl
theorem wrd_miss (s : ByteArray) (h : ∀ j, j < 16 → (s.toList == (wrdS j).toList) = false) : isWrd s.data.toList = false := by
  unfold isWrd
  rw [← Bool.not_eq_true, List.contains_iff_mem]
  intro hm
  obtain ⟨j, hj, e⟩ := List.getElem_of_mem hm
  have h16 : j < 16 := by simpa [wrdL] using hj
  have := h j h16
  rw [beq_eq_false_iff_ne] at this
  apply this
  have e2 : (wrdS j).toList = wrdL.getD j [] := by simp [wrdS]
  have e3 : wrdL.getD j [] = wrdL[j]'hj := by simp [List.getD, List.getElem?_eq_getElem hj]
  rw [e2, e3, e, ByteArray.toList_eq]

set_option maxRecDepth 100000 in
theorem word_any (s : ByteArray) (w : World) (hr : WordsAt w) : Calls Tryd.prog 28 #[.string s] w fun e w' => e = .returned (.bool (isWrd s.data.toList)) ∧ w = w' := by
  have HI := Lib.hid wrd_index
  obtain ⟨tr, fr, hg⟩ := hr
  go_enter Tryd.func28, Tryd.ntmps28
  go_wp2_with (refine wpList_load_row rfl 82 _ rfl 0 rfl _ _ _ _ hg Tryd.underlying82 rfl (by kernel_rfl) ?_)
  clear hg
  go_loop [4, 6] (fun _ i => ∃ k : Nat, k ≤ 16 ∧ i = .int .i64 k ∧ ∀ j, j < k → (s.toList == (wrdS j).toList) = false) (fun _ i => 16 - (intOf i).toNat)
  case atStart => exact ⟨0, Nat.zero_le _, rfl, fun j hj => absurd hj (by omega)⟩
  case round =>
    obtain ⟨k, hk, rfl, hall⟩ := hrel
    have HA := Lib.hid hall
    clear hall
    by_cases hlt : k < 16
    · have hix := HI.out k hlt
      by_cases heq : (s.toList == (wrdS k).toList) = true
      · have HE := Lib.hid (wrd_hit s k hlt heq)
        go_wp2
        go_ret
        exact ⟨by rw [HE.out]; rfl, rfl⟩
      · have heq' : (s.toList == (wrdS k).toList) = false := by simpa using heq
        clear heq
        go_wp2
        go_round
        case rel =>
          refine ⟨k + 1, by omega, by go_num, fun j hj => ?_⟩
          rcases Nat.lt_or_ge j k with h' | h'
          · exact HA.out j h'
          · obtain rfl : j = k := by omega
            exact heq'
        case measure => simp [intOf]; omega
    · have HE := Lib.hid (wrd_miss s (fun j hj => HA.out j (by omega)))
      go_wp2
      go_ret
      exact ⟨by rw [HE.out]; rfl, rfl⟩

/-- Strings that lie in a row. -/
def StrsRow (w : World) (b : Nat) (S : Nat → ByteArray) (n : Nat) : Prop := ∀ j, j < n → w.cell? ⟨b, j, none⟩ = some (.string (S j))
set_option maxHeartbeats 4000000 in
set_option maxRecDepth 100000 in
theorem among_any (S : Nat → ByteArray) (n b : Nat) (s : ByteArray) (w : World) (hn : n ≤ 100) (hr : StrsRow w b S n) (B : Bool) (hB : B = true ↔ ∃ j, j < n ∧ (S j).toList = s.toList) :
    Calls Tryd.prog 48 #[.slice (some ⟨b, 0, none⟩) n n, .string s] w fun e w' => e = .returned (.bool B) ∧ w = w' := by
  have HR := Lib.hid hr
  have HBB := Lib.hid hB
  clear hr hB
  go_enter Tryd.func48, Tryd.ntmps48
  go_wp2_with fail
  go_loopw [5] (fun v wr => ∃ k : Nat, k ≤ n ∧ v = .int .i64 (k : Int) ∧ (∀ j, j < k → ((S j).toList == s.toList) = false) ∧ wr = w) (fun v _ => n - (intOf v).toNat)
  case atStart => exact ⟨0, by omega, rfl, fun j hj => by omega, rfl⟩
  case round =>
    obtain ⟨k, hk, rfl, hno, rfl⟩ := hrel
    have HNO := Lib.hid hno
    have k0 : (0 : Int) ≤ (k : Int) := by omega
    clear hno
    by_cases hlt : k < n
    · have k1 : (k : Int) < (n : Int) := by omega
      have s0 := HR.out k hlt
      by_cases heq : ((S k).toList == s.toList) = true
      · have HE := Lib.hid (show B = true from HBB.out.2 ⟨k, hlt, beq_iff_eq.1 heq⟩)
        go_wp2_with fail
        go_ret
        exact ⟨by rw [HE.out]; rfl, rfl⟩
      · have heq' : ((S k).toList == s.toList) = false := by simpa using heq
        have HQ := Lib.hid heq'
        clear heq
        go_wp2_with fail
        go_roundw
        case rel =>
          refine ⟨k + 1, by omega, by go_num, fun j hj => ?_, by first | rfl | trivial⟩
          rcases Nat.lt_or_ge j k with h' | h'
          · exact HNO.out j h'
          · obtain rfl : j = k := by omega
            exact HQ.out
        case measure => simp [intOf]; omega
    · have k1 : ¬ (k : Int) < (n : Int) := by omega
      have HE := Lib.hid (show B = false by
        cases hb : B with
        | false => rfl
        | true =>
          obtain ⟨j, hj, e⟩ := HBB.out.1 hb
          have h := HNO.out j (by omega)
          rw [e, beq_self_eq_true] at h
          cases h)
      go_wp2_with fail
      go_ret
      exact ⟨by rw [HE.out]; rfl, rfl⟩
set_option maxHeartbeats 4000000 in
set_option maxRecDepth 100000 in
theorem refWords_any (w : World) : Calls Tryd.prog 49 #[] w fun e w' => e = .returned (.slice (some ⟨w.heap.size, 0, none⟩) 16 16) ∧ w' = w.alloc (Obj.cells wrdCells 9) := by
  go_enter Tryd.func49, Tryd.ntmps49
  go_wp2_with fail
  go_ret
  exact ⟨rfl, rfl⟩
theorem wrd_cell : ∀ j : Fin 16, wrdCells[j.val]? = some (.string (wrdS j.val)) := fun j => by
  obtain ⟨j, hj⟩ := j
  rcases (show j = 0 ∨ j = 1 ∨ j = 2 ∨ j = 3 ∨ j = 4 ∨ j = 5 ∨ j = 6 ∨ j = 7 ∨ j = 8 ∨ j = 9 ∨ j = 10 ∨ j = 11 ∨ j = 12 ∨ j = 13 ∨ j = 14 ∨ j = 15 by omega) with rfl | rfl | rfl | rfl | rfl | rfl | rfl | rfl | rfl | rfl | rfl | rfl | rfl | rfl | rfl | rfl <;> rfl
theorem isWrd_iff (s : ByteArray) : isWrd s.data.toList = true ↔ ∃ j, j < 16 ∧ (wrdS j).toList = s.toList := by
  constructor
  · intro h
    by_cases hx : ∃ j, j < 16 ∧ (wrdS j).toList = s.toList
    · exact hx
    · rw [wrd_miss s (fun j hj => by
        rw [beq_eq_false_iff_ne]
        exact fun e => hx ⟨j, hj, e.symm⟩)] at h
      cases h
  · rintro ⟨j, hj, e⟩
    exact wrd_hit s j hj (by rw [e, beq_self_eq_true])
set_option maxHeartbeats 4000000 in
set_option maxRecDepth 100000 in
theorem refWord_any (s : ByteArray) (w : World) : Calls Tryd.prog 33 #[.string s] w fun e w' => e = .returned (.bool (isWrd s.data.toList)) ∧ Below w.heap.size w w' := by
  obtain ⟨V, hV⟩ : ∃ V, V = w.alloc (Obj.cells wrdCells 9) := ⟨_, rfl⟩
  have HW := Lib.hid (refWords_any w)
  rw [← hV] at HW
  have HB := Lib.hid (show Below w.heap.size w V by rw [hV]; exact (Below.refl _ _).alloc (Nat.le_refl _) _)
  have hrow : V.heap[w.heap.size]? = some (Obj.cells wrdCells 9 (0, 0)) := by rw [hV]; exact heap_alloc_new _ _
  have HA := Lib.hid (show ∀ W, Below V.heap.size V W → Calls Tryd.prog 48 #[.slice (some ⟨w.heap.size, 0, none⟩) 16 16, .string s] W fun e w' => e = .returned (.bool (isWrd s.data.toList)) ∧ W = w' from fun W hW =>
    among_any wrdS 16 w.heap.size s W (by decide) (fun j hj => by
      have hl := (Array.getElem?_eq_some_iff.1 hrow).1
      have hr : W.heap[w.heap.size]? = some (Obj.cells wrdCells 9 (0, 0)) := (hW.block _ hl).trans hrow
      rw [cell_of_row W w.heap.size _ _ _ (0, 0) hr]
      exact wrd_cell ⟨j, hj⟩) _ (isWrd_iff s))
  clear hV hrow
  go_enter Tryd.func33, Tryd.ntmps33
  go_wp2_with (first | (go_at_call 49; (with_reducible refine HW.out.mono ?_); rintro e w2 ⟨rfl, h2⟩; obtain rfl : V = w2 := h2.symm) | (go_at_call 48; (with_reducible refine (HA.out _ (Below.refl _ _)).mono ?_); rintro e w3 ⟨rfl, h3⟩; obtain rfl : V = w3 := h3))
  go_ret
  exact ⟨rfl, HB.out⟩
end Go.Proofs.YtaipljdpkgdheaaDoor
/- The laws' eqToks at equal lists, and begun. -/
namespace Go.Proofs.YtaipljdpkgdheaaDoor
open Go Go.RowKit

def Tk.asTok (x : Tk) : Tok := ⟨x.kind, ⟨x.text.toArray⟩, x.pos⟩
theorem toks_row {w : World} {B n cp : Nat} {va : Option Addr} {acc : List Tk} (h : w.ownsRow B 28 3 (.slice va n cp) n (tkCells acc)) (hn : acc.length = n) : ToksAt w va (acc.map Tk.asTok) := by
  rcases owned_case h with ⟨h0, _, _⟩ | ⟨g, rfl⟩
  · exact Or.inl (by rw [List.eq_nil_of_length_eq_zero (hn.trans h0)]; rfl)
  · refine Or.inr ⟨g, 0, rfl, fun i hi => ?_⟩
    have hi' : i < acc.length := by simpa using hi
    have ea : ∀ j, (⟨g, 0, none⟩ : Addr).add j = ⟨g, j, none⟩ := by
      intro j
      unfold Addr.add
      split
      · rename_i e; rw [e]
      · simp
    have at_ : ∀ (j : Nat) (v : Value), (tkCells acc)[j]? = some v → w.cell? ⟨g, j, none⟩ = some v := by
      intro j v hv
      have h5 := h.cells (g := g) rfl j v hv
      rwa [ea] at h5
    obtain ⟨k0, k1, k2⟩ := tkCells_get acc i hi'
    simp only [List.getElem_map, Nat.zero_add]
    exact ⟨at_ _ _ k0, at_ _ _ k1, at_ _ _ k2⟩

set_option maxHeartbeats 4000000 in
set_option maxRecDepth 100000 in
theorem eqToks_any (l : List Tok) (ao bo : Option Addr) (ca cb : Nat) (w : World) (hn : l.length ≤ maxLen) (ha : ToksAt w ao l) (hb : ToksAt w bo l) :
    Calls Tryd.prog 19 #[.slice ao l.length ca, .slice bo l.length cb] w fun e w' => e = .returned (.bool true) ∧ Below w.heap.size w w' := by
  have HA := Lib.hid ha
  have HB := Lib.hid hb
  clear ha hb
  unfold maxLen at hn
  obtain ⟨n, hnn⟩ : ∃ n, n = l.length := ⟨_, rfl⟩
  rw [← hnn] at hn ⊢
  have HN := Lib.hid hnn
  clear hnn
  go_enter Tryd.func19, Tryd.ntmps19
  go_wp2_with fail
  go_loopw [5] (fun v wr => ∃ k : Nat, k ≤ n ∧ v = .int .i64 (k : Int) ∧ Below w.heap.size w wr) (fun v _ => n - (intOf v).toNat)
  case atStart => exact ⟨0, by omega, rfl, Below.refl _ _⟩
  case round =>
    obtain ⟨k, hk, rfl, hbel⟩ := hrel
    have HBE := Lib.hid hbel
    clear hbel
    have k0 : (0 : Int) ≤ (k : Int) := by omega
    by_cases hlt : k < n
    · have k1 : (k : Int) < (n : Int) := by omega
      have hlt2 : k < l.length := by rw [← HN.out]; exact hlt
      obtain ⟨b, o, rfl, hc⟩ : ∃ b o, ao = some ⟨b, o, none⟩ ∧ ∀ i (h : i < l.length), wr.cell? ⟨b, o + i * 3, none⟩ = some (.int .i64 l[i].kind) ∧ wr.cell? ⟨b, o + i * 3 + 1, none⟩ = some (.string l[i].str) ∧ wr.cell? ⟨b, o + i * 3 + 2, none⟩ = some (.int .i64 l[i].pos) := by
        rcases HA.out.below HBE.out with h | h
        · rw [h] at hlt2; simp at hlt2
        · exact h
      obtain ⟨b2, o2, rfl, hc2⟩ : ∃ b o, bo = some ⟨b, o, none⟩ ∧ ∀ i (h : i < l.length), wr.cell? ⟨b, o + i * 3, none⟩ = some (.int .i64 l[i].kind) ∧ wr.cell? ⟨b, o + i * 3 + 1, none⟩ = some (.string l[i].str) ∧ wr.cell? ⟨b, o + i * 3 + 2, none⟩ = some (.int .i64 l[i].pos) := by
        rcases HB.out.below HBE.out with h | h
        · rw [h] at hlt2; simp at hlt2
        · exact h
      obtain ⟨a0, a1, a2⟩ := hc k hlt2
      obtain ⟨d0, d1, d2⟩ := hc2 k hlt2
      obtain ⟨x, hx⟩ : ∃ x, x = l[k] := ⟨_, rfl⟩
      rw [← hx] at a0 a1 a2 d0 d1 d2
      clear hc hc2 hx hlt2
      go_upto_region 6 with fail
      go_quiet (fail)
      go_wp2_with fail
      go_roundw
      case rel => exact ⟨k + 1, by omega, by go_num, below_drewN2 HBE.out _⟩
      case measure => simp [intOf]; omega
    · have k1 : ¬ (k : Int) < (n : Int) := by omega
      go_wp2_with fail
      go_ret
      exact ⟨rfl, HBE.out⟩
def T0 : List UInt8 := [97, 46, 98, 32, 62, 61, 32, 49, 50]
theorem begun_scan : scanR 9 [] T0 = ([⟨1, [97], 0⟩, ⟨4, [46], 1⟩, ⟨1, [98], 2⟩, ⟨4, [62, 61], 4⟩, ⟨2, [49, 50], 7⟩, ⟨5, [], 9⟩], [], 0) := by
  have e1 : nextR T0 = ⟨1, [97], T0, [46, 98, 32, 62, 61, 32, 49, 50], 0⟩ := rfl
  have e2 : nextR [46, 98, 32, 62, 61, 32, 49, 50] = ⟨4, [46], [46, 98, 32, 62, 61, 32, 49, 50], [98, 32, 62, 61, 32, 49, 50], 0⟩ := rfl
  have e3 : nextR [98, 32, 62, 61, 32, 49, 50] = ⟨1, [98], [98, 32, 62, 61, 32, 49, 50], [32, 62, 61, 32, 49, 50], 0⟩ := rfl
  have e4 : nextR [32, 62, 61, 32, 49, 50] = ⟨4, [62, 61], [62, 61, 32, 49, 50], [32, 49, 50], 0⟩ := rfl
  have hn : numB [49, 50] = true := by rw [small_num (by simp) (by decide)]; decide
  have e5 : nextR [32, 49, 50] = ⟨2, [49, 50], [49, 50], [], 0⟩ := by
    have h : nextR [32, 49, 50] = oneR (49 :: [50]) := rfl
    rw [h, one_dig (by decide) (by decide), show wordL [49, 50] = [49, 50] from rfl, if_pos hn]
    rfl
  rw [scanR_more (by rw [e1]) (by rw [e1]; decide), e1, scanR_more (by rw [e2]) (by rw [e2]; decide), e2, scanR_more (by rw [e3]) (by rw [e3]; decide), e3, scanR_more (by rw [e4]) (by rw [e4]; decide), e4, scanR_more (by rw [e5]) (by rw [e5]; decide), e5, scan_nil]
  rfl
end Go.Proofs.YtaipljdpkgdheaaDoor
/- The laws' begun. -/
namespace Go.Proofs.YtaipljdpkgdheaaDoor
open Go Go.RowKit

def spell0 : List Tok := [⟨4, ⟨#[45]⟩, 0⟩, ⟨4, ⟨#[45]⟩, 0⟩, ⟨2, ⟨#[53]⟩, 0⟩]
theorem spell0_ok : ∀ t ∈ spell0, TokOk t := by
  have hn : numB [53] = true := by rw [small_num (by simp) (by decide)]; decide
  intro t ht
  simp only [spell0, List.mem_cons, List.not_mem_nil, or_false] at ht
  rcases ht with rfl | rfl | rfl
  · exact ⟨rfl, by simp, by decide, fun _ => by decide⟩
  · exact ⟨rfl, by simp, by decide, fun _ => by decide⟩
  · exact ⟨hn, by simp, by decide, fun h => by simp at h⟩
theorem spell0_join : joinL (spell0.map Tok.wr) = [45, 32, 45, 32, 53] := rfl

set_option maxHeartbeats 8000000 in
set_option maxRecDepth 100000 in
theorem begun_any (w : World) (hT : Tabs w) (hW : WordsAt w) : Calls Tryd.prog 14 #[] w fun e w' => e = .returned (.bool true) ∧ Below w.heap.size w w' := by
  have hs := scan_any ⟨#[97, 46, 98, 32, 62, 61, 32, 49, 50]⟩ w (by decide) hT
  rw [show (⟨#[97, 46, 98, 32, 62, 61, 32, 49, 50]⟩ : ByteArray).size = 9 from rfl, show (⟨#[97, 46, 98, 32, 62, 61, 32, 49, 50]⟩ : ByteArray).data.toList = T0 from rfl, begun_scan] at hs
  have HS := Lib.hid hs
  have HT := Lib.hid hT
  have HW := Lib.hid hW
  have HW1 := Lib.hid (fun (W : World) (h : WordsAt W) => show Calls Tryd.prog 28 #[.string ⟨#[83, 69, 81]⟩] W fun e w' => e = .returned (.bool true) ∧ W = w' from word_any ⟨#[83, 69, 81]⟩ W h)
  have HW2 := Lib.hid (fun (W : World) (h : WordsAt W) => show Calls Tryd.prog 28 #[.string ⟨#[115, 101, 113]⟩] W fun e w' => e = .returned (.bool false) ∧ W = w' from word_any ⟨#[115, 101, 113]⟩ W h)
  clear hs hT hW
  go_enter Tryd.func14, Tryd.ntmps14
  go_upto_region 2 with ((go_at_call 9; (with_reducible refine HS.out.mono ?_); rintro e w1 ⟨⟨va, cap, rfl, hown⟩, hb1⟩; have HO := Lib.hid hown; have HB1 := Lib.hid hb1; clear hown hb1))
  obtain ⟨b, o, rfl, hc⟩ : ∃ b o, va = some ⟨b, o, none⟩ ∧ (w1.cell? ⟨b, o + 9, none⟩ = some (.int .i64 4) ∧ w1.cell? ⟨b, o + 10, none⟩ = some (.string ⟨#[62, 61]⟩) ∧ w1.cell? ⟨b, o + 11, none⟩ = some (.int .i64 4)) := by
    rcases toks_row HO.out rfl with h | ⟨b, o, e, h⟩
    · cases h
    · exact ⟨b, o, e, h 3 (by decide)⟩
  obtain ⟨V, hV⟩ : ∃ V, V = w1.alloc (Obj.cells #[.int .i64 4, .string ⟨#[45]⟩, .int .i64 0, .int .i64 4, .string ⟨#[45]⟩, .int .i64 0, .int .i64 2, .string ⟨#[53]⟩, .int .i64 0] 28) := ⟨_, rfl⟩
  have hbV : Below w1.heap.size w1 V := by rw [hV]; exact (Below.refl _ _).alloc (Nat.le_refl _) _
  have hrow : V.heap[w1.heap.size]? = some (Obj.cells #[.int .i64 4, .string ⟨#[45]⟩, .int .i64 0, .int .i64 4, .string ⟨#[45]⟩, .int .i64 0, .int .i64 2, .string ⟨#[53]⟩, .int .i64 0] 28 (0, 0)) := by rw [hV]; exact heap_alloc_new _ _
  have HSP := Lib.hid (show Calls Tryd.prog 11 #[.slice (some ⟨w1.heap.size, 0, none⟩) 3 3] V fun e w' => e = .returned (.tuple #[.string ⟨#[45, 32, 45, 32, 53]⟩, .int .i64 0]) ∧ Below V.heap.size V w' from
    spell_any spell0 (some ⟨w1.heap.size, 0, none⟩) 3 V (HT.out.below (HB1.out.trans (hbV.mono HB1.out.size))) (Or.inr ⟨w1.heap.size, 0, rfl, fun i hi => by
      have h3 : i = 0 ∨ i = 1 ∨ i = 2 := by have : i < 3 := hi; omega
      rcases h3 with rfl | rfl | rfl <;> exact ⟨by simp [World.cell?, hrow, spell0], by simp [World.cell?, hrow, spell0], by simp [World.cell?, hrow, spell0]⟩⟩) spell0_ok (by decide) (by rw [spell0_join]; decide))
  have HV := Lib.hid hV
  have HBV := Lib.hid (show Below w.heap.size w V from HB1.out.trans (hbV.mono HB1.out.size))
  have hbl : b < w1.heap.size := World.block_lt_of_cell? w1 _ hc.1
  obtain ⟨a0, a1, a2⟩ := hc
  have c0 := (hbV.cell (p := ⟨b, o + 9, none⟩) hbl).trans a0
  have c1 := (hbV.cell (p := ⟨b, o + 10, none⟩) hbl).trans a1
  have c2 := (hbV.cell (p := ⟨b, o + 11, none⟩) hbl).trans a2
  have hbv : b < V.heap.size := by have := hbV.size; omega
  clear hV hbV hrow a0 a1 a2
  go_upto_region 3 with ((go_at_call 11; (try rw [← HV.out]); (with_reducible refine HSP.out.mono ?_); rintro e w2 ⟨rfl, hb2⟩; have HB2 := Lib.hid hb2; have d0 := (hb2.cell (p := ⟨b, o + 9, none⟩) hbv).trans c0; have d1 := (hb2.cell (p := ⟨b, o + 10, none⟩) hbv).trans c1; have d2 := (hb2.cell (p := ⟨b, o + 11, none⟩) hbv).trans c2; clear hb2))
  have HWD := Lib.hid (HW.out.below (HBV.out.trans (HB2.out.mono HBV.out.size)))
  go_wp2_with (first | (go_at_call 28; (with_reducible refine (HW1.out _ HWD.out).mono ?_); rintro e w3 ⟨rfl, rfl⟩) | (go_at_call 28; (with_reducible refine (HW2.out _ HWD.out).mono ?_); rintro e w3 ⟨rfl, rfl⟩))
  go_ret
  exact ⟨rfl, HBV.out.trans (HB2.out.mono HBV.out.size)⟩
end Go.Proofs.YtaipljdpkgdheaaDoor
/- The reference's can. -/
namespace Go.Proofs.YtaipljdpkgdheaaDoor
open Go Go.RowKit

def canB (k : Int) (l : List UInt8) (last : Bool) : Bool := if k = 5 then (l == []) && last else mayB k l
theorem all_take {p : UInt8 → Bool} {l : List UInt8} : (l.takeWhile p).length = l.length ↔ l.all p = true := by
  induction l with
  | nil => simp
  | cons b r ih =>
    rw [List.takeWhile_cons, List.all_cons]
    cases hb : p b
    · simp
    · simp only [if_true, List.length_cons, Bool.true_and]
      rw [← ih]
      omega
theorem word_first {l : List UInt8} {b : UInt8} {r : List UInt8} (h : l = b :: r) (hl : letU b = false) : wordTB l = false := by
  rw [wordTB_cons h]
  subst h
  cases hd : digU b
  · have hw : wordByte b = false := by
      unfold wordByte
      unfold digU at hd
      unfold letU at hl
      rw [hd, hl]
      rfl
    have : (wordL (b :: r)).length = 0 := by unfold wordL; rw [List.takeWhile_cons, hw]; rfl
    rw [this]
    simp
    intro _ h
    omega
  · unfold digU at hd
    rw [hd]
    simp
theorem word_rest {l : List UInt8} {b : UInt8} {r : List UInt8} (h : l = b :: r) (hl : letU b = true) (h32 : l.length ≤ 32) : wordTB l = (((wordL l).length : Int) == (l.length : Int)) := by
  rw [wordTB_cons h, decide_eq_true h32]
  have hd : digI (b.toNat : Int) = false := by
    unfold letU lttrI at hl
    simp only [Bool.or_eq_true, Bool.and_eq_true, decide_eq_true_eq, beq_iff_eq] at hl
    unfold digI
    rw [Bool.and_eq_false_iff, decide_eq_false_iff_not, decide_eq_false_iff_not]
    omega
  rw [hd]
  simp
theorem sgn_mem {l : List UInt8} : (!(l == []) && ((signR l : Int) == (l.length : Int))) = true ↔ ∃ j, j < 19 ∧ sgnL.getD j [] = l := by
  rw [Bool.and_eq_true, Bool.not_eq_true', beq_iff_eq, beq_eq_false_iff_ne]
  constructor
  · rintro ⟨h0, h1⟩
    have h1 : signR l = l.length := by omega
    have hex : ∃ j, j < 19 ∧ (sgnL.getD j []) <+: l := by
      by_cases hx : ∃ j, j < 19 ∧ (sgnL.getD j []) <+: l
      · exact hx
      · have := sign_end (l := l) (fun j hj h => hx ⟨j, hj, h⟩)
        rw [this] at h1
        exact absurd (List.eq_nil_of_length_eq_zero h1.symm) h0
    obtain ⟨k, ⟨hk, hp⟩, hmin⟩ : ∃ k, (k < 19 ∧ (sgnL.getD k []) <+: l) ∧ ∀ j, j < k → ¬ (j < 19 ∧ (sgnL.getD j []) <+: l) := by
      obtain ⟨j, hj⟩ := hex
      induction j using Nat.strongRecOn with
      | ind j ih =>
        by_cases hx : ∃ i, i < j ∧ (i < 19 ∧ (sgnL.getD i []) <+: l)
        · obtain ⟨i, hi, h⟩ := hx
          exact ih i hi h
        · exact ⟨j, hj, fun i hi h => hx ⟨i, hi, h⟩⟩
    have h2 := sign_hit hk hp (fun j hj h => hmin j hj ⟨by omega, h⟩)
    refine ⟨k, hk, ?_⟩
    rw [h1] at h2
    exact hp.eq_of_length h2.symm
  · rintro ⟨j, hj, rfl⟩
    have h : ∀ j : Fin 19, sgnL.getD j.val [] ≠ [] ∧ (signR (sgnL.getD j.val []) : Int) = ((sgnL.getD j.val []).length : Int) := by decide
    exact h ⟨j, hj⟩
theorem sgn_iff (s : ByteArray) : mayB 4 s.data.toList = true ↔ ∃ j, j < 19 ∧ (sgnS j).toList = s.toList := by
  have h : mayB 4 s.data.toList = (!(s.data.toList == []) && ((signR s.data.toList : Int) == (s.data.toList.length : Int))) := rfl
  rw [h, sgn_mem]
  constructor
  · rintro ⟨j, hj, e⟩
    exact ⟨j, hj, by rw [ByteArray.toList_eq, ByteArray.toList_eq, sgn_bytes, e]⟩
  · rintro ⟨j, hj, e⟩
    exact ⟨j, hj, by rw [ByteArray.toList_eq, ByteArray.toList_eq, sgn_bytes] at e; exact e⟩

set_option maxHeartbeats 8000000 in
set_option maxRecDepth 100000 in
theorem refCan_any (k a : Int) (s : ByteArray) (last : Bool) (w : World) (hm : s.size ≤ 140737488355328) :
    Calls Tryd.prog 46 #[.agg #[.int .i64 k, .string s, .int .i64 a], .bool last] w fun e w' => e = .returned (.bool (canB k s.data.toList last)) ∧ Below w.heap.size w w' := by
  obtain ⟨W1, hW1⟩ : ∃ W1, W1 = w.alloc (Obj.cells #[.int .i64 k, .string s, .int .i64 a] 28) := ⟨_, rfl⟩
  obtain ⟨E, hE⟩ : ∃ E, E = w.heap.size := ⟨_, rfl⟩
  have HB1 := Lib.hid (show Below w.heap.size w W1 by rw [hW1]; exact (Below.refl _ _).alloc (Nat.le_refl _) _)
  have hc := show Cells3 W1 E (.int .i64 k) (.string s) (.int .i64 a) by rw [hW1, hE]; exact Cells3.made _ _ _ _ _
  have c0 := hc.c0
  have c1 := hc.c1
  have HC1 := Lib.hid hc
  have HW1 := Lib.hid hW1
  have HEE := Lib.hid hE
  have hE1 : E < W1.heap.size := hc.lt
  have hwE : w.heap.size ≤ E := by omega
  have hlen : s.data.toList.length = s.size := len_at s
  have hr0 : restB s 0 = s.data.toList := by unfold restB; rw [List.drop_zero]
  clear hc hW1 hE
  have H0 := Lib.hid (refRun_any s 0 true W1 (Nat.zero_le _) hm)
  have H1 := Lib.hid (refRun_any s 0 false W1 (Nat.zero_le _) hm)
  rw [hr0, Nat.zero_add, show ((0 : Nat) : Int) = 0 from rfl, runP_word] at H0
  rw [hr0, Nat.zero_add, show ((0 : Nat) : Int) = 0 from rfl, runP_dig] at H1
  by_cases h1 : k = 1
  · subst h1
    have HCB := Lib.hid (show canB 1 s.data.toList last = wordTB s.data.toList from rfl)
    by_cases hz : s.size = 0
    · have z0 : ¬ (0 : Int) < (s.size : Int) := by omega
      have HE := Lib.hid (show canB 1 s.data.toList last = false by rw [HCB.out, List.eq_nil_of_length_eq_zero (hlen.trans hz)]; rfl)
      go_enter Tryd.func46, Tryd.ntmps46
      go_upto_region 1 with fail
      rw [← HW1.out, ← HEE.out]
      go_wp2_with fail
      go_ret
      exact ⟨by rw [HE.out]; rfl, HB1.out⟩
    · have z0 : (0 : Int) < (s.size : Int) := by omega
      have hz' : 0 < s.size := by omega
      have hcons : s.data.toList = (s[0]'hz') :: restB s 1 := by rw [← hr0]; exact rest_cons hz'
      by_cases h32 : s.size ≤ 32
      · have z32 : (s.size : Int) ≤ 32 := by omega
        have HL := Lib.hid (refLetter_any (s[0]'hz') W1)
        cases hl : letU (s[0]'hz')
        · rw [hl] at HL
          have HE := Lib.hid (show canB 1 s.data.toList last = false by rw [HCB.out, word_first hcons hl])
          clear hl hcons
          go_enter Tryd.func46, Tryd.ntmps46
          go_upto_region 1 with fail
          rw [← HW1.out, ← HEE.out]
          go_wp2_with ((go_at_call 63; (with_reducible refine HL.out.mono ?_); rintro e w3 ⟨rfl, rfl⟩))
          go_ret
          exact ⟨by rw [HE.out]; rfl, HB1.out⟩
        · rw [hl] at HL
          have HE := Lib.hid (show canB 1 s.data.toList last = (((wordL s.data.toList).length : Int) == (s.size : Int)) by rw [HCB.out, word_rest hcons hl (by rw [hlen]; exact h32), hlen])
          clear hl hcons
          go_enter Tryd.func46, Tryd.ntmps46
          go_upto_region 1 with fail
          rw [← HW1.out, ← HEE.out]
          go_wp2_with (first | (go_at_call 63; (with_reducible refine HL.out.mono ?_); rintro e w3 ⟨rfl, rfl⟩) | (go_at_call 64; (with_reducible refine H0.out.mono ?_); rintro e w3 ⟨rfl, rfl⟩))
          go_ret
          exact ⟨by rw [HE.out]; rfl, HB1.out⟩
      · have z32 : ¬ (s.size : Int) ≤ 32 := by omega
        have HE := Lib.hid (show canB 1 s.data.toList last = false by
          rw [HCB.out, wordTB_cons hcons, decide_eq_false (by rw [hlen]; exact h32)]
          rfl)
        clear hcons
        go_enter Tryd.func46, Tryd.ntmps46
        go_upto_region 1 with fail
        rw [← HW1.out, ← HEE.out]
        go_wp2_with fail
        go_ret
        exact ⟨by rw [HE.out]; rfl, HB1.out⟩
  have b1 : (k == 1) = false := beq_eq_false_iff_ne.2 h1
  by_cases h2 : k = 2
  · subst h2
    have HCB := Lib.hid (show canB 2 s.data.toList last = numB s.data.toList from rfl)
    by_cases hz : s.size = 0
    · have z0 : ¬ (0 : Int) < (s.size : Int) := by omega
      have HE := Lib.hid (show canB 2 s.data.toList last = false by rw [HCB.out, List.eq_nil_of_length_eq_zero (hlen.trans hz)]; rfl)
      clear h1
      go_enter Tryd.func46, Tryd.ntmps46
      go_upto_region 1 with fail
      rw [← HW1.out, ← HEE.out]
      go_wp2_with fail
      go_ret
      exact ⟨by rw [HE.out]; rfl, HB1.out⟩
    · have z0 : (0 : Int) < (s.size : Int) := by omega
      have hne : s.data.toList ≠ [] := fun e => hz (by rw [← hlen, e]; rfl)
      have HSM := Lib.hid (refSmall_any s W1 hm)
      by_cases hd : s.data.toList.all digU = true
      · have hq : (((s.data.toList.takeWhile digU).length : Int) == (s.size : Int)) = true := by rw [all_take.2 hd, hlen]; simp
        have HE := Lib.hid (show canB 2 s.data.toList last = smallB s.data.toList by rw [HCB.out, small_num hne hd])
        clear h1 hd hne
        go_enter Tryd.func46, Tryd.ntmps46
        go_upto_region 1 with fail
        rw [← HW1.out, ← HEE.out]
        go_wp2_with (first | (go_at_call 64; (with_reducible refine H1.out.mono ?_); rintro e w3 ⟨rfl, rfl⟩) | (go_at_call 66; (with_reducible refine HSM.out.mono ?_); rintro e w3 ⟨rfl, rfl⟩))
        go_ret
        exact ⟨by rw [HE.out]; rfl, HB1.out⟩
      · have hd : s.data.toList.all digU = false := by simpa using hd
        have hq : (((s.data.toList.takeWhile digU).length : Int) == (s.size : Int)) = false := by
          rw [beq_eq_false_iff_ne]
          intro e
          have : (s.data.toList.takeWhile digU).length = s.data.toList.length := by rw [hlen]; omega
          rw [all_take.1 this] at hd
          cases hd
        have HE := Lib.hid (show canB 2 s.data.toList last = false by rw [HCB.out, num_other hd])
        clear h1 hd hne
        go_enter Tryd.func46, Tryd.ntmps46
        go_upto_region 1 with fail
        rw [← HW1.out, ← HEE.out]
        go_wp2_with ((go_at_call 64; (with_reducible refine H1.out.mono ?_); rintro e w3 ⟨rfl, rfl⟩))
        go_ret
        exact ⟨by rw [HE.out]; rfl, HB1.out⟩
  have b2 : (k == 2) = false := beq_eq_false_iff_ne.2 h2
  by_cases h3 : k = 3
  · subst h3
    have HE := Lib.hid (show canB 3 s.data.toList last = decide ((s.size : Int) ≤ 256) from rfl)
    clear h1 h2
    go_enter Tryd.func46, Tryd.ntmps46
    go_upto_region 1 with fail
    rw [← HW1.out, ← HEE.out]
    go_wp2_with fail
    go_ret
    exact ⟨by rw [HE.out]; rfl, HB1.out⟩
  have b3 : (k == 3) = false := beq_eq_false_iff_ne.2 h3
  by_cases h4 : k = 4
  · subst h4
    have HE := Lib.hid (show canB 4 s.data.toList last = mayB 4 s.data.toList from rfl)
    have HA := Lib.hid (show ∀ (W' : World) (B : Nat), W'.heap[B]? = some (Obj.cells sgnCells 9 (0, 0)) → Calls Tryd.prog 48 #[.slice (some ⟨B, 0, none⟩) 19 19, .string s] W' fun e w' => e = .returned (.bool (mayB 4 s.data.toList)) ∧ W' = w' from fun W' B hr =>
      among_any sgnS 19 B s W' (by decide) (fun j hj => by
        rw [cell_of_row W' B _ _ _ (0, 0) hr]
        exact sgn_cell ⟨j, hj⟩) _ (sgn_iff s))
    have HSI := Lib.hid (show ∀ W : World, Below W1.heap.size W1 W → Calls Tryd.prog 68 #[] W fun e w' => ∃ B, e = .returned (.slice (some ⟨B, 0, none⟩) 19 19) ∧ Below W1.heap.size W1 w' ∧ w'.heap[B]? = some (Obj.cells sgnCells 9 (0, 0)) from fun W hW =>
      (refSigns_any W).mono fun e w' ⟨h1, h2⟩ => ⟨W.heap.size, h1, by rw [h2]; exact hW.alloc hW.size _, by rw [h2]; exact heap_alloc_new _ _⟩)
    clear h1 h2 h3
    go_enter Tryd.func46, Tryd.ntmps46
    go_upto_region 1 with fail
    rw [← HW1.out, ← HEE.out]
    go_upto_region 10 with fail
    go_region_held3 (fun w' => w'.cell? ⟨E, 1, none⟩ = some (.string s)) (first | (with_reducible exact s3) | go_keep) (first | (go_at_call 68; (with_reducible refine (HSI.out _ (by first | exact Below.refl _ _ | exact (Below.refl _ _).drew | exact (Below.refl _ _).drew.drew)).mono ?_); rintro e w3 ⟨B, rfl, hb3, hrow⟩; have s3 : w3.cell? ⟨E, 1, none⟩ = some (.string s) := (hb3.cell (p := ⟨E, 1, none⟩) hE1).trans c1; have HB3 := Lib.hid hb3; have HRW := Lib.hid hrow; clear hb3 hrow) | (go_at_call 48; (with_reducible refine (HA.out _ _ (by exact HRW.out)).mono ?_); rintro e w4 ⟨rfl, hw4⟩; subst hw4))
    all_goals (
      go_wp2_with fail
      go_ret
      exact ⟨by rw [HE.out]; rfl, HB1.out.trans (HB3.out.mono HB1.out.size)⟩)
  have b4 : (k == 4) = false := beq_eq_false_iff_ne.2 h4
  by_cases h5 : k = 5
  · subst h5
    clear h1 h2 h3 h4
    have HE := Lib.hid (show canB 5 s.data.toList last = ((s.data.toList == []) && last) from rfl)
    by_cases hz : s.size = 0
    · have z0 : ((s.size : Int) == 0) = true := by rw [hz]; rfl
      have HN := Lib.hid (show (s.data.toList == []) = true by rw [List.eq_nil_of_length_eq_zero (hlen.trans hz)]; rfl)
      go_enter Tryd.func46, Tryd.ntmps46
      go_upto_region 1 with fail
      rw [← HW1.out, ← HEE.out]
      go_wp2_with fail
      go_ret
      exact ⟨by rw [HE.out, HN.out]; rfl, HB1.out⟩
    · have z0 : ((s.size : Int) == 0) = false := by rw [beq_eq_false_iff_ne]; omega
      have HN := Lib.hid (show (s.data.toList == []) = false by rw [beq_eq_false_iff_ne]; intro e; exact hz (by rw [← hlen, e]; rfl))
      go_enter Tryd.func46, Tryd.ntmps46
      go_upto_region 1 with fail
      rw [← HW1.out, ← HEE.out]
      go_wp2_with fail
      go_ret
      exact ⟨by rw [HE.out, HN.out]; rfl, HB1.out⟩
  have b5 : (k == 5) = false := beq_eq_false_iff_ne.2 h5
  have HE := Lib.hid (show canB k s.data.toList last = false by unfold canB mayB; rw [if_neg h5, if_neg h1, if_neg h2, if_neg h3, if_neg h4, if_neg h5])
  clear h1 h2 h3 h4 h5
  go_enter Tryd.func46, Tryd.ntmps46
  go_upto_region 1 with fail
  rw [← HW1.out, ← HEE.out]
  go_wp2_with fail
  go_ret
  exact ⟨by rw [HE.out]; rfl, HB1.out⟩
end Go.Proofs.YtaipljdpkgdheaaDoor
/- The reference's quoted. -/
namespace Go.Proofs.YtaipljdpkgdheaaDoor
open Go Go.RowKit

theorem u8_small16 : ∀ p : Fin 16, IntKind.u8.wrap (p.val : Int) = (p.val : Int) := by decide +kernel
theorem u8_small (p : Nat) (hp : p < 16) : IntKind.u8.wrap (p : Int) = (p : Int) := u8_small16 ⟨p, hp⟩

set_option maxHeartbeats 8000000 in
set_option maxRecDepth 100000 in
theorem refQuoted_any (s : ByteArray) (w : World) (hs : s.size ≤ 256) :
    Calls Tryd.prog 47 #[.string s] w fun e w' => e = .returned (.string ⟨(34 :: (s.data.toList.flatMap escB ++ [34])).toArray⟩) ∧ Below w.heap.size w w' := by
  obtain ⟨i0, hi0, iz0, iz1, iz2⟩ := info_parts Tryd.infoU8
  go_enter Tryd.func47, Tryd.ntmps47
  go_wp2_with (at_builtin; go_must (refine wpList_append_lies _ (by rfl) _ _ _ (by rfl) w.heap.size 5 i0 _ 1 1 Tryd.underlying22 hi0 iz0 iz1 iz2 rfl (by omega) (.slice none 0 0) 0 (bytesC []) (by rfl) (World.ownsRow_nil _ _ _ _) ⟨_, 0, none⟩ 1 1 [.int .u8 34] (by rfl) (by rfl) (World.news_of_block (cs := #[.int .u8 34]) (t := 5) (fr := (0, 0)) (heap_alloc_new _ _)) (by simp [Value.oneCell']) (by omega) (by unfold maxLen; omega) (by omega) (by simp) _ rfl ?_; intro g2 cap2 w7 hown7 hgrow7 hat7 hlt7))
  have HO7 := Lib.hid (show w7.ownsRow w.heap.size 5 1 (.slice (some ⟨g2, 0, none⟩) 1 cap2) 1 (bytesC [34]) from hown7)
  have HB7 := Lib.hid (Below.grown (B := w.heap.size) ((Below.refl _ w).alloc (Nat.le_refl _) _) hgrow7 (by simp) (fun _ h => by cases h))
  clear hown7 hgrow7 hat7 hlt7
  go_loopg [3, 4] (s.size + 1) (fun g v3 v4 wr => ∃ (i : Nat) (m : List UInt8) (va : Option Addr) (cp : Nat), i ≤ s.size ∧ v4 = .int .i64 (i : Int) ∧ v3 = .slice va (34 :: m).length cp ∧ wr.ownsRow w.heap.size 5 1 (.slice va (34 :: m).length cp) (34 :: m).length (bytesC (34 :: m)) ∧ m = (s.data.toList.take i).flatMap escB ∧ Below w.heap.size w wr ∧ s.size - i < g)
  case atStart => exact ⟨0, [], some ⟨g2, 0, none⟩, cap2, Nat.zero_le _, rfl, rfl, HO7.out, rfl, HB7.out, by omega⟩
  case round =>
    obtain ⟨i, m, va, cp, hi, rfl, rfl, hown, hm, hbel, hg⟩ := hrel
    obtain ⟨g, rfl⟩ : ∃ g, gk = g + 1 := ⟨gk - 1, by omega⟩
    obtain ⟨n, hn⟩ : ∃ n, n = (34 :: m).length := ⟨_, rfl⟩
    rw [← hn] at hown ⊢
    have HN := Lib.hid hn
    have HO := Lib.hid hown
    have HM := Lib.hid hm.symm
    have HBE := Lib.hid hbel
    have hzw := hbel.size
    have hn1 : n ≤ 1 + 4 * i := by
      have h := escs_len (s.data.toList.take i)
      rw [← hm, List.length_take] at h
      rw [hn, List.length_cons]
      omega
    clear hn hown hbel hm
    have i0' : (0 : Int) ≤ (i : Int) := by omega
    by_cases hlt : i < s.size
    · have i1' : (i : Int) < (s.size : Int) := by omega
      have HTK := Lib.hid (show s.data.toList.take (i + 1) = s.data.toList.take i ++ [s[i]'hlt] by
        rw [List.take_add_one, Lib.data_getElem? s i hlt]
        rfl)
      have hlt256 := (s[i]'hlt).toNat_lt
      by_cases hc34 : (s[i]'hlt) = 34
      · have e34 : (((s[i]'hlt).toNat : Int) == 34) = true := by rw [hc34]; rfl
        have HES := Lib.hid (show escB (s[i]'hlt) = [92, 34] by rw [hc34]; try rfl)
        go_wp2_with (at_builtin; go_must (refine wpList_append_lies _ (by rfl) _ _ _ (by rfl) w.heap.size 5 i0 _ 1 1 Tryd.underlying22 hi0 iz0 iz1 iz2 rfl (by omega) (.slice va n cp) n (bytesC (34 :: m)) (by rfl) (HO.out.alloc _) ⟨_, 0, none⟩ 2 2 [.int .u8 92, .int .u8 34] (by rfl) (by rfl) (World.news_of_block (cs := #[.int .u8 92, .int .u8 34]) (t := 5) (fr := (0, 0)) (heap_alloc_new _ _)) (by simp [Value.oneCell']) (by omega) (by unfold maxLen; omega) (by omega) (by simp; omega) _ rfl ?_; intro g3 cap3 w8 hown8 hgrow8 hat8 hlt8))
        have HE8 := Lib.hid (show (s.data.toList.take (i + 1)).flatMap escB = m ++ [92, 34] by rw [HTK.out, List.flatMap_append, HM.out, List.flatMap_singleton, HES.out])
        have HL8 := Lib.hid (show (34 :: (m ++ [92, 34])).length = n + 2 by rw [HN.out]; simp only [List.length_cons, List.length_append, List.length_nil]; try omega)
        have HO8 := Lib.hid (show w8.ownsRow w.heap.size 5 1 (.slice (some ⟨g3, 0, none⟩) (n + 2) cap3) (n + 2) (bytesC (34 :: (m ++ [92, 34]))) by
          rw [← List.cons_append, bytesC_append]
          exact hown8)
        have HB8 := Lib.hid (Below.grown (B := w.heap.size) (by first | exact HBE.out.alloc hzw _ | exact (HBE.out.alloc hzw _).drew) hgrow8 (by first | (simp; omega) | (show w.heap.size ≤ _; rw [World.size_alloc]; omega)) (ownBlock_lo HO.out))
        clear hown8 hgrow8 hat8 hlt8
        try go_wp2_with fail
        go_roundg g
        case rel => exact ⟨i + 1, m ++ [92, 34], some ⟨g3, 0, none⟩, cap3, by omega, by go_num, by rw [HL8.out], by rw [HL8.out]; exact HO8.out, HE8.out.symm, HB8.out, by omega⟩
        case measure => omega
      have e34 := u8_ne hc34 (n := 34) rfl
      by_cases hc92 : (s[i]'hlt) = 92
      · have e92 : (((s[i]'hlt).toNat : Int) == 92) = true := by rw [hc92]; rfl
        have HES := Lib.hid (show escB (s[i]'hlt) = [92, 92] by rw [hc92]; try rfl)
        go_wp2_with (at_builtin; go_must (refine wpList_append_lies _ (by rfl) _ _ _ (by rfl) w.heap.size 5 i0 _ 1 1 Tryd.underlying22 hi0 iz0 iz1 iz2 rfl (by omega) (.slice va n cp) n (bytesC (34 :: m)) (by rfl) (HO.out.alloc _) ⟨_, 0, none⟩ 2 2 [.int .u8 92, .int .u8 92] (by rfl) (by rfl) (World.news_of_block (cs := #[.int .u8 92, .int .u8 92]) (t := 5) (fr := (0, 0)) (heap_alloc_new _ _)) (by simp [Value.oneCell']) (by omega) (by unfold maxLen; omega) (by omega) (by simp; omega) _ rfl ?_; intro g3 cap3 w8 hown8 hgrow8 hat8 hlt8))
        have HE8 := Lib.hid (show (s.data.toList.take (i + 1)).flatMap escB = m ++ [92, 92] by rw [HTK.out, List.flatMap_append, HM.out, List.flatMap_singleton, HES.out])
        have HL8 := Lib.hid (show (34 :: (m ++ [92, 92])).length = n + 2 by rw [HN.out]; simp only [List.length_cons, List.length_append, List.length_nil]; try omega)
        have HO8 := Lib.hid (show w8.ownsRow w.heap.size 5 1 (.slice (some ⟨g3, 0, none⟩) (n + 2) cap3) (n + 2) (bytesC (34 :: (m ++ [92, 92]))) by
          rw [← List.cons_append, bytesC_append]
          exact hown8)
        have HB8 := Lib.hid (Below.grown (B := w.heap.size) (by first | exact HBE.out.alloc hzw _ | exact (HBE.out.alloc hzw _).drew) hgrow8 (by first | (simp; omega) | (show w.heap.size ≤ _; rw [World.size_alloc]; omega)) (ownBlock_lo HO.out))
        clear hown8 hgrow8 hat8 hlt8
        try go_wp2_with fail
        go_roundg g
        case rel => exact ⟨i + 1, m ++ [92, 92], some ⟨g3, 0, none⟩, cap3, by omega, by go_num, by rw [HL8.out], by rw [HL8.out]; exact HO8.out, HE8.out.symm, HB8.out, by omega⟩
        case measure => omega
      have e92 := u8_ne hc92 (n := 92) rfl
      by_cases hc10 : (s[i]'hlt) = 10
      · have e10 : (((s[i]'hlt).toNat : Int) == 10) = true := by rw [hc10]; rfl
        have HES := Lib.hid (show escB (s[i]'hlt) = [92, 110] by rw [hc10]; try rfl)
        go_wp2_with (at_builtin; go_must (refine wpList_append_lies _ (by rfl) _ _ _ (by rfl) w.heap.size 5 i0 _ 1 1 Tryd.underlying22 hi0 iz0 iz1 iz2 rfl (by omega) (.slice va n cp) n (bytesC (34 :: m)) (by rfl) (HO.out.alloc _) ⟨_, 0, none⟩ 2 2 [.int .u8 92, .int .u8 110] (by rfl) (by rfl) (World.news_of_block (cs := #[.int .u8 92, .int .u8 110]) (t := 5) (fr := (0, 0)) (heap_alloc_new _ _)) (by simp [Value.oneCell']) (by omega) (by unfold maxLen; omega) (by omega) (by simp; omega) _ rfl ?_; intro g3 cap3 w8 hown8 hgrow8 hat8 hlt8))
        have HE8 := Lib.hid (show (s.data.toList.take (i + 1)).flatMap escB = m ++ [92, 110] by rw [HTK.out, List.flatMap_append, HM.out, List.flatMap_singleton, HES.out])
        have HL8 := Lib.hid (show (34 :: (m ++ [92, 110])).length = n + 2 by rw [HN.out]; simp only [List.length_cons, List.length_append, List.length_nil]; try omega)
        have HO8 := Lib.hid (show w8.ownsRow w.heap.size 5 1 (.slice (some ⟨g3, 0, none⟩) (n + 2) cap3) (n + 2) (bytesC (34 :: (m ++ [92, 110]))) by
          rw [← List.cons_append, bytesC_append]
          exact hown8)
        have HB8 := Lib.hid (Below.grown (B := w.heap.size) (by first | exact HBE.out.alloc hzw _ | exact (HBE.out.alloc hzw _).drew) hgrow8 (by first | (simp; omega) | (show w.heap.size ≤ _; rw [World.size_alloc]; omega)) (ownBlock_lo HO.out))
        clear hown8 hgrow8 hat8 hlt8
        try go_wp2_with fail
        go_roundg g
        case rel => exact ⟨i + 1, m ++ [92, 110], some ⟨g3, 0, none⟩, cap3, by omega, by go_num, by rw [HL8.out], by rw [HL8.out]; exact HO8.out, HE8.out.symm, HB8.out, by omega⟩
        case measure => omega
      have e10 := u8_ne hc10 (n := 10) rfl
      by_cases hc9 : (s[i]'hlt) = 9
      · have e9 : (((s[i]'hlt).toNat : Int) == 9) = true := by rw [hc9]; rfl
        have HES := Lib.hid (show escB (s[i]'hlt) = [92, 116] by rw [hc9]; try rfl)
        go_wp2_with (at_builtin; go_must (refine wpList_append_lies _ (by rfl) _ _ _ (by rfl) w.heap.size 5 i0 _ 1 1 Tryd.underlying22 hi0 iz0 iz1 iz2 rfl (by omega) (.slice va n cp) n (bytesC (34 :: m)) (by rfl) (HO.out.alloc _) ⟨_, 0, none⟩ 2 2 [.int .u8 92, .int .u8 116] (by rfl) (by rfl) (World.news_of_block (cs := #[.int .u8 92, .int .u8 116]) (t := 5) (fr := (0, 0)) (heap_alloc_new _ _)) (by simp [Value.oneCell']) (by omega) (by unfold maxLen; omega) (by omega) (by simp; omega) _ rfl ?_; intro g3 cap3 w8 hown8 hgrow8 hat8 hlt8))
        have HE8 := Lib.hid (show (s.data.toList.take (i + 1)).flatMap escB = m ++ [92, 116] by rw [HTK.out, List.flatMap_append, HM.out, List.flatMap_singleton, HES.out])
        have HL8 := Lib.hid (show (34 :: (m ++ [92, 116])).length = n + 2 by rw [HN.out]; simp only [List.length_cons, List.length_append, List.length_nil]; try omega)
        have HO8 := Lib.hid (show w8.ownsRow w.heap.size 5 1 (.slice (some ⟨g3, 0, none⟩) (n + 2) cap3) (n + 2) (bytesC (34 :: (m ++ [92, 116]))) by
          rw [← List.cons_append, bytesC_append]
          exact hown8)
        have HB8 := Lib.hid (Below.grown (B := w.heap.size) (by first | exact HBE.out.alloc hzw _ | exact (HBE.out.alloc hzw _).drew) hgrow8 (by first | (simp; omega) | (show w.heap.size ≤ _; rw [World.size_alloc]; omega)) (ownBlock_lo HO.out))
        clear hown8 hgrow8 hat8 hlt8
        try go_wp2_with fail
        go_roundg g
        case rel => exact ⟨i + 1, m ++ [92, 116], some ⟨g3, 0, none⟩, cap3, by omega, by go_num, by rw [HL8.out], by rw [HL8.out]; exact HO8.out, HE8.out.symm, HB8.out, by omega⟩
        case measure => omega
      have e9 := u8_ne hc9 (n := 9) rfl
      have hesc := esc_other hc34 hc92 hc10 hc9
      by_cases hr : 32 ≤ (s[i]'hlt).toNat ∧ (s[i]'hlt).toNat ≤ 126
      · have r1 : ¬ ((s[i]'hlt).toNat : Int) < 32 := by omega
        have r2 : ¬ (126 : Int) < ((s[i]'hlt).toNat : Int) := by omega
        have HES := Lib.hid (show escB (s[i]'hlt) = [(s[i]'hlt)] by rw [hesc, if_pos hr])
        go_wp2_with (at_builtin; go_must (refine wpList_append_lies _ (by rfl) _ _ _ (by rfl) w.heap.size 5 i0 _ 1 1 Tryd.underlying22 hi0 iz0 iz1 iz2 rfl (by omega) (.slice va n cp) n (bytesC (34 :: m)) (by rfl) (HO.out.alloc _) ⟨_, 0, none⟩ 1 1 [.int .u8 ((s[i]'hlt).toNat : Int)] (by rfl) (by rfl) (World.news_of_block (cs := #[.int .u8 ((s[i]'hlt).toNat : Int)]) (t := 5) (fr := (0, 0)) (heap_alloc_new _ _)) (by simp [Value.oneCell']) (by omega) (by unfold maxLen; omega) (by omega) (by simp; omega) _ rfl ?_; intro g3 cap3 w8 hown8 hgrow8 hat8 hlt8))
        have HE8 := Lib.hid (show (s.data.toList.take (i + 1)).flatMap escB = m ++ [(s[i]'hlt)] by rw [HTK.out, List.flatMap_append, HM.out, List.flatMap_singleton, HES.out])
        have HL8 := Lib.hid (show (34 :: (m ++ [(s[i]'hlt)])).length = n + 1 by rw [HN.out]; simp only [List.length_cons, List.length_append, List.length_nil]; try omega)
        have HO8 := Lib.hid (show w8.ownsRow w.heap.size 5 1 (.slice (some ⟨g3, 0, none⟩) (n + 1) cap3) (n + 1) (bytesC (34 :: (m ++ [(s[i]'hlt)]))) by
          rw [← List.cons_append, bytesC_append]
          exact hown8)
        have HB8 := Lib.hid (Below.grown (B := w.heap.size) (by first | exact HBE.out.alloc hzw _ | exact (HBE.out.alloc hzw _).drew) hgrow8 (by first | (simp; omega) | (show w.heap.size ≤ _; rw [World.size_alloc]; omega)) (ownBlock_lo HO.out))
        clear hown8 hgrow8 hat8 hlt8
        try go_wp2_with fail
        go_roundg g
        case rel => exact ⟨i + 1, m ++ [(s[i]'hlt)], some ⟨g3, 0, none⟩, cap3, by omega, by go_num, by rw [HL8.out], by rw [HL8.out]; exact HO8.out, HE8.out.symm, HB8.out, by omega⟩
        case measure => omega
      obtain ⟨p, hp⟩ : ∃ p, p = (s[i]'hlt).toNat / 16 := ⟨_, rfl⟩
      obtain ⟨q, hq⟩ : ∃ q, q = (s[i]'hlt).toNat % 16 := ⟨_, rfl⟩
      have hp2 : p < 16 := by omega
      have hq2 : q < 16 := by omega
      have hx1 : ((s[i]'hlt).toNat : Int) / 16 = ((s[i]'hlt).toNat / 16 : Nat) := by omega
      have e1 : ((s[i]'hlt).toNat : Int) / 16 = (p : Int) := by omega
      have e2 : ((s[i]'hlt).toNat : Int).tmod 16 = (q : Int) := by rw [Int.tmod_eq_emod_of_nonneg (by omega)]; omega
      have p0 : (0 : Int) ≤ (p : Int) := by omega
      have p1 : (p : Int) < 16 := by omega
      have r0 : (0 : Int) ≤ (q : Int) := by omega
      have r1 : (q : Int) < 16 := by omega
      have w1 := u8_small p hp2
      have w2 := u8_small q hq2
      have HES := Lib.hid (show escB (s[i]'hlt) = [92, 120, hexS[p]'hp2, hexS[q]'hq2] by rw [hesc, if_neg hr]; subst hp; subst hq; rfl)
      have hS16 : hexS.size = 16 := rfl
      have hsz : (⟨#[48, 49, 50, 51, 52, 53, 54, 55, 56, 57, 97, 98, 99, 100, 101, 102]⟩ : ByteArray) = hexS := rfl
      clear hp hq hx1
      rcases (show (s[i]'hlt).toNat < 32 ∨ 126 < (s[i]'hlt).toNat by omega) with r2 | r2
      · have r3 : ((s[i]'hlt).toNat : Int) < 32 := by omega
        clear hr hesc
        go_wp2_with fail
        try rw [hsz]
        go_region_law (first
          | (refine step_append_lies _ (by rfl) _ _ _ (by rfl) w.heap.size 5 i0 _ 1 1 Tryd.underlying22 hi0 iz0 iz1 iz2 rfl (by omega) (.slice va n cp) n (bytesC (34 :: m)) (by rfl) (by first | exact HO.out.alloc _ | exact (HO.out.alloc _).drew) ⟨_, 0, none⟩ 4 4 [.int .u8 92, .int .u8 120, .int .u8 ((hexS[p]'hp2).toNat : Int), .int .u8 ((hexS[q]'hq2).toNat : Int)] (by rfl) (by rfl) (World.news_of_block (cs := #[.int .u8 92, .int .u8 120, .int .u8 ((hexS[p]'hp2).toNat : Int), .int .u8 ((hexS[q]'hq2).toNat : Int)]) (t := 5) (fr := (0, 0)) (heap_alloc_new _ _)) (by simp [Value.oneCell']) (by omega) (by unfold maxLen; omega) (by omega) (by first | (simp; done) | (simp; omega)) _ rfl ?_; intro g3 cap3 w8 hown8 hgrow8 hat8 hlt8))
        all_goals
          have HE8 := Lib.hid (show (s.data.toList.take (i + 1)).flatMap escB = m ++ [92, 120, hexS[p]'hp2, hexS[q]'hq2] by rw [HTK.out, List.flatMap_append, HM.out, List.flatMap_singleton, HES.out])
          have HL8 := Lib.hid (show (34 :: (m ++ [92, 120, hexS[p]'hp2, hexS[q]'hq2])).length = n + 4 by rw [HN.out]; simp only [List.length_cons, List.length_append, List.length_nil]; try omega)
          have HO8 := Lib.hid (show w8.ownsRow w.heap.size 5 1 (.slice (some ⟨g3, 0, none⟩) (n + 4) cap3) (n + 4) (bytesC (34 :: (m ++ [92, 120, hexS[p]'hp2, hexS[q]'hq2]))) by
            rw [← List.cons_append, bytesC_append]
            exact hown8)
          have HB8 := Lib.hid (Below.grown (B := w.heap.size) (by first | exact HBE.out.alloc hzw _ | exact (HBE.out.alloc hzw _).drew) hgrow8 (by first | (simp; omega) | (show w.heap.size ≤ _; rw [World.size_alloc]; omega)) (ownBlock_lo HO.out))
          clear hown8 hgrow8 hat8 hlt8
          try go_wp2_with fail
          go_roundg g
          case rel => exact ⟨i + 1, m ++ [92, 120, hexS[p]'hp2, hexS[q]'hq2], some ⟨g3, 0, none⟩, cap3, by omega, by go_num, by rw [HL8.out], by rw [HL8.out]; exact HO8.out, HE8.out.symm, HB8.out, by omega⟩
          case measure => omega
      · have r3 : ¬ ((s[i]'hlt).toNat : Int) < 32 := by omega
        have r4 : (126 : Int) < ((s[i]'hlt).toNat : Int) := by omega
        clear hr hesc
        go_wp2_with fail
        try rw [hsz]
        go_region_law (first
          | (refine step_append_lies _ (by rfl) _ _ _ (by rfl) w.heap.size 5 i0 _ 1 1 Tryd.underlying22 hi0 iz0 iz1 iz2 rfl (by omega) (.slice va n cp) n (bytesC (34 :: m)) (by rfl) (by first | exact HO.out.alloc _ | exact (HO.out.alloc _).drew) ⟨_, 0, none⟩ 4 4 [.int .u8 92, .int .u8 120, .int .u8 ((hexS[p]'hp2).toNat : Int), .int .u8 ((hexS[q]'hq2).toNat : Int)] (by rfl) (by rfl) (World.news_of_block (cs := #[.int .u8 92, .int .u8 120, .int .u8 ((hexS[p]'hp2).toNat : Int), .int .u8 ((hexS[q]'hq2).toNat : Int)]) (t := 5) (fr := (0, 0)) (heap_alloc_new _ _)) (by simp [Value.oneCell']) (by omega) (by unfold maxLen; omega) (by omega) (by first | (simp; done) | (simp; omega)) _ rfl ?_; intro g3 cap3 w8 hown8 hgrow8 hat8 hlt8))
        all_goals
          have HE8 := Lib.hid (show (s.data.toList.take (i + 1)).flatMap escB = m ++ [92, 120, hexS[p]'hp2, hexS[q]'hq2] by rw [HTK.out, List.flatMap_append, HM.out, List.flatMap_singleton, HES.out])
          have HL8 := Lib.hid (show (34 :: (m ++ [92, 120, hexS[p]'hp2, hexS[q]'hq2])).length = n + 4 by rw [HN.out]; simp only [List.length_cons, List.length_append, List.length_nil]; try omega)
          have HO8 := Lib.hid (show w8.ownsRow w.heap.size 5 1 (.slice (some ⟨g3, 0, none⟩) (n + 4) cap3) (n + 4) (bytesC (34 :: (m ++ [92, 120, hexS[p]'hp2, hexS[q]'hq2]))) by
            rw [← List.cons_append, bytesC_append]
            exact hown8)
          have HB8 := Lib.hid (Below.grown (B := w.heap.size) (by first | exact HBE.out.alloc hzw _ | exact (HBE.out.alloc hzw _).drew) hgrow8 (by first | (simp; omega) | (show w.heap.size ≤ _; rw [World.size_alloc]; omega)) (ownBlock_lo HO.out))
          clear hown8 hgrow8 hat8 hlt8
          try go_wp2_with fail
          go_roundg g
          case rel => exact ⟨i + 1, m ++ [92, 120, hexS[p]'hp2, hexS[q]'hq2], some ⟨g3, 0, none⟩, cap3, by omega, by go_num, by rw [HL8.out], by rw [HL8.out]; exact HO8.out, HE8.out.symm, HB8.out, by omega⟩
          case measure => omega
    · have i1' : ¬ (i : Int) < (s.size : Int) := by omega
      have HE := Lib.hid (show m = s.data.toList.flatMap escB by rw [← HM.out, List.take_of_length_le (by rw [len_at]; omega)])
      have hn2 : n ≤ 1025 := by omega
      go_upto_region 17 with (at_builtin; go_must (refine wpList_append_lies _ (by rfl) _ _ _ (by rfl) w.heap.size 5 i0 _ 1 1 Tryd.underlying22 hi0 iz0 iz1 iz2 rfl (by omega) (.slice va n cp) n (bytesC (34 :: m)) (by rfl) (HO.out.alloc _) ⟨_, 0, none⟩ 1 1 [.int .u8 34] (by rfl) (by rfl) (World.news_of_block (cs := #[.int .u8 34]) (t := 5) (fr := (0, 0)) (heap_alloc_new _ _)) (by simp [Value.oneCell']) (by omega) (by unfold maxLen; omega) (by omega) (by simp; omega) _ rfl ?_; intro g3 cap3 w8 hown8 hgrow8 hat8 hlt8))
      have hl9 : (34 :: (m ++ [34])).length = n + 1 := by rw [HN.out]; simp
      have HO9 := Lib.hid (show w8.ownsRow w.heap.size 5 1 (.slice (some ⟨g3, 0, none⟩) (34 :: (m ++ [34])).length cap3) (34 :: (m ++ [34])).length (bytesC (34 :: (m ++ [34]))) by
        rw [hl9, ← List.cons_append, bytesC_append]
        exact hown8)
      have hcv := conv_owned HO9.out
      rw [hl9] at hcv
      have HB8 := Lib.hid (Below.grown (B := w.heap.size) (HBE.out.alloc hzw _) hgrow8 (by simp; omega) (ownBlock_lo HO.out))
      clear hown8 hgrow8 hat8 hlt8 hl9
      go_wp2_with fail
      go_ret
      exact ⟨by rw [← HE.out]; rfl, HB8.out⟩
end Go.Proofs.YtaipljdpkgdheaaDoor
