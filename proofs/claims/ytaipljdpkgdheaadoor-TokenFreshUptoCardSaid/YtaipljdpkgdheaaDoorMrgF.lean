/- Texts put together: Book, BookTake, Ents, AllWalk, InOps, InTexts. -/
import Derived.Deep.RegionLawGrows
import Derived.ChangeSlices
import Derived.Deep.Strs
import Derived.Lib.SmallJoins
import Derived.Carry
import Derived.SizedLaws
import Derived.Test.YtaipljdpkgdheaaDoorMrgA
import Derived.Test.YtaipljdpkgdheaaDoorMrgB
import Derived.Test.YtaipljdpkgdheaaDoorMrgC
import Derived.Test.YtaipljdpkgdheaaDoorMrgD
import Derived.Test.YtaipljdpkgdheaaDoorMrgE
/- The law's Book: what it holds, in memory; a mark put behind a list. -/
namespace Go.Proofs.YtaipljdpkgdheaaDoor
open Go Go.RowKit

theorem Tryd.infoToks : (Tryd.prog.info? 23).map (fun i => (i.zero, i.size, i.bytes)) = some (some (.slice none 0 0), 1, 24) := by kernel_rfl
/-- A list whose first places are full of a mark. -/
def RowM (w : World) (B : Nat) (va : Option Addr) (n cap m : Nat) (mk : Tok) : Prop :=
  (va = none ∧ n = 0 ∧ cap = 0) ∨ ∃ g, va = some ⟨g, 0, none⟩ ∧ n ≤ cap ∧ HRow w B g cap (fun i => i < m) (fun _ => mk)
theorem RowM.keep {w w' : World} {B n cap m : Nat} {va : Option Addr} {mk : Tok} (h : RowM w B va n cap m mk) (hk : ∀ g, va = some ⟨g, 0, none⟩ → w'.heap[g]? = w.heap[g]?) : RowM w' B va n cap m mk :=
  h.imp id fun ⟨g, e, hn, hr⟩ => ⟨g, e, hn, hr.keep (hk g e)⟩
theorem RowM.bounds {w : World} {B n cap m : Nat} {va : Option Addr} {mk : Tok} (h : RowM w B va n cap m mk) : n ≤ cap ∧ cap ≤ 9223372036854775807 := by
  rcases h with ⟨_, rfl, rfl⟩ | ⟨g, _, hn, hr⟩
  · omega
  · have := hr.le
    unfold maxLen at this
    omega
theorem RowM.lt {w : World} {B n cap m : Nat} {va : Option Addr} {mk : Tok} (h : RowM w B va n cap m mk) : ∀ g, va = some ⟨g, 0, none⟩ → g < w.heap.size ∧ B ≤ g := by
  intro g e
  rcases h with ⟨e2, _⟩ | ⟨g2, e2, _, hr⟩
  · rw [e2] at e; cases e
  · rw [e2] at e; cases e; exact ⟨hr.lt, hr.lo⟩
theorem RowM.toks {w : World} {B n cap : Nat} {va : Option Addr} {mk : Tok} (h : RowM w B va n cap n mk) : ToksAt w va (List.replicate n mk) := by
  rcases h with ⟨_, rfl, rfl⟩ | ⟨g, e, _, hr⟩
  · exact Or.inl rfl
  · refine Or.inr ⟨g, 0, e, fun i hi => ?_⟩
    have hi' : i < n := by simpa using hi
    have := hr.c i hi'
    simpa using this
theorem add_zero_block (g j : Nat) : (⟨g, 0, none⟩ : Addr).add j = ⟨g, j, none⟩ := by
  unfold Addr.add
  split
  · rename_i e; rw [e]
  · simp
theorem tokC_replicate_succ (n : Nat) (mk : Tok) : tokC (List.replicate n mk) ++ mk.cells = tokC (List.replicate (n + 1) mk) := by
  rw [List.replicate_succ']
  simp [tokC]
/-- append(x, m) for a list x full of m. -/
theorem step_append_mark {ops : Array Oper} {o : Oper} {a : Act} {w : World} {K : Act → World → Prop} {Q : Exit → Act → World → Prop} {E : Prop} (hg : o.guard = none) (s x : Operand)
    (hop : o.op = Op.call { callee := Callee.builtin Builtin.append, args := #[s, x], argTypes := #[23, 23] }) (B : Nat) (mk : Tok) (va : Option Addr) (n cap : Nat) (hs : a.eval s = .slice va n cap) (hr : RowM w B va n cap n mk)
    (q : Nat) (hx : a.eval x = .slice (some ⟨q, 0, none⟩) 1 1) (hq : w.heap[q]? = some (Obj.cells #[.int .i64 mk.kind, .string mk.str, .int .i64 mk.pos] 28 (0, 0))) (hn : n ≤ 1073741824) (hB : B ≤ w.heap.size)
    (hK : ∀ g cap' w', HRow w' B g cap' (fun i => i < n + 1) (fun _ => mk) → RowM w' B va n cap n mk → n + 1 ≤ cap' → (va = some ⟨g, 0, none⟩ ∨ w.heap.size ≤ g) → w.grownBy w' (Value.slice va n cap).ownBlock → K (a.put o.dst (.slice (some ⟨g, 0, none⟩) (n + 1) cap')) w') :
    if Region.wanted o (yielded ops a.tmps) = true then Oper.wp Tryd.prog o a w K Q else E := by
  obtain ⟨i0, hi0, hz0, hz1, hz2⟩ := info_parts Tryd.infoTok
  have hnews : ∀ j u, (mk.cells)[j]? = some u → w.cell? ((⟨q, 0, none⟩ : Addr).add j) = some u := World.news_of_block (cs := #[.int .i64 mk.kind, .string mk.str, .int .i64 mk.pos]) hq
  have hone : ∀ u ∈ mk.cells, u.oneCell' = true := by
    intro u hu
    simp only [Tok.cells, List.mem_cons, List.not_mem_nil, or_false] at hu
    rcases hu with rfl | rfl | rfl <;> rfl
  have hgrows : cap < n + 1 → if Region.wanted o (yielded ops a.tmps) = true then Oper.wp Tryd.prog o a w K Q else E := by
    intro hc
    refine step_append_grows hg s x 23 hop 28 i0 _ 3 32 Tryd.underlying23 hi0 hz0 hz1 hz2 rfl (by omega) va n cap (tokC (List.replicate n mk)) hs ?_ (by rw [tokC_length, List.length_replicate]) ?_ ⟨q, 0, none⟩ 1 1 mk.cells hx rfl hnews hone hc (by unfold maxLen; omega) (by omega) ?_
    · intro e
      rcases hr with ⟨_, h1, h2⟩ | ⟨g, e2, _⟩
      · exact ⟨h1, h2⟩
      · rw [e2] at e; cases e
    · intro b e j u hu
      rcases toks_arg (cap := 0) hr.toks (fun _ => rfl) with ⟨e2, _⟩ | ⟨ad, e2, h⟩
      · rw [e2] at e; cases e
      · rw [e2] at e; cases e; exact h j u hu
    · intro v' w' hown hgrow
      rw [tokC_replicate_succ] at hown
      obtain ⟨g, cap', rfl, hnc, hrow⟩ := hrow_of (l := List.replicate (n + 1) mk) (ys := []) (by rw [List.append_nil]; exact hown) (by omega)
      have hrow' : HRow w' B g cap' (fun i => i < n + 1) (fun _ => mk) := by
        refine ⟨hrow.whole, fun i hi => ?_, Nat.le_trans hB hrow.lo, hrow.le⟩
        have h1 : i < (List.replicate (n + 1) mk).length := by simpa using hi
        have h2 := hrow.c i h1
        have h3 : handF (List.replicate (n + 1) mk) i = mk := by unfold handF; rw [dif_pos h1]; simp
        rwa [h3] at h2
      exact hK g cap' w' hrow' (hr.keep fun g e => hgrow.block g (hr.lt g e).1 (by simp)) hnc (Or.inr hrow.lo) ⟨hgrow.os, hgrow.tape, hgrow.output, hgrow.size, fun k hk _ => hgrow.block k hk (by simp)⟩
  rcases hr with ⟨rfl, rfl, rfl⟩ | ⟨g, rfl, hnc, hrow⟩
  · exact hgrows (by omega)
  · by_cases hc : cap < n + 1
    · exact hgrows hc
    · have hspare : ∀ j, j < mk.cells.length → (w.cell? ⟨g, 0 + n * 3 + j, none⟩).isSome = true ∧ w.frozen? ⟨g, 0 + n * 3 + j, none⟩ = false := by
        intro j hj
        have hj' : j < 3 := hj
        obtain ⟨y, hy⟩ := hrow.some' (0 + n * 3 + j) (by omega)
        exact ⟨by rw [hy]; rfl, hrow.free _⟩
      have hst : w.setCells g (0 + n * 3) mk.cells = storeT w g n mk := by
        rw [Nat.zero_add]
        rfl
      refine step_append_room hg s x 23 hop 28 i0 3 Tryd.underlying23 hi0 hz1 g 0 n cap hs ⟨q, 0, none⟩ 1 1 mk.cells hx rfl hnews hone (by omega) hspare ?_
      rw [hst]
      have h2 : HRow (storeT w g n mk) B g cap (fun i => i < n + 1) (fun _ => mk) := hrow.set n (by omega) mk (fun j hj => by
        rcases Nat.lt_or_ge j n with h | h
        · exact Or.inr ⟨by omega, h, rfl⟩
        · exact Or.inl ⟨by have : j < n + 1 := hj; omega, rfl⟩)
      have hbel := storeT_below (B := 0) (a := w) (w := w) (g := g) (k := n) (x := mk) (Below.refl 0 w) (Nat.zero_le _)
      exact hK g cap _ h2 (Or.inr ⟨g, rfl, hnc, h2.weak fun i hi => ⟨by have : i < n := hi; show i < n + 1; omega, rfl⟩⟩) (by omega) (Or.inl rfl) ⟨hbel.os, hbel.tape, hbel.output, hbel.size, fun k _ hne => storeT_other _ _ _ _ _ (fun e => hne (by rw [e]; rfl))⟩
/-- A list of the book, as its row holds it. -/
def LstX.val (x : LstX) : Value := .slice x.ao x.n x.cap
/-- The blocks that a book is made of. -/
def BFoot (bb : Nat) (L : Value) (ls : List LstX) (b : Nat) : Prop := b = bb ∨ L.ownBlock = some b ∨ ∃ x ∈ ls, x.ao = some ⟨b, 0, none⟩
/-- A book in memory. -/
structure BookAt (w : World) (bb : Nat) (L : Value) (ls : List LstX) : Prop where
  box : ∃ m, BookBox w bb L m
  row : w.ownsRow (bb + 1) 23 1 L ls.length (ls.map LstX.val)
  ok : ∀ i (h : i < ls.length), RowM w (bb + 1) ls[i].ao ls[i].n ls[i].cap ls[i].n (markM i)
  even : ls.length % 2 = 0
theorem BookAt.lt {w : World} {bb b : Nat} {L : Value} {ls : List LstX} (h : BookAt w bb L ls) (hf : BFoot bb L ls b) : b < w.heap.size ∧ bb ≤ b := by
  rcases hf with rfl | hf | ⟨x, hx, e⟩
  · obtain ⟨m, hb⟩ := h.box
    exact ⟨(Array.getElem?_eq_some_iff.1 hb).1, Nat.le_refl _⟩
  · have := ownBlock_lo h.row b hf
    exact ⟨own_lt_size h.row b hf, by omega⟩
  · obtain ⟨i, hi, rfl⟩ := List.mem_iff_getElem.1 hx
    have := (h.ok i hi).lt b e
    omega
theorem owns_keep {w w' : World} {base : Nat} {e : TypeId} {size : Nat} {v : Value} {n : Nat} {xs : List Value} (h : w.ownsRow base e size v n xs) (hk : ∀ g, v.ownBlock = some g → w'.heap[g]? = w.heap[g]?) : w'.ownsRow base e size v n xs := by
  obtain ⟨h1, h2⟩ := h
  refine ⟨h1, h2.imp id ?_⟩
  rintro ⟨g, cap, cur, hv, hb, hh, r⟩
  exact ⟨g, cap, cur, hv, hb, (hk g (by rw [hv]; rfl)).trans hh, r⟩
theorem BookAt.keep {w w' : World} {bb : Nat} {L : Value} {ls : List LstX} (h : BookAt w bb L ls) (hk : ∀ b, BFoot bb L ls b → w'.heap[b]? = w.heap[b]?) : BookAt w' bb L ls := by
  obtain ⟨m, hb⟩ := h.box
  refine ⟨⟨m, (hk bb (Or.inl rfl)).trans hb⟩, owns_keep h.row fun g e => hk g (Or.inr (Or.inl e)), fun i hi => (h.ok i hi).keep fun g e => hk g (Or.inr (Or.inr ⟨_, List.getElem_mem hi, e⟩)), h.even⟩
theorem BookAt.below {w w' : World} {bb : Nat} {L : Value} {ls : List LstX} (h : BookAt w bb L ls) (hb : Below w.heap.size w w') : BookAt w' bb L ls :=
  h.keep fun b hf => hb.block b (h.lt hf).1
theorem BookAt.form {w : World} {bb : Nat} {L : Value} {ls : List LstX} (h : BookAt w bb L ls) : ∃ la lc, L = .slice la ls.length lc ∧ ls.length ≤ lc := by
  rcases h.row.2 with ⟨e, h0⟩ | ⟨g, cap, cur, e, _, _, hn, _⟩
  · exact ⟨none, 0, by rw [e, h0], by omega⟩
  · exact ⟨_, _, e, hn⟩
theorem BookAt.lists {w : World} {bb lc : Nat} {la : Option Addr} {ls : List LstX} (h : BookAt w bb (.slice la ls.length lc) ls) : ListsAt w la ls := by
  rcases owned_case h.row with ⟨h0, _, _⟩ | ⟨g, rfl⟩
  · exact Or.inl (List.eq_nil_of_length_eq_zero h0)
  · refine Or.inr ⟨g, 0, rfl, fun i hi => ⟨?_, ?_, (h.ok i hi).toks⟩⟩
    · have := h.row.cells (g := g) rfl i (.slice ls[i].ao ls[i].n ls[i].cap) (by rw [List.getElem?_map, List.getElem?_eq_getElem hi]; rfl)
      rw [add_zero_block] at this
      rwa [Nat.zero_add]
    · have := (h.ok i hi).bounds
      omega
/-- Blocks of rows of other elements are other blocks. -/
theorem row_ne {w : World} {B B' g cap n : Nat} {P : Nat → Prop} {F : Nat → Tok} {v : Value} {xs : List Value} (h : HRow w B g cap P F) (h2 : w.ownsRow B' 23 1 v n xs) : v.ownBlock ≠ some g := by
  intro e
  obtain ⟨cur, hc, _⟩ := h.whole
  rcases h2.2 with ⟨e2, _⟩ | ⟨g2, cap2, cur2, e2, _, hh, _⟩
  · rw [e2] at e; cases e
  · rw [e2] at e
    cases e
    rw [hh] at hc
    injection hc with hc
    injection hc with _ hc _
    exact absurd hc (by decide)
theorem markM_even {N : Nat} (h : N % 2 = 0) : markM (N + 1) = markM N := by
  unfold markM
  rw [show (1000 : Int) + ((N + 1 : Nat) : Int) / 2 = 1000 + (N : Int) / 2 by omega]
theorem book_not_own {w : World} {bb n cap m : Nat} {va : Option Addr} {mk : Tok} {b : Nat} (hx : RowM w (bb + 1) va n cap m mk) (h : va ≠ some ⟨b, 0, none⟩) : (Value.slice va n cap).ownBlock ≠ some b := by
  intro e
  rcases hx with ⟨rfl, _⟩ | ⟨g, rfl, _⟩
  · cases e
  · injection e with e
    exact h (by rw [← e])
/-- Two lists more in a book. -/
theorem BookAt.put {W w7 w8 : World} {bb n cap g cap' g2 c2 : Nat} {va : Option Addr} {L : Value} {ls : List LstX} {o : Obj}
    (hB : BookAt W bb L ls) (hnf : ∀ g, va = some ⟨g, 0, none⟩ → ¬ BFoot bb L ls g) (hr : HRow w7 (bb + 1) g cap' (fun i => i < n + 1) (fun _ => markM ls.length)) (hx : RowM w7 (bb + 1) va n cap n (markM ls.length)) (hnc : n + 1 ≤ cap')
    (hor : va = some ⟨g, 0, none⟩ ∨ W.heap.size ≤ g) (hg7 : W.grownBy w7 (Value.slice va n cap).ownBlock)
    (hown : w8.ownsRow (bb + 1) 23 1 (.slice (some ⟨g2, 0, none⟩) (ls.length + 2) c2) (ls.length + 2) (ls.map LstX.val ++ [.slice va n cap, .slice (some ⟨g, 0, none⟩) (n + 1) cap']))
    (hg8 : (w7.alloc o).grownBy w8 L.ownBlock) (hat : L.ownBlock = some g2 ∨ g2 = (w7.alloc o).heap.size) :
    BookAt (w8.setCell ⟨bb, 0, none⟩ (.slice (some ⟨g2, 0, none⟩) (ls.length + 2) c2)) bb (.slice (some ⟨g2, 0, none⟩) (ls.length + 2) c2) (ls ++ [⟨va, n, cap⟩, ⟨some ⟨g, 0, none⟩, n + 1, cap'⟩]) ∧
      (∀ b, BFoot bb (.slice (some ⟨g2, 0, none⟩) (ls.length + 2) c2) (ls ++ [⟨va, n, cap⟩, ⟨some ⟨g, 0, none⟩, n + 1, cap'⟩]) b → BFoot bb L ls b ∨ va = some ⟨b, 0, none⟩ ∨ W.heap.size ≤ b) ∧
      (∀ b, b < W.heap.size → ¬ BFoot bb L ls b → va ≠ some ⟨b, 0, none⟩ → (w8.setCell ⟨bb, 0, none⟩ (.slice (some ⟨g2, 0, none⟩) (ls.length + 2) c2)).heap[b]? = W.heap[b]?) ∧
      Below bb W (w8.setCell ⟨bb, 0, none⟩ (.slice (some ⟨g2, 0, none⟩) (ls.length + 2) c2)) := by
  have hown_ne : ∀ b, va ≠ some ⟨b, 0, none⟩ → some b ≠ (Value.slice va n cap).ownBlock := fun b h e => book_not_own hx h e.symm
  have h7 : ∀ b, BFoot bb L ls b → w7.heap[b]? = W.heap[b]? := fun b hf => hg7.block b (hB.lt hf).1 (hown_ne b fun e => hnf b e hf)
  have hz7 := hg7.size
  have hB7 := hB.keep h7
  have hBV := hB7.below ((Below.refl w7.heap.size w7).alloc (Nat.le_refl _) o)
  have hsz : (w7.alloc o).heap.size = w7.heap.size + 1 := World.size_alloc _ _
  have hold : ∀ b, b < w7.heap.size → L.ownBlock ≠ some b → w8.heap[b]? = w7.heap[b]? := fun b hb hne => (hg8.block b (by omega) (fun e => hne e.symm)).trans (heap_alloc_old w7 o hb)
  have hLlo := ownBlock_lo hB.row
  have hbbL : L.ownBlock ≠ some bb := fun e => by have := hLlo bb e; omega
  obtain ⟨m, hbox⟩ := hB7.box
  have hbbz := (hB7.lt (Or.inl rfl)).1
  have hbox8 : BookBox w8 bb L m := (hold bb hbbz hbbL).trans hbox
  have hrow_of : ∀ {va' : Option Addr} {n' cap'' m' : Nat} {mk : Tok}, RowM w7 (bb + 1) va' n' cap'' m' mk → RowM (w8.setCell ⟨bb, 0, none⟩ (.slice (some ⟨g2, 0, none⟩) (ls.length + 2) c2)) (bb + 1) va' n' cap'' m' mk := by
    intro va' n' cap'' m' mk h
    refine h.keep fun g e => ?_
    have h1 := h.lt g e
    rw [heap_setCell_other _ _ _ _ (show g ≠ bb by omega)]
    refine hold g h1.1 ?_
    rcases h with ⟨e2, _⟩ | ⟨g3, e2, _, hr3⟩
    · rw [e2] at e; cases e
    · rw [e2] at e; cases e
      exact row_ne hr3 hB7.row
  have hg7lt := hr.lt
  refine ⟨⟨⟨m, hbox8.set0 _⟩, ?_, fun i hi => ?_, ?_⟩, fun b hf => ?_, fun b hb hnb hne => ?_, ?_⟩
  · have : (ls ++ [⟨va, n, cap⟩, ⟨some ⟨g, 0, none⟩, n + 1, cap'⟩] : List LstX).length = ls.length + 2 := by simp
    rw [this, List.map_append]
    refine owns_keep hown fun g3 e => heap_setCell_other _ _ _ _ ?_
    have := ownBlock_lo hown g3 e
    show g3 ≠ bb
    omega
  · have hl2 : i < ls.length + 2 := by simpa using hi
    rcases (show i < ls.length ∨ i = ls.length ∨ i = ls.length + 1 by omega) with h | h | h
    · rw [List.getElem_append_left h]
      exact hrow_of (hB7.ok i h)
    · subst h
      simp only [List.getElem_append_right (Nat.le_refl _), Nat.sub_self, List.getElem_cons_zero]
      exact hrow_of hx
    · subst h
      have e1 : (ls ++ [⟨va, n, cap⟩, ⟨some ⟨g, 0, none⟩, n + 1, cap'⟩] : List LstX)[ls.length + 1]'hi = ⟨some ⟨g, 0, none⟩, n + 1, cap'⟩ := by simp
      rw [e1, markM_even hB.even]
      exact hrow_of (Or.inr ⟨g, rfl, hnc, hr⟩)
  · have := hB.even
    simp only [List.length_append, List.length_cons, List.length_nil]
    omega
  · rcases hf with rfl | hf | ⟨x, hx2, e⟩
    · exact Or.inl (Or.inl rfl)
    · injection hf with hf
      have hf : g2 = b := hf
      subst hf
      rcases hat with h | h
      · exact Or.inl (Or.inr (Or.inl h))
      · exact Or.inr (Or.inr (by omega))
    · rcases List.mem_append.1 hx2 with h | h
      · exact Or.inl (Or.inr (Or.inr ⟨x, h, e⟩))
      · simp only [List.mem_cons, List.not_mem_nil, or_false] at h
        rcases h with rfl | rfl
        · exact Or.inr (Or.inl e)
        · simp only [Option.some.injEq, Addr.mk.injEq, and_true] at e
          subst e
          exact Or.inr hor
  · rw [heap_setCell_other _ _ _ _ (show b ≠ bb from fun e => hnb (Or.inl e))]
    rw [hold b (by omega) (fun e => hnb (Or.inr (Or.inl e)))]
    exact hg7.block b hb (hown_ne b hne)
  · have hb7 : Below bb W w7 := (Below.refl bb W).grown hg7 (Nat.le_of_lt (hB.lt (Or.inl rfl)).1) fun k e => by
      rcases hx with ⟨rfl, _⟩ | ⟨g3, rfl, _, hr3⟩
      · cases e
      · cases e
        have := hr3.lo
        show bb ≤ g3
        omega
    exact (((hb7.alloc (by omega) o).grown hg8 (by omega) fun k e => by have := hLlo k e; omega).setCell (Nat.le_refl _) _)
end Go.Proofs.YtaipljdpkgdheaaDoor
/- The law's Book: take. -/
namespace Go.Proofs.YtaipljdpkgdheaaDoor
open Go Go.RowKit

/-- What take does. -/
def TakeTo (bb : Nat) (L : Value) (ls : List LstX) (va : Option Addr) (w : World) (e : Ending) (w' : World) : Prop :=
  e = .returned (.tuple #[]) ∧ (∃ L' ls', BookAt w' bb L' ls' ∧ ls'.length ≤ ls.length + 2 ∧ (∀ b, BFoot bb L' ls' b → BFoot bb L ls b ∨ va = some ⟨b, 0, none⟩ ∨ w.heap.size ≤ b)) ∧
    (∀ b, b < w.heap.size → ¬ BFoot bb L ls b → va ≠ some ⟨b, 0, none⟩ → w'.heap[b]? = w.heap[b]?) ∧ Below bb w w'

set_option maxHeartbeats 8000000 in
set_option maxRecDepth 100000 in
theorem bookTake_any (bb n cap : Nat) (L : Value) (ls : List LstX) (va : Option Addr) (w : World) (hB : BookAt w bb L ls) (hx : RowM w (bb + 1) va n cap 0 (markM ls.length)) (hnf : ∀ g, va = some ⟨g, 0, none⟩ → ¬ BFoot bb L ls g) (hn : n ≤ 1000000) (hl : ls.length ≤ 1000000000) :
    Calls Tryd.prog 16 #[.pointer (some ⟨bb, 0, none⟩), .slice va n cap] w (TakeTo bb L ls va w) := by
  obtain ⟨la, lc, rfl, hlc⟩ := hB.form
  obtain ⟨m0, hbx⟩ := hB.box
  obtain ⟨hnc, hcm⟩ := hx.bounds
  have hbl := (hB.lt (Or.inl rfl)).1
  obtain ⟨N, hN⟩ : ∃ N, N = ls.length := ⟨_, rfl⟩
  rw [← hN] at hbx hl hB hnf hx hlc ⊢
  obtain ⟨c0, _, f0, _⟩ := hbx.cells
  have HN := Lib.hid hN
  have HB := Lib.hid hB
  have HX := Lib.hid hx
  have HNF := Lib.hid hnf
  have HBX := Lib.hid hbx
  clear hN hB hx hnf hbx hlc
  have N0 : (0 : Int) ≤ (N : Int) := by omega
  have n0 : (0 : Int) ≤ (n : Int) := by omega
  go_enter Tryd.func16, Tryd.ntmps16
  go_upto_region 2 with fail
  obtain ⟨q, hq⟩ : ∃ q, q = w.heap.size := ⟨_, rfl⟩
  obtain ⟨V, hV⟩ : ∃ V, V = w.alloc (Obj.cells #[.int .i64 (1000 + (N : Int) / 2), .string ⟨#[]⟩, .int .i64 0] 28) := ⟨_, rfl⟩
  have hbV : Below w.heap.size w V := by rw [hV]; exact (Below.refl _ _).alloc (Nat.le_refl _) _
  have HQ1 := Lib.hid (show V.heap[q]? = some (Obj.cells #[.int .i64 (1000 + (N : Int) / 2), .string ⟨#[]⟩, .int .i64 0] 28 (0, 0)) by rw [hV, hq]; exact heap_alloc_new _ _)
  have HBXV := Lib.hid ((hbV.block bb hbl).trans HBX.out)
  have HBV := Lib.hid hbV
  have hqV : q < V.heap.size := by rw [hV, World.size_alloc]; omega
  have hbq : bb < q := by omega
  rw [← hV, ← hq]
  have HV := Lib.hid hV
  have HQ := Lib.hid hq
  clear hV hq hbV c0 f0
  obtain ⟨n1, hn1, hn1c, hn1l⟩ : ∃ n1 : Nat, n1 = (if n + 70000 < cap then n + 70000 else cap) ∧ n1 ≤ cap ∧ n1 ≤ 1070000 := by
    refine ⟨_, rfl, ?_, ?_⟩ <;> split <;> omega
  by_cases hc : n + 70000 < cap
  focus
    have k0 : (n : Int) + 70000 < (cap : Int) := by omega
    have HK1 := Lib.hid (show (n : Int) + 70000 = (n1 : Int) by rw [hn1, if_pos hc]; omega)
    clear hn1 hc
    go_upto_region 4 with fail
    rw [HK1.out]
    clear HK1 k0
  rotate_left
  focus
    have k0 : ¬ (n : Int) + 70000 < (cap : Int) := by omega
    have HK1 := Lib.hid (show (cap : Int) = (n1 : Int) by rw [hn1, if_neg hc])
    clear hn1 hc
    go_upto_region 4 with fail
    rw [HK1.out]
    clear HK1 k0
  all_goals
    have n10 : (0 : Int) ≤ (n1 : Int) := by omega
    have HOV := Lib.hid (over_any bb (.slice la N lc) m0 (80 * (n1 : Int)) V HBXV.out)
    have HXV := Lib.hid (show RowM V (bb + 1) va n1 cap 0 (markM N) from (HX.out.keep fun g e => HBV.out.block g (HX.out.lt g e).1).imp (fun h => ⟨h.1, by omega, h.2.2⟩) fun ⟨g, e, _, hr⟩ => ⟨g, e, hn1c, hr⟩)
    have HBKV := Lib.hid (HB.out.below HBV.out)
    have HGQ := Lib.hid (show ∀ g, va = some ⟨g, 0, none⟩ → g < q from fun g e => by rw [HQ.out]; exact (HX.out.lt g e).1)
    clear HX HBX
    go_wp2_with fail
    refine HOV.out.mono ?_; rintro e w2 ⟨⟨b, rfl⟩, m2, hw2⟩
    have HFR := Lib.hid (show ∀ b, b ≠ bb → w2.heap[b]? = V.heap[b]? from fun b h => by rw [hw2]; exact heap_setCell_other _ _ _ _ h)
    have HBK2 := Lib.hid (show BookAt w2 bb (.slice la N lc) ls by
      obtain ⟨m3, hbx3⟩ := HBKV.out.box
      have hr := ownBlock_lo HBKV.out.row
      refine ⟨⟨m2, by rw [hw2]; exact hbx3.set1 m2⟩, owns_keep HBKV.out.row fun g e => HFR.out g (by have := hr g e; omega), fun i hi => (HBKV.out.ok i hi).keep fun g e => HFR.out g (by have := (HBKV.out.ok i hi).lt g e; omega), HBKV.out.even⟩)
    have HX2 := Lib.hid (HXV.out.keep (w' := w2) fun g e => HFR.out g (by have := (HXV.out.lt g e).2; omega))
    have HB2 := Lib.hid (show Below bb w w2 by rw [hw2]; exact (HBV.out.mono (show bb ≤ w.heap.size from Nat.le_of_lt hbl)).setCell (Nat.le_refl _) _)
    have HQ2 := Lib.hid (show w2.heap[q]? = some (Obj.cells #[.int .i64 (1000 + (N : Int) / 2), .string ⟨#[]⟩, .int .i64 0] 28 (0, 0)) from (HFR.out q (by omega)).trans HQ1.out)
    have HF2 := Lib.hid (show ∀ b, b < w.heap.size → b ≠ bb → w2.heap[b]? = w.heap[b]? from fun b h1 h2 => (HFR.out b h2).trans (HBV.out.block b h1))
    have hz2 : w2.heap.size = V.heap.size := by rw [hw2]; simp [World.setCell]
    have HZ2 := Lib.hid (show w2.heap.size = q + 1 by rw [hz2, HV.out, World.size_alloc, HQ.out])
    clear hw2 hz2 HFR HBKV HXV HBXV HQ1 HBV HV HOV hqV
    cases b
    rotate_left
    focus
      go_wp2_with fail
      exact bodyPost_ret (v := .tuple #[]) (by simp [results, Tryd.results16, go_sem]) rfl ⟨rfl, ⟨_, ls, HBK2.out, by omega, fun b h => Or.inl h⟩, fun b h1 h2 _ => HF2.out b h1 (fun e => h2 (Or.inl e)), HB2.out⟩
    go_wp2_with fail
    go_loopg [7] (n1 + 1) (fun g v7 wr => ∃ i : Nat, i ≤ n1 ∧ v7 = .int .i64 (i : Int) ∧ RowM wr (bb + 1) va n1 cap i (markM N) ∧ BookAt wr bb (.slice la N lc) ls ∧ wr.heap[q]? = some (Obj.cells #[.int .i64 (1000 + (N : Int) / 2), .string ⟨#[]⟩, .int .i64 0] 28 (0, 0)) ∧ (∀ b, b < w.heap.size → b ≠ bb → va ≠ some ⟨b, 0, none⟩ → wr.heap[b]? = w.heap[b]?) ∧ Below bb w wr ∧ wr.heap.size = q + 1 ∧ n1 - i < g)
    case atStart => exact ⟨0, Nat.zero_le _, rfl, HX2.out, HBK2.out, HQ2.out, fun b h1 h2 _ => HF2.out b h1 h2, HB2.out, HZ2.out, by omega⟩
    case round =>
      obtain ⟨i, hi, rfl, hrm, hbk, hqb, hfr, hbel, hsz, hg⟩ := hrel
      obtain ⟨g, rfl⟩ : ∃ g, gk = g + 1 := ⟨gk - 1, by omega⟩
      have HBK := Lib.hid hbk
      have HQB := Lib.hid hqb
      have HFR := Lib.hid hfr
      have HBE := Lib.hid hbel
      have HSZ := Lib.hid hsz
      have hqz : q < wr.heap.size := by omega
      clear hbk hqb hfr hbel hsz
      have i0 : (0 : Int) ≤ (i : Int) := by omega
      have v0 : wr.cell? ⟨q, 0, none⟩ = some (.int .i64 (1000 + (N : Int) / 2)) := by rw [cell_of_row _ _ _ _ _ _ HQB.out]; rfl
      have v1 : wr.cell? ⟨q, 1, none⟩ = some (.string ⟨#[]⟩) := by rw [cell_of_row _ _ _ _ _ _ HQB.out]; rfl
      have v2 : wr.cell? ⟨q, 2, none⟩ = some (.int .i64 0) := by rw [cell_of_row _ _ _ _ _ _ HQB.out]; rfl
      by_cases hlt : i < n1
      · have i1 : (i : Int) < (n1 : Int) := by omega
        rcases hrm with ⟨_, h0, _⟩ | ⟨gx, rfl, _, hrow⟩
        · omega
        have HRW := Lib.hid hrow
        clear hrow
        have hgx := HRW.out.lt
        have hglo := HRW.out.lo
        have hgq : gx < q := HGQ.out gx rfl
        obtain ⟨y0, q0⟩ := HRW.out.some' (i * 3) (by omega)
        obtain ⟨y1, q1⟩ := HRW.out.some' (i * 3 + 1) (by omega)
        obtain ⟨y2, q2⟩ := HRW.out.some' (i * 3 + 2) (by omega)
        have p0 := HRW.out.free (i * 3)
        have p1 := HRW.out.free (i * 3 + 1)
        have p2 := HRW.out.free (i * 3 + 2)
        go_upto_region 8 with fail
        obtain ⟨X, hX⟩ : ∃ X, X = storeT wr gx i (markM N) := ⟨_, rfl⟩
        have HRX := Lib.hid (show HRow X (bb + 1) gx cap (fun j => j < i + 1) (fun _ => markM N) by
          rw [hX]
          exact HRW.out.set i (by omega) (markM N) (fun j hj => by
            rcases Nat.lt_or_ge j i with h | h
            · exact Or.inr ⟨by omega, h, rfl⟩
            · exact Or.inl ⟨by have : j < i + 1 := hj; omega, rfl⟩))
        have HXO := Lib.hid (show ∀ b, b ≠ gx → X.heap[b]? = wr.heap[b]? from fun b h => by rw [hX]; exact storeT_other _ _ _ _ _ h)
        have HXB := Lib.hid (show Below bb w X by rw [hX]; exact storeT_below HBE.out (by omega))
        have HXZ := Lib.hid (show X.heap.size = q + 1 by rw [hX, storeT_size]; exact HSZ.out)
        simp only [storeT, markM] at hX
        rw [← hX]
        clear hX q0 q1 q2 p0 p1 p2 v0 v1 v2
        go_wp2_with fail
        go_roundg g
        case rel =>
          refine ⟨i + 1, by omega, by go_num, Or.inr ⟨gx, rfl, hn1c, HRX.out⟩, HBK.out.keep fun b hf => HXO.out b ?_, (HXO.out q (by omega)).trans HQB.out, fun b h1 h2 h3 => (HXO.out b ?_).trans (HFR.out b h1 h2 h3), HXB.out, HXZ.out, by omega⟩
          · intro e
            exact HNF.out gx rfl (by rw [← e]; exact hf)
          · intro e
            exact h3 (by rw [e])
        case measure => omega
      · have i1 : ¬ (i : Int) < (n1 : Int) := by omega
        have hrm2 : RowM wr (bb + 1) va n1 cap n1 (markM N) := by
          obtain rfl : i = n1 := by omega
          exact hrm
        obtain ⟨m5, hbx5⟩ := HBK.out.box
        obtain ⟨b0, _, bf, _⟩ := hbx5.cells
        have hbw := (HBK.out.lt (Or.inl rfl)).1
        have HRM := Lib.hid hrm2
        have hne5 := HRM.out.lt
        have HNE := Lib.hid (show some bb ≠ (Value.slice va n1 cap).ownBlock from fun e => by
          have := book_not_own (b := bb) HRM.out (fun e2 => by have := (hne5 bb e2).2; omega)
          exact this e.symm)
        have HLO := Lib.hid (ownBlock_lo HBK.out.row)
        clear hrm hrm2 hbx5 hne5
        go_upto_region 10 with fail
        clear HX2 HBK2 HQ2 HF2 HB2 HZ2 HGQ HB
        obtain ⟨i0', hi0, hz0, hz1, hz2⟩ := info_parts Tryd.infoToks
        have HWB := Lib.hid (fun (o : Obj) => ((Below.refl wr.heap.size wr).alloc (Nat.le_refl _) o).drew)
        have HWC := Lib.hid (show ∀ g, va = some ⟨g, 0, none⟩ → g < wr.heap.size from fun g e => (HRM.out.lt g e).1)
        have HWS := Lib.hid (show ∀ o : Obj, bb + 1 ≤ ((wr.alloc o).drew).heap.size from fun o => Nat.le_trans (by omega) (HWB.out o).size)
        have HOW := Lib.hid HBK.out.row
        rw [← HN.out] at HOW
        have HBXW := Lib.hid (show ∃ m5, BookBox wr bb (.slice la N lc) m5 from HBK.out.box)
        have HLB := Lib.hid (show (Value.slice la N lc).ownBlock ≠ some bb from fun e => by have := HLO.out bb e; omega)
        have HXL := Lib.hid (show ∀ g, (Value.slice la N lc).ownBlock = some g → some g ≠ (Value.slice va n1 cap).ownBlock ∧ g < wr.heap.size from fun g e => ⟨fun e2 => by
          rcases HRM.out with ⟨h1, _⟩ | ⟨g2, h1, _, hr2⟩
          · rw [h1] at e2; cases e2
          · rw [h1] at e2
            injection e2 with e2
            have e2 : g = g2 := e2
            subst e2
            exact row_ne hr2 HBK.out.row e, own_lt_size HBK.out.row g e⟩)
        go_region_law (first
          | (refine step_append_mark (by rfl) _ _ (by rfl) (bb + 1) (markM N) va n1 cap (by rfl) (HRM.out.keep fun g e => (HWB.out _).block g (HWC.out g e)) _ (by rfl) (by exact heap_alloc_new _ _) (by omega) (HWS.out _) ?_
             intro g7 c7 w7 hr7 hx7 hn7 hat7 hg7
             obtain ⟨m6, hbx6⟩ := HBXW.out
             have hbx7 : BookBox w7 bb (.slice la N lc) m6 := (hg7.block bb (HWS.out _) HNE.out).trans (((HWB.out _).block bb hbw).trans hbx6)
             obtain ⟨d7, _, e7, _⟩ := hbx7.cells
             have HOW7 := Lib.hid (owns_keep HOW.out (w' := w7) fun g e => (hg7.block g (Nat.lt_of_lt_of_le (HXL.out g e).2 (HWB.out _).size) (HXL.out g e).1).trans ((HWB.out _).block g (HXL.out g e).2))
             have HBX7 := Lib.hid hbx7
             have hz7 : bb + 1 < w7.heap.size := by
               have h1 := hr7.lt
               have h2 := hr7.lo
               omega
             have hz7' : bb < w7.heap.size := by omega
             have HR7 := Lib.hid hr7
             have HX7 := Lib.hid hx7
             have HN7 := Lib.hid hn7
             have HAT7 := Lib.hid hat7
             have HG7 := Lib.hid hg7
             clear hr7 hx7 hn7 hat7 hg7 hbx6 hbx7)
          | (refine step_append_lies _ (by rfl) _ _ _ (by rfl) (bb + 1) 23 i0' _ 1 24 Tryd.underlying41 hi0 hz0 hz1 hz2 rfl (by omega) (.slice la N lc) N (ls.map LstX.val) (by rfl) (HOW7.out.alloc _) ⟨_, 0, none⟩ 2 2 [.slice va n1 cap, .slice (some ⟨g7, 0, none⟩) (n1 + 1) c7] (by rfl) (by rfl) (World.news_of_block (cs := #[.slice va n1 cap, .slice (some ⟨g7, 0, none⟩) (n1 + 1) c7]) (t := 23) (fr := (0, 0)) (heap_alloc_new _ _)) (by simp [Value.oneCell']) (by omega) (by unfold maxLen; omega) (by omega) (by simp; omega) _ rfl ?_
             intro g8 c8 w8 hown8 hgrow8 hat8 hlt8
             have hbx8 := (hgrow8.block bb (by rw [World.size_alloc]; omega) (fun e => HLB.out e.symm)).trans ((heap_alloc_old _ _ (by omega)).trans HBX7.out)
             obtain ⟨d8, _, e8, _⟩ := BookBox.cells hbx8
             have HOWN8 := Lib.hid hown8
             have HGROW8 := Lib.hid hgrow8
             have HAT8 := Lib.hid hat8
             clear hown8 hgrow8 hat8 hbx8))
        all_goals
          have hN := HN.out
          subst hN
          obtain ⟨r1, r2, r3, r4⟩ := (HBK.out.below (HWB.out _)).put (o := Obj.cells #[.slice va n1 cap, .slice (some ⟨g7, 0, none⟩) (n1 + 1) c7] 23) HNF.out HR7.out HX7.out HN7.out HAT7.out HG7.out HOWN8.out HGROW8.out HAT8.out
          have h1 := (HWB.out (Obj.cells #[.int .i64 (1000 + (ls.length : Int) / 2), .string ⟨#[]⟩, .int .i64 0] 28)).size
          have h2 := HSZ.out
          have h3 := HQ.out
          exact bodyPost_end (v := .tuple #[]) (by simp [results, Tryd.results16, go_sem]) rfl ⟨rfl, ⟨_, _, r1, by simp, fun b hf => (r2 b hf).imp id (Or.imp id fun h => by omega)⟩, fun b hb hnf hne => (r3 b (by omega) hnf hne).trans (((HWB.out _).block b (by omega)).trans (HFR.out b hb (fun e => hnf (Or.inl e)) hne)), (HBE.out.trans ((HWB.out _).mono (by omega))).trans r4⟩
end Go.Proofs.YtaipljdpkgdheaaDoor
/- The law of fresh lists: the lists that are left untouched. -/
namespace Go.Proofs.YtaipljdpkgdheaaDoor
open Go Go.RowKit

/-- What one text was read as, twice. -/
structure Ent where
  va : Option Addr
  ca : Nat
  vb : Option Addr
  cb : Nat
  acc : List Tk
def Ent.got (x : Ent) : Value := .slice x.va x.acc.length x.ca
def Ent.want (x : Ent) : Value := .slice x.vb x.acc.length x.cb
structure EntOk (w : World) (B : Nat) (x : Ent) : Prop where
  a : w.ownsRow B 28 3 x.got x.acc.length (tkCells x.acc)
  b : w.ownsRow B 28 3 x.want x.acc.length (tkCells x.acc)
  len : x.acc.length ≤ 4097
/-- All of them, and the two lists of lists. -/
structure Ents (w : World) (B : Nat) (G D : Value) (es : List Ent) : Prop where
  gr : w.ownsRow B 23 1 G es.length (es.map Ent.got)
  wr : w.ownsRow B 23 1 D es.length (es.map Ent.want)
  ne : ∀ g, G.ownBlock = some g → D.ownBlock ≠ some g
  ok : ∀ i (h : i < es.length), EntOk w B es[i]
  rise : ∀ i j (hi : i < es.length) (hj : j < es.length), i < j → ∀ gi gj, es[i].va = some ⟨gi, 0, none⟩ → es[j].va = some ⟨gj, 0, none⟩ → gi < gj
theorem EntOk.keep {w w' : World} {B : Nat} {x : Ent} (h : EntOk w B x) (hk : ∀ b, B ≤ b → b < w.heap.size → w'.heap[b]? = w.heap[b]?) : EntOk w' B x :=
  ⟨owns_keep h.a fun g e => hk g (ownBlock_lo h.a g e) (own_lt_size h.a g e), owns_keep h.b fun g e => hk g (ownBlock_lo h.b g e) (own_lt_size h.b g e), h.len⟩
theorem Ents.keep {w w' : World} {B : Nat} {G D : Value} {es : List Ent} (h : Ents w B G D es) (hk : ∀ b, B ≤ b → b < w.heap.size → w'.heap[b]? = w.heap[b]?) : Ents w' B G D es :=
  ⟨owns_keep h.gr fun g e => hk g (ownBlock_lo h.gr g e) (own_lt_size h.gr g e), owns_keep h.wr fun g e => hk g (ownBlock_lo h.wr g e) (own_lt_size h.wr g e), h.ne, fun i hi => (h.ok i hi).keep hk, h.rise⟩
theorem Ents.below {w w' : World} {B : Nat} {G D : Value} {es : List Ent} (h : Ents w B G D es) (hb : Below w.heap.size w w') : Ents w' B G D es := h.keep fun b _ hlt => hb.block b hlt
theorem Ents.nil (w : World) (B : Nat) : Ents w B (.slice none 0 0) (.slice none 0 0) [] :=
  ⟨World.ownsRow_nil _ _ _ _, World.ownsRow_nil _ _ _ _, (fun g e => by cases e), (fun i h => absurd h (Nat.not_lt_zero _)), (fun i j h => absurd h (Nat.not_lt_zero _))⟩
theorem tok_ne {w : World} {B B' n n' : Nat} {v u : Value} {xs ys : List Value} (h : w.ownsRow B 28 3 v n xs) (h2 : w.ownsRow B' 23 1 u n' ys) : ∀ g, v.ownBlock = some g → u.ownBlock ≠ some g := by
  intro g e e2
  rcases h.2 with ⟨e3, _⟩ | ⟨g3, cap3, cur3, e3, _, hh3, _⟩
  · rw [e3] at e; cases e
  · rcases h2.2 with ⟨e4, _⟩ | ⟨g4, cap4, cur4, e4, _, hh4, _⟩
    · rw [e4] at e2; cases e2
    · rw [e3] at e
      rw [e4] at e2
      cases e
      cases e2
      rw [hh3] at hh4
      injection hh4 with hh4
      injection hh4 with _ hh4 _
      exact absurd hh4 (by decide)
/-- A list that is owned, as take wants it. -/
theorem rowM_of {w : World} {B B' n cap : Nat} {va : Option Addr} {xs : List Value} {mk : Tok} (h : w.ownsRow B 28 3 (.slice va n cap) n xs) (hB : B' ≤ B) : RowM w B' va n cap 0 mk := by
  rcases h.2 with ⟨e, h0⟩ | ⟨g, cap', cur, e, hb, hh, hn, hc, hs, _⟩
  · cases e
    exact Or.inl ⟨rfl, rfl, rfl⟩
  · cases e
    exact Or.inr ⟨g, rfl, hn, ⟨cur, hh, hs⟩, fun i hi => absurd hi (Nat.not_lt_zero _), Nat.le_trans hB hb, hc⟩
/-- Of an empty book. -/
theorem BookAt.fresh {w : World} {bb : Nat} (h : w.heap[bb]? = some (Obj.cells #[.slice none 0 0, .int .i64 0] 43 (0, 0))) : BookAt w bb (.slice none 0 0) [] :=
  ⟨⟨0, h⟩, World.ownsRow_nil _ _ _ _, fun i h => absurd h (by simp), rfl⟩
/-- One list of tokens more. -/
theorem Ents.next {w w5 w6 : World} {B : Nat} {G D G' D' : Value} {es : List Ent} {x : Ent} {o1 o2 : Obj} (h : Ents w B G D es) (hx : EntOk w B x) (hnew : ∀ i (hi : i < es.length) gi gj, es[i].va = some ⟨gi, 0, none⟩ → x.va = some ⟨gj, 0, none⟩ → gi < gj)
    (g1 : (w.alloc o1).grownBy w5 G.ownBlock) (own1 : w5.ownsRow B 23 1 G' (es.length + 1) (es.map Ent.got ++ [x.got])) (at1 : G'.ownBlock = G.ownBlock ∨ G'.ownBlock = some (w.alloc o1).heap.size)
    (g2 : (w5.alloc o2).grownBy w6 D.ownBlock) (own2 : w6.ownsRow B 23 1 D' (es.length + 1) (es.map Ent.want ++ [x.want])) (at2 : D'.ownBlock = D.ownBlock ∨ D'.ownBlock = some (w5.alloc o2).heap.size) :
    Ents w6 B G' D' (es ++ [x]) := by
  have hs1 : (w.alloc o1).heap.size = w.heap.size + 1 := World.size_alloc _ _
  have hs2 : (w5.alloc o2).heap.size = w5.heap.size + 1 := World.size_alloc _ _
  have hz1 := g1.size
  have hz2 := g2.size
  have k1 : ∀ b, b < w.heap.size → G.ownBlock ≠ some b → w5.heap[b]? = w.heap[b]? := fun b hb hne => (g1.block b (by omega) (fun e => hne e.symm)).trans (heap_alloc_old w o1 hb)
  have k2 : ∀ b, b < w5.heap.size → D.ownBlock ≠ some b → w6.heap[b]? = w5.heap[b]? := fun b hb hne => (g2.block b (by omega) (fun e => hne e.symm)).trans (heap_alloc_old w5 o2 hb)
  have hDlt := own_lt_size h.wr
  have hGlt := own_lt_size h.gr
  have hent : ∀ {y : Ent}, EntOk w B y → EntOk w6 B y := by
    intro y hy
    have ka : ∀ (v : Value), w.ownsRow B 28 3 v y.acc.length (tkCells y.acc) → w6.ownsRow B 28 3 v y.acc.length (tkCells y.acc) := by
      intro v hv
      refine owns_keep hv fun g e => ?_
      have hlt := own_lt_size hv g e
      rw [k2 g (by omega) (tok_ne hv h.wr g e), k1 g hlt (tok_ne hv h.gr g e)]
    exact ⟨ka _ hy.a, ka _ hy.b, hy.len⟩
  have hlen : (es ++ [x]).length = es.length + 1 := by simp
  refine ⟨?_, ?_, fun g e1 e2 => ?_, fun i hi => ?_, fun i j hi hj hij gi gj e1 e2 => ?_⟩
  · rw [hlen, List.map_append]
    refine owns_keep own1 fun g e => k2 g (own_lt_size own1 g e) fun e2 => ?_
    rcases at1 with h1 | h1
    · exact h.ne g (by rw [← h1]; exact e) e2
    · rw [h1] at e
      injection e with e
      have := hDlt g e2
      omega
  · rw [hlen, List.map_append]
    exact own2
  · rcases at2 with h2 | h2
    · rw [h2] at e2
      rcases at1 with h1 | h1
      · exact h.ne g (by rw [← h1]; exact e1) e2
      · rw [h1] at e1
        injection e1 with e1
        have := hDlt g e2
        omega
    · rw [h2] at e2
      injection e2 with e2
      have := own_lt_size own1 g e1
      omega
  · rcases Nat.lt_or_ge i es.length with hlt | hge
    · rw [List.getElem_append_left hlt]
      exact hent (h.ok i hlt)
    · obtain rfl : i = es.length := by omega
      simp only [List.getElem_append_right (Nat.le_refl _), Nat.sub_self, List.getElem_cons_zero]
      exact hent hx
  · rcases Nat.lt_or_ge j es.length with hlt | hge
    · rw [List.getElem_append_left (show i < es.length by omega)] at e1
      rw [List.getElem_append_left hlt] at e2
      exact h.rise i j (by omega) hlt hij gi gj e1 e2
    · obtain rfl : j = es.length := by omega
      rw [List.getElem_append_left hij] at e1
      simp only [List.getElem_append_right (Nat.le_refl _), Nat.sub_self, List.getElem_cons_zero] at e2
      exact hnew i hij gi gj e1 e2
end Go.Proofs.YtaipljdpkgdheaaDoor
/- The walk of TokenAll. -/
namespace Go.Proofs.YtaipljdpkgdheaaDoor
open Go Go.RowKit

theorem OpIn.after {w w' : World} {hb : Nat} {x : OpT} (h : OpIn w w.heap.size x) (hb' : Below w.heap.size w w') (hle : w.heap.size ≤ hb) : OpIn w' hb x :=
  ⟨h.at'.below hb', fun hl ad e => Nat.lt_of_lt_of_le (h.lo hl ad e) hle, h.nc, h.n, h.s, h.tx⟩
/-- The calls that came in. -/
def OpsAt (w : World) (ao : Option Addr) (l : List OpT) : Prop :=
  l = [] ∨ ∃ b o, ao = some ⟨b, o, none⟩ ∧ b < w.heap.size ∧ ∀ i (h : i < l.length), (w.cell? ⟨b, o + i * 3, none⟩ = some (.int .i64 l[i].kind) ∧ w.cell? ⟨b, o + i * 3 + 1, none⟩ = some (.string l[i].text) ∧ w.cell? ⟨b, o + i * 3 + 2, none⟩ = some (.slice l[i].ao l[i].toks.length l[i].cap)) ∧ OpIn w w.heap.size l[i]

set_option maxHeartbeats 8000000 in
set_option maxRecDepth 100000 in
theorem all_any (l : List OpT) (ao : Option Addr) (cap : Nat) (w : World) (hT : Tabs w) (hW : WordsAt w) (hl : OpsAt w ao l) (hn : l.length ≤ 2932031007402) :
    Calls Tryd.prog 8 #[.slice ao l.length cap] w fun e w' => e = .returned (.bool true) ∧ Below w.heap.size w w' := by
  have HT := Lib.hid hT
  have HW := Lib.hid hW
  have HL := Lib.hid hl
  have HBG := Lib.hid (begun_any w hT hW)
  obtain ⟨N, hN⟩ : ∃ N, N = l.length := ⟨_, rfl⟩
  rw [← hN] at hn ⊢
  have HN := Lib.hid hN
  clear hT hW hl hN
  go_enter Tryd.func8, Tryd.ntmps8
  go_wp2_with fail
  refine HBG.out.mono ?_; rintro e w1 ⟨rfl, hb1⟩
  obtain ⟨hb, hhb⟩ : ∃ hb, hb = w1.heap.size := ⟨_, rfl⟩
  obtain ⟨V, hV⟩ : ∃ V, V = w1.alloc (Obj.cells #[.slice none 0 0] 51) := ⟨_, rfl⟩
  have HHV := Lib.hid (show HandAt V hb (.slice none 0 0) from ⟨by rw [hV, hhb]; exact heap_alloc_new _ _, Or.inl rfl⟩)
  have HBV := Lib.hid (show Below w.heap.size w V by rw [hV]; exact hb1.alloc hb1.size _)
  have hle : w.heap.size ≤ hb := by have := hb1.size; omega
  have HV := Lib.hid hV
  have HHB := Lib.hid hhb
  clear hV hhb hb1
  go_upto_region 4 with fail
  rw [← HV.out, ← HHB.out]
  go_wp2_with fail
  go_loopg [4] (N + 1) (fun g v4 wr => ∃ i : Nat, i ≤ N ∧ v4 = .int .i64 (i : Int) ∧ (∃ v, HandAt wr hb v) ∧ Below w.heap.size w wr ∧ N - i < g)
  case atStart => exact ⟨0, Nat.zero_le _, rfl, ⟨_, HHV.out⟩, HBV.out, by omega⟩
  case round =>
    obtain ⟨i, hi, rfl, hha, hbel, hg⟩ := hrel
    obtain ⟨g, rfl⟩ : ∃ g, gk = g + 1 := ⟨gk - 1, by omega⟩
    have HBE := Lib.hid hbel
    have HHA := Lib.hid hha
    have hzw := hbel.size
    clear hbel hha
    have i0 : (0 : Int) ≤ (i : Int) := by omega
    by_cases hlt : i < N
    · have i1 : (i : Int) < (N : Int) := by omega
      have hil : i < l.length := by rw [← HN.out]; exact hlt
      obtain ⟨b, o, rfl, hbw, hc⟩ : ∃ b o, ao = some ⟨b, o, none⟩ ∧ b < w.heap.size ∧ ∀ i (h : i < l.length), (w.cell? ⟨b, o + i * 3, none⟩ = some (.int .i64 l[i].kind) ∧ w.cell? ⟨b, o + i * 3 + 1, none⟩ = some (.string l[i].text) ∧ w.cell? ⟨b, o + i * 3 + 2, none⟩ = some (.slice l[i].ao l[i].toks.length l[i].cap)) ∧ OpIn w w.heap.size l[i] := by
        rcases HL.out with h | h
        · rw [h] at hil; simp at hil
        · exact h
      obtain ⟨⟨c0, c1, c2⟩, hop⟩ := hc i hil
      have d0 := (HBE.out.cell (p := ⟨b, o + i * 3, none⟩) hbw).trans c0
      have d1 := (HBE.out.cell (p := ⟨b, o + i * 3 + 1, none⟩) hbw).trans c1
      have d2 := (HBE.out.cell (p := ⟨b, o + i * 3 + 2, none⟩) hbw).trans c2
      obtain ⟨x, hx⟩ : ∃ x, x = l[i] := ⟨_, rfl⟩
      rw [← hx] at d0 d1 d2 hop
      obtain ⟨v, hv⟩ := HHA.out
      have HPL := Lib.hid (plays_any x hb v wr hv (hop.after HBE.out hle) (fun w' h => HT.out.below (HBE.out.trans (h.mono hle))) (fun w' h => HW.out.below (HBE.out.trans (h.mono hle))))
      clear hc c0 c1 c2 hx hv hop
      go_wp2_with fail
      refine HPL.out.mono ?_; rintro e w2 ⟨rfl, hh2, hb2⟩
      have HH2 := Lib.hid hh2
      have HB2 := Lib.hid (HBE.out.trans (hb2.mono hle))
      clear hh2 hb2
      go_wp2_with fail
      go_roundg g
      case rel => exact ⟨i + 1, by omega, by go_num, HH2.out, HB2.out, by omega⟩
      case measure => omega
    · have i1 : ¬ (i : Int) < (N : Int) := by omega
      go_wp2_with fail
      go_ret
      exact ⟨rfl, HBE.out⟩
end Go.Proofs.YtaipljdpkgdheaaDoor
/- Calls that came in. -/
namespace Go.Proofs.YtaipljdpkgdheaaDoor
open Go Go.ChangeShapes Go.WideShapes Go.ChangeAt Go.RowKit

theorem cellsI : Tryd.prog.cellsOf 3 = 1 := by kernel_rfl
theorem cellsStr : Tryd.prog.cellsOf 9 = 1 := by kernel_rfl
theorem cellsTok : Tryd.prog.cellsOf 28 = 3 := by kernel_rfl
theorem list_ofP {α : Type} {p : Nat → α → Prop} {n : Nat} (h : ∀ i, i < n → ∃ a, p i a) : ∃ l : List α, l.length = n ∧ ∀ i (hi : i < l.length), p i l[i] := by
  induction n with
  | zero => exact ⟨[], rfl, fun i hi => absurd hi (by simp)⟩
  | succ n ih =>
    obtain ⟨l, hl, hp⟩ := ih (fun i hi => h i (by omega))
    obtain ⟨a, ha⟩ := h n (by omega)
    refine ⟨l ++ [a], by simp [hl], fun i hi => ?_⟩
    by_cases hin : i < l.length
    · rw [List.getElem_append_left hin]
      exact hp i hin
    · have e : i = l.length := by simp at hi; omega
      subst e
      rw [List.getElem_append_right (Nat.le_refl _)]
      simpa [hl] using ha
section
variable {H : Type} {enc : TypeId × Value → H} {W : World} {base : Nat} {spare : Nat → Bool} {held : Bool}
theorem spot_none {a : Addr} {v : Value} (h : W.cell? (a.add 0) = some v) : a.spot = none := by
  obtain ⟨b, o, sp⟩ := a
  cases sp with
  | none => rfl
  | some x =>
    simp [World.cell?, Addr.add] at h
    split at h <;> cases h
theorem add_none (b o k : Nat) : (⟨b, o, none⟩ : Addr).add k = ⟨b, o + k, none⟩ := by
  unfold Addr.add
  split
  · subst_vars; rfl
  · rfl
theorem weights_all {P : Program} {e : TypeId} : ∀ {l : List (DataW H)} {d : DataW H}, d ∈ l → ∀ n ∈ d.weights P e, n ∈ DataW.weightsAll P e l
  | x :: r, d, hd, n, hn => by
    simp only [DataW.weightsAll, List.mem_append]
    rcases List.mem_cons.1 hd with rfl | hd
    · exact Or.inl hn
    · exact Or.inr (weights_all hd n hn)
/-- A list that came in, element by element, with what its weights tell. -/
theorem row_trod {fuel : Nat} {t e : TypeId} {cs : List Value} {x : DataW H × List MemPlace} {n : Nat} {R : List Value → Prop} (ht : Tryd.prog.underlying t = some (.slice e)) (hcell : Tryd.prog.cellsOf e = n) (hn : 0 < n)
    (h : DataW.trod enc Tryd.prog W base spare held fuel t cs = some x) (hw : ∀ m ∈ x.1.weights Tryd.prog t, m ≤ reachBytes)
    (he : ∀ {f c y}, DataW.trod enc Tryd.prog W base spare held f e c = some y → (∀ m ∈ y.1.weights Tryd.prog e, m ≤ reachBytes) → R c) :
    ∃ ao len cap, cs = [.slice ao len cap] ∧ len ≤ cap ∧ cap ≤ maxLen ∧ len * Tryd.prog.bytesOf e ≤ reachBytes ∧ (ao = none → cap = 0 ∧ len = 0) ∧
      (len = 0 ∨ ∃ b o, ao = some ⟨b, o, none⟩ ∧ b < W.heap.size ∧ ∀ i, i < len → ∃ c, R c ∧ c.length = n ∧ ∀ j, j < n → W.cell? ⟨b, o + i * n + j, none⟩ = c[j]?) := by
  rcases DataW.trod_slice ht h with ⟨h0, _⟩ | ⟨a, len, cap, elems, rest, m, _, rfl, rfl, hb, hl, hm, hlen, hel, _, _⟩
  · exact ⟨none, 0, 0, h0, by omega, by unfold maxLen; omega, by simp [reachBytes], fun _ => ⟨rfl, rfl⟩, Or.inl rfl⟩
  · have each : ∀ i, i < len → ∃ c, R c ∧ c.length = n ∧ ∀ j, j < n → W.cell? (a.add (i * n + j)) = c[j]? := by
      intro i hi
      have h1 := hel i hi
      rw [List.getElem?_eq_getElem (by omega), hcell] at h1
      cases hc : W.cells? base (a.add (i * n)) n with
      | none => rw [hc] at h1; cases h1
      | some c =>
        rw [hc] at h1
        have h2 := World.cells?_some hc
        refine ⟨c, he h1 (fun k hk => hw k (by
          simp only [DataW.weights, ht, List.mem_cons, List.mem_append]
          exact Or.inr (Or.inl (weights_all (List.mem_map_of_mem (List.getElem_mem (by omega))) k hk)))), h2.2.1, fun j hj => ?_⟩
        have h3 := h2.2.2 j hj
        rw [Addr.add_add] at h3
        exact h3
    have hbytes : len * Tryd.prog.bytesOf e ≤ reachBytes := by
      have h1 := hw ((elems.length + rest.length) * Tryd.prog.bytesOf e) (by simp [DataW.weights, ht])
      refine Nat.le_trans (Nat.mul_le_mul_right _ ?_) h1
      omega
    refine ⟨some a, len, cap, rfl, hl, hm, hbytes, (fun e => nomatch e), ?_⟩
    rcases Nat.eq_zero_or_pos len with h0 | h0
    · exact Or.inl h0
    · have hs : a.spot = none := by
        obtain ⟨c, _, hc, h3⟩ := each 0 h0
        have h4 := h3 0 hn
        rw [List.getElem?_eq_getElem (by omega)] at h4
        rw [Nat.zero_mul, Nat.zero_add] at h4
        exact spot_none h4
      obtain ⟨b, o, sp⟩ := a
      simp only at hs
      subst hs
      have hlt : b < W.heap.size := by
        obtain ⟨c, _, hc, h3⟩ := each 0 h0
        have h4 := h3 0 hn
        rw [List.getElem?_eq_getElem (by omega)] at h4
        rw [add_none] at h4
        exact World.block_lt_of_cell? W _ h4
      refine Or.inr ⟨b, o, rfl, hlt, fun i hi => ?_⟩
      obtain ⟨c, hR, hc, h3⟩ := each i hi
      refine ⟨c, hR, hc, fun j hj => ?_⟩
      have h4 := h3 j hj
      rw [add_none] at h4
      rw [Nat.add_assoc]
      exact h4
set_option maxRecDepth 100000 in
theorem tok_trod {fuel : Nat} {cs : List Value} {x : DataW H × List MemPlace} (h : DataW.trod enc Tryd.prog W base spare held fuel 28 cs = some x) :
    ∃ t : Tok, cs = t.cells ∧ t.str.size ≤ maxLen ∧ ((∀ n ∈ x.1.weights Tryd.prog 28, n ≤ reachBytes) → t.str.size ≤ reachBytes) := by
  obtain ⟨y0, y1, y2, n, hx, hl, h0, h1, h2⟩ := Go.Deep.trod_struct3 Tryd.underlying28 h
  rw [cellsTok] at hl
  match cs, hl with
  | [c0, c1, c2], _ =>
    simp only [cellsI, cellsStr, List.drop_zero, List.drop_succ_cons, List.take_succ_cons, List.take_zero] at h0 h1 h2
    obtain ⟨k, e0, _, _⟩ := DataW.trod_int Tryd.underlying3 h0
    obtain ⟨s, e1, hd1, ws⟩ := DataW.trod_string Tryd.underlying9 h1
    obtain ⟨a, e2, _, _⟩ := DataW.trod_int Tryd.underlying3 h2
    cases e0; cases e1; cases e2
    refine ⟨⟨k, s, a⟩, rfl, ws, fun hw => ?_⟩
    have h3 := hw s.data.toList.length (by
      rw [hx]
      simp only [DataW.weights, Tryd.underlying28]
      simp [DataW.weightsEach, hd1, DataW.weights])
    exact h3
theorem bytesTok : Tryd.prog.bytesOf 28 = 32 := by kernel_rfl
theorem bytesOpT : Tryd.prog.bytesOf 54 = 48 := by kernel_rfl
theorem cellsOpT : Tryd.prog.cellsOf 54 = 3 := by kernel_rfl
theorem cellsToks : Tryd.prog.cellsOf 23 = 1 := by kernel_rfl
set_option maxRecDepth 100000 in
theorem toksR {fuel : Nat} {cs : List Value} {x : DataW H × List MemPlace} (h : DataW.trod enc Tryd.prog W base spare held fuel 23 cs = some x) (hw : ∀ m ∈ x.1.weights Tryd.prog 23, m ≤ reachBytes) :
    ∃ (l : List Tok) (ao : Option Addr) (cap : Nat), cs = [.slice ao l.length cap] ∧ ToksAt W ao l ∧ (l ≠ [] → ∀ ad, ao = some ad → ad.block < W.heap.size) ∧ (ao = none → cap = 0) ∧ l.length * 32 ≤ reachBytes ∧ ∀ t ∈ l, t.str.size ≤ reachBytes := by
  obtain ⟨ao, len, cap, rfl, hlc, hcm, hb, hno, hr⟩ := row_trod (R := fun c => ∃ t : Tok, c = t.cells ∧ t.str.size ≤ reachBytes) Tryd.underlying23 cellsTok (by omega) h hw (fun h hw => by
    obtain ⟨t, e, _, ht⟩ := tok_trod h
    exact ⟨t, e, ht hw⟩)
  rw [bytesTok] at hb
  rcases hr with rfl | ⟨b, o, rfl, hlt, hr⟩
  · exact ⟨[], ao, cap, rfl, Or.inl rfl, fun h => absurd rfl h, fun e => (hno e).1, by simp, by simp⟩
  · obtain ⟨l, rfl, hl⟩ := list_ofP (p := fun i (t : Tok) => t.str.size ≤ reachBytes ∧ ∀ j, j < 3 → W.cell? ⟨b, o + i * 3 + j, none⟩ = t.cells[j]?) (fun i hi => by
      obtain ⟨c, ⟨t, rfl, h1⟩, _, h3⟩ := hr i hi
      exact ⟨t, h1, h3⟩)
    refine ⟨l, _, cap, rfl, Or.inr ⟨b, o, rfl, fun i hi => ?_⟩, fun _ ad e => by cases e; exact hlt, (fun e => nomatch e), hb, fun a ha => ?_⟩
    · have h3 := (hl i hi).2
      exact ⟨h3 0 (by omega), h3 1 (by omega), h3 2 (by omega)⟩
    · obtain ⟨i, hi, rfl⟩ := List.mem_iff_getElem.1 ha
      exact (hl i hi).1
def OpT.cells (x : OpT) : List Value := [.int .i64 x.kind, .string x.text, .slice x.ao x.toks.length x.cap]
set_option maxRecDepth 100000 in
theorem opR {fuel : Nat} {cs : List Value} {x : DataW H × List MemPlace} (h : DataW.trod enc Tryd.prog W base spare held fuel 54 cs = some x) (hw : ∀ m ∈ x.1.weights Tryd.prog 54, m ≤ reachBytes) :
    ∃ y : OpT, cs = y.cells ∧ OpIn W W.heap.size y := by
  obtain ⟨y0, y1, y2, n, e, hl, h0, h1, h2⟩ := Go.Deep.trod_struct3 Tryd.underlying54 h
  rw [e] at hw
  rw [cellsOpT] at hl
  match cs, hl with
  | [c0, c1, c2], _ =>
    simp only [cellsI, cellsStr, cellsToks, List.drop_zero, List.drop_succ_cons, List.take_succ_cons, List.take_zero] at h0 h1 h2
    obtain ⟨k, e0, _, _⟩ := DataW.trod_int Tryd.underlying3 h0
    obtain ⟨s, e1, x1, ws⟩ := DataW.trod_string Tryd.underlying9 h1
    obtain ⟨l, ao, cap, e2, hat, hlo, hno, hln, hst⟩ := toksR h2 (fun m hm => hw m (by simp [DataW.weights, Tryd.underlying54, DataW.weightsEach, hm]))
    cases e0; cases e1; cases e2
    have hs0 : ∀ bs : List UInt8, y1.1 = .lit (.string bs) → bs.length ≤ reachBytes := fun bs e => hw _ (by simp [DataW.weights, Tryd.underlying54, DataW.weightsEach, e])
    have hs := hs0 s.data.toList (by rw [x1])
    rw [len_at] at hs
    unfold reachBytes at hs hln hst
    exact ⟨⟨k, s, ao, l, cap⟩, rfl, ⟨hat, hlo, hno, by simp only; omega, fun t ht => by have := hst t ht; omega, by simp only; omega⟩⟩
set_option maxRecDepth 100000 in
theorem ops_trod {fuel : Nat} {cs : List Value} {x : DataW H × List MemPlace} (h : DataW.trod enc Tryd.prog W base spare held fuel 48 cs = some x) (hw : ∀ m ∈ x.1.weights Tryd.prog 48, m ≤ reachBytes) :
    ∃ (l : List OpT) (ao : Option Addr) (cap : Nat), cs = [.slice ao l.length cap] ∧ OpsAt W ao l ∧ l.length ≤ 2932031007402 := by
  obtain ⟨ao, len, cap, rfl, hlc, hcm, hb, hno, hr⟩ := row_trod (R := fun c => ∃ y : OpT, c = y.cells ∧ OpIn W W.heap.size y) Tryd.underlying48 cellsOpT (by omega) h hw (fun h hw => opR h hw)
  rw [bytesOpT] at hb
  unfold reachBytes at hb
  rcases hr with rfl | ⟨b, o, rfl, hlt, hr⟩
  · exact ⟨[], ao, cap, rfl, Or.inl rfl, by simp⟩
  · obtain ⟨l, rfl, hl⟩ := list_ofP (p := fun i (y : OpT) => OpIn W W.heap.size y ∧ ∀ j, j < 3 → W.cell? ⟨b, o + i * 3 + j, none⟩ = y.cells[j]?) (fun i hi => by
      obtain ⟨c, ⟨a, rfl, h1⟩, _, h3⟩ := hr i hi
      exact ⟨a, h1, h3⟩)
    exact ⟨l, _, cap, rfl, Or.inr ⟨b, o, rfl, hlt, fun i hi => ⟨⟨(hl i hi).2 0 (by omega), (hl i hi).2 1 (by omega), (hl i hi).2 2 (by omega)⟩, (hl i hi).1⟩⟩, by omega⟩
end
end Go.Proofs.YtaipljdpkgdheaaDoor
/- Texts that came in. -/
namespace Go.Proofs.YtaipljdpkgdheaaDoor
open Go Go.ChangeShapes Go.WideShapes Go.ChangeAt Go.RowKit

/-- The texts that an argument leads to. -/
def TextsAt (w : World) (ao : Option Addr) (l : List ByteArray) : Prop :=
  l = [] ∨ ∃ b o, ao = some ⟨b, o, none⟩ ∧ b < w.heap.size ∧ ∀ i (h : i < l.length), w.cell? ⟨b, o + i, none⟩ = some (.string l[i])
theorem TextsAt.below {w w' : World} {ao : Option Addr} {l : List ByteArray} (h : TextsAt w ao l) (hb : Below w.heap.size w w') : TextsAt w' ao l := by
  rcases h with h | ⟨b, o, e, hlt, h⟩
  · exact Or.inl h
  · exact Or.inr ⟨b, o, e, Nat.lt_of_lt_of_le hlt hb.size, fun i hi => (hb.cell (p := ⟨b, o + i, none⟩) hlt).trans (h i hi)⟩
theorem bytesStr : Tryd.prog.bytesOf 9 = 16 := by kernel_rfl
section
variable {H : Type} {enc : TypeId × Value → H} {W : World} {base : Nat} {spare : Nat → Bool} {held : Bool}
set_option maxRecDepth 100000 in
theorem texts_trod {fuel : Nat} {cs : List Value} {x : DataW H × List MemPlace} (h : DataW.trod enc Tryd.prog W base spare held fuel 38 cs = some x) (hw : ∀ m ∈ x.1.weights Tryd.prog 38, m ≤ reachBytes) :
    ∃ (l : List ByteArray) (ao : Option Addr) (cap : Nat), cs = [.slice ao l.length cap] ∧ TextsAt W ao l ∧ l.length ≤ 8796093022208 ∧ ∀ s ∈ l, s.size ≤ 140737488351232 := by
  obtain ⟨ao, len, cap, rfl, hlc, hcm, hb, hno, hr⟩ := row_trod (R := fun c => ∃ s : ByteArray, c = [.string s] ∧ s.size ≤ 140737488351232) Tryd.underlying38 cellsStr (by omega) h hw (fun {f c y} h hw => by
    obtain ⟨s, e, hx, _⟩ := DataW.trod_string Tryd.underlying9 h
    refine ⟨s, e, ?_⟩
    have h3 := hw s.data.toList.length (by rw [hx]; simp [DataW.weights])
    rw [len_at] at h3
    unfold reachBytes at h3
    omega)
  rw [bytesStr] at hb
  unfold reachBytes at hb
  rcases hr with rfl | ⟨b, o, rfl, hlt, hr⟩
  · exact ⟨[], ao, cap, rfl, Or.inl rfl, by simp, by simp⟩
  · obtain ⟨l, rfl, hl⟩ := list_ofP (p := fun i (s : ByteArray) => s.size ≤ 140737488351232 ∧ W.cell? ⟨b, o + i, none⟩ = some (.string s)) (fun i hi => by
      obtain ⟨c, ⟨s, rfl, h1⟩, _, h3⟩ := hr i hi
      have h4 := h3 0 (by omega)
      rw [Nat.mul_one, Nat.add_zero] at h4
      exact ⟨s, h1, h4⟩)
    refine ⟨l, _, cap, rfl, Or.inr ⟨b, o, rfl, hlt, fun i hi => (hl i hi).2⟩, by omega, fun s hs => ?_⟩
    obtain ⟨i, hi, rfl⟩ := List.mem_iff_getElem.1 hs
    exact (hl i hi).1
end
end Go.Proofs.YtaipljdpkgdheaaDoor
