/- The walk of the law of one form. -/
import Derived.Test.YtmdhacboegmccaaDoorNumber
import Derived.Laws.AppendOwnNone
import Derived.Maps.AppendAt
import Derived.Deep.DeepAppendWide
import Derived.Outline
namespace Go.Proofs.YtmdhacboegmccaaDoor
open Go Go.RowKit

/-- Bytes that came in: none at all, or from an address on. -/
def BytesArg (w : World) (ao : Option Addr) (cap : Nat) (l : List UInt8) : Prop :=
  (ao = none ∧ cap = 0 ∧ l = []) ∨ ∃ ad, ao = some ad ∧ ∀ j u, (bytesC l)[j]? = some u → w.cell? (ad.add j) = some u
theorem BytesArg.below {w w' : World} {ao : Option Addr} {cap : Nat} {l : List UInt8} (h : BytesArg w ao cap l) (hb : Below w.heap.size w w') : BytesArg w' ao cap l := by
  rcases h with h | ⟨ad, rfl, h⟩
  · exact Or.inl h
  · exact Or.inr ⟨ad, rfl, fun j u hu => by
      have hl := World.block_lt_of_cell? w _ (h j u hu)
      exact (hb.cell (p := ad.add j) hl).trans (h j u hu)⟩
theorem news_of {w : World} {b o : Nat} {l : List UInt8} (h : ∀ i (h : i < l.length), w.cell? ⟨b, o + i, none⟩ = some (.int .u8 (l[i].toNat : Int))) : ∀ j u, (bytesC l)[j]? = some u → w.cell? ((⟨b, o, none⟩ : Addr).add j) = some u := by
  intro j u hu
  have hj : j < l.length := by
    have := (List.getElem?_eq_some_iff.1 hu).1
    rwa [bytesC_len] at this
  rw [bytesC_get l j hj] at hu
  have e : (⟨b, o, none⟩ : Addr).add j = ⟨b, o + j, none⟩ := by
    unfold Addr.add
    split
    · subst_vars; rfl
    · rfl
  rw [e, h j hj]
  exact hu
/-- 'append(append([]byte(nil), p...), behind...)': what stands behind the two. -/
structure Both (w w' : World) (v : Value) (l : List UInt8) : Prop where
  own : w'.ownsRow w.heap.size 5 1 v l.length (bytesC l)
  below : Below w.heap.size w w'
theorem below_of_grown {w w' : World} {row : Option Nat} (h : w.grownBy w' row) (hr : row = none) : Below w.heap.size w w' := ⟨h.os, h.tape, h.output, h.size, fun k hk => h.block k hk (by rw [hr]; simp)⟩

/-- 'append(s, l...)' of bytes that came in, onto a row of one's own. -/
theorem wpList_append_arg8 {w : World} {ops : Array Oper} {rest : List Oper} {o : Oper} {a : Act} {Q : Exit → Act → World → Prop} (hgd : o.guard = none) (s x : Operand)
    (ho : o.op = .call { callee := .builtin .append, args := #[s, x], argTypes := #[25, 25] }) (base : Nat) (v : Value) (p : List UInt8) (hs : a.eval s = v) (hown : w.ownsRow base 5 1 v p.length (bytesC p))
    (ao : Option Addr) (cap : Nat) (l : List UInt8) (hx : a.eval x = .slice ao l.length cap) (harg : BytesArg w ao cap l) (hl : p.length + l.length ≤ 200000000000000) (hbase : base ≤ w.heap.size)
    (h : ∀ v' w', w'.ownsRow base 5 1 v' (p ++ l).length (bytesC (p ++ l)) → w.grownBy w' v.ownBlock → wpList Tryd.prog ops Q rest (a.put o.dst v') w') :
    wpList Tryd.prog ops Q (o :: rest) a w := by
  obtain ⟨i0, hi0, hz0, hz1, hz2⟩ := info_parts Tryd.infoU8
  rcases harg with ⟨rfl, rfl, rfl⟩ | ⟨ad, rfl, hc⟩
  · refine wpList_append_own_none hgd s x 25 ho base 5 i0 1 Tryd.underlying25 hi0 v p.length (bytesC p) hs hown hx ?_
    exact h v w (by rw [List.append_nil]; exact hown) (grownBy_refl _ _)
  · refine wpList_append_own_wide w hgd s x 25 ho base 5 i0 _ 1 1 Tryd.underlying25 hi0 hz0 hz1 hz2 rfl (by omega) v p.length (bytesC p) hs hown ad l.length cap (bytesC l) hx (by rw [bytesC_len]; omega) hc (bytesC_one _) (by unfold maxLen; omega) (by omega) hbase ?_
    intro v' w' h1 h2 _
    refine h v' w' ?_ h2
    rw [List.length_append, bytesC_append]
    exact h1
theorem owned_arg {w : World} {B : Nat} {v : Value} {l : List UInt8} (h : w.ownsRow B 5 1 v l.length (bytesC l)) : ∃ ao cap, v = .slice ao l.length cap ∧ BytesArg w ao cap l ∧ BytesAt w ao l ∧ l.length ≤ cap ∧ cap ≤ maxLen := by
  obtain ⟨ao, cap, hv, hb, hc, hm⟩ := owned_bytes h
  refine ⟨ao, cap, hv, ?_, hb, hc, hm⟩
  rcases h.2 with ⟨e, h0⟩ | ⟨g, cap', cur, e, _, hh, hn, _, _, ht⟩
  · rw [hv] at e
    injection e with e1 e2 e3
    exact Or.inl ⟨e1, e3, List.eq_nil_of_length_eq_zero h0⟩
  · rw [hv] at e
    injection e with e1 e2 e3
    refine Or.inr ⟨⟨g, 0, none⟩, e1, news_of fun i hi => ?_⟩
    have hg := bytesC_get l i hi
    rw [← ht, List.getElem?_take, if_pos (by omega)] at hg
    rw [Nat.zero_add, cell_of_row w g i _ _ (0, 0) hh]
    simpa using hg
theorem Both.a {w w1 : World} {v : Value} {p : List UInt8} (h : w1.ownsRow w.heap.size 5 1 v ([] ++ p).length (bytesC ([] ++ p))) (hg : w.grownBy w1 (Value.slice none 0 0).ownBlock) : Both w w1 v p := ⟨h, below_of_grown hg rfl⟩
theorem Both.b {w w1 w2 : World} {v u : Value} {p l : List UInt8} (hb : Both w w1 v p) (h : w2.ownsRow w.heap.size 5 1 u (p ++ l).length (bytesC (p ++ l))) (hg : w1.grownBy w2 v.ownBlock) : Both w w2 u (p ++ l) :=
  ⟨h, hb.below.grown hg hb.below.size (fun k hk => (hb.own.lt k hk).1)⟩
end Go.Proofs.YtmdhacboegmccaaDoor
