/- A slice of bytes that the call owns, handed on and appended to. -/
import Derived.Test.YtmdhacboegmccaaDoorFold
import Derived.Deep.AppendLies
import Derived.Laws.AppendOwnNone
import Derived.Deep.DeepMust
import Derived.Deep.RegionHeld3
import Derived.Deep.RegionWith
import Derived.Deep.Cut
import Derived.Deep.DeepCutAuto
import Derived.Deep.QuietTactic
import Derived.BigQuiet
namespace Go.Proofs.YtmdhacboegmccaaDoor
open Go Go.RowKit

def bytesC (l : List UInt8) : List Value := l.map fun b => Value.int .u8 (b.toNat : Int)
theorem bytesC_len (l : List UInt8) : (bytesC l).length = l.length := by simp [bytesC]
theorem bytesC_append (l m : List UInt8) : bytesC (l ++ m) = bytesC l ++ bytesC m := by simp [bytesC]
theorem bytesC_get (l : List UInt8) (i : Nat) (h : i < l.length) : (bytesC l)[i]? = some (.int .u8 (l[i].toNat : Int)) := by simp [bytesC, h]
theorem bytesC_one (l : List UInt8) : ∀ u ∈ bytesC l, u.oneCell' = true := by
  intro u hu
  unfold bytesC at hu
  rw [List.mem_map] at hu
  obtain ⟨b, _, rfl⟩ := hu
  rfl
theorem Tryd.infoU8 : (Tryd.prog.info? 5).map (fun i => (i.zero, i.size, i.bytes)) = some (some (.int .u8 0), 1, 1) := by kernel_rfl
theorem grownBy_trans {a b c : World} {r s : Option Nat} (h : a.grownBy b r) (k : b.grownBy c s) (hs : s = r ∨ ∀ g, s = some g → a.heap.size ≤ g) : a.grownBy c r :=
  ⟨k.os.trans h.os, k.tape.trans h.tape, k.output.trans h.output, Nat.le_trans h.size k.size, fun i hi hr => (k.block i (Nat.lt_of_lt_of_le hi h.size) (by
    rcases hs with rfl | hs
    · exact hr
    · intro e; have := hs i e.symm; omega)).trans (h.block i hi hr)⟩
theorem grownBy_refl (w : World) (r : Option Nat) : w.grownBy w r := ⟨rfl, rfl, rfl, Nat.le_refl _, fun _ _ _ => rfl⟩
theorem grownBy_of_below {w w' : World} (h : Below w.heap.size w w') (r : Option Nat) : w.grownBy w' r := ⟨h.os, h.tape, h.output, h.size, fun k hk _ => h.block k hk⟩

/-- The row of v in w has become the row of v' in w', which holds l; nothing else has turned, but for what is new. -/
structure Ext8 (B : Nat) (w : World) (v : Value) (w' : World) (v' : Value) (l : List UInt8) : Prop where
  own : w'.ownsRow B 5 1 v' l.length (bytesC l)
  grown : w.grownBy w' v.ownBlock
  row : v'.ownBlock = v.ownBlock ∨ ∃ g, w.heap.size ≤ g ∧ v'.ownBlock = some g
theorem Ext8.refl {B : Nat} {w : World} {v : Value} {l : List UInt8} (h : w.ownsRow B 5 1 v l.length (bytesC l)) : Ext8 B w v w v l := ⟨h, grownBy_refl _ _, Or.inl rfl⟩
theorem Ext8.trans {B : Nat} {a b c : World} {u v x : Value} {l m : List UInt8} (h : Ext8 B a u b v l) (k : Ext8 B b v c x m) : Ext8 B a u c x m := by
  refine ⟨k.own, grownBy_trans h.grown k.grown ?_, ?_⟩
  · rcases h.row with e | ⟨g, hg, e⟩
    · exact Or.inl e
    · exact Or.inr (fun g' e' => by rw [e] at e'; cases e'; exact hg)
  · rcases k.row with e | ⟨g, hg, e⟩
    · rw [e]; exact h.row
    · exact Or.inr ⟨g, Nat.le_trans h.grown.size hg, e⟩
/-- What is done beside it, in new memory alone. -/
theorem Ext8.pre {B : Nat} {a b c : World} {v x : Value} {m : List UInt8} (h : Below a.heap.size a b) (k : Ext8 B b v c x m) : Ext8 B a v c x m :=
  ⟨k.own, grownBy_trans (grownBy_of_below h _) k.grown (Or.inl rfl), by
    rcases k.row with e | ⟨g, hg, e⟩
    · exact Or.inl e
    · exact Or.inr ⟨g, Nat.le_trans h.size hg, e⟩⟩
theorem Ext8.post {B : Nat} {a b c : World} {v x : Value} {m : List UInt8} (k : Ext8 B a v b x m) (h : Below b.heap.size b c) : Ext8 B a v c x m :=
  ⟨by
    obtain ⟨h1, h2⟩ := k.own
    refine ⟨h1, ?_⟩
    rcases h2 with h2 | ⟨g, cap, cur, hv, hg, hh, r⟩
    · exact Or.inl h2
    · exact Or.inr ⟨g, cap, cur, hv, hg, (h.block g (Array.getElem?_eq_some_iff.1 hh).1).trans hh, r⟩, grownBy_trans k.grown (grownBy_of_below h v.ownBlock) (Or.inl rfl), k.row⟩
theorem owns_below {w w' : World} {base : Nat} {e : TypeId} {size : Nat} {v : Value} {n : Nat} {xs : List Value} (h : w.ownsRow base e size v n xs) (hb : Below w.heap.size w w') : w'.ownsRow base e size v n xs := by
  obtain ⟨h1, h2⟩ := h
  refine ⟨h1, ?_⟩
  rcases h2 with h2 | ⟨g, cap, cur, hv, hg, hh, r⟩
  · exact Or.inl h2
  · exact Or.inr ⟨g, cap, cur, hv, hg, (hb.block g (Array.getElem?_eq_some_iff.1 hh).1).trans hh, r⟩
/-- Behind an append of what lies in a new block. -/
theorem Ext8.app {B : Nat} {w w7 : World} {v : Value} {l m : List UInt8} {o : Obj} {g cap k : Nat} (hk : k = l.length + m.length) (ho : w7.ownsRow B 5 1 (.slice (some ⟨g, 0, none⟩) k cap) k (bytesC l ++ bytesC m)) (hg : (w.alloc o).grownBy w7 v.ownBlock) (ha : v.ownBlock = some g ∨ g = (w.alloc o).heap.size) : Ext8 B w v w7 (.slice (some ⟨g, 0, none⟩) k cap) (l ++ m) := by
  subst hk
  refine ⟨?_, grownBy_trans (World.grownBy_alloc w o v.ownBlock) hg (Or.inl rfl), ?_⟩
  · rw [bytesC_append, List.length_append]; exact ho
  · rcases ha with ha | ha
    · exact Or.inl (by rw [ha]; rfl)
    · exact Or.inr ⟨g, by rw [ha]; simp, rfl⟩
theorem or128 : ∀ x : Fin 256, bits BinOp.or IntKind.u8 (x.val : Int) 128 = ((x.val % 128 + 128 : Nat) : Int) := by decide +kernel
theorem or_u8 (z : Nat) : bits BinOp.or IntKind.u8 ((z : Int) % 256) 128 = (((UInt8.ofNat (z % 128 + 128)).toNat : Nat) : Int) := by
  have h := or128 ⟨z % 256, Nat.mod_lt _ (by decide)⟩
  have e : (z : Int) % 256 = ((z % 256 : Nat) : Int) := by omega
  rw [e]
  simp only at h
  rw [h, u8_of _ (by omega)]
  congr 1
  omega
theorem putZ_small {z : Nat} (h : z < 128) : putZ z = [UInt8.ofNat z] := by rw [putZ, dif_pos h]
theorem putZ_big {z : Nat} (h : ¬ z < 128) : putZ z = UInt8.ofNat (z % 128 + 128) :: putZ (z / 128) := by rw [putZ, dif_neg h]
theorem putZ_le (z : Nat) (h : z < 2 ^ 64) : (putZ z).length ≤ 10 := putZ_len 9 z (by omega)
theorem putB_le (n : Int) (h1 : -9223372036854775808 ≤ n) (h2 : n ≤ 9223372036854775807) : (putB n).length ≤ 10 := putZ_le _ (zz_lt n h1 h2)

set_option maxHeartbeats 8000000 in
set_option maxRecDepth 100000 in
theorem appendInt_any (B : Nat) (v : Value) (l : List UInt8) (n : Int) (w : World) (hown : w.ownsRow B 5 1 v l.length (bytesC l)) (hl : l.length ≤ 1000000000) (hB : B ≤ w.heap.size) (h1 : -9223372036854775808 ≤ n) (h2 : n ≤ 9223372036854775807) :
    Calls Tryd.prog 45 #[v, .int .i64 n] w fun e w' => ∃ v', e = .returned v' ∧ Ext8 B w v w' v' (l ++ putB n) := by
  obtain ⟨i0, hi0, hz0, hz1, hz2⟩ := info_parts Tryd.infoU8
  have HO := Lib.hid hown
  have hzl := zz_lt n h1 h2
  obtain ⟨z0, hz⟩ : ∃ z0, z0 = zz n := ⟨_, rfl⟩
  rw [← hz] at hzl
  have HZ := Lib.hid hz
  clear hz hown
  go_enter Tryd.func45, Tryd.ntmps45
  go_wp2_with fail
  refine (fold_any n w h1 h2).mono ?_; rintro e w1 ⟨rfl, rfl⟩
  rw [← HZ.out]
  go_wp2_with fail
  go_loopw [0, 5] (fun u i wr => ∃ (u' : Value) (z : Nat) (cur : List UInt8), u' = u ∧ i = .int .u64 z ∧ z < 2 ^ 64 ∧ Ext8 B w v wr u cur ∧ cur ++ putZ z = l ++ putZ z0) (fun _ i _ => (intOf i).toNat)
  case atStart => exact ⟨_, z0, l, rfl, rfl, hzl, Ext8.refl HO.out, rfl⟩
  case round =>
    obtain ⟨u', z, cur, rfl, rfl, hz64, hext, hcur⟩ := hrel
    have hlen := congrArg List.length hcur
    rw [List.length_append, List.length_append] at hlen
    have hz10 := putZ_le z0 hzl
    have hcl : cur.length ≤ 1000000010 := by omega
    have HE := Lib.hid hext
    have HC := Lib.hid hcur
    have hsz := hext.grown.size
    clear hext hcur hlen hz10
    by_cases hlt : z < 128
    · have HP := Lib.hid (putZ_small hlt)
      obtain ⟨x, hx⟩ : ∃ x, x = UInt8.ofNat z := ⟨_, rfl⟩
      rw [← hx] at HP
      obtain rfl : z = x.toNat := by rw [hx]; exact (u8_of z (by omega)).symm
      clear hx
      go_wp2_with (at_builtin; go_must (refine wpList_append_lies _ (by rfl) _ _ _ (by rfl) B 5 i0 _ 1 1 Tryd.underlying25 hi0 hz0 hz1 hz2 rfl (by omega) u' cur.length (bytesC cur) (by rfl) (HE.out.own.alloc _) ⟨_, 0, none⟩ 1 1 (bytesC [x]) (by rfl) (by rfl) (World.news_of_block (cs := #[.int .u8 (x.toNat : Int)]) (t := 5) (fr := (0, 0)) (heap_alloc_new _ _)) (bytesC_one _) (by omega) (by unfold maxLen; omega) (by omega) (by simp; omega) _ rfl ?_; intro g cap w7 hown7 hgrow7 hat7 hlt7))
      go_ret
      refine ⟨_, rfl, ?_⟩
      have h := HE.out.trans (Ext8.app rfl hown7 hgrow7 hat7)
      have e : cur ++ [x] = l ++ putB n := by rw [← HP.out, HC.out, HZ.out]; rfl
      rw [e] at h
      exact h
    · have hor := or_u8 z
      have HP := Lib.hid (putZ_big hlt)
      obtain ⟨x, hx⟩ : ∃ x, x = UInt8.ofNat (z % 128 + 128) := ⟨_, rfl⟩
      rw [← hx] at hor HP
      clear hx
      go_wp2_with (at_builtin; go_must (refine wpList_append_lies _ (by rfl) _ _ _ (by rfl) B 5 i0 _ 1 1 Tryd.underlying25 hi0 hz0 hz1 hz2 rfl (by omega) u' cur.length (bytesC cur) (by rfl) (HE.out.own.alloc _) ⟨_, 0, none⟩ 1 1 (bytesC [x]) (by rfl) (by rfl) (World.news_of_block (cs := #[.int .u8 (x.toNat : Int)]) (t := 5) (fr := (0, 0)) (heap_alloc_new _ _)) (bytesC_one _) (by omega) (by unfold maxLen; omega) (by omega) (by simp; omega) _ rfl ?_; intro g cap w7 hown7 hgrow7 hat7 hlt7))
      go_roundw
      case rel => exact ⟨_, z / 128, cur ++ [x], rfl, by go_num, by omega, HE.out.trans (Ext8.app rfl hown7 hgrow7 hat7), by rw [List.append_assoc]; have := HP.out; rw [List.singleton_append, ← this]; exact HC.out⟩
      case measure => simp [intOf]; omega
end Go.Proofs.YtmdhacboegmccaaDoor
