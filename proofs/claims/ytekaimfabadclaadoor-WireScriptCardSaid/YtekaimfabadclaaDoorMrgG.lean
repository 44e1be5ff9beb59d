/- Texts put together: Other, Kept, OtherTwo, OtherAny, ScriptIn, ScriptWalk, InTurns. -/
import Derived.BigRegion
import Derived.Deep.RegionHeld3
import Derived.Deep.LoopGhost
import Derived.Deep.DeepCutAuto
import Derived.Deep.RegionWith
import Derived.Test.YtekaimfabadclaaDoorMrgA
import Derived.Test.YtekaimfabadclaaDoorMrgB
import Derived.Test.YtekaimfabadclaaDoorMrgC
import Derived.Test.YtekaimfabadclaaDoorMrgD
import Derived.Test.YtekaimfabadclaaDoorMrgE
import Derived.Test.YtekaimfabadclaaDoorMrgF
/- The laws' other: a step with one thing another one. -/
namespace Go.Proofs.YtekaimfabadclaaDoor
open Go Go.RowKit

/-- The blocks of a step that was in memory, or that is new. -/
def POr (P : Nat → Prop) (lo hi : Nat) : Nat → Prop := fun b => P b ∨ Span lo hi b
theorem XAt.keep {P Q : Nat → Prop} {M : Nat} {w w' : World} {x : OpX} (h : XAt P M w x) (hk : ∀ b, P b → w'.heap[b]? = w.heap[b]?) (hq : ∀ b, P b → Q b) : XAt Q M w' x :=
  ⟨h.fit, (h.by'.keep hk).mono hq, (h.va.keep hk).mono hq, (h.ev.keep hk).mono hq⟩
theorem BoxO.all {w : World} {b : Nat} {x : OpX} (h : BoxO w b x) (x' : OpX) : BoxO (set7 w b x') b x' := by
  unfold set7
  refine ⟨?_, ?_, ?_, ?_, ?_, ?_, ?_, fun j hj => ?_⟩
  · exact (set_ne (by omega)).trans ((set_ne (by omega)).trans ((set_ne (by omega)).trans ((set_ne (by omega)).trans ((set_ne (by omega)).trans ((set_ne (by omega)).trans (World.cell?_setCell_same _ _ _ h.c0))))))
  · exact (set_ne (by omega)).trans ((set_ne (by omega)).trans ((set_ne (by omega)).trans ((set_ne (by omega)).trans ((set_ne (by omega)).trans (World.cell?_setCell_same _ _ _ ((set_ne (by omega)).trans h.c1))))))
  · exact (set_ne (by omega)).trans ((set_ne (by omega)).trans ((set_ne (by omega)).trans ((set_ne (by omega)).trans (World.cell?_setCell_same _ _ _ ((set_ne (by omega)).trans ((set_ne (by omega)).trans h.c2))))))
  · exact (set_ne (by omega)).trans ((set_ne (by omega)).trans ((set_ne (by omega)).trans (World.cell?_setCell_same _ _ _ ((set_ne (by omega)).trans ((set_ne (by omega)).trans ((set_ne (by omega)).trans h.c3))))))
  · exact (set_ne (by omega)).trans ((set_ne (by omega)).trans (World.cell?_setCell_same _ _ _ ((set_ne (by omega)).trans ((set_ne (by omega)).trans ((set_ne (by omega)).trans ((set_ne (by omega)).trans h.c4))))))
  · exact (set_ne (by omega)).trans (World.cell?_setCell_same _ _ _ ((set_ne (by omega)).trans ((set_ne (by omega)).trans ((set_ne (by omega)).trans ((set_ne (by omega)).trans ((set_ne (by omega)).trans h.c5))))))
  · exact World.cell?_setCell_same _ _ _ ((set_ne (by omega)).trans ((set_ne (by omega)).trans ((set_ne (by omega)).trans ((set_ne (by omega)).trans ((set_ne (by omega)).trans ((set_ne (by omega)).trans h.c6))))))
  · simp only [World.frozen?_setCell]
    exact h.f j hj
theorem BoxO.set0 {w : World} {b : Nat} {x : OpX} (h : BoxO w b x) (k : Int) : BoxO (w.setCell ⟨b, 0, none⟩ (.int .i64 k)) b { x with kind := k } :=
  ⟨World.cell?_setCell_same _ _ _ h.c0, (set_ne (by omega)).trans h.c1, (set_ne (by omega)).trans h.c2, (set_ne (by omega)).trans h.c3, (set_ne (by omega)).trans h.c4, (set_ne (by omega)).trans h.c5, (set_ne (by omega)).trans h.c6, fun j hj => (World.frozen?_setCell _ _ _ _).trans (h.f j hj)⟩
theorem BoxO.set1 {w : World} {b : Nat} {x : OpX} (h : BoxO w b x) (k : Int) : BoxO (w.setCell ⟨b, 1, none⟩ (.int .i64 k)) b { x with n := k } :=
  ⟨(set_ne (by omega)).trans h.c0, World.cell?_setCell_same _ _ _ h.c1, (set_ne (by omega)).trans h.c2, (set_ne (by omega)).trans h.c3, (set_ne (by omega)).trans h.c4, (set_ne (by omega)).trans h.c5, (set_ne (by omega)).trans h.c6, fun j hj => (World.frozen?_setCell _ _ _ _).trans (h.f j hj)⟩
theorem BoxO.set34 {w : World} {b : Nat} {x : OpX} (h : BoxO w b x) (ty : ByteArray) (tm : Int) : BoxO ((w.setCell ⟨b, 3, none⟩ (.string ty)).setCell ⟨b, 4, none⟩ (.int .i64 tm)) b { x with ty := ty, tm := tm } :=
  ⟨(set_ne (by omega)).trans ((set_ne (by omega)).trans h.c0), (set_ne (by omega)).trans ((set_ne (by omega)).trans h.c1), (set_ne (by omega)).trans ((set_ne (by omega)).trans h.c2), (set_ne (by omega)).trans (World.cell?_setCell_same _ _ _ h.c3), World.cell?_setCell_same _ _ _ ((set_ne (by omega)).trans h.c4), (set_ne (by omega)).trans ((set_ne (by omega)).trans h.c5), (set_ne (by omega)).trans ((set_ne (by omega)).trans h.c6), fun j hj => (World.frozen?_setCell _ _ _ _).trans ((World.frozen?_setCell _ _ _ _).trans (h.f j hj))⟩
/-- What other answers. -/
def OtherTo (P : Nat → Prop) (M : Nat) (w : World) (en : Ending) (w' : World) : Prop :=
  ∃ x', en = .returned x'.v ∧ XAt (POr P w.heap.size w'.heap.size) M w' x' ∧ Wrote P M w w'
theorem Wrote.lift {P : Nat → Prop} {M : Nat} {w W2 V : World} {lo hi : Nat} (hb : Below w.heap.size w W2) (hlo : w.heap.size ≤ lo) (h : Wrote (POr P lo hi) M W2 V) : Wrote P M w V :=
  ⟨(WrOk.below hb).trans h.ok, fun b hbw hn => (h.far b (Nat.lt_of_lt_of_le hbw hb.size) (fun hp => hp.elim hn (fun hs => by have := hs.1; omega))).trans (hb.block b hbw),
   fun B hB hp => (hb.mono hB).trans (h.below B (Nat.le_trans hB hb.size) (fun b hq => hq.elim (hp b) (fun hs => by have := hs.1; omega)))⟩
theorem other_end {P : Nat → Prop} {M : Nat} {w V : World} {lo R : Nat} {x' : OpX} (_hlo : w.heap.size ≤ lo) (hR : w.heap.size ≤ R) (hRl : R < lo) (hPw : ∀ b, P b → b < w.heap.size) (h : Wrote P M w V) (hx : XAt (POr P lo V.heap.size) M V x') : OtherTo P M w (.returned x'.v) (set7 V R x') := by
  refine ⟨x', rfl, hx.keep (fun b hb => set7_block _ _ _ b ?_) (fun b hb => ?_), ?_⟩
  · rcases hb with hb | hb
    · have := hPw b hb; omega
    · have := hb.1; omega
  · rcases hb with hb | hb
    · exact Or.inl hb
    · exact Or.inr ⟨by have := hb.1; omega, by rw [set7_size]; exact hb.2⟩
  · exact ((((((h.new hR _ _).new hR _ _).new hR _ _).new hR _ _).new hR _ _).new hR _ _).new hR _ _
theorem Wrote.por {P : Nat → Prop} {M : Nat} {w V : World} {lo hi b o : Nat} {u u' : Value} (h : Wrote P M w V) (hp : POr P lo hi b) (hlo : w.heap.size ≤ lo) (hu : V.cell? ⟨b, o, none⟩ = some u) (ha : Alike M u u') : Wrote P M w (V.setCell ⟨b, o, none⟩ u') :=
  hp.elim (fun hp => h.set hp hu ha) (fun hs => h.new (Nat.le_trans hlo hs.1) _ _)
theorem bits_u8 (op : BinOp) (a b : Int) : ∃ c : UInt8, bits op .u8 a b = (c.toNat : Int) := by
  have hw : ∀ z : Int, ∃ c : UInt8, IntKind.u8.wrap z = (c.toNat : Int) := fun z => by
    have h1 : 0 ≤ IntKind.u8.wrap z ∧ IntKind.u8.wrap z < 256 := by
      simp [IntKind.wrap, IntKind.bits, IntKind.signed]
      omega
    refine ⟨UInt8.ofNat (IntKind.u8.wrap z).toNat, ?_⟩
    rw [UInt8.toNat_ofNat']
    omega
  unfold bits
  exact hw _
theorem Wrote.drew {P : Nat → Prop} {M : Nat} {w w' : World} (h : Wrote P M w w') : Wrote P M w w'.drew := ⟨⟨h.ok.1, h.ok.2⟩, h.far, fun B hB hp => (h.below B hB hp).drew⟩
theorem BoxO.set345 {w : World} {b : Nat} {x : OpX} (h : BoxO w b x) (ty : ByteArray) (tm : Int) (va : Option Addr) (vl vc : Nat) : BoxO (((w.setCell ⟨b, 3, none⟩ (.string ty)).setCell ⟨b, 4, none⟩ (.int .i64 tm)).setCell ⟨b, 5, none⟩ (.slice va vl vc)) b { x with ty := ty, tm := tm, va := va, vl := vl, vc := vc } :=
  (h.set34 ty tm).set5 va vl vc
theorem three_index : ∀ k : Nat, k < 3 → ∀ w : World, (Instr.index 57 (.agg #[.int .i64 2, .int .i64 4, .int .i64 6]) (.int .i64 k)).run Tryd.prog w = .ok (.int .i64 (2 * k + 2)) w
  | 0, _, _ => by kernel_rfl | 1, _, _ => by kernel_rfl | 2, _, _ => by kernel_rfl
  | n + 3, h, _ => by omega
/-- The step in its box, ahead of what is changed. -/
def Mid (P : Nat → Prop) (M : Nat) (w W : World) (E R : Nat) (wx : World) : Prop :=
  ∃ x2, BoxO wx E x2 ∧ BoxO wx R zeroO ∧ XAt (POr P W.heap.size wx.heap.size) M wx x2 ∧ Below w.heap.size w wx ∧ W.heap.size ≤ wx.heap.size

set_option maxHeartbeats 8000000 in
set_option maxRecDepth 100000 in
theorem other_but (P : Nat → Prop) (M : Nat) (x : OpX) (k : Int) (w : World) (hP : ∀ b, P b → b < w.heap.size) (k0 : -9223372036854775808 ≤ k) (k1 : k ≤ 9223372036854775807) (hx : XAt P M w x) (hM : M ≤ 281474976710656) (hno : ∀ K : Int, (0 ≤ K ∧ (K = k ∨ K = -(k + 1))) → ¬ 2 = K / 2 % 5) :
    Calls Tryd.prog 38 #[x.v, .int .i64 k] w fun en w' => OtherTo P (M + 1) w en w' := by
  have HNO := Lib.hid hno
  clear hno
  obtain ⟨W, hW⟩ : ∃ W, W = (w.alloc (Obj.cells x.cells 71)).alloc (Obj.cells zeroO.cells 71) := ⟨_, rfl⟩
  have hbW : Below w.heap.size w W := by rw [hW]; exact ((Below.refl _ _).alloc (Nat.le_refl _) _).alloc (by simp) _
  have HB := Lib.hid hbW
  obtain ⟨E, hE⟩ : ∃ E, E = w.heap.size := ⟨_, rfl⟩
  obtain ⟨R, hR⟩ : ∃ R, R = w.heap.size + 1 := ⟨_, rfl⟩
  have HQ := Lib.hid (show BoxO W E x from BoxO.of (by rw [hE, hW, Below.heap_alloc _ _ _ (by simp)]; exact heap_alloc_new _ _))
  have HT := Lib.hid (show BoxO W R zeroO from BoxO.of (t := 71) (by
    have := heap_alloc_new (w.alloc (Obj.cells x.cells 71)) (Obj.cells zeroO.cells 71)
    rw [World.size_alloc] at this
    rw [hW, hR]
    exact this))
  have hzW : w.heap.size + 1 + 1 = W.heap.size := by rw [hW]; simp
  have HX := Lib.hid (show XAt P M W x from hx.keep (fun b hb => hbW.block b (hP b hb)) (fun b hb => hb))
  obtain ⟨l, vals, es, hrd⟩ := HX.out.reads (by unfold maxLen; omega)
  have HAL := Lib.hid (alone_any M x l vals es W hx.fit hrd)
  simp only [OpX.cells, zeroO] at hW
  have HW := Lib.hid hW
  have HEE := Lib.hid hE
  have HRE := Lib.hid hR
  have HPP := Lib.hid hP
  have hER : E < R := by omega
  have hRW : R < W.heap.size := by omega
  have hwE : w.heap.size ≤ E := by omega
  have hzz : w.heap.size ≤ W.heap.size := by omega
  clear hx hbW hW hE hR hzW hP hrd
  have b0 := HQ.out.c0
  have b1 := HQ.out.c1
  have b2 := HQ.out.c2
  have b3' := HQ.out.c3
  have b4 := HQ.out.c4
  have b5 := HQ.out.c5
  have b6 := HQ.out.c6
  have g0 := HQ.out.f 0 (by omega)
  have g1 := HQ.out.f 1 (by omega)
  have g2 := HQ.out.f 2 (by omega)
  have g3 := HQ.out.f 3 (by omega)
  have g4 := HQ.out.f 4 (by omega)
  have g5 := HQ.out.f 5 (by omega)
  have g6 := HQ.out.f 6 (by omega)
  unfold OpX.v at HAL ⊢
  go_enter Tryd.func38, Tryd.ntmps38
  go_upto_region 1 with fail
  rw [← HW.out, ← HRE.out, ← HEE.out]
  go_upto_if 7 with fail
  go_cut [1] (fun s1 wx => (∃ K : Int, s1 = .int .i64 K ∧ 0 ≤ K ∧ K ≤ 9223372036854775807 ∧ (K = k ∨ K = -(k + 1))) ∧ wx = W)
  case first =>
    by_cases hneg : k < 0
    · go_wp2_with fail
      go_meet
      exact ⟨⟨_, rfl, by omega, by omega, Or.inr (by omega)⟩, rfl⟩
    · go_wp2_with fail
      go_meet
      exact ⟨⟨_, rfl, by omega, by omega, Or.inl rfl⟩, rfl⟩
  case rest =>
    obtain ⟨⟨K, rfl, K0, K1, hKK⟩, hw⟩ := hcut
    have HKK := Lib.hid (And.intro K0 hKK)
    clear hKK
    obtain rfl : W = wc := hw.symm
    go_upto_if 13 with fail
    go_cut [] (fun wx => Mid P M w W E R wx)
    case first =>
      have hodd : K % 2 = 1 ∨ K % 2 = 0 := by omega
      rcases hodd with hodd | hodd
      · go_wp2_with ((with_reducible refine HAL.out.mono ?_); rintro en w1 ⟨⟨x', es', rfl, hxa, hxr, hxe, hxk, hxn, hxt, hxm⟩, hb1⟩; simp only [OpX.v]; have hq1 := HQ.out.below hb1; have c0 := hq1.c0; have c1 := hq1.c1; have c2 := hq1.c2; have c3 := hq1.c3; have c4 := hq1.c4; have c5 := hq1.c5; have c6 := hq1.c6; have h0 := hq1.f 0 (by omega); have h1 := hq1.f 1 (by omega); have h2 := hq1.f 2 (by omega); have h3 := hq1.f 3 (by omega); have h4 := hq1.f 4 (by omega); have h5 := hq1.f 5 (by omega); have h6 := hq1.f 6 (by omega); have HXA := Lib.hid hxa; have HB1 := Lib.hid hb1; have HQ1 := Lib.hid hq1; clear hxa hxr hxe hxk hxn hxt hxm hb1 hq1)
        go_meet
        have hne : ∀ b, b ≠ E → (set7 w1 E x').heap[b]? = w1.heap[b]? := fun b hb => set7_block _ _ _ b hb
        have z1 := HB1.out.size
        exact (show Mid P M w W E R (set7 w1 E x') from ⟨x', HQ1.out.all x', (HT.out.below HB1.out).keep (hne R (by omega)), HXA.out.keep (fun b hb => hne b (by have := hb.1; omega)) (fun b hb => Or.inr ⟨hb.1, by rw [set7_size]; exact hb.2⟩), set7_below (HB.out.trans (HB1.out.mono HB.out.size)) hwE, by rw [set7_size]; exact z1⟩)
      · go_wp2_with fail
        go_meet
        exact ⟨x, HQ.out, HT.out, HX.out.keep (fun b _ => rfl) (fun b hb => Or.inl hb), HB.out, Nat.le_refl _⟩
    case rest =>
      obtain ⟨x2, hq2, ht2, hx2, hb2, z2⟩ := hcut
      obtain ⟨W2, hW2⟩ : ∃ W2, W2 = wc := ⟨_, rfl⟩
      rw [← hW2] at hq2 ht2 hx2 hb2 z2 ⊢
      have HQ2 := Lib.hid hq2
      have HT2 := Lib.hid ht2
      have HX2 := Lib.hid hx2
      have HB2 := Lib.hid hb2
      clear hq2 ht2 hx2 hb2 hW2 HQ HT HX HAL b0 b1 b2 b3' b4 b5 b6 g0 g1 g2 g3 g4 g5 g6 HW
      obtain ⟨kind, n, ra, rl, rc, ty, tm, va, vl, vc, ea, el, ec⟩ := x2
      have HPE := Lib.hid (show ∀ b, POr P W.heap.size W2.heap.size b → b ≠ E ∧ b ≠ R ∧ b < W2.heap.size from fun b hb => by
        have hwW := hzz
        rcases hb with hb | hb
        · have := HPP.out b hb
          exact ⟨by omega, by omega, by omega⟩
        · have h1 := hb.1
          have h2 := hb.2
          exact ⟨by omega, by omega, h2⟩)
      have b0 := HQ2.out.c0
      have b1 := HQ2.out.c1
      have b2 := HQ2.out.c2
      have b3' := HQ2.out.c3
      have b4 := HQ2.out.c4
      have b5 := HQ2.out.c5
      have b6 := HQ2.out.c6
      simp only at b0 b1 b2 b3' b4 b5 b6
      go_upto_region 7 with fail
      obtain ⟨h, hh⟩ : ∃ h, h = K / 2 % 5 := ⟨_, rfl⟩
      obtain ⟨q, hq⟩ : ∃ q, q = K / 10 := ⟨_, rfl⟩
      rw [← hh, ← hq]
      have HH := Lib.hid hh
      have h2 : 0 ≤ h ∧ h ≤ 4 := by omega
      have q0 : 0 ≤ q := by omega
      have q1 : q ≤ 922337203685477580 := by omega
      clear hh hq K0 K1
      have hcs : (h = 0 ∧ 0 < rl) ∨ (h = 0 ∧ rl = 0) ∨ h = 1 ∨ (h = 2 ∧ 0 < el) ∨ (h = 2 ∧ el = 0) ∨ h = 3 ∨ h = 4 := by omega
      have g0 := HQ2.out.f 0 (by omega)
      have g1 := HQ2.out.f 1 (by omega)
      have g3 := HQ2.out.f 3 (by omega)
      have g4 := HQ2.out.f 4 (by omega)
      have g5 := HQ2.out.f 5 (by omega)
      clear h2
      rcases hcs with ⟨rfl, hl⟩ | ⟨rfl, rfl⟩ | rfl | ⟨rfl, hl⟩ | ⟨rfl, rfl⟩ | rfl | rfl
      · have hl' : (0 : Int) < (rl : Int) := by omega
        obtain ⟨b, o, rfl, hPb, hsh⟩ : ∃ b o, ra = some ⟨b, o, none⟩ ∧ POr P W.heap.size W2.heap.size b ∧ ∀ i, i < rl → (∃ v, W2.cell? ⟨b, o + i, none⟩ = some v ∧ isU v) ∧ W2.frozen? ⟨b, o + i, none⟩ = false := by
          rcases HX2.out.by' with e | h
          · simp only at e; omega
          · exact h
        obtain ⟨i, hi, hiv⟩ : ∃ i : Nat, q % (rl : Int) = (i : Int) ∧ i < rl := ⟨(q % (rl : Int)).toNat, by have := Int.emod_nonneg q (show (rl : Int) ≠ 0 by omega); omega, by have := Int.emod_lt_of_pos q hl'; have := Int.emod_nonneg q (show (rl : Int) ≠ 0 by omega); omega⟩
        obtain ⟨⟨_, a0, c, rfl⟩, gf⟩ := hsh i hiv
        have i0 : (0 : Int) ≤ (i : Int) := by omega
        have i1 : (i : Int) < (rl : Int) := by omega
        clear hsh
        go_upto_region 8 with fail
        go_region
        obtain ⟨c', hc'⟩ := bits_u8 .xor (c.toNat : Int) (1 + q % 255)
        rw [hc']
        obtain ⟨V, hV⟩ : ∃ V, V = (W2.setCell ⟨b, o + i, none⟩ (.int .u8 (c'.toNat : Int))).drew := ⟨_, rfl⟩
        rw [← hV]
        have hkB : ∀ p, p ≠ b → V.heap[p]? = W2.heap[p]? := fun p hp => by rw [hV]; exact Below.heap_setCell W2 ⟨b, o + i, none⟩ _ _ hp
        have hzV : V.heap.size = W2.heap.size := by rw [hV]; simp [World.setCell, World.drew]
        have hal : Alike (M + 1) (.int .u8 (c.toNat : Int)) (.int .u8 (c'.toNat : Int)) := Or.inr (Or.inl ⟨⟨c, rfl⟩, ⟨c', rfl⟩⟩)
        have HQV := Lib.hid (show BoxO V E ⟨kind, n, some ⟨b, o, none⟩, rl, rc, ty, tm, va, vl, vc, ea, el, ec⟩ from HQ2.out.keep (hkB E (fun e => (HPE.out b hPb).1 e.symm)))
        have HTV := Lib.hid (show BoxO V R zeroO from HT2.out.keep (hkB R (fun e => (HPE.out b hPb).2.1 e.symm)))
        have HWV := Lib.hid (show Wrote P (M + 1) w V by rw [hV]; exact ((Wrote.of_below HB2.out).por hPb hzz a0 hal).drew)
        have HXV := Lib.hid (show XAt (POr P W.heap.size V.heap.size) (M + 1) V ⟨kind, n, some ⟨b, o, none⟩, rl, rc, ty, tm, va, vl, vc, ea, el, ec⟩ by
          rw [hzV]
          exact HX2.out.wr (by rw [hV]; exact (WrOk.set a0 hal).trans (WrOk.below ((Below.refl _ _).drew))) (Nat.le_succ M))
        clear hV hkB hzV hal a0 gf hi i0 i1 hl' hc'
        clear b0 b1 b2 b3' b4 b5 b6
        have HEND := Lib.hid (other_end (x' := ⟨kind, n, some ⟨b, o, none⟩, rl, rc, ty, tm, va, vl, vc, ea, el, ec⟩) hzz (show w.heap.size ≤ R by omega) hRW HPP.out HWV.out HXV.out)
        simp only [OpX.v, set7] at HEND
        have c0' := HQV.out.c0
        have c1' := HQV.out.c1
        have c2' := HQV.out.c2
        have c3' := HQV.out.c3
        have c4' := HQV.out.c4
        have c5' := HQV.out.c5
        have c6' := HQV.out.c6
        have t0 := HTV.out.c0
        have e0 := HTV.out.f 0 (by omega)
        have t1 := HTV.out.c1
        have e1 := HTV.out.f 1 (by omega)
        have t2 := HTV.out.c2
        have e2 := HTV.out.f 2 (by omega)
        have t3 := HTV.out.c3
        have e3 := HTV.out.f 3 (by omega)
        have t4 := HTV.out.c4
        have e4 := HTV.out.f 4 (by omega)
        have t5 := HTV.out.c5
        have e5 := HTV.out.f 5 (by omega)
        have t6 := HTV.out.c6
        have e6 := HTV.out.f 6 (by omega)
        simp only at c0' c1' c2' c3' c4' c5' c6'
        go_wp2_with fail
        refine bodyPost_ret (v := .agg #[.int .i64 kind, .int .i64 n, .slice (some ⟨b, o, none⟩) rl rc, .string ty, .int .i64 tm, .slice va vl vc, .slice ea el ec]) (by simp [results, Tryd.results38, go_sem, t0, t1, t2, t3, t4, t5, t6]) rfl ?_
        exact HEND.out
      · go_upto_region 17 with fail
        clear b0 b1 b2 b3' b4 b5 b6
        have HEND := Lib.hid (other_end (x' := ⟨kind, n, ra, 0, rc, ty, tm, va, vl, vc, ea, el, ec⟩) hzz (show w.heap.size ≤ R by omega) hRW HPP.out (Wrote.of_below HB2.out) (HX2.out.wr (WrOk.refl (M + 1) W2) (Nat.le_succ M)))
        simp only [OpX.v, set7] at HEND
        have c0' := HQ2.out.c0
        have c1' := HQ2.out.c1
        have c2' := HQ2.out.c2
        have c3' := HQ2.out.c3
        have c4' := HQ2.out.c4
        have c5' := HQ2.out.c5
        have c6' := HQ2.out.c6
        have t0 := HT2.out.c0
        have e0 := HT2.out.f 0 (by omega)
        have t1 := HT2.out.c1
        have e1 := HT2.out.f 1 (by omega)
        have t2 := HT2.out.c2
        have e2 := HT2.out.f 2 (by omega)
        have t3 := HT2.out.c3
        have e3 := HT2.out.f 3 (by omega)
        have t4 := HT2.out.c4
        have e4 := HT2.out.f 4 (by omega)
        have t5 := HT2.out.c5
        have e5 := HT2.out.f 5 (by omega)
        have t6 := HT2.out.c6
        have e6 := HT2.out.f 6 (by omega)
        simp only at c0' c1' c2' c3' c4' c5' c6'
        go_wp2_with fail
        refine bodyPost_ret (v := .agg #[.int .i64 kind, .int .i64 n, .slice ra 0 rc, .string ty, .int .i64 tm, .slice va vl vc, .slice ea el ec]) (by simp [results, Tryd.results38, go_sem, t0, t1, t2, t3, t4, t5, t6]) rfl ?_
        exact HEND.out
      · go_upto_region 10 with fail
        have HEV := Lib.hid (evOther_any (POr P W.heap.size W2.heap.size) M q ty tm va vl vc W2 (fun b hb => (HPE.out b hb).2.2) q0 (by omega) HX2.out.fit.ty HX2.out.fit.tm HX2.out.va HX2.out.fit.vl hM)
        have hE2 : E < W2.heap.size := HQ2.out.lt
        have hR2 : R < W2.heap.size := HT2.out.lt
        go_upto_region 17 with ((with_reducible refine HEV.out.mono ?_); rintro en w3 ⟨⟨ty', tm', rfl, hty', htm'⟩, hw3⟩; have hq3 := HQ2.out.keep (hw3.far E hE2 (fun hp => (HPE.out E hp).1 rfl)); have d3 := hq3.c3; have d4 := hq3.c4; have d5 := hq3.c5; have j3 := hq3.f 3 (by omega); have j4 := hq3.f 4 (by omega); have j5 := hq3.f 5 (by omega); have HQ3 := Lib.hid hq3; have HW3 := Lib.hid hw3; have HTY := Lib.hid hty'; have HTI := Lib.hid htm'; clear hq3 hw3 hty' htm')
        obtain ⟨V, hV⟩ : ∃ V, V = ((w3.setCell ⟨E, 3, none⟩ (.string ty')).setCell ⟨E, 4, none⟩ (.int .i64 tm')).setCell ⟨E, 5, none⟩ (.slice va vl vc) := ⟨_, rfl⟩
        rw [← hV]
        have hkE : ∀ b, b ≠ E → V.heap[b]? = w3.heap[b]? := fun b hb => by rw [hV]; simp only [Below.heap_setCell _ _ _ _ (show b ≠ (⟨E, _, none⟩ : Addr).block from hb)]
        have hzV : V.heap.size = w3.heap.size := by rw [hV]; simp [World.setCell]
        have hz3 := HW3.out.ok.1
        have HQV := Lib.hid (show BoxO V E ⟨kind, n, ra, rl, rc, ty', tm', va, vl, vc, ea, el, ec⟩ by rw [hV]; exact HQ3.out.set345 ty' tm' va vl vc)
        have HTV := Lib.hid (show BoxO V R zeroO from (HT2.out.keep (HW3.out.far R hR2 (fun hp => (HPE.out R hp).2.1 rfl))).keep (hkE R (by omega)))
        have HWV := Lib.hid (show Wrote P (M + 1) w V by rw [hV]; exact (((HW3.out.lift HB2.out hzz).new hwE _ _).new hwE _ _).new hwE _ _)
        have HXV := Lib.hid (show XAt (POr P W.heap.size V.heap.size) (M + 1) V ⟨kind, n, ra, rl, rc, ty', tm', va, vl, vc, ea, el, ec⟩ by
          have h1 := (HX2.out.wr HW3.out.ok (Nat.le_succ M)).keep (Q := POr P W.heap.size V.heap.size) (fun b hb => hkE b (HPE.out b hb).1) (fun b hb => hb.elim Or.inl (fun h => Or.inr ⟨h.1, by have := h.2; omega⟩))
          exact ⟨⟨HX2.out.fit.n, HX2.out.fit.r, HTY.out, HTI.out, HX2.out.fit.vl, HX2.out.fit.el, HX2.out.fit.rn, HX2.out.fit.vn⟩, h1.by', h1.va, h1.ev⟩)
        clear hV hkE hzV d3 d4 d5 j3 j4 j5
        clear b0 b1 b2 b3' b4 b5 b6
        have HEND := Lib.hid (other_end (x' := ⟨kind, n, ra, rl, rc, ty', tm', va, vl, vc, ea, el, ec⟩) hzz (show w.heap.size ≤ R by omega) hRW HPP.out HWV.out HXV.out)
        simp only [OpX.v, set7] at HEND
        have c0' := HQV.out.c0
        have c1' := HQV.out.c1
        have c2' := HQV.out.c2
        have c3' := HQV.out.c3
        have c4' := HQV.out.c4
        have c5' := HQV.out.c5
        have c6' := HQV.out.c6
        have t0 := HTV.out.c0
        have e0 := HTV.out.f 0 (by omega)
        have t1 := HTV.out.c1
        have e1 := HTV.out.f 1 (by omega)
        have t2 := HTV.out.c2
        have e2 := HTV.out.f 2 (by omega)
        have t3 := HTV.out.c3
        have e3 := HTV.out.f 3 (by omega)
        have t4 := HTV.out.c4
        have e4 := HTV.out.f 4 (by omega)
        have t5 := HTV.out.c5
        have e5 := HTV.out.f 5 (by omega)
        have t6 := HTV.out.c6
        have e6 := HTV.out.f 6 (by omega)
        simp only at c0' c1' c2' c3' c4' c5' c6'
        go_wp2_with fail
        refine bodyPost_ret (v := .agg #[.int .i64 kind, .int .i64 n, .slice ra rl rc, .string ty', .int .i64 tm', .slice va vl vc, .slice ea el ec]) (by simp [results, Tryd.results38, go_sem, t0, t1, t2, t3, t4, t5, t6]) rfl ?_
        exact HEND.out
      · exact absurd HH.out (HNO.out K HKK.out)
      · go_upto_region 17 with fail
        clear b0 b1 b2 b3' b4 b5 b6
        have HEND := Lib.hid (other_end (x' := ⟨kind, n, ra, rl, rc, ty, tm, va, vl, vc, ea, 0, ec⟩) hzz (show w.heap.size ≤ R by omega) hRW HPP.out (Wrote.of_below HB2.out) (HX2.out.wr (WrOk.refl (M + 1) W2) (Nat.le_succ M)))
        simp only [OpX.v, set7] at HEND
        have c0' := HQ2.out.c0
        have c1' := HQ2.out.c1
        have c2' := HQ2.out.c2
        have c3' := HQ2.out.c3
        have c4' := HQ2.out.c4
        have c5' := HQ2.out.c5
        have c6' := HQ2.out.c6
        have t0 := HT2.out.c0
        have e0 := HT2.out.f 0 (by omega)
        have t1 := HT2.out.c1
        have e1 := HT2.out.f 1 (by omega)
        have t2 := HT2.out.c2
        have e2 := HT2.out.f 2 (by omega)
        have t3 := HT2.out.c3
        have e3 := HT2.out.f 3 (by omega)
        have t4 := HT2.out.c4
        have e4 := HT2.out.f 4 (by omega)
        have t5 := HT2.out.c5
        have e5 := HT2.out.f 5 (by omega)
        have t6 := HT2.out.c6
        have e6 := HT2.out.f 6 (by omega)
        simp only at c0' c1' c2' c3' c4' c5' c6'
        go_wp2_with fail
        refine bodyPost_ret (v := .agg #[.int .i64 kind, .int .i64 n, .slice ra rl rc, .string ty, .int .i64 tm, .slice va vl vc, .slice ea 0 ec]) (by simp [results, Tryd.results38, go_sem, t0, t1, t2, t3, t4, t5, t6]) rfl ?_
        exact HEND.out
      · go_upto_region 17 with fail
        obtain ⟨V, hV⟩ : ∃ V, V = W2.setCell ⟨E, 1, none⟩ (.int .i64 (bits BinOp.xor IntKind.i64 n (1 + q % 300))) := ⟨_, rfl⟩
        have hkE : ∀ b, b ≠ E → V.heap[b]? = W2.heap[b]? := fun b hb => by rw [hV]; simp only [Below.heap_setCell _ _ _ _ (show b ≠ (⟨E, _, none⟩ : Addr).block from hb)]
        have hzV : V.heap.size = W2.heap.size := by rw [hV]; simp [World.setCell]
        have HQV := Lib.hid (show BoxO V E ⟨kind, bits BinOp.xor IntKind.i64 n (1 + q % 300), ra, rl, rc, ty, tm, va, vl, vc, ea, el, ec⟩ by rw [hV]; exact HQ2.out.set1 _)
        have HTV := Lib.hid (show BoxO V R zeroO from HT2.out.keep (hkE R (by omega)))
        have hXV : XAt (POr P W.heap.size V.heap.size) (M + 1) V ⟨kind, n, ra, rl, rc, ty, tm, va, vl, vc, ea, el, ec⟩ := by
          have h1 := HX2.out.keep (fun b hb => hkE b (HPE.out b hb).1) (fun b hb => hb)
          rw [hzV]
          exact h1.wr (WrOk.refl (M + 1) V) (Nat.le_succ M)
        have HXV := Lib.hid (show XAt (POr P W.heap.size V.heap.size) (M + 1) V ⟨kind, bits BinOp.xor IntKind.i64 n (1 + q % 300), ra, rl, rc, ty, tm, va, vl, vc, ea, el, ec⟩ from ⟨⟨(show i64r (bits BinOp.xor IntKind.i64 n (1 + q % 300)) from bits_i64 _ _ _), HX2.out.fit.r, (Nat.le_trans HX2.out.fit.ty (Nat.le_succ M)), HX2.out.fit.tm, HX2.out.fit.vl, HX2.out.fit.el, HX2.out.fit.rn, HX2.out.fit.vn⟩, hXV.by', hXV.va, hXV.ev⟩)
        have HWV := Lib.hid (show Wrote P (M + 1) w V by rw [hV]; exact (Wrote.of_below HB2.out).new hwE _ _)
        rw [← hV]
        clear hV hkE
        clear hXV b0 b1 b2 b3' b4 b5 b6
        have HEND := Lib.hid (other_end (x' := ⟨kind, (bits BinOp.xor IntKind.i64 n (1 + q % 300)), ra, rl, rc, ty, tm, va, vl, vc, ea, el, ec⟩) hzz (show w.heap.size ≤ R by omega) hRW HPP.out HWV.out HXV.out)
        simp only [OpX.v, set7] at HEND
        have c0' := HQV.out.c0
        have c1' := HQV.out.c1
        have c2' := HQV.out.c2
        have c3' := HQV.out.c3
        have c4' := HQV.out.c4
        have c5' := HQV.out.c5
        have c6' := HQV.out.c6
        have t0 := HTV.out.c0
        have e0 := HTV.out.f 0 (by omega)
        have t1 := HTV.out.c1
        have e1 := HTV.out.f 1 (by omega)
        have t2 := HTV.out.c2
        have e2 := HTV.out.f 2 (by omega)
        have t3 := HTV.out.c3
        have e3 := HTV.out.f 3 (by omega)
        have t4 := HTV.out.c4
        have e4 := HTV.out.f 4 (by omega)
        have t5 := HTV.out.c5
        have e5 := HTV.out.f 5 (by omega)
        have t6 := HTV.out.c6
        have e6 := HTV.out.f 6 (by omega)
        simp only at c0' c1' c2' c3' c4' c5' c6'
        go_wp2_with fail
        refine bodyPost_ret (v := .agg #[.int .i64 kind, .int .i64 (bits BinOp.xor IntKind.i64 n (1 + q % 300)), .slice ra rl rc, .string ty, .int .i64 tm, .slice va vl vc, .slice ea el ec]) (by simp [results, Tryd.results38, go_sem, t0, t1, t2, t3, t4, t5, t6]) rfl ?_
        exact HEND.out
      · cases hkk : (kind.tmod 2 == 0)
        · go_upto_region 17 with fail
          clear b0 b1 b2 b3' b4 b5 b6
          have HEND := Lib.hid (other_end (x' := ⟨kind, n, ra, rl, rc, ty, tm, va, vl, vc, ea, el, ec⟩) hzz (show w.heap.size ≤ R by omega) hRW HPP.out (Wrote.of_below HB2.out) (HX2.out.wr (WrOk.refl (M + 1) W2) (Nat.le_succ M)))
          simp only [OpX.v, set7] at HEND
          have c0' := HQ2.out.c0
          have c1' := HQ2.out.c1
          have c2' := HQ2.out.c2
          have c3' := HQ2.out.c3
          have c4' := HQ2.out.c4
          have c5' := HQ2.out.c5
          have c6' := HQ2.out.c6
          have t0 := HT2.out.c0
          have e0 := HT2.out.f 0 (by omega)
          have t1 := HT2.out.c1
          have e1 := HT2.out.f 1 (by omega)
          have t2 := HT2.out.c2
          have e2 := HT2.out.f 2 (by omega)
          have t3 := HT2.out.c3
          have e3 := HT2.out.f 3 (by omega)
          have t4 := HT2.out.c4
          have e4 := HT2.out.f 4 (by omega)
          have t5 := HT2.out.c5
          have e5 := HT2.out.f 5 (by omega)
          have t6 := HT2.out.c6
          have e6 := HT2.out.f 6 (by omega)
          simp only at c0' c1' c2' c3' c4' c5' c6'
          go_wp2_with fail
          refine bodyPost_ret (v := .agg #[.int .i64 kind, .int .i64 n, .slice ra rl rc, .string ty, .int .i64 tm, .slice va vl vc, .slice ea el ec]) (by simp [results, Tryd.results38, go_sem, t0, t1, t2, t3, t4, t5, t6]) rfl ?_
          exact HEND.out
        · have I0 : ∀ w : World, (Instr.index 57 (.agg #[.int .i64 2, .int .i64 4, .int .i64 6]) (.int .i64 0)).run Tryd.prog w = .ok (.int .i64 2) w := three_index 0 (by omega)
          have I1 : ∀ w : World, (Instr.index 57 (.agg #[.int .i64 2, .int .i64 4, .int .i64 6]) (.int .i64 1)).run Tryd.prog w = .ok (.int .i64 4) w := three_index 1 (by omega)
          have I2 : ∀ w : World, (Instr.index 57 (.agg #[.int .i64 2, .int .i64 4, .int .i64 6]) (.int .i64 2)).run Tryd.prog w = .ok (.int .i64 6) w := three_index 2 (by omega)
          obtain ⟨r, hr, hr3⟩ : ∃ r, q % 3 = r ∧ (r = 0 ∨ r = 1 ∨ r = 2) := ⟨_, rfl, by omega⟩
          rcases hr3 with rfl | rfl | rfl
          · go_upto_region 17 with fail
            obtain ⟨V, hV⟩ : ∃ V, V = W2.setCell ⟨E, 0, none⟩ (.int .i64 2) := ⟨_, rfl⟩
            have hkE : ∀ b, b ≠ E → V.heap[b]? = W2.heap[b]? := fun b hb => by rw [hV]; simp only [Below.heap_setCell _ _ _ _ (show b ≠ (⟨E, _, none⟩ : Addr).block from hb)]
            have hzV : V.heap.size = W2.heap.size := by rw [hV]; simp [World.setCell]
            have HQV := Lib.hid (show BoxO V E ⟨2, n, ra, rl, rc, ty, tm, va, vl, vc, ea, el, ec⟩ by rw [hV]; exact HQ2.out.set0 _)
            have HTV := Lib.hid (show BoxO V R zeroO from HT2.out.keep (hkE R (by omega)))
            have hXV : XAt (POr P W.heap.size V.heap.size) (M + 1) V ⟨kind, n, ra, rl, rc, ty, tm, va, vl, vc, ea, el, ec⟩ := by
              have h1 := HX2.out.keep (fun b hb => hkE b (HPE.out b hb).1) (fun b hb => hb)
              rw [hzV]
              exact h1.wr (WrOk.refl (M + 1) V) (Nat.le_succ M)
            have HXV := Lib.hid (show XAt (POr P W.heap.size V.heap.size) (M + 1) V ⟨2, n, ra, rl, rc, ty, tm, va, vl, vc, ea, el, ec⟩ from ⟨⟨HX2.out.fit.n, HX2.out.fit.r, (Nat.le_trans HX2.out.fit.ty (Nat.le_succ M)), HX2.out.fit.tm, HX2.out.fit.vl, HX2.out.fit.el, HX2.out.fit.rn, HX2.out.fit.vn⟩, hXV.by', hXV.va, hXV.ev⟩)
            have HWV := Lib.hid (show Wrote P (M + 1) w V by rw [hV]; exact (Wrote.of_below HB2.out).new hwE _ _)
            rw [← hV]
            clear hV hkE
            clear hXV b0 b1 b2 b3' b4 b5 b6
            have HEND := Lib.hid (other_end (x' := ⟨2, n, ra, rl, rc, ty, tm, va, vl, vc, ea, el, ec⟩) hzz (show w.heap.size ≤ R by omega) hRW HPP.out HWV.out HXV.out)
            simp only [OpX.v, set7] at HEND
            have c0' := HQV.out.c0
            have c1' := HQV.out.c1
            have c2' := HQV.out.c2
            have c3' := HQV.out.c3
            have c4' := HQV.out.c4
            have c5' := HQV.out.c5
            have c6' := HQV.out.c6
            have t0 := HTV.out.c0
            have e0 := HTV.out.f 0 (by omega)
            have t1 := HTV.out.c1
            have e1 := HTV.out.f 1 (by omega)
            have t2 := HTV.out.c2
            have e2 := HTV.out.f 2 (by omega)
            have t3 := HTV.out.c3
            have e3 := HTV.out.f 3 (by omega)
            have t4 := HTV.out.c4
            have e4 := HTV.out.f 4 (by omega)
            have t5 := HTV.out.c5
            have e5 := HTV.out.f 5 (by omega)
            have t6 := HTV.out.c6
            have e6 := HTV.out.f 6 (by omega)
            simp only at c0' c1' c2' c3' c4' c5' c6'
            go_wp2_with fail
            refine bodyPost_ret (v := .agg #[.int .i64 2, .int .i64 n, .slice ra rl rc, .string ty, .int .i64 tm, .slice va vl vc, .slice ea el ec]) (by simp [results, Tryd.results38, go_sem, t0, t1, t2, t3, t4, t5, t6]) rfl ?_
            exact HEND.out
          · go_upto_region 17 with fail
            obtain ⟨V, hV⟩ : ∃ V, V = W2.setCell ⟨E, 0, none⟩ (.int .i64 4) := ⟨_, rfl⟩
            have hkE : ∀ b, b ≠ E → V.heap[b]? = W2.heap[b]? := fun b hb => by rw [hV]; simp only [Below.heap_setCell _ _ _ _ (show b ≠ (⟨E, _, none⟩ : Addr).block from hb)]
            have hzV : V.heap.size = W2.heap.size := by rw [hV]; simp [World.setCell]
            have HQV := Lib.hid (show BoxO V E ⟨4, n, ra, rl, rc, ty, tm, va, vl, vc, ea, el, ec⟩ by rw [hV]; exact HQ2.out.set0 _)
            have HTV := Lib.hid (show BoxO V R zeroO from HT2.out.keep (hkE R (by omega)))
            have hXV : XAt (POr P W.heap.size V.heap.size) (M + 1) V ⟨kind, n, ra, rl, rc, ty, tm, va, vl, vc, ea, el, ec⟩ := by
              have h1 := HX2.out.keep (fun b hb => hkE b (HPE.out b hb).1) (fun b hb => hb)
              rw [hzV]
              exact h1.wr (WrOk.refl (M + 1) V) (Nat.le_succ M)
            have HXV := Lib.hid (show XAt (POr P W.heap.size V.heap.size) (M + 1) V ⟨4, n, ra, rl, rc, ty, tm, va, vl, vc, ea, el, ec⟩ from ⟨⟨HX2.out.fit.n, HX2.out.fit.r, (Nat.le_trans HX2.out.fit.ty (Nat.le_succ M)), HX2.out.fit.tm, HX2.out.fit.vl, HX2.out.fit.el, HX2.out.fit.rn, HX2.out.fit.vn⟩, hXV.by', hXV.va, hXV.ev⟩)
            have HWV := Lib.hid (show Wrote P (M + 1) w V by rw [hV]; exact (Wrote.of_below HB2.out).new hwE _ _)
            rw [← hV]
            clear hV hkE
            clear hXV b0 b1 b2 b3' b4 b5 b6
            have HEND := Lib.hid (other_end (x' := ⟨4, n, ra, rl, rc, ty, tm, va, vl, vc, ea, el, ec⟩) hzz (show w.heap.size ≤ R by omega) hRW HPP.out HWV.out HXV.out)
            simp only [OpX.v, set7] at HEND
            have c0' := HQV.out.c0
            have c1' := HQV.out.c1
            have c2' := HQV.out.c2
            have c3' := HQV.out.c3
            have c4' := HQV.out.c4
            have c5' := HQV.out.c5
            have c6' := HQV.out.c6
            have t0 := HTV.out.c0
            have e0 := HTV.out.f 0 (by omega)
            have t1 := HTV.out.c1
            have e1 := HTV.out.f 1 (by omega)
            have t2 := HTV.out.c2
            have e2 := HTV.out.f 2 (by omega)
            have t3 := HTV.out.c3
            have e3 := HTV.out.f 3 (by omega)
            have t4 := HTV.out.c4
            have e4 := HTV.out.f 4 (by omega)
            have t5 := HTV.out.c5
            have e5 := HTV.out.f 5 (by omega)
            have t6 := HTV.out.c6
            have e6 := HTV.out.f 6 (by omega)
            simp only at c0' c1' c2' c3' c4' c5' c6'
            go_wp2_with fail
            refine bodyPost_ret (v := .agg #[.int .i64 4, .int .i64 n, .slice ra rl rc, .string ty, .int .i64 tm, .slice va vl vc, .slice ea el ec]) (by simp [results, Tryd.results38, go_sem, t0, t1, t2, t3, t4, t5, t6]) rfl ?_
            exact HEND.out
          · go_upto_region 17 with fail
            obtain ⟨V, hV⟩ : ∃ V, V = W2.setCell ⟨E, 0, none⟩ (.int .i64 6) := ⟨_, rfl⟩
            have hkE : ∀ b, b ≠ E → V.heap[b]? = W2.heap[b]? := fun b hb => by rw [hV]; simp only [Below.heap_setCell _ _ _ _ (show b ≠ (⟨E, _, none⟩ : Addr).block from hb)]
            have hzV : V.heap.size = W2.heap.size := by rw [hV]; simp [World.setCell]
            have HQV := Lib.hid (show BoxO V E ⟨6, n, ra, rl, rc, ty, tm, va, vl, vc, ea, el, ec⟩ by rw [hV]; exact HQ2.out.set0 _)
            have HTV := Lib.hid (show BoxO V R zeroO from HT2.out.keep (hkE R (by omega)))
            have hXV : XAt (POr P W.heap.size V.heap.size) (M + 1) V ⟨kind, n, ra, rl, rc, ty, tm, va, vl, vc, ea, el, ec⟩ := by
              have h1 := HX2.out.keep (fun b hb => hkE b (HPE.out b hb).1) (fun b hb => hb)
              rw [hzV]
              exact h1.wr (WrOk.refl (M + 1) V) (Nat.le_succ M)
            have HXV := Lib.hid (show XAt (POr P W.heap.size V.heap.size) (M + 1) V ⟨6, n, ra, rl, rc, ty, tm, va, vl, vc, ea, el, ec⟩ from ⟨⟨HX2.out.fit.n, HX2.out.fit.r, (Nat.le_trans HX2.out.fit.ty (Nat.le_succ M)), HX2.out.fit.tm, HX2.out.fit.vl, HX2.out.fit.el, HX2.out.fit.rn, HX2.out.fit.vn⟩, hXV.by', hXV.va, hXV.ev⟩)
            have HWV := Lib.hid (show Wrote P (M + 1) w V by rw [hV]; exact (Wrote.of_below HB2.out).new hwE _ _)
            rw [← hV]
            clear hV hkE
            clear hXV b0 b1 b2 b3' b4 b5 b6
            have HEND := Lib.hid (other_end (x' := ⟨6, n, ra, rl, rc, ty, tm, va, vl, vc, ea, el, ec⟩) hzz (show w.heap.size ≤ R by omega) hRW HPP.out HWV.out HXV.out)
            simp only [OpX.v, set7] at HEND
            have c0' := HQV.out.c0
            have c1' := HQV.out.c1
            have c2' := HQV.out.c2
            have c3' := HQV.out.c3
            have c4' := HQV.out.c4
            have c5' := HQV.out.c5
            have c6' := HQV.out.c6
            have t0 := HTV.out.c0
            have e0 := HTV.out.f 0 (by omega)
            have t1 := HTV.out.c1
            have e1 := HTV.out.f 1 (by omega)
            have t2 := HTV.out.c2
            have e2 := HTV.out.f 2 (by omega)
            have t3 := HTV.out.c3
            have e3 := HTV.out.f 3 (by omega)
            have t4 := HTV.out.c4
            have e4 := HTV.out.f 4 (by omega)
            have t5 := HTV.out.c5
            have e5 := HTV.out.f 5 (by omega)
            have t6 := HTV.out.c6
            have e6 := HTV.out.f 6 (by omega)
            simp only at c0' c1' c2' c3' c4' c5' c6'
            go_wp2_with fail
            refine bodyPost_ret (v := .agg #[.int .i64 6, .int .i64 n, .slice ra rl rc, .string ty, .int .i64 tm, .slice va vl vc, .slice ea el ec]) (by simp [results, Tryd.results38, go_sem, t0, t1, t2, t3, t4, t5, t6]) rfl ?_
            exact HEND.out
end Go.Proofs.YtekaimfabadclaaDoor
/- The answers that a script keeps. -/
namespace Go.Proofs.YtekaimfabadclaaDoor
open Go Go.RowKit

/-- An answer that is kept, as it lies. -/
structure KX where
  T : TC
  ba : Option Addr
  bc : Nat
  ea : Option Addr
  ec : Nat
  acc : List EvX
def KX.cells (y : KX) : List Value := [.slice y.ba y.T.b.length y.bc, .int .i64 y.T.n, .int .i64 y.T.k, .slice y.ea y.acc.length y.ec, .int .i64 y.T.f]
def kCells (l : List KX) : List Value := l.flatMap fun x => x.cells
theorem kCells_snoc (l : List KX) (a : KX) : kCells (l ++ [a]) = kCells l ++ a.cells := by simp [kCells]
theorem kCells_get (l : List KX) (i : Nat) (h : i < l.length) : ∀ j, j < 5 → (kCells l)[i * 5 + j]? = l[i].cells[j]? := by
  induction l generalizing i with
  | nil => simp at h
  | cons a r ih =>
    intro j hj
    cases i with
    | zero =>
      have : j = 0 ∨ j = 1 ∨ j = 2 ∨ j = 3 ∨ j = 4 := by omega
      rcases this with rfl | rfl | rfl | rfl | rfl <;> simp [kCells, KX.cells]
    | succ i =>
      have := ih i (by simpa using h) j hj
      have e1 : (i + 1) * 5 + j = (i * 5 + j) + 5 := by omega
      rw [e1]
      simp only [kCells, List.flatMap_cons, List.getElem_cons_succ] at this ⊢
      rw [← this, List.getElem?_append_right (by simp [KX.cells])]
      simp [KX.cells]
theorem Tryd.infoTold : (Tryd.prog.info? 75).map (fun i => (i.zero, i.size, i.bytes)) = some (some (.agg #[.slice none 0 0, .int .i64 0, .int .i64 0, .slice none 0 0, .int .i64 0]), 5, 72) := by kernel_rfl
theorem kRow_get {w : World} {B : Nat} {v : Value} {l : List KX} (h : w.ownsRow B 75 5 v l.length (kCells l)) (i : Nat) (hi : i < l.length) :
    ∃ g c, v = .slice (some ⟨g, 0, none⟩) l.length c ∧ g < w.heap.size ∧ B ≤ g ∧ ∀ j, j < 5 → w.cell? ⟨g, i * 5 + j, none⟩ = l[i].cells[j]? := by
  rcases h.2 with ⟨e, h0⟩ | ⟨g, cap', cur, e, hb, hh, hn, hc, hs, ht⟩
  · omega
  · refine ⟨g, cap', e, (Array.getElem?_eq_some_iff.1 hh).1, hb, fun j hj => ?_⟩
    have hg := kCells_get l i hi j hj
    rw [← ht, List.getElem?_take, if_pos (by omega)] at hg
    rw [cell_of_row w g _ _ _ (0, 0) hh]
    simpa using hg
theorem owns_block {w w' : World} {base : Nat} {e : TypeId} {size : Nat} {v : Value} {n : Nat} {xs : List Value} (h : w.ownsRow base e size v n xs) (hb : ∀ q, q < w.heap.size → v.ownBlock = some q → w'.heap[q]? = w.heap[q]?) : w'.ownsRow base e size v n xs := by
  obtain ⟨h1, h2⟩ := h
  refine ⟨h1, ?_⟩
  rcases h2 with h2 | ⟨g, cap, cur, hv, hg, hh, r⟩
  · exact Or.inl h2
  · exact Or.inr ⟨g, cap, cur, hv, hg, (hb g (Array.getElem?_eq_some_iff.1 hh).1 (by rw [hv]; rfl)).trans hh, r⟩
/-- Blocks that neither the step nor the rows hold. -/
def Aft (B : Nat) (P : Nat → Prop) (va vb : Value) (w : World) : Nat → Prop := fun b => B ≤ b ∧ b < w.heap.size ∧ ¬ P b ∧ some b ≠ va.ownBlock ∧ some b ≠ vb.ownBlock
structure Held (B : Nat) (P : Nat → Prop) (va vb : Value) (w : World) (ka kb : List KX) : Prop where
  ra : w.ownsRow B 75 5 va ka.length (kCells ka)
  rb : w.ownsRow B 75 5 vb kb.length (kCells kb)
  ne : va.ownBlock = none ∨ va.ownBlock ≠ vb.ownBlock
  ta : ∀ y ∈ ka, TolAt (Aft B P va vb w) w y.T y.ba y.ea y.acc
  tb : ∀ y ∈ kb, TolAt (Aft B P va vb w) w y.T y.ba y.ea y.acc
  pa : ∀ b, P b → B ≤ b ∧ b < w.heap.size ∧ some b ≠ va.ownBlock ∧ some b ≠ vb.ownBlock
  sz : B ≤ w.heap.size
/-- What lies elsewhere is another one. -/
theorem Held.to {B : Nat} {P P' : Nat → Prop} {va vb : Value} {w w' : World} {ka kb : List KX} (h : Held B P va vb w ka kb) (hz : w.heap.size ≤ w'.heap.size) (hk : ∀ b, B ≤ b → b < w.heap.size → ¬ P b → w'.heap[b]? = w.heap[b]?) (hp : ∀ b, P' b → P b ∨ (w.heap.size ≤ b ∧ b < w'.heap.size)) : Held B P' va vb w' ka kb := by
  have oa : ∀ q, va.ownBlock = some q → B ≤ q ∧ q < w.heap.size := fun q hq => h.ra.lt q hq
  have ob : ∀ q, vb.ownBlock = some q → B ≤ q ∧ q < w.heap.size := fun q hq => h.rb.lt q hq
  have hnp : ∀ q, va.ownBlock = some q ∨ vb.ownBlock = some q → ¬ P q := fun q hq hP => by
    have h1 := h.pa q hP
    rcases hq with hq | hq
    · exact h1.2.2.1 hq.symm
    · exact h1.2.2.2 hq.symm
  have ha : ∀ b, Aft B P va vb w b → w'.heap[b]? = w.heap[b]? := fun b hb => hk b hb.1 hb.2.1 hb.2.2.1
  have hm : ∀ b, Aft B P va vb w b → Aft B P' va vb w' b := fun b hb => ⟨hb.1, Nat.lt_of_lt_of_le hb.2.1 hz, fun hP => (hp b hP).elim hb.2.2.1 (fun h2 => by have := hb.2.1; omega), hb.2.2.2⟩
  refine ⟨owns_block h.ra (fun q hq he => hk q (oa q he).1 hq (hnp q (Or.inl he))), owns_block h.rb (fun q hq he => hk q (ob q he).1 hq (hnp q (Or.inr he))), h.ne, fun y hy => ((h.ta y hy).keep ha).mono hm, fun y hy => ((h.tb y hy).keep ha).mono hm, fun b hb => ?_, by have := h.sz; omega⟩
  rcases hp b hb with h1 | h1
  · have h2 := h.pa b h1
    exact ⟨h2.1, by omega, h2.2.2⟩
  · have hB := h.sz
    exact ⟨by omega, h1.2, fun e => by have := (oa b e.symm).2; omega, fun e => by have := (ob b e.symm).2; omega⟩
theorem Held.below {B : Nat} {P : Nat → Prop} {va vb : Value} {w w' : World} {ka kb : List KX} (h : Held B P va vb w ka kb) (hb : Below w.heap.size w w') : Held B P va vb w' ka kb :=
  h.to hb.size (fun b _ h1 _ => hb.block b h1) (fun _ hb => Or.inl hb)
/-- An answer that lies in new blocks is beside all that. -/
theorem Held.new {B : Nat} {P : Nat → Prop} {va vb : Value} {w w' w'' : World} {ka kb : List KX} {T : TC} {ba ea : Option Addr} {acc : List EvX} {hi : Nat} (h : Held B P va vb w ka kb) (ht : TolAt (Span w.heap.size hi) w' T ba ea acc) (hk : ∀ b, w.heap.size ≤ b → b < hi → w''.heap[b]? = w'.heap[b]?) (hz : hi ≤ w''.heap.size) : TolAt (Aft B P va vb w'') w'' T ba ea acc :=
  (ht.keep (fun b hb => hk b hb.1 hb.2)).mono (fun b hb => by
    have h1 := hb.1
    have h2 := hb.2
    refine ⟨by have := h.sz; omega, by omega, fun hP => by have := (h.pa b hP).2.1; omega, fun e => by have := (h.ra.lt b e.symm).2; omega, fun e => by have := (h.rb.lt b e.symm).2; omega⟩)
theorem Held.putA {B : Nat} {P : Nat → Prop} {va vb : Value} {w w' : World} {ka kb : List KX} {y : KX} {g n c : Nat} (h : Held B P va vb w ka kb) (hy : TolAt (Aft B P va vb w) w y.T y.ba y.ea y.acc) (hn : n = ka.length + 1) (ho : w'.ownsRow B 75 5 (.slice (some ⟨g, 0, none⟩) n c) n (kCells ka ++ y.cells)) (hg : w.grownBy w' va.ownBlock) (ha : va.ownBlock = some g ∨ g = w.heap.size) : Held B P (.slice (some ⟨g, 0, none⟩) n c) vb w' (ka ++ [y]) kb := by
  subst hn
  have hgo : (Value.slice (some ⟨g, 0, none⟩) (ka.length + 1) c).ownBlock = some g := rfl
  have hgl := (ho.lt g rfl)
  have hgb : some g ≠ vb.ownBlock := fun e => by
    rcases ha with e1 | e1
    · rcases h.ne with h2 | h2
      · rw [h2] at e1; cases e1
      · exact h2 (e1.trans e)
    · have := (h.rb.lt g e.symm).2; omega
  have hA : ∀ b, Aft B P va vb w b → w'.heap[b]? = w.heap[b]? := fun b hb => hg.block b hb.2.1 hb.2.2.2.1
  have hM : ∀ b, Aft B P va vb w b → Aft B P (.slice (some ⟨g, 0, none⟩) (ka.length + 1) c) vb w' b := fun b hb => ⟨hb.1, Nat.lt_of_lt_of_le hb.2.1 hg.size, hb.2.2.1, fun e => by
    rw [hgo] at e
    injection e with e
    rcases ha with e1 | e1
    · exact hb.2.2.2.1 (by rw [e1, e])
    · have := hb.2.1; omega, hb.2.2.2.2⟩
  refine ⟨by rw [kCells_snoc, List.length_append]; exact ho, owns_block h.rb (fun q hq he => hg.block q hq (fun e => ?_)), Or.inr (by rw [hgo]; exact hgb), fun z hz => ?_, fun z hz => ((h.tb z hz).keep hA).mono hM, fun b hb => ?_, Nat.le_trans h.sz hg.size⟩
  · rcases h.ne with h2 | h2
    · rw [h2] at e; cases e
    · exact h2 (e.symm.trans he.symm)
  · rcases List.mem_append.1 hz with hz | hz
    · exact ((h.ta z hz).keep hA).mono hM
    · rw [List.mem_singleton.1 hz]; exact (hy.keep hA).mono hM
  · have h1 := h.pa b hb
    refine ⟨h1.1, Nat.lt_of_lt_of_le h1.2.1 hg.size, fun e => ?_, h1.2.2.2⟩
    rw [hgo] at e
    injection e with e
    rcases ha with e1 | e1
    · exact h1.2.2.1 (by rw [e1, e])
    · have := h1.2.1; omega
theorem Aft.swap {B : Nat} {P : Nat → Prop} {va vb : Value} {w : World} {b : Nat} (h : Aft B P va vb w b) : Aft B P vb va w b := ⟨h.1, h.2.1, h.2.2.1, h.2.2.2.2, h.2.2.2.1⟩
theorem Held.swap {B : Nat} {P : Nat → Prop} {va vb : Value} {w : World} {ka kb : List KX} (h : Held B P va vb w ka kb) : Held B P vb va w kb ka :=
  ⟨h.rb, h.ra, by
    rcases h.ne with e | e
    · cases hv : vb.ownBlock with
      | none => exact Or.inl rfl
      | some q => exact Or.inr (by rw [e]; simp)
    · exact Or.inr (Ne.symm e), fun y hy => (h.tb y hy).mono (fun _ => Aft.swap), fun y hy => (h.ta y hy).mono (fun _ => Aft.swap), fun b hb => ⟨(h.pa b hb).1, (h.pa b hb).2.1, (h.pa b hb).2.2.2, (h.pa b hb).2.2.1⟩, h.sz⟩
theorem Held.putB {B : Nat} {P : Nat → Prop} {va vb : Value} {w w' : World} {ka kb : List KX} {y : KX} {g n c : Nat} (h : Held B P va vb w ka kb) (hy : TolAt (Aft B P va vb w) w y.T y.ba y.ea y.acc) (hn : n = kb.length + 1) (ho : w'.ownsRow B 75 5 (.slice (some ⟨g, 0, none⟩) n c) n (kCells kb ++ y.cells)) (hg : w.grownBy w' vb.ownBlock) (ha : vb.ownBlock = some g ∨ g = w.heap.size) : Held B P va (.slice (some ⟨g, 0, none⟩) n c) w' ka (kb ++ [y]) :=
  (h.swap.putA (hy.mono (fun _ => Aft.swap)) hn ho hg ha).swap
theorem Held.nil (B : Nat) (w : World) (h : B ≤ w.heap.size) : Held B (fun _ => False) (.slice none 0 0) (.slice none 0 0) w [] [] :=
  ⟨World.ownsRow_nil _ _ _ _, World.ownsRow_nil _ _ _ _, Or.inl rfl, fun y hy => absurd hy (by simp), fun y hy => absurd hy (by simp), fun _ hb => hb.elim, h⟩
end Go.Proofs.YtekaimfabadclaaDoor
/- The laws' other: the way that writes into the list of events (under way). -/
namespace Go.Proofs.YtekaimfabadclaaDoor
open Go Go.RowKit

theorem Wrote.mono {P Q : Nat → Prop} {M : Nat} {w w' : World} (h : Wrote P M w w') (hq : ∀ b, P b → Q b) : Wrote Q M w w' :=
  ⟨h.ok, fun b hb hn => h.far b hb (fun hp => hn (hq b hp)), fun B hB hp => h.below B hB (fun b hb => hp b (hq b hb))⟩

set_option maxHeartbeats 8000000 in
set_option maxRecDepth 100000 in
theorem other_two (P : Nat → Prop) (M : Nat) (x : OpX) (k : Int) (w : World) (hP : ∀ b, P b → b < w.heap.size) (k0 : -9223372036854775808 ≤ k) (k1 : k ≤ 9223372036854775807) (hx : XAt P M w x) (hM : M ≤ 281474976710656) (hno : ∀ K : Int, (0 ≤ K ∧ (K = k ∨ K = -(k + 1))) → 2 = K / 2 % 5) :
    Calls Tryd.prog 38 #[x.v, .int .i64 k] w fun en w' => OtherTo P (M + 1) w en w' := by
  have HNO := Lib.hid hno
  clear hno
  obtain ⟨W, hW⟩ : ∃ W, W = (w.alloc (Obj.cells x.cells 71)).alloc (Obj.cells zeroO.cells 71) := ⟨_, rfl⟩
  have hbW : Below w.heap.size w W := by rw [hW]; exact ((Below.refl _ _).alloc (Nat.le_refl _) _).alloc (by simp) _
  have HB := Lib.hid hbW
  obtain ⟨E, hE⟩ : ∃ E, E = w.heap.size := ⟨_, rfl⟩
  obtain ⟨R, hR⟩ : ∃ R, R = w.heap.size + 1 := ⟨_, rfl⟩
  have HQ := Lib.hid (show BoxO W E x from BoxO.of (by rw [hE, hW, Below.heap_alloc _ _ _ (by simp)]; exact heap_alloc_new _ _))
  have HT := Lib.hid (show BoxO W R zeroO from BoxO.of (t := 71) (by
    have := heap_alloc_new (w.alloc (Obj.cells x.cells 71)) (Obj.cells zeroO.cells 71)
    rw [World.size_alloc] at this
    rw [hW, hR]
    exact this))
  have hzW : w.heap.size + 1 + 1 = W.heap.size := by rw [hW]; simp
  have HX := Lib.hid (show XAt P M W x from hx.keep (fun b hb => hbW.block b (hP b hb)) (fun b hb => hb))
  obtain ⟨l, vals, es, hrd⟩ := HX.out.reads (by unfold maxLen; omega)
  have HAL := Lib.hid (alone_any M x l vals es W hx.fit hrd)
  simp only [OpX.cells, zeroO] at hW
  have HW := Lib.hid hW
  have HEE := Lib.hid hE
  have HRE := Lib.hid hR
  have HPP := Lib.hid hP
  have hER : E < R := by omega
  have hRW : R < W.heap.size := by omega
  have hwE : w.heap.size ≤ E := by omega
  have hzz : w.heap.size ≤ W.heap.size := by omega
  clear hx hbW hW hE hR hzW hP hrd
  have b0 := HQ.out.c0
  have b1 := HQ.out.c1
  have b2 := HQ.out.c2
  have b3' := HQ.out.c3
  have b4 := HQ.out.c4
  have b5 := HQ.out.c5
  have b6 := HQ.out.c6
  have g0 := HQ.out.f 0 (by omega)
  have g1 := HQ.out.f 1 (by omega)
  have g2 := HQ.out.f 2 (by omega)
  have g3 := HQ.out.f 3 (by omega)
  have g4 := HQ.out.f 4 (by omega)
  have g5 := HQ.out.f 5 (by omega)
  have g6 := HQ.out.f 6 (by omega)
  unfold OpX.v at HAL ⊢
  go_enter Tryd.func38, Tryd.ntmps38
  go_upto_region 1 with fail
  rw [← HW.out, ← HRE.out, ← HEE.out]
  go_upto_if 7 with fail
  go_cut [1] (fun s1 wx => (∃ K : Int, s1 = .int .i64 K ∧ 0 ≤ K ∧ K ≤ 9223372036854775807 ∧ (K = k ∨ K = -(k + 1))) ∧ wx = W)
  case first =>
    by_cases hneg : k < 0
    · go_wp2_with fail
      go_meet
      exact ⟨⟨_, rfl, by omega, by omega, Or.inr (by omega)⟩, rfl⟩
    · go_wp2_with fail
      go_meet
      exact ⟨⟨_, rfl, by omega, by omega, Or.inl rfl⟩, rfl⟩
  case rest =>
    obtain ⟨⟨K, rfl, K0, K1, hKK⟩, hw⟩ := hcut
    have HKK := Lib.hid (And.intro K0 hKK)
    clear hKK
    obtain rfl : W = wc := hw.symm
    go_upto_if 13 with fail
    go_cut [] (fun wx => Mid P M w W E R wx)
    case first =>
      have hodd : K % 2 = 1 ∨ K % 2 = 0 := by omega
      rcases hodd with hodd | hodd
      · go_wp2_with ((with_reducible refine HAL.out.mono ?_); rintro en w1 ⟨⟨x', es', rfl, hxa, hxr, hxe, hxk, hxn, hxt, hxm⟩, hb1⟩; simp only [OpX.v]; have hq1 := HQ.out.below hb1; have c0 := hq1.c0; have c1 := hq1.c1; have c2 := hq1.c2; have c3 := hq1.c3; have c4 := hq1.c4; have c5 := hq1.c5; have c6 := hq1.c6; have h0 := hq1.f 0 (by omega); have h1 := hq1.f 1 (by omega); have h2 := hq1.f 2 (by omega); have h3 := hq1.f 3 (by omega); have h4 := hq1.f 4 (by omega); have h5 := hq1.f 5 (by omega); have h6 := hq1.f 6 (by omega); have HXA := Lib.hid hxa; have HB1 := Lib.hid hb1; have HQ1 := Lib.hid hq1; clear hxa hxr hxe hxk hxn hxt hxm hb1 hq1)
        go_meet
        have hne : ∀ b, b ≠ E → (set7 w1 E x').heap[b]? = w1.heap[b]? := fun b hb => set7_block _ _ _ b hb
        have z1 := HB1.out.size
        exact (show Mid P M w W E R (set7 w1 E x') from ⟨x', HQ1.out.all x', (HT.out.below HB1.out).keep (hne R (by omega)), HXA.out.keep (fun b hb => hne b (by have := hb.1; omega)) (fun b hb => Or.inr ⟨hb.1, by rw [set7_size]; exact hb.2⟩), set7_below (HB.out.trans (HB1.out.mono HB.out.size)) hwE, by rw [set7_size]; exact z1⟩)
      · go_wp2_with fail
        go_meet
        exact ⟨x, HQ.out, HT.out, HX.out.keep (fun b _ => rfl) (fun b hb => Or.inl hb), HB.out, Nat.le_refl _⟩
    case rest =>
      obtain ⟨x2, hq2, ht2, hx2, hb2, z2⟩ := hcut
      obtain ⟨W2, hW2⟩ : ∃ W2, W2 = wc := ⟨_, rfl⟩
      rw [← hW2] at hq2 ht2 hx2 hb2 z2 ⊢
      have HQ2 := Lib.hid hq2
      have HT2 := Lib.hid ht2
      have HX2 := Lib.hid hx2
      have HB2 := Lib.hid hb2
      clear hq2 ht2 hx2 hb2 hW2 HQ HT HX HAL b0 b1 b2 b3' b4 b5 b6 g0 g1 g2 g3 g4 g5 g6 HW
      obtain ⟨kind, n, ra, rl, rc, ty, tm, va, vl, vc, ea, el, ec⟩ := x2
      have HPE := Lib.hid (show ∀ b, POr P W.heap.size W2.heap.size b → b ≠ E ∧ b ≠ R ∧ b < W2.heap.size from fun b hb => by
        have hwW := hzz
        rcases hb with hb | hb
        · have := HPP.out b hb
          exact ⟨by omega, by omega, by omega⟩
        · have h1 := hb.1
          have h2 := hb.2
          exact ⟨by omega, by omega, h2⟩)
      have b0 := HQ2.out.c0
      have b1 := HQ2.out.c1
      have b2 := HQ2.out.c2
      have b3' := HQ2.out.c3
      have b4 := HQ2.out.c4
      have b5 := HQ2.out.c5
      have b6 := HQ2.out.c6
      simp only at b0 b1 b2 b3' b4 b5 b6
      go_upto_region 7 with fail
      obtain ⟨h, hh⟩ : ∃ h, h = K / 2 % 5 := ⟨_, rfl⟩
      obtain ⟨q, hq⟩ : ∃ q, q = K / 10 := ⟨_, rfl⟩
      rw [← hh, ← hq]
      have HH := Lib.hid hh
      have h2 : 0 ≤ h ∧ h ≤ 4 := by omega
      have q0 : 0 ≤ q := by omega
      have q1 : q ≤ 922337203685477580 := by omega
      clear hh hq K0 K1
      have h22 : h = 2 := by rw [HH.out]; exact (HNO.out K HKK.out).symm
      subst h22
      have g0 := HQ2.out.f 0 (by omega)
      have g1 := HQ2.out.f 1 (by omega)
      have g3 := HQ2.out.f 3 (by omega)
      have g4 := HQ2.out.f 4 (by omega)
      have g5 := HQ2.out.f 5 (by omega)
      rcases Nat.eq_zero_or_pos el with rfl | hl
      · go_upto_region 17 with fail
        clear b0 b1 b2 b3' b4 b5 b6
        have HEND := Lib.hid (other_end (x' := ⟨kind, n, ra, rl, rc, ty, tm, va, vl, vc, ea, 0, ec⟩) hzz (show w.heap.size ≤ R by omega) hRW HPP.out (Wrote.of_below HB2.out) (HX2.out.wr (WrOk.refl (M + 1) W2) (Nat.le_succ M)))
        simp only [OpX.v, set7] at HEND
        have c0' := HQ2.out.c0
        have c1' := HQ2.out.c1
        have c2' := HQ2.out.c2
        have c3' := HQ2.out.c3
        have c4' := HQ2.out.c4
        have c5' := HQ2.out.c5
        have c6' := HQ2.out.c6
        have t0 := HT2.out.c0
        have e0 := HT2.out.f 0 (by omega)
        have t1 := HT2.out.c1
        have e1 := HT2.out.f 1 (by omega)
        have t2 := HT2.out.c2
        have e2 := HT2.out.f 2 (by omega)
        have t3 := HT2.out.c3
        have e3 := HT2.out.f 3 (by omega)
        have t4 := HT2.out.c4
        have e4 := HT2.out.f 4 (by omega)
        have t5 := HT2.out.c5
        have e5 := HT2.out.f 5 (by omega)
        have t6 := HT2.out.c6
        have e6 := HT2.out.f 6 (by omega)
        simp only at c0' c1' c2' c3' c4' c5' c6'
        go_wp2_with fail
        refine bodyPost_ret (v := .agg #[.int .i64 kind, .int .i64 n, .slice ra rl rc, .string ty, .int .i64 tm, .slice va vl vc, .slice ea 0 ec]) (by simp [results, Tryd.results38, go_sem, t0, t1, t2, t3, t4, t5, t6]) rfl ?_
        exact HEND.out
      · have hl' : (0 : Int) < (el : Int) := by omega
        obtain ⟨b, o, rfl, hPb, hsh⟩ : ∃ b o, ea = some ⟨b, o, none⟩ ∧ POr P W.heap.size W2.heap.size b ∧ ∀ i, i < el → EvtSh (fun p => POr P W.heap.size W2.heap.size p ∧ p ≠ b) M W2 b (o + i * 3) := by
          rcases HX2.out.ev with e | h
          · simp only at e; omega
          · exact h
        obtain ⟨i, hi, hiv⟩ : ∃ i : Nat, q % (el : Int) = (i : Int) ∧ i < el := ⟨(q % (el : Int)).toNat, by have := Int.emod_nonneg q (show (el : Int) ≠ 0 by omega); omega, by have := Int.emod_lt_of_pos q hl'; have := Int.emod_nonneg q (show (el : Int) ≠ 0 by omega); omega⟩
        obtain ⟨⟨_, a0, ty2, rfl, hty2⟩, ⟨_, a1, tm2, rfl, htm2⟩, ⟨va2, n2, cc2, a2, hsv, hn2, hvn2⟩, gf⟩ := hsh i hiv
        have i0 : (0 : Int) ≤ (i : Int) := by omega
        have i1 : (i : Int) < (el : Int) := by omega
        have hE2 : E < W2.heap.size := HQ2.out.lt
        have hR2 : R < W2.heap.size := HT2.out.lt
        have hq7 : 0 ≤ q / 7 ∧ q / 7 ≤ 9223372036854775807 := by omega
        have HEV := Lib.hid (show ∀ W', Below W2.heap.size W2 W' → Calls Tryd.prog 70 #[.agg #[.string ty2, .int .i64 tm2, .slice va2 n2 cc2], .int .i64 (q / 7)] W' fun en w' => (∃ ty' tm', en = .returned (.agg #[.string ty', .int .i64 tm', .slice va2 n2 cc2]) ∧ ty'.size ≤ M + 1 ∧ i64r tm') ∧ Wrote (fun p => POr P W.heap.size W2.heap.size p ∧ p ≠ b) (M + 1) W2 w' from fun W' hW' =>
          (evOther_any (fun p => POr P W.heap.size W2.heap.size p ∧ p ≠ b) M (q / 7) ty2 tm2 va2 n2 cc2 W' (fun b hb => Nat.lt_of_lt_of_le (HPE.out b hb.1).2.2 hW'.size) hq7.1 hq7.2 hty2 htm2 (hsv.keep (fun b hb => hW'.block b (HPE.out b hb.1).2.2)) hn2 hM).mono fun en w' ⟨h1, h2⟩ => ⟨h1, (Wrote.of_below hW').trans h2⟩)
        have HFIT := Lib.hid HX2.out.fit
        have HTM2 := Lib.hid htm2
        have HSV := Lib.hid hsv
        have HGF := Lib.hid gf
        have hPbE := (HPE.out b hPb).1
        have hPbR := (HPE.out b hPb).2.1
        have hb2s := (HPE.out b hPb).2.2
        have HA0 := Lib.hid a0
        have HA1 := Lib.hid a1
        have HA2 := Lib.hid a2
        have hd : ((el : Int) == 0) = false := by rw [beq_eq_false_iff_ne]; omega
        have hi' : q.tmod (el : Int) = (i : Int) := by rw [Int.tmod_eq_emod_of_nonneg q0]; exact hi
        obtain ⟨Q7, hQ7⟩ : ∃ Q7, Q7 = q / 7 := ⟨_, rfl⟩
        have t7 : q.tdiv 7 = Q7 := by rw [Int.tdiv_eq_ediv_of_nonneg q0]; exact hQ7.symm
        have w7 : IntKind.i64.wrap Q7 = Q7 := by
          have h1 := hq7.1
          have h2 := hq7.2
          rw [← hQ7] at h1 h2
          simp [IntKind.wrap, IntKind.bits, IntKind.signed]
          omega
        rw [← hQ7] at HEV
        clear hsh hsv gf htm2 hty2 hn2 hvn2 hq7 hQ7
        go_upto_region 12 with fail
        have hd2 : ¬ el = 0 := by omega
        refine wp_region_held_drew (S := fun w' => w'.cell? ⟨E, 6, none⟩ = some (.slice (some ⟨b, o, none⟩) el ec)) (by kernel_rfl) (by go_keep) (fun hHeld => ?_)
        refine wpAnyH_take (i := 0) (oi := _) (v := ?_) rfl (by kernel_rfl) (by kernel_rfl) (by kernel_rfl) (fun _ _ _ h => h) (Or.inl ⟨by rfl, ?_⟩) (by assumption) ?_
        rotate_left
        · intro w hSw; (try dsimp only at hSw); go_simp; try (with_reducible rfl)
        try simp only [Act.put, List.setIfInBounds_toArray, List.set_cons_zero, List.set_cons_succ]
        refine wpAnyH_take (i := 1) (oi := _) (v := ?_) rfl (by kernel_rfl) (by kernel_rfl) (by kernel_rfl) (fun _ _ _ h => h) (Or.inl ⟨by rfl, ?_⟩) (by assumption) ?_
        rotate_left
        · intro w hSw; (try dsimp only at hSw); go_simp; try (with_reducible rfl)
        try simp only [Act.put, List.setIfInBounds_toArray, List.set_cons_zero, List.set_cons_succ]
        refine wpAnyH_take (i := 2) (oi := _) (v := ?_) rfl (by kernel_rfl) (by kernel_rfl) (by kernel_rfl) (fun _ _ _ h => h) (Or.inl ⟨by rfl, ?_⟩) (by assumption) ?_
        rotate_left
        · intro w hSw; (try dsimp only at hSw); go_simp; try (with_reducible rfl)
        try simp only [Act.put, List.setIfInBounds_toArray, List.set_cons_zero, List.set_cons_succ]
        refine wpAnyH_take (i := 3) (oi := _) (v := ?_) rfl (by kernel_rfl) (by kernel_rfl) (by kernel_rfl) (fun _ _ _ h => h) (Or.inl ⟨by rfl, ?_⟩) (by assumption) ?_
        rotate_left
        · intro w hSw; (try dsimp only at hSw); go_simp; try (with_reducible rfl)
        try simp only [Act.put, List.setIfInBounds_toArray, List.set_cons_zero, List.set_cons_succ]
        refine wpAnyH_take (i := 4) (oi := _) (v := ?_) rfl (by kernel_rfl) (by kernel_rfl) (by kernel_rfl) (fun _ _ _ h => h) (Or.inl ⟨by rfl, ?_⟩) (by assumption) ?_
        rotate_left
        · intro w hSw; (try dsimp only at hSw); go_simp; try (with_reducible rfl)
        try simp only [Act.put, List.setIfInBounds_toArray, List.set_cons_zero, List.set_cons_succ]
        refine wpAnyH_take (i := 5) (oi := _) (v := ?_) rfl (by kernel_rfl) (by kernel_rfl) (by kernel_rfl) (fun _ _ _ h => h) (Or.inl ⟨by rfl, ?_⟩) (by assumption) ?_
        rotate_left
        · intro w hSw; (try dsimp only at hSw); go_simp; try (with_reducible rfl)
        try simp only [Act.put, List.setIfInBounds_toArray, List.set_cons_zero, List.set_cons_succ]
        refine wpAnyH_take (i := 6) (oi := _) (v := ?_) rfl (by kernel_rfl) (by kernel_rfl) (by kernel_rfl) (fun _ _ _ h => h) (Or.inl ⟨by rfl, ?_⟩) (by assumption) ?_
        rotate_left
        · intro w hSw; (try dsimp only at hSw); go_simp; try (with_reducible rfl)
        try simp only [Act.put, List.setIfInBounds_toArray, List.set_cons_zero, List.set_cons_succ]
        refine wpAnyH_take (i := 7) (oi := _) (v := ?_) rfl (by kernel_rfl) (by kernel_rfl) (by kernel_rfl) (fun _ _ _ h => h) (Or.inl ⟨by rfl, ?_⟩) (by assumption) ?_
        rotate_left
        · intro w hSw; (try dsimp only at hSw); go_simp; try (with_reducible rfl)
        try simp only [Act.put, List.setIfInBounds_toArray, List.set_cons_zero, List.set_cons_succ]
        refine wpAnyH_take (i := 8) (oi := _) (v := ?_) rfl (by kernel_rfl) (by kernel_rfl) (by kernel_rfl) (fun _ _ _ h => h) (Or.inl ⟨by rfl, ?_⟩) (by assumption) ?_
        rotate_left
        · intro w hSw; (try dsimp only at hSw); go_simp; try (with_reducible rfl)
        try simp only [Act.put, List.setIfInBounds_toArray, List.set_cons_zero, List.set_cons_succ]
        refine wpAnyH_take (i := 9) (oi := _) (v := ?_) rfl (by kernel_rfl) (by kernel_rfl) (by kernel_rfl) (fun _ _ _ h => h) (Or.inl ⟨by rfl, ?_⟩) (by assumption) ?_
        rotate_left
        · intro w hSw; (try dsimp only at hSw); go_simp; try (with_reducible rfl)
        try simp only [Act.put, List.setIfInBounds_toArray, List.set_cons_zero, List.set_cons_succ]
        refine wpAnyH_take (i := 10) (oi := _) (v := ?_) rfl (by kernel_rfl) (by kernel_rfl) (by kernel_rfl) (fun _ _ _ h => h) (Or.inl ⟨by rfl, ?_⟩) (by assumption) ?_
        rotate_left
        · intro w hSw; (try dsimp only at hSw); go_simp; try (with_reducible rfl)
        try simp only [Act.put, List.setIfInBounds_toArray, List.set_cons_zero, List.set_cons_succ]
        refine wpAnyH_take (i := 11) (oi := _) (v := ?_) rfl (by kernel_rfl) (by kernel_rfl) (by kernel_rfl) (fun _ _ _ h => h) (Or.inl ⟨by rfl, ?_⟩) (by assumption) ?_
        rotate_left
        · intro w hSw; (try dsimp only at hSw); go_simp; try (with_reducible rfl)
        try simp only [Act.put, List.setIfInBounds_toArray, List.set_cons_zero, List.set_cons_succ]
        refine wpAnyH_take (i := 12) (oi := _) (v := ?_) rfl (by kernel_rfl) (by kernel_rfl) (by kernel_rfl) (fun _ _ _ h => h) (Or.inl ⟨by rfl, ?_⟩) (by assumption) ?_
        rotate_left
        · intro w hSw; (try dsimp only at hSw); go_simp; try (with_reducible rfl)
        try simp only [Act.put, List.setIfInBounds_toArray, List.set_cons_zero, List.set_cons_succ]
        refine wpAnyH_take (i := 13) (oi := _) (v := ?_) rfl (by kernel_rfl) (by kernel_rfl) (by kernel_rfl) (fun _ _ _ h => h) (Or.inl ⟨by rfl, ?_⟩) (by assumption) ?_
        rotate_left
        · intro w hSw; (try dsimp only at hSw); go_simp; try (with_reducible rfl)
        try simp only [Act.put, List.setIfInBounds_toArray, List.set_cons_zero, List.set_cons_succ]
        refine wpAnyH_take (i := 14) (oi := _) (v := ?_) rfl (by kernel_rfl) (by kernel_rfl) (by kernel_rfl) (fun _ _ _ h => h) (Or.inl ⟨by rfl, ?_⟩) (by assumption) ?_
        rotate_left
        · intro w hSw; (try dsimp only at hSw); go_simp; try (with_reducible rfl)
        try simp only [Act.put, List.setIfInBounds_toArray, List.set_cons_zero, List.set_cons_succ]
        refine wpAnyH_take (i := 16) (oi := _) (v := ?_) rfl (by kernel_rfl) (by kernel_rfl) (by kernel_rfl) (fun _ _ _ h => h) (Or.inl ⟨by rfl, ?_⟩) (by assumption) ?_
        rotate_left
        · intro w hSw; (try dsimp only at hSw); go_simp; try (with_reducible rfl)
        try simp only [Act.put, List.setIfInBounds_toArray, List.set_cons_zero, List.set_cons_succ]
        refine wpAnyH_take (i := 17) (oi := _) (v := ?_) rfl (by kernel_rfl) (by kernel_rfl) (by kernel_rfl) (fun _ _ _ h => h) (Or.inl ⟨by rfl, ?_⟩) (by assumption) ?_
        rotate_left
        · intro w hSw; (try dsimp only at hSw); go_simp; try (with_reducible rfl)
        try simp only [Act.put, List.setIfInBounds_toArray, List.set_cons_zero, List.set_cons_succ]
        refine wpAnyH_ready (rs := [15]) (by kernel_rfl) (by simp) ?_
        refine AllReadyH.cons (o := _) rfl (fun K hK => ?_) AllReadyH.nil
        go_simp
        refine hK.out _ _ (by go_keep) (fun hHeld => ?_)
        clear hK K
        try simp only [Act.put, List.setIfInBounds_toArray, List.set_cons_zero, List.set_cons_succ]
        refine wpAnyH_ready (rs := [18]) (by kernel_rfl) (by simp) ?_
        refine AllReadyH.cons (o := _) rfl (fun K hK => ?_) AllReadyH.nil
        go_simp
        go_at_call 70; (with_reducible refine (HEV.out _ (by first | exact Below.refl W2.heap.size W2 | exact (Below.refl W2.heap.size W2).drew | exact (Below.refl W2.heap.size W2).drew.drew)).mono ?_); rintro en w3 ⟨⟨ty', tm', rfl, hty', htm'⟩, hw3⟩; have hq3 := HQ2.out.keep (hw3.far E hE2 (fun hp => (HPE.out E hp.1).1 rfl)); have d6 : w3.cell? ⟨E, 6, none⟩ = some (.slice (some ⟨b, o, none⟩) el ec) := hq3.c6; have kb := hw3.far b hb2s (fun hp => hp.2 rfl); have p0 := (World.cell?_of_block (a := ⟨b, o + i * 3, none⟩) kb).trans HA0.out; have p1 := (World.cell?_of_block (a := ⟨b, o + i * 3 + 1, none⟩) kb).trans HA1.out; have p2 := (World.cell?_of_block (a := ⟨b, o + i * 3 + 2, none⟩) kb).trans HA2.out; have j0 := (World.frozen?_of_block (a := ⟨b, o + i * 3, none⟩) kb).trans (HGF.out 0 (by omega)); have j1 := (World.frozen?_of_block (a := ⟨b, o + i * 3 + 1, none⟩) kb).trans (HGF.out 1 (by omega)); have j2 := (World.frozen?_of_block (a := ⟨b, o + i * 3 + 2, none⟩) kb).trans (HGF.out 2 (by omega)); clear kb; have HQ3 := Lib.hid hq3; have HW3 := Lib.hid hw3; have HTY := Lib.hid hty'; have HTI := Lib.hid htm'; clear hq3 hw3 hty' htm'
        refine hK.out _ _ (by exact d6) (fun hHeld => ?_)
        clear hK K
        try simp only [Act.put, List.setIfInBounds_toArray, List.set_cons_zero, List.set_cons_succ]
        refine wpAnyH_take (i := 19) (oi := _) (v := ?_) rfl (by kernel_rfl) (by kernel_rfl) (by kernel_rfl) (fun _ _ _ h => h) (Or.inl ⟨by rfl, ?_⟩) (by assumption) ?_
        rotate_left
        · intro w hSw; (try dsimp only at hSw); go_simp; try (with_reducible rfl)
        try simp only [Act.put, List.setIfInBounds_toArray, List.set_cons_zero, List.set_cons_succ]
        refine wpAnyH_ready (rs := [20]) (by kernel_rfl) (by simp) ?_
        refine AllReadyH.cons (o := _) rfl (fun K hK => ?_) AllReadyH.nil
        go_simp
        refine hK.out _ _ (by go_keep) (fun hHeld => ?_)
        clear hK K
        try simp only [Act.put, List.setIfInBounds_toArray, List.set_cons_zero, List.set_cons_succ]
        refine wpAnyH_done (by kernel_rfl) ?_ _
        all_goals (
          obtain ⟨V, hV⟩ : ∃ V, V = ((w3.setCell ⟨b, o + i * 3, none⟩ (.string ty')).setCell ⟨b, o + i * 3 + 1, none⟩ (.int .i64 tm')).setCell ⟨b, o + i * 3 + 2, none⟩ (.slice va2 n2 cc2) := ⟨_, rfl⟩
          rw [← hV]
          have hkE : ∀ p, p ≠ b → V.heap[p]? = w3.heap[p]? := fun p hp => by rw [hV]; simp only [Below.heap_setCell _ _ _ _ (show p ≠ (⟨b, _, none⟩ : Addr).block from hp)]
          have hzV : V.heap.size = w3.heap.size := by rw [hV]; simp [World.setCell]
          have hz3 := HW3.out.ok.1
          have HQV := Lib.hid (HQ3.out.keep (hkE E (by omega)))
          have HTV := Lib.hid (show BoxO V R zeroO from (HT2.out.keep (HW3.out.far R hR2 (fun hp => (HPE.out R hp.1).2.1 rfl))).keep (hkE R (by omega)))
          have hWV2 : Wrote (POr P W.heap.size W2.heap.size) (M + 1) W2 V := by
            rw [hV]
            refine ((((HW3.out.mono (fun b hb => hb.1)).set hPb p0 (Or.inr (Or.inr (Or.inr (Or.inl ⟨⟨_, rfl⟩, ⟨_, rfl, HTY.out⟩⟩))))).set hPb (u := .int .i64 tm2) ?_ (Or.inr (Or.inr (Or.inl ⟨⟨_, rfl, HTM2.out⟩, ⟨_, rfl, HTI.out⟩⟩)))).set hPb (u := .slice va2 n2 cc2) ?_ (Or.inl rfl))
            · exact (set_ne (by omega)).trans p1
            · exact (set_ne (by omega)).trans ((set_ne (by omega)).trans p2)
          have HWV := Lib.hid (show Wrote P (M + 1) w V from hWV2.lift HB2.out hzz)
          have HXV := Lib.hid (show XAt (POr P W.heap.size V.heap.size) (M + 1) V ⟨kind, n, ra, rl, rc, ty, tm, va, vl, vc, some ⟨b, o, none⟩, el, ec⟩ from (HX2.out.wr hWV2.ok (Nat.le_succ M)).keep (fun _ _ => rfl) (fun b hb => hb.elim Or.inl (fun h => Or.inr ⟨h.1, by have := h.2; omega⟩)))
          clear hV hkE hzV hWV2 p0 p1 p2 j0 j1 j2 d6
          clear b0 b1 b2 b3' b4 b5
          have HEND := Lib.hid (other_end (x' := ⟨kind, n, ra, rl, rc, ty, tm, va, vl, vc, some ⟨b, o, none⟩, el, ec⟩) hzz (show w.heap.size ≤ R by omega) hRW HPP.out HWV.out HXV.out)
          simp only [OpX.v, set7] at HEND
          have c0' := HQV.out.c0
          have c1' := HQV.out.c1
          have c2' := HQV.out.c2
          have c3' := HQV.out.c3
          have c4' := HQV.out.c4
          have c5' := HQV.out.c5
          have c6' := HQV.out.c6
          have t0 := HTV.out.c0
          have e0 := HTV.out.f 0 (by omega)
          have t1 := HTV.out.c1
          have e1 := HTV.out.f 1 (by omega)
          have t2 := HTV.out.c2
          have e2 := HTV.out.f 2 (by omega)
          have t3 := HTV.out.c3
          have e3 := HTV.out.f 3 (by omega)
          have t4 := HTV.out.c4
          have e4 := HTV.out.f 4 (by omega)
          have t5 := HTV.out.c5
          have e5 := HTV.out.f 5 (by omega)
          have t6 := HTV.out.c6
          have e6 := HTV.out.f 6 (by omega)
          simp only at c0' c1' c2' c3' c4' c5' c6'
          go_wp2_with fail
          refine bodyPost_ret (v := .agg #[.int .i64 kind, .int .i64 n, .slice ra rl rc, .string ty, .int .i64 tm, .slice va vl vc, .slice (some ⟨b, o, none⟩) el ec]) (by simp [results, Tryd.results38, go_sem, t0, t1, t2, t3, t4, t5, t6]) rfl ?_
          exact HEND.out)
end Go.Proofs.YtekaimfabadclaaDoor
/- The laws' other, whichever way. -/
namespace Go.Proofs.YtekaimfabadclaaDoor
open Go Go.RowKit

theorem other_any (P : Nat → Prop) (M : Nat) (x : OpX) (k : Int) (w : World) (hP : ∀ b, P b → b < w.heap.size) (k0 : -9223372036854775808 ≤ k) (k1 : k ≤ 9223372036854775807) (hx : XAt P M w x) (hM : M ≤ 281474976710656) :
    Calls Tryd.prog 38 #[x.v, .int .i64 k] w fun en w' => OtherTo P (M + 1) w en w' := by
  obtain ⟨K, hK⟩ : ∃ K : Int, ∀ K' : Int, (0 ≤ K' ∧ (K' = k ∨ K' = -(k + 1))) → K' = K := by
    by_cases hk : k < 0
    · exact ⟨-(k + 1), fun K' h => by omega⟩
    · exact ⟨k, fun K' h => by omega⟩
  by_cases h : 2 = K / 2 % 5
  · exact other_two P M x k w hP k0 k1 hx hM (fun K' h' => by rw [hK K' h']; exact h)
  · exact other_but P M x k w hP k0 k1 hx hM (fun K' h' => by rw [hK K' h']; exact h)
end Go.Proofs.YtekaimfabadclaaDoor
/- Steps and numbers that came in. -/
namespace Go.Proofs.YtekaimfabadclaaDoor
open Go Go.ChangeShapes Go.WideShapes Go.ChangeAt Go.RowKit

theorem list_of {α : Type} {p : Nat → α → Prop} {n : Nat} (h : ∀ i, i < n → ∃ a, p i a) : ∃ l : List α, l.length = n ∧ ∀ i (hi : i < l.length), p i l[i] := by
  induction n with
  | zero => exact ⟨[], rfl, fun i hi => absurd hi (by simp)⟩
  | succ n ih =>
    obtain ⟨l, hl, hp⟩ := ih (fun i hi => h i (by omega))
    obtain ⟨a, ha⟩ := h n (by omega)
    refine ⟨l ++ [a], by simp [hl], fun i hi => ?_⟩
    by_cases hin : i < l.length
    · rw [List.getElem_append_left hin]
      exact hp i hin
    · have e : i = l.length := by simp at hi; omega
      subst e
      rw [List.getElem_append_right (Nat.le_refl _)]
      simpa [hl] using ha
section
variable {H : Type} {enc : TypeId × Value → H} {W : World} {base : Nat} {spare : Nat → Bool} {held : Bool}
theorem trod_struct5 {t : TypeId} {f0 f1 f2 f3 f4 : Field} {fuel : Nat} {cs : List Value} {x : DataW H × List MemPlace} (ht : Tryd.prog.underlying t = some (.struct #[f0, f1, f2, f3, f4])) (h : DataW.trod enc Tryd.prog W base spare held fuel t cs = some x) :
    ∃ y0 y1 y2 y3 y4 n, x.1 = .agg [y0.1, y1.1, y2.1, y3.1, y4.1] ∧ cs.length = Tryd.prog.cellsOf t ∧ DataW.trod enc Tryd.prog W base spare held n f0.type ((cs.drop f0.offset).take (Tryd.prog.cellsOf f0.type)) = some y0 ∧
      DataW.trod enc Tryd.prog W base spare held n f1.type ((cs.drop f1.offset).take (Tryd.prog.cellsOf f1.type)) = some y1 ∧ DataW.trod enc Tryd.prog W base spare held n f2.type ((cs.drop f2.offset).take (Tryd.prog.cellsOf f2.type)) = some y2 ∧
      DataW.trod enc Tryd.prog W base spare held n f3.type ((cs.drop f3.offset).take (Tryd.prog.cellsOf f3.type)) = some y3 ∧ DataW.trod enc Tryd.prog W base spare held n f4.type ((cs.drop f4.offset).take (Tryd.prog.cellsOf f4.type)) = some y4 := by
  obtain ⟨xs, n, _, rfl, hl, hlen, hf⟩ := DataW.trod_struct ht h
  match xs, hlen with
  | [y0, y1, y2, y3, y4], _ => exact ⟨y0, y1, y2, y3, y4, n, by simp, hl, by simpa using hf 0 f0 rfl, by simpa using hf 1 f1 rfl, by simpa using hf 2 f2 rfl, by simpa using hf 3 f3 rfl, by simpa using hf 4 f4 rfl⟩
/-- A list that came in, element by element, with what its weights tell. -/
theorem row_trod {fuel : Nat} {t e : TypeId} {cs : List Value} {x : DataW H × List MemPlace} {n : Nat} {R : List Value → Prop} (ht : Tryd.prog.underlying t = some (.slice e)) (hcell : Tryd.prog.cellsOf e = n) (hn : 0 < n)
    (h : DataW.trod enc Tryd.prog W base spare held fuel t cs = some x) (hw : ∀ m ∈ x.1.weights Tryd.prog t, m ≤ reachBytes)
    (he : ∀ {f c y}, DataW.trod enc Tryd.prog W base spare held f e c = some y → (∀ m ∈ y.1.weights Tryd.prog e, m ≤ reachBytes) → R c) :
    ∃ ao len cap, cs = [.slice ao len cap] ∧ len ≤ cap ∧ cap ≤ maxLen ∧ len * Tryd.prog.bytesOf e ≤ reachBytes ∧ (ao = none → cap = 0 ∧ len = 0) ∧
      (len = 0 ∨ ∃ b o, ao = some ⟨b, o, none⟩ ∧ b < W.heap.size ∧ ∀ i, i < len → ∃ c, R c ∧ c.length = n ∧ ∀ j, j < n → W.cell? ⟨b, o + i * n + j, none⟩ = c[j]?) := by
  rcases DataW.trod_slice ht h with ⟨h0, _⟩ | ⟨a, len, cap, elems, rest, m, _, rfl, rfl, hb, hl, hm, hlen, hel, _, _⟩
  · exact ⟨none, 0, 0, h0, by omega, by unfold maxLen; omega, by simp [reachBytes], fun _ => ⟨rfl, rfl⟩, Or.inl rfl⟩
  · have each : ∀ i, i < len → ∃ c, R c ∧ c.length = n ∧ ∀ j, j < n → W.cell? (a.add (i * n + j)) = c[j]? := by
      intro i hi
      have h1 := hel i hi
      rw [List.getElem?_eq_getElem (by omega), hcell] at h1
      cases hc : W.cells? base (a.add (i * n)) n with
      | none => rw [hc] at h1; cases h1
      | some c =>
        rw [hc] at h1
        have h2 := World.cells?_some hc
        refine ⟨c, he h1 (fun k hk => hw k (by
          simp only [DataW.weights, ht, List.mem_cons, List.mem_append]
          exact Or.inr (Or.inl (weights_all (List.mem_map_of_mem (List.getElem_mem (by omega))) k hk)))), h2.2.1, fun j hj => ?_⟩
        have h3 := h2.2.2 j hj
        rw [Addr.add_add] at h3
        exact h3
    have hbytes : len * Tryd.prog.bytesOf e ≤ reachBytes := by
      have h1 := hw ((elems.length + rest.length) * Tryd.prog.bytesOf e) (by simp [DataW.weights, ht])
      refine Nat.le_trans (Nat.mul_le_mul_right _ ?_) h1
      omega
    refine ⟨some a, len, cap, rfl, hl, hm, hbytes, (fun e => nomatch e), ?_⟩
    rcases Nat.eq_zero_or_pos len with h0 | h0
    · exact Or.inl h0
    · have hs : a.spot = none := by
        obtain ⟨c, _, hc, h3⟩ := each 0 h0
        have h4 := h3 0 hn
        rw [List.getElem?_eq_getElem (by omega)] at h4
        rw [Nat.zero_mul, Nat.zero_add] at h4
        exact spot_none h4
      obtain ⟨b, o, sp⟩ := a
      simp only at hs
      subst hs
      have hlt : b < W.heap.size := by
        obtain ⟨c, _, hc, h3⟩ := each 0 h0
        have h4 := h3 0 hn
        rw [List.getElem?_eq_getElem (by omega)] at h4
        rw [add_none] at h4
        exact World.block_lt_of_cell? W _ h4
      refine Or.inr ⟨b, o, rfl, hlt, fun i hi => ?_⟩
      obtain ⟨c, hR, hc, h3⟩ := each i hi
      refine ⟨c, hR, hc, fun j hj => ?_⟩
      have h4 := h3 j hj
      rw [add_none] at h4
      rw [Nat.add_assoc]
      exact h4
set_option maxRecDepth 100000 in
theorem valR {fuel : Nat} {cs : List Value} {x : DataW H × List MemPlace} (h : DataW.trod enc Tryd.prog W base spare held fuel 95 cs = some x) (hw : ∀ m ∈ x.1.weights Tryd.prog 95, m ≤ reachBytes) : ∃ a : Val, cs = a.cells ∧ valIn a ∧ a.str.size ≤ reachBytes := by
  obtain ⟨y0, y1, y2, y3, n, rfl, hl, h0, h1, h2, h3⟩ := Go.Joins.trod_struct4 Tryd.underlying95 h
  rw [cellsVal] at hl
  match cs, hl with
  | [c0, c1, c2, c3], _ =>
    simp only [cellsI, cellsI64, cellsStr, cellsBool, List.drop_zero, List.drop_succ_cons, List.take_succ_cons, List.take_zero] at h0 h1 h2 h3
    obtain ⟨k, e0, _, _⟩ := DataW.trod_int Tryd.underlying3 h0
    obtain ⟨i, e1, _, wi⟩ := DataW.trod_int Tryd.underlying2 h1
    obtain ⟨s, e2, x2, ws⟩ := DataW.trod_string Tryd.underlying9 h2
    obtain ⟨b, e3, _⟩ := DataW.trod_bool Tryd.underlying4 h3
    cases e0; cases e1; cases e2; cases e3
    have hs0 : ∀ bs : List UInt8, y2.1 = .lit (.string bs) → bs.length ≤ reachBytes := fun bs e => hw _ (by simp [DataW.weights, Tryd.underlying95, DataW.weightsEach, e])
    have hs := hs0 s.data.toList (by rw [x2])
    exact ⟨⟨k, i, s, b⟩, rfl, ⟨ws, bounds_i64 wi⟩, by rw [Array.length_toList] at hs; exact hs⟩
theorem bytesVal2 : Tryd.prog.bytesOf 95 = 40 := by kernel_rfl
theorem bytesEv2 : Tryd.prog.bytesOf 24 = 48 := by kernel_rfl
theorem bytesOp : Tryd.prog.bytesOf 71 = 112 := by kernel_rfl
theorem cellsOp : Tryd.prog.cellsOf 71 = 7 := by kernel_rfl
theorem cellsEvs2 : Tryd.prog.cellsOf 38 = 1 := by kernel_rfl
set_option maxRecDepth 100000 in
theorem valsR {fuel : Nat} {cs : List Value} {x : DataW H × List MemPlace} (h : DataW.trod enc Tryd.prog W base spare held fuel 22 cs = some x) (hw : ∀ m ∈ x.1.weights Tryd.prog 22, m ≤ reachBytes) :
    ∃ (l : List Val) (va : Option Addr) (vc : Nat), cs = [.slice va l.length vc] ∧ ValsIn W.heap.size W va l ∧ l.length ≤ 3518437208780 ∧ (va = none → vc = 0 ∧ l = []) ∧ ∀ a ∈ l, valIn a ∧ a.str.size ≤ reachBytes := by
  obtain ⟨ao, len, cap, rfl, _, _, hb, hno, hr⟩ := row_trod (R := fun c => ∃ a : Val, c = a.cells ∧ valIn a ∧ a.str.size ≤ reachBytes) Tryd.underlying22 cellsVal (by omega) h hw (fun h hw => valR h hw)
  rw [bytesVal2] at hb
  unfold reachBytes at hb
  rcases hr with rfl | ⟨b, o, rfl, hlt, hr⟩
  · exact ⟨[], ao, cap, rfl, Or.inl rfl, by simp, fun e => ⟨(hno e).1, rfl⟩, by simp⟩
  · obtain ⟨l, rfl, hl⟩ := list_of (p := fun i a => (valIn a ∧ a.str.size ≤ reachBytes) ∧ ∀ j, j < 4 → W.cell? ⟨b, o + i * 4 + j, none⟩ = a.cells[j]?) (fun i hi => by
      obtain ⟨c, ⟨a, rfl, h1, h2⟩, _, h3⟩ := hr i hi
      exact ⟨a, ⟨h1, h2⟩, h3⟩)
    refine ⟨l, _, cap, rfl, Or.inr ⟨b, o, rfl, hlt, fun i hi => ?_⟩, by omega, (fun e => nomatch e), fun a ha => ?_⟩
    · have h3 := (hl i hi).2
      exact ⟨h3 0 (by omega), h3 1 (by omega), h3 2 (by omega), h3 3 (by omega)⟩
    · obtain ⟨i, hi, rfl⟩ := List.mem_iff_getElem.1 ha
      exact (hl i hi).1
set_option maxRecDepth 100000 in
theorem eventR' {fuel : Nat} {cs : List Value} {x : DataW H × List MemPlace} (h : DataW.trod enc Tryd.prog W base spare held fuel 24 cs = some x) (hw : ∀ m ∈ x.1.weights Tryd.prog 24, m ≤ reachBytes) :
    ∃ y : EvX, cs = y.cells ∧ ValsIn W.heap.size W y.va y.ev.vals ∧ EvFit reachBytes y := by
  obtain ⟨y0, y1, y2, n, rfl, hl, h0, h1, h2⟩ := Go.Deep.trod_struct3 Tryd.underlying24 h
  rw [cellsEv] at hl
  match cs, hl with
  | [c0, c1, c2], _ =>
    simp only [cellsI64, cellsStr, cellsVals, List.drop_zero, List.drop_succ_cons, List.take_succ_cons, List.take_zero] at h0 h1 h2
    obtain ⟨s, e0, x0, ws⟩ := DataW.trod_string Tryd.underlying9 h0
    obtain ⟨i, e1, _, wi⟩ := DataW.trod_int Tryd.underlying2 h1
    obtain ⟨l, va, vc, e2, hv, hm, hno, hi⟩ := valsR h2 (fun m hm => hw m (by simp [DataW.weights, Tryd.underlying24, DataW.weightsEach, hm]))
    cases e0; cases e1; cases e2
    have hs0 : ∀ bs : List UInt8, y0.1 = .lit (.string bs) → bs.length ≤ reachBytes := fun bs e => hw _ (by simp [DataW.weights, Tryd.underlying24, DataW.weightsEach, e])
    have hs := hs0 s.data.toList (by rw [x0])
    exact ⟨⟨⟨s, i, l⟩, va, vc⟩, rfl, hv, ⟨fun a ha => (hi a ha).1, hm, by rw [Array.length_toList] at hs; exact hs, bounds_i64 wi, fun a ha => (hi a ha).2, hno⟩⟩
set_option maxRecDepth 100000 in
theorem evsR {fuel : Nat} {cs : List Value} {x : DataW H × List MemPlace} (h : DataW.trod enc Tryd.prog W base spare held fuel 38 cs = some x) (hw : ∀ m ∈ x.1.weights Tryd.prog 38, m ≤ reachBytes) :
    ∃ (l : List EvX) (ao : Option Addr) (cap : Nat), cs = [.slice ao l.length cap] ∧ EvsIn W.heap.size W ao l ∧ l.length ≤ 2932031007317 ∧ l.length ≤ cap ∧ cap ≤ maxLen ∧ ∀ y ∈ l, EvFit reachBytes y := by
  obtain ⟨ao, len, cap, rfl, hlc, hcm, hb, hno, hr⟩ := row_trod (R := fun c => ∃ y : EvX, c = y.cells ∧ ValsIn W.heap.size W y.va y.ev.vals ∧ EvFit reachBytes y) Tryd.underlying38 cellsEv (by omega) h hw (fun h hw => eventR' h hw)
  rw [bytesEv2] at hb
  unfold reachBytes at hb
  rcases hr with rfl | ⟨b, o, rfl, hlt, hr⟩
  · exact ⟨[], ao, cap, rfl, Or.inl rfl, by simp, by simp, hcm, by simp⟩
  · obtain ⟨l, rfl, hl⟩ := list_of (p := fun i (y : EvX) => (ValsIn W.heap.size W y.va y.ev.vals ∧ EvFit reachBytes y) ∧ ∀ j, j < 3 → W.cell? ⟨b, o + i * 3 + j, none⟩ = y.cells[j]?) (fun i hi => by
      obtain ⟨c, ⟨a, rfl, h1, h2⟩, _, h3⟩ := hr i hi
      exact ⟨a, ⟨h1, h2⟩, h3⟩)
    refine ⟨l, _, cap, rfl, Or.inr ⟨b, o, rfl, hlt, fun i hi => ?_⟩, by omega, hlc, hcm, fun a ha => ?_⟩
    · have h3 := (hl i hi).2
      exact ⟨⟨h3 0 (by omega), h3 1 (by omega), h3 2 (by omega)⟩, (hl i hi).1.1⟩
    · obtain ⟨i, hi, rfl⟩ := List.mem_iff_getElem.1 ha
      exact (hl i hi).1.2
/-- A step that came in. -/
structure OpIn where
  x : OpX
  l : List UInt8
  vals : List Val
  es : List EvX
def OpX.list (x : OpX) : List Value := [.int .i64 x.kind, .int .i64 x.n, .slice x.ra x.rl x.rc, .string x.ty, .int .i64 x.tm, .slice x.va x.vl x.vc, .slice x.ea x.el x.ec]
set_option maxRecDepth 100000 in
theorem opR {fuel : Nat} {cs : List Value} {x : DataW H × List MemPlace} (h : DataW.trod enc Tryd.prog W base spare held fuel 71 cs = some x) (hw : ∀ m ∈ x.1.weights Tryd.prog 71, m ≤ reachBytes) :
    ∃ y : OpIn, cs = y.x.list ∧ OpFit reachBytes y.x ∧ Reads reachBytes W y.x y.l y.vals y.es := by
  obtain ⟨y0, y1, y2, y3, y4, n, e, hl, h0, h1, h2, h3, h4⟩ := trod_struct5 Tryd.underlying71 h
  rw [e] at hw
  rw [cellsOp] at hl
  match cs, hl with
  | [c0, c1, c2, c3, c4, c5, c6], _ =>
    simp only [cellsI, cellsI64, cellsBs, cellsEv, cellsEvs2, List.drop_zero, List.drop_succ_cons, List.take_succ_cons, List.take_zero] at h0 h1 h2 h3 h4
    obtain ⟨k, e0, _, _⟩ := DataW.trod_int Tryd.underlying3 h0
    obtain ⟨i, e1, _, wi⟩ := DataW.trod_int Tryd.underlying2 h1
    obtain ⟨l, ra, rc, e2, _, hl2, hlc, hcm, hlr⟩ := bytes_trod h2
    have hrn : ra = none → rc = 0 ∧ l.length = 0 := fun e => by
      rcases DataW.trod_slice Tryd.underlying25 h2 with ⟨h0, _⟩ | ⟨a, len, cap, elems, rest, n, _, h0, _⟩
      · rw [h0] at e2
        injection e2 with e2 _
        injection e2 with _ e3 e4
        exact ⟨e4.symm, e3.symm⟩
      · rw [h0, e] at e2
        injection e2 with e2 _
        injection e2 with e3 _
        cases e3
    obtain ⟨y, e3, hv, hf⟩ := eventR' h3 (fun m hm => hw m (by simp [DataW.weights, Tryd.underlying71, DataW.weightsEach, hm]))
    obtain ⟨es, ea, ec, e4, hes, hel, hec, hem, hef⟩ := evsR h4 (fun m hm => hw m (by simp [DataW.weights, Tryd.underlying71, DataW.weightsEach, hm]))
    have hlb := hlr (fun m hm => hw m (by simp [DataW.weights, Tryd.underlying71, DataW.weightsEach, hm]))
    cases e0; cases e1; cases e2; cases e3; cases e4
    refine ⟨⟨⟨k, i, ra, l.length, rc, y.ev.ty, y.ev.time, y.va, y.ev.vals.length, y.cap, ea, es.length, ec⟩, l, y.ev.vals, es⟩, rfl, ⟨bounds_i64 wi, ⟨hlc, hcm, by unfold reachBytes at hlb; simp only; omega⟩, hf.ty, hf.tm, hf.vl, ⟨hel, hec, hem⟩, hrn, fun e => ⟨(hf.vn e).1, by simp only; rw [(hf.vn e).2]; rfl⟩⟩, ⟨hl2, rfl, hv, rfl, hf.vi, hf.vs, hes, rfl, hef⟩⟩
/-- Steps that came in. -/
def OpsIn (W : World) (ao : Option Addr) (l : List OpIn) : Prop :=
  l = [] ∨ ∃ b o, ao = some ⟨b, o, none⟩ ∧ b < W.heap.size ∧ ∀ i (h : i < l.length), (∀ j, j < 7 → W.cell? ⟨b, o + i * 7 + j, none⟩ = l[i].x.list[j]?) ∧ OpFit reachBytes l[i].x ∧ Reads reachBytes W l[i].x l[i].l l[i].vals l[i].es
set_option maxRecDepth 100000 in
theorem ops_trod {fuel : Nat} {cs : List Value} {x : DataW H × List MemPlace} (h : DataW.trod enc Tryd.prog W base spare held fuel 67 cs = some x) (hw : ∀ m ∈ x.1.weights Tryd.prog 67, m ≤ reachBytes) :
    ∃ (l : List OpIn) (ao : Option Addr) (cap : Nat), cs = [.slice ao l.length cap] ∧ OpsIn W ao l ∧ l.length ≤ 1256584717442 := by
  obtain ⟨ao, len, cap, rfl, hlc, hcm, hb, hno, hr⟩ := row_trod (R := fun c => ∃ y : OpIn, c = y.x.list ∧ OpFit reachBytes y.x ∧ Reads reachBytes W y.x y.l y.vals y.es) Tryd.underlying67 cellsOp (by omega) h hw (fun h hw => opR h hw)
  rw [bytesOp] at hb
  unfold reachBytes at hb
  rcases hr with rfl | ⟨b, o, rfl, hlt, hr⟩
  · exact ⟨[], ao, cap, rfl, Or.inl rfl, by simp⟩
  · obtain ⟨l, rfl, hl⟩ := list_of (p := fun i (y : OpIn) => (OpFit reachBytes y.x ∧ Reads reachBytes W y.x y.l y.vals y.es) ∧ ∀ j, j < 7 → W.cell? ⟨b, o + i * 7 + j, none⟩ = y.x.list[j]?) (fun i hi => by
      obtain ⟨c, ⟨a, rfl, h1⟩, _, h3⟩ := hr i hi
      exact ⟨a, h1, h3⟩)
    exact ⟨l, _, cap, rfl, Or.inr ⟨b, o, rfl, hlt, fun i hi => ⟨(hl i hi).2, (hl i hi).1⟩⟩, by omega⟩
end
end Go.Proofs.YtekaimfabadclaaDoor
/- The walk of the law of scripts. -/
namespace Go.Proofs.YtekaimfabadclaaDoor
open Go Go.RowKit

theorem Cells5.set {w : World} {b : Nat} {v0 v1 v2 v3 v4 : Value} (h : Cells5 w b v0 v1 v2 v3 v4) (u0 u1 u2 u3 u4 : Value) : Cells5 (set5 w b u0 u1 u2 u3 u4) b u0 u1 u2 u3 u4 := by
  unfold set5
  refine ⟨?_, ?_, ?_, ?_, ?_, fun j hj => ?_⟩
  · exact (set_ne (by omega)).trans ((set_ne (by omega)).trans ((set_ne (by omega)).trans ((set_ne (by omega)).trans (World.cell?_setCell_same _ _ _ h.c0))))
  · exact (set_ne (by omega)).trans ((set_ne (by omega)).trans ((set_ne (by omega)).trans (World.cell?_setCell_same _ _ _ ((set_ne (by omega)).trans h.c1))))
  · exact (set_ne (by omega)).trans ((set_ne (by omega)).trans (World.cell?_setCell_same _ _ _ ((set_ne (by omega)).trans ((set_ne (by omega)).trans h.c2))))
  · exact (set_ne (by omega)).trans (World.cell?_setCell_same _ _ _ ((set_ne (by omega)).trans ((set_ne (by omega)).trans ((set_ne (by omega)).trans h.c3))))
  · exact World.cell?_setCell_same _ _ _ ((set_ne (by omega)).trans ((set_ne (by omega)).trans ((set_ne (by omega)).trans ((set_ne (by omega)).trans h.c4))))
  · simp only [World.frozen?_setCell]
    exact h.f j hj
theorem Cells5.keep {w w' : World} {b : Nat} {v0 v1 v2 v3 v4 : Value} (h : Cells5 w b v0 v1 v2 v3 v4) (hk : w'.heap[b]? = w.heap[b]?) : Cells5 w' b v0 v1 v2 v3 v4 := by
  have c : ∀ j : Nat, w'.cell? ⟨b, j, none⟩ = w.cell? ⟨b, j, none⟩ := fun j => World.cell?_of_block (w := w) hk
  have f : ∀ j : Nat, w'.frozen? ⟨b, j, none⟩ = w.frozen? ⟨b, j, none⟩ := fun j => World.frozen?_of_block (w := w) hk
  exact ⟨(c _).trans h.c0, (c _).trans h.c1, (c _).trans h.c2, (c _).trans h.c3, (c _).trans h.c4, fun j hj => (f _).trans (h.f j hj)⟩
/-- The step in its box, and what is kept. -/
def Turn (M X : Nat) (va vb : Value) (ka kb : List KX) (w wx : World) : Prop :=
  ∃ (x : OpX) (P : Nat → Prop), BoxO wx X x ∧ XAt P M wx x ∧ Held (X + 1) P va vb wx ka kb ∧ Below w.heap.size w wx
/-- What holds at the head of the turns' loop. -/
def TurnRel (script : List OpIn) (X : Nat) (w : World) (g : Nat) (va vb sz i : Value) (wr : World) : Prop :=
  ∃ (k : Nat) (ka kb : List KX) (z : Int), k ≤ script.length ∧ g = script.length - k ∧ i = .int .i64 k ∧ sz = .int .i64 z ∧ ka.length ≤ k ∧ ka.map (·.T) = kb.map (·.T) ∧ Turn (reachBytes + k) X va vb ka kb w wr
theorem zero_at (P : Nat → Prop) (M : Nat) (w : World) : XAt P M w zeroO :=
  ⟨⟨⟨by decide, by decide⟩, ⟨Nat.le_refl _, by decide, by decide⟩, Nat.zero_le _, ⟨by decide, by decide⟩, Nat.zero_le _, ⟨Nat.zero_le _, Nat.le_refl _, Nat.zero_le _⟩, fun _ => ⟨rfl, rfl⟩, fun _ => ⟨rfl, rfl⟩⟩, Or.inl rfl, Or.inl rfl, Or.inl rfl⟩

theorem turn_alone {M M' X : Nat} {va vb : Value} {ka kb : List KX} {w wr w2 : World} {x0 x' : OpX} {P0 : Nat → Prop} (hbx : BoxO wr X x0) (hh : Held (X + 1) P0 va vb wr ka kb) (hbel : Below w.heap.size w wr) (hX : w.heap.size ≤ X) (hb : Below wr.heap.size wr w2) (hxa : XAt (Span wr.heap.size w2.heap.size) M w2 x') (hM : M ≤ M') : Turn M' X va vb ka kb w (set7 w2 X x') := by
  have hXl := hbx.lt
  refine ⟨x', Span wr.heap.size w2.heap.size, (hbx.below hb).all x', ?_, ?_, set7_below (hbel.trans (hb.mono hbel.size)) hX⟩
  · exact (hxa.keep (fun b h => set7_block _ _ _ b (by have := h.1; omega)) (fun b h => h)).wr (WrOk.refl _ _) hM
  · exact hh.to (by rw [set7_size]; exact hb.size) (fun b h1 h2 _ => (set7_block _ _ _ b (by omega)).trans (hb.block b h2)) (fun b h => Or.inr ⟨h.1, by rw [set7_size]; exact h.2⟩)
theorem turn_other {M X : Nat} {va vb : Value} {ka kb : List KX} {w wr w2 : World} {x0 x' : OpX} {P0 : Nat → Prop} (hbx : BoxO wr X x0) (hh : Held (X + 1) P0 va vb wr ka kb) (hbel : Below w.heap.size w wr) (hX : w.heap.size ≤ X) (hw : Wrote P0 M wr w2) (hxa : XAt (POr P0 wr.heap.size w2.heap.size) M w2 x') : Turn M X va vb ka kb w (set7 w2 X x') := by
  have hXl := hbx.lt
  have hz := hw.ok.1
  have hPX : ∀ b, P0 b → X + 1 ≤ b := fun b h => (hh.pa b h).1
  refine ⟨x', POr P0 wr.heap.size w2.heap.size, (hbx.keep (hw.far X hXl (fun h => by have := hPX X h; omega))).all x', ?_, ?_, set7_below (hbel.trans (hw.below _ hbel.size (fun b h => by have := hPX b h; omega))) hX⟩
  · exact hxa.keep (fun b h => set7_block _ _ _ b (by
      rcases h with h | h
      · have := hPX b h; omega
      · have := h.1; omega)) (fun b h => h)
  · exact hh.to (by rw [set7_size]; exact hz) (fun b h1 h2 h3 => (set7_block _ _ _ b (by omega)).trans (hw.far b h2 h3)) (fun b h => by
      rw [set7_size]
      exact h)
theorem ops_at {W : World} {ao : Option Addr} {l : List OpIn} (h : OpsIn W ao l) (i : Nat) (hi : i < l.length) : ∃ b o, ao = some ⟨b, o, none⟩ ∧ b < W.heap.size ∧ (W.cell? ⟨b, o + i * 7, none⟩ = some (.int .i64 l[i].x.kind) ∧ W.cell? ⟨b, o + i * 7 + 1, none⟩ = some (.int .i64 l[i].x.n) ∧ W.cell? ⟨b, o + i * 7 + 2, none⟩ = some (.slice l[i].x.ra l[i].x.rl l[i].x.rc) ∧ W.cell? ⟨b, o + i * 7 + 3, none⟩ = some (.string l[i].x.ty) ∧ W.cell? ⟨b, o + i * 7 + 4, none⟩ = some (.int .i64 l[i].x.tm) ∧ W.cell? ⟨b, o + i * 7 + 5, none⟩ = some (.slice l[i].x.va l[i].x.vl l[i].x.vc) ∧ W.cell? ⟨b, o + i * 7 + 6, none⟩ = some (.slice l[i].x.ea l[i].x.el l[i].x.ec)) ∧ OpFit reachBytes l[i].x ∧ Reads reachBytes W l[i].x l[i].l l[i].vals l[i].es := by
  rcases h with h | ⟨b, o, e, hb, h⟩
  · rw [h] at hi; simp at hi
  · obtain ⟨h1, h2, h3⟩ := h i hi
    exact ⟨b, o, e, hb, ⟨h1 0 (by omega), h1 1 (by omega), h1 2 (by omega), h1 3 (by omega), h1 4 (by omega), h1 5 (by omega), h1 6 (by omega)⟩, h2, h3⟩
theorem OpsIn.below {W W' : World} {ao : Option Addr} {l : List OpIn} (h : OpsIn W ao l) (hb : Below W.heap.size W W') : OpsIn W' ao l := by
  rcases h with h | ⟨b, o, e, hlt, h⟩
  · exact Or.inl h
  · exact Or.inr ⟨b, o, e, Nat.lt_of_lt_of_le hlt hb.size, fun i hi => ⟨fun j hj => (hb.cell (p := ⟨b, o + i * 7 + j, none⟩) hlt).trans ((h i hi).1 j hj), (h i hi).2.1, (h i hi).2.2.below hb⟩⟩

/-- The step in its box, while it is not written. -/
structure InBox (M X : Nat) (P : Nat → Prop) (w : World) (x : OpX) (wx : World) : Prop where
  b : BoxO wx X x
  x : XAt P M wx x
  l : Below w.heap.size w wx
theorem InBox.below {M X : Nat} {P : Nat → Prop} {w wx wx' : World} {x : OpX} (h : InBox M X P w x wx) (hP : ∀ b, P b → b < wx.heap.size) (hb : Below wx.heap.size wx wx') : InBox M X P w x wx' :=
  ⟨h.b.below hb, h.x.keep (fun b hp => hb.block b (hP b hp)) (fun _ hp => hp), h.l.trans (hb.mono h.l.size)⟩
theorem InBox.grownA {M X : Nat} {P : Nat → Prop} {w wx wx' : World} {x : OpX} {va vb : Value} {ka kb : List KX} (h : InBox M X P w x wx) (hh : Held (X + 1) P va vb wx ka kb) (hX : w.heap.size ≤ X) (hg : wx.grownBy wx' va.ownBlock) : InBox M X P w x wx' :=
  ⟨h.b.keep (hg.block X h.b.lt (fun e => by have := (hh.ra.lt X e.symm).1; omega)), h.x.keep (fun b hp => hg.block b (hh.pa b hp).2.1 (hh.pa b hp).2.2.1) (fun _ hp => hp), h.l.grown hg h.l.size (fun j hj => by have := (hh.ra.lt j hj).1; omega)⟩
theorem Held.lt {B : Nat} {P : Nat → Prop} {va vb : Value} {w : World} {ka kb : List KX} (h : Held B P va vb w ka kb) : ∀ b, P b → b < w.heap.size := fun b hb => (h.pa b hb).2.1
theorem tol_below {B : Nat} {P : Nat → Prop} {va vb : Value} {w w' : World} {T : TC} {ba ea : Option Addr} {acc : List EvX} (h : TolAt (Aft B P va vb w) w T ba ea acc) (hb : Below w.heap.size w w') : TolAt (Aft B P va vb w') w' T ba ea acc :=
  (h.keep (fun b ha => hb.block b ha.2.1)).mono (fun _ ha => ⟨ha.1, Nat.lt_of_lt_of_le ha.2.1 hb.size, ha.2.2⟩)
theorem tol_grown {B : Nat} {P : Nat → Prop} {va vb : Value} {w w' : World} {T : TC} {ba ea : Option Addr} {acc : List EvX} {g n c : Nat} (h : TolAt (Aft B P va vb w) w T ba ea acc) (hg : w.grownBy w' va.ownBlock) (ha : va.ownBlock = some g ∨ g = w.heap.size) : TolAt (Aft B P (.slice (some ⟨g, 0, none⟩) n c) vb w') w' T ba ea acc :=
  (h.keep (fun b hb => hg.block b hb.2.1 hb.2.2.2.1)).mono (fun b hb => ⟨hb.1, Nat.lt_of_lt_of_le hb.2.1 hg.size, hb.2.2.1, fun e => by
    have e : some b = some g := e
    injection e with e
    rcases ha with e1 | e1
    · exact hb.2.2.2.1 (by rw [e1, e])
    · have := hb.2.1; omega, hb.2.2.2.2⟩)
theorem tol_swap {B : Nat} {P : Nat → Prop} {va vb : Value} {w : World} {T : TC} {ba ea : Option Addr} {acc : List EvX} (h : TolAt (Aft B P va vb w) w T ba ea acc) : TolAt (Aft B P vb va w) w T ba ea acc := h.mono (fun _ => Aft.swap)
theorem owns_form {w : World} {B n : Nat} {v : Value} {xs : List Value} (h : w.ownsRow B 75 5 v n xs) : ∃ ao c, v = .slice ao n c := by
  rcases h.2 with ⟨e, h0⟩ | ⟨g, cap', cur, e, _⟩
  · exact ⟨none, 0, by rw [e, h0]⟩
  · exact ⟨_, _, e⟩
theorem kRow_cells {w : World} {B : Nat} {v : Value} {l : List KX} (h : w.ownsRow B 75 5 v l.length (kCells l)) (i : Nat) (hi : i < l.length) :
    ∃ g c, v = .slice (some ⟨g, 0, none⟩) l.length c ∧ g < w.heap.size ∧ (w.cell? ⟨g, i * 5, none⟩ = some (.slice l[i].ba l[i].T.b.length l[i].bc) ∧ w.cell? ⟨g, i * 5 + 1, none⟩ = some (.int .i64 l[i].T.n) ∧ w.cell? ⟨g, i * 5 + 2, none⟩ = some (.int .i64 l[i].T.k) ∧ w.cell? ⟨g, i * 5 + 3, none⟩ = some (.slice l[i].ea l[i].acc.length l[i].ec) ∧ w.cell? ⟨g, i * 5 + 4, none⟩ = some (.int .i64 l[i].T.f)) := by
  obtain ⟨g, c, e, hg, _, h5⟩ := kRow_get h i hi
  exact ⟨g, c, e, hg, h5 0 (by omega), h5 1 (by omega), h5 2 (by omega), h5 3 (by omega), h5 4 (by omega)⟩
/-- An answer in its own variable. -/
theorem told_box {w2 : World} {T : TC} {ba ea : Option Addr} {bc ec el : Nat} {B : Nat} {w : World} (hb : Below B w w2) (hB : B ≤ w2.heap.size) :
    Cells5 (w2.alloc (Obj.cells #[.slice ba T.b.length bc, .int .i64 T.n, .int .i64 T.k, .slice ea el ec, .int .i64 T.f] 75)) w2.heap.size (.slice ba T.b.length bc) (.int .i64 T.n) (.int .i64 T.k) (.slice ea el ec) (.int .i64 T.f) ∧
    Below B w (w2.alloc (Obj.cells #[.slice ba T.b.length bc, .int .i64 T.n, .int .i64 T.k, .slice ea el ec, .int .i64 T.f] 75)) ∧
    (∀ b, b < w2.heap.size → (w2.alloc (Obj.cells #[.slice ba T.b.length bc, .int .i64 T.n, .int .i64 T.k, .slice ea el ec, .int .i64 T.f] 75)).heap[b]? = w2.heap[b]?) ∧
    w2.heap.size < (w2.alloc (Obj.cells #[.slice ba T.b.length bc, .int .i64 T.n, .int .i64 T.k, .slice ea el ec, .int .i64 T.f] 75)).heap.size :=
  ⟨Cells5.of (t := 75) (heap_alloc_new _ _), hb.alloc hB _, fun b hlt => Below.heap_alloc _ _ _ hlt, by simp⟩

set_option maxHeartbeats 16000000 in
set_option maxRecDepth 100000 in
theorem script_any (script : List OpIn) (turns : List Int) (so tto : Option Addr) (sc tc : Nat) (w : World) (hres : ResAt w) (hs : OpsIn w so script) (hsl : script.length ≤ 1256584717442) (ht : NumsAt w tto turns) (htl : turns.length ≤ maxLen) (hti : ∀ n ∈ turns, -9223372036854775808 ≤ n ∧ n ≤ 9223372036854775807) :
    Calls Tryd.prog 10 #[.slice so script.length sc, .slice tto turns.length tc] w fun en w' => en = .returned (.bool true) ∧ Below w.heap.size w w' := by
  obtain ⟨i0, hi0, hz0, hz1, hz2⟩ := info_parts Tryd.infoTold
  have HRES := Lib.hid hres
  have HS := Lib.hid hs
  have HNT := Lib.hid ht
  have HTI := Lib.hid hti
  clear hres hs ht hti
  go_enter Tryd.func10, Tryd.ntmps10
  go_upto_region 4 with ((with_reducible refine (begun_any w HRES.out).mono ?_); rintro e w1 ⟨rfl, hb1⟩; have HB1 := Lib.hid hb1; clear hb1)
  obtain ⟨X, hX⟩ : ∃ X, X = w1.heap.size := ⟨_, rfl⟩
  obtain ⟨W, hW⟩ : ∃ W, W = w1.alloc (Obj.cells zeroO.cells 71) := ⟨_, rfl⟩
  have hbW : Below w1.heap.size w1 W := by rw [hW]; exact (Below.refl _ _).alloc (Nat.le_refl _) _
  have HBX := Lib.hid (show BoxO W X zeroO from BoxO.of (by rw [hX, hW]; exact heap_alloc_new _ _))
  have hXz : X + 1 = W.heap.size := by rw [hW, hX]; simp
  have HBW := Lib.hid (show Below w.heap.size w W from HB1.out.trans (hbW.mono HB1.out.size))
  have hwX : w.heap.size ≤ X := by rw [hX]; exact HB1.out.size
  simp only [OpX.cells, zeroO] at hW
  have HW := Lib.hid hW
  have HXE := Lib.hid hX
  have HXZ := Lib.hid hXz
  clear hW hbW hX hXz
  go_upto_region 5 with fail
  rw [← HW.out, ← HXE.out]
  go_wp2_with fail
  go_loopg [5, 6, 8, 9] script.length (fun g va vb sz i wr => TurnRel script X w g va vb sz i wr)
  case atStart => exact ⟨0, [], [], 0, Nat.zero_le _, rfl, rfl, rfl, Nat.le_refl _, rfl, zeroO, fun _ => False, HBX.out, zero_at _ _ _, Held.nil _ _ (by have := HXZ.out; omega), HBW.out⟩
  case round =>
    obtain ⟨k, ka, kb, z, hk, rfl, rfl, rfl, hkl, heq, x0, P0, hbx, hxa, hh, hbel⟩ := hrel
    have HBX0 := Lib.hid hbx
    have HXA0 := Lib.hid hxa
    have HH0 := Lib.hid hh
    have HBE0 := Lib.hid hbel
    have HEQ := Lib.hid heq
    have k0 : (0 : Int) ≤ (k : Int) := by omega
    have hkr : k + 1 ≤ 9223372036854775807 := by omega
    clear hbx hxa hh hbel heq
    by_cases hlt : k < script.length
    · have k1 : (k : Int) < (script.length : Int) := by omega
      go_upto_region 9 with fail
      go_cut [35] (fun s wx => (∃ c : Bool, s = .bool c ∧ (c = true → 0 < k ∧ k < turns.length)) ∧ wx = wr)
      case first =>
        by_cases h1 : (0 : Int) < (k : Int)
        · by_cases h2 : (k : Int) < (turns.length : Int)
          · obtain ⟨tb, o, rfl, hc⟩ : ∃ b o, tto = some ⟨b, o, none⟩ ∧ ∀ i (h : i < turns.length), wr.cell? ⟨b, o + i, none⟩ = some (.int .i64 turns[i]) := by
              rcases HNT.out.below HBE0.out with h | h
              · rw [h] at h2; simp at h2; omega
              · exact h
            have t0 := hc k (by omega)
            clear hc
            go_wp2_with fail
            go_meet
            exact ⟨⟨_, rfl, fun _ => ⟨by omega, by omega⟩⟩, rfl⟩
          · go_wp2_with fail
            go_meet
            exact ⟨⟨_, rfl, fun e => by simp at e⟩, rfl⟩
        · go_wp2_with fail
          go_meet
          exact ⟨⟨_, rfl, fun e => by simp at e⟩, rfl⟩
      case rest =>
        obtain ⟨⟨c, rfl, hc⟩, hw⟩ := hcut
        obtain rfl : wr = wc := hw.symm
        go_upto_if 35 with fail
        go_cut [] (fun wx => Turn (reachBytes + (k + 1)) X u5 u6 ka kb w wx)
        case first =>
          have b0 := HBX0.out.c0
          have b1 := HBX0.out.c1
          have b2 := HBX0.out.c2
          have b3' := HBX0.out.c3
          have b4 := HBX0.out.c4
          have b5 := HBX0.out.c5
          have b6 := HBX0.out.c6
          cases c
          · obtain ⟨sb, o, rfl, hsb, hcells, hfit, hrd⟩ := ops_at (HS.out.below HBE0.out) k hlt
            obtain ⟨y, hy⟩ : ∃ y, y = script[k] := ⟨_, rfl⟩
            rw [← hy] at hcells hfit hrd
            obtain ⟨x, l, vals, es⟩ := y
            simp only at hcells hfit hrd
            have HAL := Lib.hid (alone_any reachBytes x l vals es wr hfit hrd)
            unfold OpX.v at HAL
            obtain ⟨s0, s1, s2, s3, s4, s5, s6⟩ := hcells
            clear hfit hrd hy hc
            go_wp2_with ((with_reducible refine HAL.out.mono ?_); rintro en w2 ⟨⟨x', es', rfl, hxa, hxr, hxe, hxk, hxn, hxt, hxm⟩, hb2⟩; simp only [OpX.v]; have hq1 := HBX0.out.below hb2; have c0 := hq1.c0; have c1 := hq1.c1; have c2 := hq1.c2; have c3 := hq1.c3; have c4 := hq1.c4; have c5 := hq1.c5; have c6 := hq1.c6; have h0 := hq1.f 0 (by omega); have h1 := hq1.f 1 (by omega); have h2 := hq1.f 2 (by omega); have h3 := hq1.f 3 (by omega); have h4 := hq1.f 4 (by omega); have h5 := hq1.f 5 (by omega); have h6 := hq1.f 6 (by omega); have HT := Lib.hid (turn_alone (M' := reachBytes + (k + 1)) HBX0.out HH0.out HBE0.out hwX hb2 hxa (by omega)); clear hxa hxr hxe hxk hxn hxt hxm hb2 hq1)
            go_meet
            exact HT.out
          · obtain ⟨hk0, hkt⟩ := hc rfl
            obtain ⟨tb, o, rfl, hcw⟩ : ∃ b o, tto = some ⟨b, o, none⟩ ∧ ∀ i (h : i < turns.length), w.cell? ⟨b, o + i, none⟩ = some (.int .i64 turns[i]) := by
              rcases HNT.out with h | h
              · rw [h] at hkt; simp at hkt
              · exact h
            have htb : tb < w.heap.size := World.block_lt_of_cell? w _ (hcw k hkt)
            have t0 := (HBE0.out.cell (p := ⟨tb, o + k, none⟩) htb).trans (hcw k hkt)
            have htr := HTI.out turns[k] (List.getElem_mem hkt)
            have htk : (k : Int) < (turns.length : Int) := by omega
            obtain ⟨tk, htke⟩ : ∃ tk, tk = turns[k] := ⟨_, rfl⟩
            rw [← htke] at t0 htr
            have hXwr : X < wr.heap.size := HBX0.out.lt
            have htX : tb ≠ X := by omega
            have hXt : X ≠ tb := by omega
            have HTZ := Lib.hid (show ∀ b, P0 b → X + 1 ≤ b ∧ b < wr.heap.size from fun b hb => ⟨(HH0.out.pa b hb).1, (HH0.out.pa b hb).2.1⟩)
            have HOT := Lib.hid (show ∀ W' : World, Below wr.heap.size wr W' → Calls Tryd.prog 38 #[x0.v, .int .i64 tk] W' fun en w' => ∃ x', en = .returned x'.v ∧ XAt (POr P0 wr.heap.size w'.heap.size) (reachBytes + (k + 1)) w' x' ∧ Wrote P0 (reachBytes + (k + 1)) wr w' from fun W' hW' =>
              (other_any P0 (reachBytes + k) x0 tk W' (fun b hb => Nat.lt_of_lt_of_le (HTZ.out b hb).2 hW'.size) htr.1 htr.2 (HXA0.out.keep (fun b hb => hW'.block b (HTZ.out b hb).2) (fun _ hb => hb)) (by unfold reachBytes; omega)).mono fun en w' ⟨x', h1, h2, h3⟩ => ⟨x', h1, h2.keep (fun _ _ => rfl) (fun b hb => hb.elim Or.inl (fun h => Or.inr ⟨Nat.le_trans hW'.size h.1, h.2⟩)), (Wrote.of_below hW').trans h3⟩)
            unfold OpX.v at HOT
            clear hcw htr htke hc
            go_upto_region 10 with fail
            go_region_with (go_at_call 38; (with_reducible refine (HOT.out _ (by first | exact Below.refl wr.heap.size wr | exact (Below.refl wr.heap.size wr).drew | exact (Below.refl wr.heap.size wr).drew.drew)).mono ?_); rintro en w2 ⟨x', rfl, hxa, hw2⟩; have hq1 := HBX0.out.keep (hw2.far X hXwr (fun hp => by have := (HTZ.out X hp).1; omega)); have t2 := (World.cell?_of_block (a := ⟨tb, o + k, none⟩) (hw2.far tb (by omega) (fun hp => by have := (HTZ.out tb hp).1; omega))).trans t0; have c0 := hq1.c0; have c1 := hq1.c1; have c2 := hq1.c2; have c3 := hq1.c3; have c4 := hq1.c4; have c5 := hq1.c5; have c6 := hq1.c6; have h0 := hq1.f 0 (by omega); have h1 := hq1.f 1 (by omega); have h2 := hq1.f 2 (by omega); have h3 := hq1.f 3 (by omega); have h4 := hq1.f 4 (by omega); have h5 := hq1.f 5 (by omega); have h6 := hq1.f 6 (by omega); have HT := Lib.hid (turn_other HBX0.out HH0.out HBE0.out hwX hw2 hxa); clear hxa hw2 hq1)
            all_goals (
              go_wp2_with fail
              go_meet
              exact HT.out)
        case rest =>
          obtain ⟨x, P, hbx, hxa, hh, hbel⟩ := hcut
          obtain ⟨l, vals, es, hrd⟩ := hxa.reads (by unfold reachBytes maxLen; omega)
          have HRAN := Lib.hid (ran_any _ x l vals es wc (HRES.out.below hbel) hxa.fit hrd)
          have HRD := Lib.hid hrd
          have HFX := Lib.hid hxa.fit
          have HIB := Lib.hid (show InBox (reachBytes + (k + 1)) X P w x wc from ⟨hbx, hxa, hbel⟩)
          have HH := Lib.hid hh
          have HEA := Lib.hid (owns_form hh.ra)
          have b0 := hbx.c0
          have b1 := hbx.c1
          have b2 := hbx.c2
          have b3' := hbx.c3
          have b4 := hbx.c4
          have b5 := hbx.c5
          have b6 := hbx.c6
          clear hrd hbx hxa hh hbel
          unfold OpX.v at HRAN
          obtain ⟨T, hT⟩ : ∃ T, T = ansOf x.kind x.n l ⟨x.ty, x.tm, vals⟩ (xs es) := ⟨_, rfl⟩
          rw [← hT] at HRAN
          have HTT := Lib.hid hT
          clear hT
          go_upto_region 13 with ((with_reducible refine HRAN.out.mono ?_); rintro en w2 ⟨⟨ba, bc, ea, ec, acc, rfl, ht⟩, hb2⟩; have HTA := Lib.hid ht; have HB2 := Lib.hid hb2; simp only [toldV]; clear ht hb2)
          obtain ⟨hq3, hb3, hk3, hz3⟩ := told_box (T := T) (ba := ba) (ea := ea) (bc := bc) (ec := ec) (el := acc.length) HB2.out HB2.out.size
          obtain ⟨A, hA⟩ : ∃ A, A = w2.heap.size := ⟨_, rfl⟩
          obtain ⟨W3, hW3⟩ : ∃ W3, W3 = w2.alloc (Obj.cells #[.slice ba T.b.length bc, .int .i64 T.n, .int .i64 T.k, .slice ea acc.length ec, .int .i64 T.f] 75) := ⟨_, rfl⟩
          rw [← hW3] at hq3 hb3 hk3 hz3
          rw [← hW3, ← hA]
          rw [← hA] at hq3 hk3 hz3
          have HC3 := Lib.hid hq3
          have HB3 := Lib.hid hb3
          have HK3 := Lib.hid hk3
          have HAE := Lib.hid hA
          have HIB3 := Lib.hid (HIB.out.below HH.out.lt hb3)
          have HH3 := Lib.hid (HH.out.below hb3)
          have HMN := Lib.hid (meant_any _ x l vals es W3 HFX.out (HRD.out.below hb3))
          rw [← HTT.out] at HMN
          unfold OpX.v at HMN
          clear hq3 hb3 hk3 hW3 hA b0 b1 b2 b3' b4 b5 b6
          have b0 := HIB3.out.b.c0
          have b1 := HIB3.out.b.c1
          have b2 := HIB3.out.b.c2
          have b3' := HIB3.out.b.c3
          have b4 := HIB3.out.b.c4
          have b5 := HIB3.out.b.c5
          have b6 := HIB3.out.b.c6
          go_upto_region 14 with ((with_reducible refine HMN.out.mono ?_); rintro en w4 ⟨⟨ba2, bc2, ea2, ec2, acc2, rfl, ht⟩, hb4⟩; have HTB := Lib.hid ht; have HB4 := Lib.hid hb4; simp only [toldV]; clear ht hb4)
          obtain ⟨hq5, hb5, hk5, hz5⟩ := told_box (T := T) (ba := ba2) (ea := ea2) (bc := bc2) (ec := ec2) (el := acc2.length) HB4.out HB4.out.size
          obtain ⟨D, hD⟩ : ∃ D, D = w4.heap.size := ⟨_, rfl⟩
          obtain ⟨W5, hW5⟩ : ∃ W5, W5 = w4.alloc (Obj.cells #[.slice ba2 T.b.length bc2, .int .i64 T.n, .int .i64 T.k, .slice ea2 acc2.length ec2, .int .i64 T.f] 75) := ⟨_, rfl⟩
          rw [← hW5] at hq5 hb5 hk5 hz5
          rw [← hW5, ← hD]
          rw [← hD] at hq5 hk5 hz5
          have HC5 := Lib.hid hq5
          have HA5 := Lib.hid (HC3.out.below hb5)
          have HIB5 := Lib.hid (HIB3.out.below HH3.out.lt hb5)
          have HH5 := Lib.hid (HH3.out.below hb5)
          have HYA5 := Lib.hid (show TolAt (Aft (X + 1) P u5 u6 W5) W5 T ba ea acc from HH.out.new HTA.out (fun b _ h2 => (hb5.block b (by have := HAE.out; omega)).trans (HK3.out b (by have := HAE.out; omega))) (by have := hb5.size; have := HAE.out; omega))
          have HYB5 := Lib.hid (show TolAt (Aft (X + 1) P u5 u6 W5) W5 T ba2 ea2 acc2 from HH3.out.new HTB.out (fun b _ h2 => hk5 b (by omega)) (by omega))
          have HAG := Lib.hid (agree_any (Aft (X + 1) P u5 u6 W5) (Aft (X + 1) P u5 u6 W5) T ba ea ba2 ea2 bc ec bc2 ec2 acc acc2 W5 HYA5.out HYB5.out (fun b hb => hb.2.1) (fun b hb => hb.2.1))
          unfold toldV at HAG
          have hAX : X < A := by have := HIB.out.b.lt; have := HB2.out.size; have := HAE.out; omega
          have hAD : A < D := by have := HB4.out.size; omega
          clear hq5 hb5 hk5 hW5 hD b0 b1 b2 b3' b4 b5 b6
          have a0 := HA5.out.c0
          have a1 := HA5.out.c1
          have a2 := HA5.out.c2
          have a3 := HA5.out.c3
          have a4 := HA5.out.c4
          have d0 := HC5.out.c0
          have d1 := HC5.out.c1
          have d2 := HC5.out.c2
          have d3 := HC5.out.c3
          have d4 := HC5.out.c4
          go_upto_if 56 with ((with_reducible refine HAG.out.mono ?_); rintro en w6 ⟨rfl, hb6⟩; have HB6 := Lib.hid hb6; clear hb6)
          have HIB6 := Lib.hid (HIB5.out.below HH5.out.lt HB6.out)
          have HH6 := Lib.hid (HH5.out.below HB6.out)
          have HYA6 := Lib.hid (tol_below HYA5.out HB6.out)
          have HYB6 := Lib.hid (tol_below HYB5.out HB6.out)
          have HA6 := Lib.hid (HA5.out.below HB6.out)
          have HD6 := Lib.hid (HC5.out.below HB6.out)
          have HOU := Lib.hid (show ∀ q, u5.ownBlock = some q ∨ u6.ownBlock = some q → q < A from fun q hq => by
            have h1 := HB2.out.size
            have h2 := HAE.out
            rcases hq with hq | hq
            · have := (HH.out.ra.lt q hq).2; omega
            · have := (HH.out.rb.lt q hq).2; omega)
          have hA6 : A < w6.heap.size := World.block_lt_of_cell? w6 _ HA6.out.c0
          have hD6 : D < w6.heap.size := World.block_lt_of_cell? w6 _ HD6.out.c0
          clear a0 a1 a2 a3 a4 d0 d1 d2 d3 d4
          by_cases hz : z ≤ 33554432
          · have a0 := HA6.out.c0
            have a1 := HA6.out.c1
            have a2 := HA6.out.c2
            have a3 := HA6.out.c3
            have a4 := HA6.out.c4
            have HOA := Lib.hid HH6.out.ra
            go_upto_region 18 with (at_builtin; go_must (refine wpList_append_lies _ (by rfl) _ _ _ (by rfl) (X + 1) 75 i0 _ 5 72 Tryd.underlying69 hi0 hz0 hz1 hz2 rfl (by omega) u5 ka.length (kCells ka) (by rfl) (HOA.out.alloc _) ⟨_, 0, none⟩ 1 1 (KX.cells ⟨T, ba, bc, ea, ec, acc⟩) (by rfl) (by rfl) (World.news_of_block (cs := #[.slice ba T.b.length bc, .int .i64 T.n, .int .i64 T.k, .slice ea acc.length ec, .int .i64 T.f]) (t := 75) (fr := (0, 0)) (heap_alloc_new _ _)) (by simp [KX.cells, Value.oneCell']) (by omega) (by unfold maxLen; omega) (by omega) (by simp; omega) _ rfl ?_; intro g9 c9 w9 hown9 hgrow9 hat9 hlt9; have HO9 := Lib.hid hown9; have HG9 := Lib.hid hgrow9; have HT9 := Lib.hid hat9; clear hown9 hgrow9 hat9 hlt9))
            have hbo : Below w6.heap.size w6 (w6.alloc (Obj.cells #[.slice ba T.b.length bc, .int .i64 T.n, .int .i64 T.k, .slice ea acc.length ec, .int .i64 T.f] 75)) := (Below.refl _ _).alloc (Nat.le_refl _) _
            have HH9 := Lib.hid ((HH6.out.below hbo).putA (y := ⟨T, ba, bc, ea, ec, acc⟩) (tol_below HYA6.out hbo) rfl HO9.out HG9.out HT9.out)
            have HYB9 := Lib.hid (tol_grown (n := ka.length + 1) (c := c9) (tol_below HYB6.out hbo) HG9.out HT9.out)
            have HIB9 := Lib.hid ((HIB6.out.below HH6.out.lt hbo).grownA (HH6.out.below hbo) hwX HG9.out)
            have HA9 := Lib.hid ((HA6.out.below hbo).keep (HG9.out.block A (by simp; omega) (fun e => by have := HOU.out A (Or.inl e.symm); omega)))
            have HD9 := Lib.hid ((HD6.out.below hbo).keep (HG9.out.block D (by simp; omega) (fun e => by have := HOU.out D (Or.inl e.symm); omega)))
            have hA9 : A < w9.heap.size := World.block_lt_of_cell? w9 _ HA9.out.c0
            clear a0 a1 a2 a3 a4 hbo
            have d0 := HD9.out.c0
            have d1 := HD9.out.c1
            have d2 := HD9.out.c2
            have d3 := HD9.out.c3
            have d4 := HD9.out.c4
            have HOB := Lib.hid HH9.out.rb
            have hkb : kb.length = ka.length := by have := congrArg List.length HEQ.out; simpa using this.symm
            go_upto_region 19 with (at_builtin; go_must (refine wpList_append_lies _ (by rfl) _ _ _ (by rfl) (X + 1) 75 i0 _ 5 72 Tryd.underlying69 hi0 hz0 hz1 hz2 rfl (by omega) u6 kb.length (kCells kb) (by rfl) (HOB.out.alloc _) ⟨_, 0, none⟩ 1 1 (KX.cells ⟨T, ba2, bc2, ea2, ec2, acc2⟩) (by rfl) (by rfl) (World.news_of_block (cs := #[.slice ba2 T.b.length bc2, .int .i64 T.n, .int .i64 T.k, .slice ea2 acc2.length ec2, .int .i64 T.f]) (t := 75) (fr := (0, 0)) (heap_alloc_new _ _)) (by simp [KX.cells, Value.oneCell']) (by omega) (by unfold maxLen; omega) (by omega) (by simp; omega) _ rfl ?_; intro g8 c8 w8 hown8 hgrow8 hat8 hlt8; have HO8 := Lib.hid hown8; have HG8 := Lib.hid hgrow8; have HT8 := Lib.hid hat8; clear hown8 hgrow8 hat8 hlt8))
            have hbo : Below w9.heap.size w9 (w9.alloc (Obj.cells #[.slice ba2 T.b.length bc2, .int .i64 T.n, .int .i64 T.k, .slice ea2 acc2.length ec2, .int .i64 T.f] 75)) := (Below.refl _ _).alloc (Nat.le_refl _) _
            have HH8 := Lib.hid ((HH9.out.below hbo).putB (y := ⟨T, ba2, bc2, ea2, ec2, acc2⟩) (tol_below HYB9.out hbo) rfl HO8.out HG8.out HT8.out)
            have HIB8 := Lib.hid ((HIB9.out.below HH9.out.lt hbo).grownA (HH9.out.below hbo).swap hwX HG8.out)
            have HA8 := Lib.hid ((HA9.out.below hbo).keep (HG8.out.block A (by simp; omega) (fun e => by have := HOU.out A (Or.inr e.symm); omega)))
            have HWT := Lib.hid (weight_any (Aft (X + 1) P (.slice (some ⟨g9, 0, none⟩) (ka.length + 1) c9) (.slice (some ⟨g8, 0, none⟩) (kb.length + 1) c8) w8) T ba ea bc ec acc w8 (HH8.out.ta ⟨T, ba, bc, ea, ec, acc⟩ (by simp)) (fun b hb => hb.2.1))
            unfold toldV at HWT
            clear d0 d1 d2 d3 d4 hbo
            have a0 := HA8.out.c0
            have a1 := HA8.out.c1
            have a2 := HA8.out.c2
            have a3 := HA8.out.c3
            have a4 := HA8.out.c4
            go_wp2_with ((with_reducible refine HWT.out.mono ?_); rintro en w7 ⟨⟨z7, rfl⟩, hb7⟩; have HB7 := Lib.hid hb7; clear hb7)
            go_roundg (script.length - (k + 1))
            case measure => omega
            case rel =>
              refine ⟨k + 1, ka ++ [⟨T, ba, bc, ea, ec, acc⟩], kb ++ [⟨T, ba2, bc2, ea2, ec2, acc2⟩], _, by omega, rfl, by go_num, rfl, by simp; omega, by simp [HEQ.out], x, P, ?_⟩
              have h7 := HIB8.out.below HH8.out.lt HB7.out
              have h8 := HH8.out.below HB7.out
              rw [hkb] at h8
              exact ⟨h7.b, h7.x, h8, h7.l⟩
          · go_wp2_with fail
            go_roundg (script.length - (k + 1))
            case measure => omega
            case rel => exact ⟨k + 1, ka, kb, z, by omega, rfl, by go_num, rfl, by omega, HEQ.out, x, P, HIB6.out.b, HIB6.out.x, HH6.out, HIB6.out.l⟩
    · have k1 : ¬ (k : Int) < (script.length : Int) := by omega
      have hkb : kb.length = ka.length := by have := congrArg List.length HEQ.out; simpa using this.symm
      have hkal : ka.length ≤ 1256584717442 := by omega
      obtain ⟨wA, hwA⟩ : ∃ wA, wA = wr := ⟨_, rfl⟩
      subst hwA
      obtain ⟨ao, ca, rfl⟩ := owns_form HH0.out.ra
      obtain ⟨bo, cb, rfl⟩ := owns_form HH0.out.rb
      rw [hkb] at HH0 ⊢
      clear HBX0 HXA0
      go_wp2_with fail
      go_loopg [12] ka.length (fun g i wr2 => ∃ j : Nat, j ≤ ka.length ∧ g = ka.length - j ∧ i = .int .i64 j ∧ Below wA.heap.size wA wr2)
      case atStart => exact ⟨0, Nat.zero_le _, rfl, rfl, Below.refl _ _⟩
      case round =>
        obtain ⟨j, hj, rfl, rfl, hbj⟩ := hrel
        have HBJ := Lib.hid hbj
        have HHJ := Lib.hid (HH0.out.below hbj)
        have j0 : (0 : Int) ≤ (j : Int) := by omega
        have hjr : j + 1 ≤ 9223372036854775807 := by omega
        clear hbj
        by_cases hjl : j < ka.length
        · have j1 : (j : Int) < (ka.length : Int) := by omega
          go_upto_region 23 with fail
          have hjb : j < kb.length := by omega
          have hra := HHJ.out.ra
          have hrb := HHJ.out.rb
          obtain ⟨g5, c5, e5, hg5, a0, a1, a2, a3, a4⟩ := kRow_cells hra j hjl
          obtain ⟨g6, c6, e6, hg6, d0, d1, d2, d3, d4⟩ := kRow_cells hrb j hjb
          injection e5 with e5 l5 q5
          injection e6 with e6 l6 q6
          clear l5 q5 l6 q6
          subst e5 e6
          have hT : kb[j].T = ka[j].T := by
            have := congrArg (fun l : List TC => l[j]?) HEQ.out
            simp only [List.getElem?_map, List.getElem?_eq_getElem hjl, List.getElem?_eq_getElem hjb, Option.map_some, Option.some.injEq] at this
            exact this.symm
          have hma := List.getElem_mem hjl
          have hmb := List.getElem_mem hjb
          obtain ⟨ya, hya⟩ : ∃ ya, ya = ka[j] := ⟨_, rfl⟩
          obtain ⟨yb, hyb⟩ : ∃ yb, yb = kb[j] := ⟨_, rfl⟩
          rw [← hya] at a0 a1 a2 a3 a4 hT hma
          rw [← hyb] at d0 d1 d2 d3 d4 hT hmb
          rw [hT] at d0 d1 d2 d4
          have HAG := Lib.hid (show ∀ W' : World, Below wr.heap.size wr W' → Calls Tryd.prog 42 #[toldV ya.ba ya.T.b.length ya.bc ya.T.n ya.T.k ya.ea ya.acc.length ya.ec ya.T.f, toldV yb.ba ya.T.b.length yb.bc ya.T.n ya.T.k yb.ea yb.acc.length yb.ec ya.T.f] W' fun en w' => en = .returned (.bool true) ∧ Below wr.heap.size wr w' from fun W' hW' =>
            (agree_any _ _ ya.T ya.ba ya.ea yb.ba yb.ea ya.bc ya.ec yb.bc yb.ec ya.acc yb.acc W' ((HHJ.out.below hW').ta ya hma) (by have := (HHJ.out.below hW').tb yb hmb; rw [hT] at this; exact this) (fun b hb => by exact hb.2.1) (fun b hb => by exact hb.2.1)).mono fun en w' ⟨h1, h2⟩ => ⟨h1, hW'.trans (h2.mono hW'.size)⟩)
          unfold toldV at HAG
          clear hra hrb hma hmb hT hya hyb
          go_region_held3 (fun w' => (w'.cell? ⟨g5, j * 5, none⟩ = some (.slice ya.ba ya.T.b.length ya.bc) ∧ w'.cell? ⟨g5, j * 5 + 1, none⟩ = some (.int .i64 ya.T.n) ∧ w'.cell? ⟨g5, j * 5 + 2, none⟩ = some (.int .i64 ya.T.k) ∧ w'.cell? ⟨g5, j * 5 + 3, none⟩ = some (.slice ya.ea ya.acc.length ya.ec) ∧ w'.cell? ⟨g5, j * 5 + 4, none⟩ = some (.int .i64 ya.T.f)) ∧ (w'.cell? ⟨g6, j * 5, none⟩ = some (.slice yb.ba ya.T.b.length yb.bc) ∧ w'.cell? ⟨g6, j * 5 + 1, none⟩ = some (.int .i64 ya.T.n) ∧ w'.cell? ⟨g6, j * 5 + 2, none⟩ = some (.int .i64 ya.T.k) ∧ w'.cell? ⟨g6, j * 5 + 3, none⟩ = some (.slice yb.ea yb.acc.length yb.ec) ∧ w'.cell? ⟨g6, j * 5 + 4, none⟩ = some (.int .i64 ya.T.f))) (first | (with_reducible exact hS6) | go_keep) ((go_at_call 42; (with_reducible refine (HAG.out _ (by first | exact Below.refl wr.heap.size wr | exact (Below.refl wr.heap.size wr).drew | exact (Below.refl wr.heap.size wr).drew.drew)).mono ?_); rintro en w6 ⟨rfl, hb6⟩; have hS6 := And.intro (And.intro ((hb6.cell (p := ⟨g5, j * 5, none⟩) hg5).trans a0) (And.intro ((hb6.cell (p := ⟨g5, j * 5 + 1, none⟩) hg5).trans a1) (And.intro ((hb6.cell (p := ⟨g5, j * 5 + 2, none⟩) hg5).trans a2) (And.intro ((hb6.cell (p := ⟨g5, j * 5 + 3, none⟩) hg5).trans a3) ((hb6.cell (p := ⟨g5, j * 5 + 4, none⟩) hg5).trans a4))))) (And.intro ((hb6.cell (p := ⟨g6, j * 5, none⟩) hg6).trans d0) (And.intro ((hb6.cell (p := ⟨g6, j * 5 + 1, none⟩) hg6).trans d1) (And.intro ((hb6.cell (p := ⟨g6, j * 5 + 2, none⟩) hg6).trans d2) (And.intro ((hb6.cell (p := ⟨g6, j * 5 + 3, none⟩) hg6).trans d3) ((hb6.cell (p := ⟨g6, j * 5 + 4, none⟩) hg6).trans d4))))); have HB6 := Lib.hid hb6; clear hb6))
          all_goals (
            go_wp2_with fail
            go_roundg (ka.length - (j + 1))
            case measure => omega
            case rel => exact ⟨j + 1, by omega, rfl, by go_num, HBJ.out.trans (HB6.out.mono HBJ.out.size)⟩)
        · have j1 : ¬ (j : Int) < (ka.length : Int) := by omega
          go_wp2_with fail
          go_ret
          exact ⟨rfl, HBE0.out.trans (HBJ.out.mono HBE0.out.size)⟩
end Go.Proofs.YtekaimfabadclaaDoor
/- Turns that came in. -/
namespace Go.Proofs.YtekaimfabadclaaDoor
open Go Go.ChangeShapes Go.WideShapes Go.ChangeAt Go.RowKit

section
variable {H : Type} {enc : TypeId × Value → H} {W : World} {base : Nat} {spare : Nat → Bool} {held : Bool}
set_option maxRecDepth 100000 in
theorem turns_trod {fuel : Nat} {cs : List Value} {x : DataW H × List MemPlace} (h : DataW.trod enc Tryd.prog W base spare held fuel 68 cs = some x) :
    ∃ (l : List Int) (ao : Option Addr) (cap : Nat), cs = [.slice ao l.length cap] ∧ NumsAt W ao l ∧ l.length ≤ maxLen ∧ ∀ n ∈ l, -9223372036854775808 ≤ n ∧ n ≤ 9223372036854775807 := by
  rcases DataW.trod_slice Tryd.underlying68 h with ⟨h0, _⟩ | ⟨a, len, cap, elems, rest, n, _, rfl, rfl, hb, hl, hm, hlen, hel, _, _⟩
  · exact ⟨[], none, 0, h0, Or.inl rfl, by simp, by simp⟩
  · have each : ∀ i, i < len → ∃ v : Int, (-9223372036854775808 ≤ v ∧ v ≤ 9223372036854775807) ∧ W.cell? (a.add i) = some (.int .i64 v) := by
      intro i hi
      have h1 := hel i hi
      rw [List.getElem?_eq_getElem (by omega), cellsI, Nat.mul_one] at h1
      cases hc : W.cells? base (a.add i) 1 with
      | none => rw [hc] at h1; cases h1
      | some c =>
        rw [hc] at h1
        obtain ⟨z, e0, _, wz⟩ := DataW.trod_int Tryd.underlying3 h1
        subst e0
        exact ⟨z, bounds_i64 wz, cell_of_cells?_one hc⟩
    obtain ⟨f, hf⟩ : ∃ f : Nat → Int, ∀ i, i < len → (-9223372036854775808 ≤ f i ∧ f i ≤ 9223372036854775807) ∧ W.cell? (a.add i) = some (.int .i64 (f i)) :=
      ⟨fun i => if h : i < len then (each i h).choose else 0, fun i hi => by simp only [hi, dif_pos]; exact (each i hi).choose_spec⟩
    have hll : ((List.range len).map f).length = len := by simp
    refine ⟨(List.range len).map f, some a, cap, by rw [hll], ?_, by rw [hll]; omega, ?_⟩
    · rcases Nat.eq_zero_or_pos len with h0 | h0
      · subst h0
        exact Or.inl rfl
      · have hs := spot_none (hf 0 h0).2
        obtain ⟨b, o, sp⟩ := a
        simp only at hs
        subst hs
        refine Or.inr ⟨b, o, rfl, fun i hi => ?_⟩
        have h3 := (hf i (by simpa using hi)).2
        rw [add_none] at h3
        simpa using h3
    · intro v hv
      obtain ⟨i, hi, rfl⟩ := List.mem_map.1 hv
      exact (hf i (by simpa using hi)).1
end
end Go.Proofs.YtekaimfabadclaaDoor
