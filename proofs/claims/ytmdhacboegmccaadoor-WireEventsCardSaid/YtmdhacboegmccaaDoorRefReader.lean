/- The document's own reader: fault, one, number. -/
import Derived.Test.YtmdhacboegmccaaDoorRefEncode
import Derived.Test.YtmdhacboegmccaaDoorRValue
namespace Go.Proofs.YtmdhacboegmccaaDoor
open Go Go.RowKit

/-- The document's reader in memory: its bytes l, how far they are read, the first fault; r: what is left, if there is no fault. -/
structure RfAt (w : World) (rb B : Nat) (l : List UInt8) (r : Rd) : Prop where
  ex : ∃ ao cap, ∃ p : Nat, w.cell? ⟨rb, 0, none⟩ = some (.slice ao l.length cap) ∧ w.cell? ⟨rb, 1, none⟩ = some (.int .i64 p) ∧ l.length ≤ cap ∧ cap ≤ maxLen ∧ p ≤ l.length ∧ BytesOff rb B w ao l ∧ (r.fault = 0 → r.rest = l.drop p) ∧ (r.fault ≠ 0 → r.rest = [])
  c2 : w.cell? ⟨rb, 2, none⟩ = some (.int .i64 r.fault)
  f1 : w.frozen? ⟨rb, 1, none⟩ = false
  f2 : w.frozen? ⟨rb, 2, none⟩ = false
theorem RfAt.lt {w : World} {rb B : Nat} {l : List UInt8} {r : Rd} (h : RfAt w rb B l r) : rb < w.heap.size := World.block_lt_of_cell? w _ h.c2
structure RfTo (rb B : Nat) (l : List UInt8) (w w' : World) (r' : Rd) : Prop where
  grown : w.grownBy w' (some rb)
  at' : RfAt w' rb B l r'
theorem RfTo.trans {rb B : Nat} {l : List UInt8} {w w' w'' : World} {r' r'' : Rd} (h : RfTo rb B l w w' r') (k : RfTo rb B l w' w'' r'') : RfTo rb B l w w'' r'' := ⟨grownBy_trans h.grown k.grown (Or.inl rfl), k.at'⟩
theorem RfAt.below {w w' : World} {rb B : Nat} {l : List UInt8} {r : Rd} (h : RfAt w rb B l r) (hb : Below w.heap.size w w') : RfAt w' rb B l r := by
  obtain ⟨ao, cap, p, c0, c1, h1, h2, h3, h4, h5, h6⟩ := h.ex
  have hl := h.lt
  exact ⟨⟨ao, cap, p, (hb.cell (p := ⟨rb, 0, none⟩) hl).trans c0, (hb.cell (p := ⟨rb, 1, none⟩) hl).trans c1, h1, h2, h3, h4.keep (grownBy_of_below hb _), h5, h6⟩, (hb.cell (p := ⟨rb, 2, none⟩) hl).trans h.c2, (hb.frozen (p := ⟨rb, 1, none⟩) hl).trans h.f1, (hb.frozen (p := ⟨rb, 2, none⟩) hl).trans h.f2⟩
theorem RfTo.below {rb B : Nat} {l : List UInt8} {w w' w'' : World} {r' : Rd} (h : RfTo rb B l w w' r') (hb : Below w'.heap.size w' w'') : RfTo rb B l w w'' r' := ⟨grownBy_trans h.grown (grownBy_of_below hb (some rb)) (Or.inl rfl), h.at'.below hb⟩
theorem RfTo.refl {rb B : Nat} {l : List UInt8} {w : World} {r : Rd} (h : RfAt w rb B l r) : RfTo rb B l w w r := ⟨grownBy_refl _ _, h⟩
theorem RfTo.pre {rb B : Nat} {l : List UInt8} {w w1 w' : World} {r : Rd} (hb : Below w.heap.size w w1) (h : RfTo rb B l w1 w' r) : RfTo rb B l w w' r := ⟨grownBy_trans (grownBy_of_below hb (some rb)) h.grown (Or.inl rfl), h.at'⟩
/-- The first fault is told. -/
theorem RfAt.setFault {w : World} {rb B : Nat} {l : List UInt8} {r : Rd} (h : RfAt w rb B l r) (f : Int) (hf : f ≠ 0) : RfTo rb B l w (w.setCell ⟨rb, 2, none⟩ (.int .i64 f)) ⟨[], f⟩ := by
  obtain ⟨ao, cap, p, c0, c1, h1, h2, h3, h4, _, _⟩ := h.ex
  have hg := grown_set w rb 2 (.int .i64 f)
  exact ⟨hg, ⟨⟨ao, cap, p, (World.cell?_setCell_other _ _ _ _ (by intro e; cases e)).trans c0, (World.cell?_setCell_other _ _ _ _ (by intro e; cases e)).trans c1, h1, h2, h3, h4.keep hg, fun e => absurd e hf, fun _ => rfl⟩, World.cell?_setCell_same _ _ _ h.c2, (World.frozen?_setCell _ _ _ _).trans h.f1, (World.frozen?_setCell _ _ _ _).trans h.f2⟩⟩
/-- It is read on. -/
theorem RfAt.setAt {w : World} {rb B : Nat} {l : List UInt8} {r : Rd} (h : RfAt w rb B l r) (p : Nat) (hp : p ≤ l.length) (h0 : r.fault = 0) (z : Int) (hz : z = (p : Int)) : RfTo rb B l w (w.setCell ⟨rb, 1, none⟩ (.int .i64 z)) ⟨l.drop p, 0⟩ := by
  subst hz
  obtain ⟨ao, cap, q, c0, c1, h1, h2, h3, h4, _, _⟩ := h.ex
  have hg := grown_set w rb 1 (.int .i64 (p : Int))
  have c2 := h.c2
  rw [h0] at c2
  exact ⟨hg, ⟨⟨ao, cap, p, (World.cell?_setCell_other _ _ _ _ (by intro e; cases e)).trans c0, World.cell?_setCell_same _ _ _ c1, h1, h2, hp, h4.keep hg, fun _ => rfl, fun e => absurd rfl e⟩, (World.cell?_setCell_other _ _ _ _ (by intro e; cases e)).trans c2, (World.frozen?_setCell _ _ _ _).trans h.f1, (World.frozen?_setCell _ _ _ _).trans h.f2⟩⟩

set_option maxRecDepth 100000 in
theorem refFault_any (rb B : Nat) (l : List UInt8) (r : Rd) (f : Int) (hf : f ≠ 0) (w : World) (hr : RfAt w rb B l r) :
    Calls Tryd.prog 58 #[.pointer (some ⟨rb, 0, none⟩), .int .i64 f] w fun en w' => en = .returned (.tuple #[]) ∧ RfTo rb B l w w' (r.refuse f) := by
  have c2 := hr.c2
  have f2 := hr.f2
  have HR := Lib.hid hr
  have HF := Lib.hid hf
  clear hr hf
  cases h : (r.fault == 0)
  · have HE := Lib.hid (show r.refuse f = r by unfold Rd.refuse; rw [if_neg (by simpa using h)])
    go_enter Tryd.func58, Tryd.ntmps58
    go_wp2_with fail
    exact bodyPost_end (v := .tuple #[]) (by simp [results, Tryd.results58, go_sem]) rfl ⟨rfl, by rw [HE.out]; exact RfTo.refl HR.out⟩
  · have HE := Lib.hid (show r.refuse f = ⟨[], f⟩ by unfold Rd.refuse; rw [if_pos (by simpa using h)])
    go_enter Tryd.func58, Tryd.ntmps58
    go_wp2_with fail
    exact bodyPost_end (v := .tuple #[]) (by simp [results, Tryd.results58, go_sem]) rfl ⟨rfl, by rw [HE.out]; exact HR.out.setFault f HF.out⟩

/-- A byte, whatever it is. -/
def oneU (r : Rd) : Nat × Rd :=
  match r.rest with
  | [] => (0, r.refuse 30)
  | x :: t => (x.toNat, ⟨t, r.fault⟩)
theorem refuse_self {r : Rd} (f : Int) (h : r.fault ≠ 0) : r.refuse f = r := by unfold Rd.refuse; rw [if_neg h]

set_option maxHeartbeats 4000000 in
set_option maxRecDepth 100000 in
theorem refOne_any (rb B : Nat) (l : List UInt8) (r : Rd) (w : World) (hr : RfAt w rb B l r) :
    Calls Tryd.prog 84 #[.pointer (some ⟨rb, 0, none⟩)] w fun en w' => en = .returned (.int .u8 ((oneU r).1 : Nat)) ∧ RfTo rb B l w w' (oneU r).2 := by
  have c2 := hr.c2
  have HR := Lib.hid hr
  obtain ⟨ao, cap, p, c0, c1, h1, h2, h3, h4, h5, h6⟩ := hr.ex
  have f1 := hr.f1
  unfold maxLen at h2
  clear hr
  cases h : (r.fault == 0)
  · have h0 : r.fault ≠ 0 := by simpa using h
    have HE := Lib.hid (show oneU r = (0, r) by unfold oneU; rw [h6 h0]; simp only; rw [refuse_self 30 h0])
    have hn : (r.fault != 0) = true := by simpa using h0
    clear h5 h6 h4 h0
    go_enter Tryd.func84, Tryd.ntmps84
    go_wp2_with fail
    go_ret
    exact ⟨by rw [HE.out]; rfl, by rw [HE.out]; exact RfTo.refl HR.out⟩
  · have h0 : r.fault = 0 := by simpa using h
    have hn : (r.fault != 0) = false := by simpa using h0
    have HF := Lib.hid h0
    have HO := Lib.hid (h5 h0)
    have HB := Lib.hid h4
    clear h5 h6 h4 h0 h
    by_cases hp : p = l.length
    · have HE := Lib.hid (show oneU r = (0, r.refuse 30) by unfold oneU; rw [HO.out, hp, List.drop_length])
      subst hp
      go_enter Tryd.func84, Tryd.ntmps84
      go_wp2_with fail
      go_quiet (fail)
      go_wp2_with fail
      (with_reducible refine (refFault_any rb B l r 30 (by decide) _ (HR.out.below (below_drewN (Below.refl _ _) _))).mono ?_); rintro en w2 ⟨rfl, hto⟩
      go_wp2_with fail
      go_ret
      exact ⟨by rw [HE.out]; rfl, by rw [HE.out]; exact RfTo.pre (below_drewN (Below.refl _ _) _) hto⟩
    · have hlt : p < l.length := by omega
      have hpe : ((p : Int) == (l.length : Int)) = false := by rw [beq_eq_false_iff_ne]; omega
      obtain ⟨b, o, rfl, hbr, hbl, hc⟩ : ∃ b o, ao = some ⟨b, o, none⟩ ∧ b ≠ rb ∧ b < B ∧ ∀ i (h : i < l.length), w.cell? ⟨b, o + i, none⟩ = some (.int .u8 (l[i].toNat : Int)) := by
        rcases HB.out with h | h
        · rw [h] at hlt; simp at hlt
        · exact h
      have hcp := hc p hlt
      have HE := Lib.hid (show oneU r = (l[p].toNat, ⟨l.drop (p + 1), 0⟩) by unfold oneU; rw [HO.out, List.drop_eq_getElem_cons hlt]; simp only; rw [HF.out])
      obtain ⟨x, hx⟩ : ∃ x, x = l[p] := ⟨_, rfl⟩
      rw [← hx] at hcp HE
      have k0 : (0 : Int) ≤ (p : Int) := by omega
      have k1 : (p : Int) < (l.length : Int) := by omega
      have e1 : IntKind.i64.wrap ((p : Int) + 1) = (p : Int) + 1 := IntWalk.i64_in _ (by omega)
      clear hx hc hp
      go_enter Tryd.func84, Tryd.ntmps84
      go_wp2_with fail
      go_quiet (fail)
      go_upto_region 7 with fail
      have HTO := Lib.hid (RfTo.pre (below_drewN (Below.refl w.heap.size w) nq) ((HR.out.below (below_drewN (Below.refl _ _) nq)).setAt (p + 1) (by omega) HF.out ((p : Int) + 1) (by omega)))
      obtain ⟨W1, hW1⟩ : ∃ W1, W1 = (w.drewN nq).setCell ⟨rb, 1, none⟩ (.int .i64 ((p : Int) + 1)) := ⟨_, rfl⟩
      rw [← hW1] at HTO ⊢
      have c0' : W1.cell? ⟨rb, 0, none⟩ = some (.slice (some ⟨b, o, none⟩) l.length cap) := by rw [hW1, World.cell?_setCell_other _ _ _ _ (by intro e; cases e)]; exact c0
      have c1' : W1.cell? ⟨rb, 1, none⟩ = some (.int .i64 ((p : Int) + 1)) := by rw [hW1]; exact World.cell?_setCell_same _ _ _ c1
      have cp' : W1.cell? ⟨b, o + p, none⟩ = some (.int .u8 (x.toNat : Int)) := by rw [hW1, World.cell?_setCell_other _ _ _ _ (by intro e; have := congrArg Addr.block e; simp only at this; omega)]; exact hcp
      have e2 : IntKind.i64.wrap ((p : Int) + 1 - 1) = (p : Int) := by rw [IntWalk.i64_in _ (by omega)]; omega
      have hx8 := x.toNat_lt
      clear hW1 c0 c1 c2 hcp f1 e1
      go_quiet (fail)
      go_wp2_with fail
      go_ret
      exact ⟨by rw [HE.out]; rfl, by rw [HE.out]; exact HTO.out.below (below_drewN (Below.refl _ _) _)⟩
theorem number_ill {lo hi : Int} {r : Rd} (h : r.fault ≠ 0) (h2 : r.rest = []) : numberR lo hi r = (0, r) := by
  rw [numberR_int, h2, if_neg (by decide), refuse_self _ h]
/-- 's[p:]' of bytes that lie somewhere. -/
theorem cut_from (ao : Option Addr) (L cap p : Nat) (hp : p ≤ L) : ∀ W, (Instr.slice 25 (.slice ao L cap) (some (.int .i64 (p : Int))) none none).run Tryd.prog W = .ok (.slice (if cap = p then ao else ao.map (·.add p)) (L - p) (cap - p)) W := by
  intro W
  have hu : Tryd.prog.underlying 25 = some (.slice (Tryd.prog.elem 25)) := by kernel_rfl
  have he : Tryd.prog.elem 25 = 5 := by kernel_rfl
  rw [run_slice_l W 25 ao L cap hu .i64 (p : Int) (by omega) (by omega), he, Tryd.sizeOf5]
  simp only [Result.andThen, sliced, Int.toNat_natCast, Nat.mul_one]
theorem BytesOff.from {rb B : Nat} {w : World} {ao : Option Addr} {l : List UInt8} {cap : Nat} (h : BytesOff rb B w ao l) (p : Nat) (hp : p ≤ l.length) (hc : l.length ≤ cap) : BytesOff rb B w (if cap = p then ao else ao.map (·.add p)) (l.drop p) := by
  by_cases e : cap = p
  · exact Or.inl (List.drop_of_length_le (by omega))
  · rw [if_neg e]
    rcases h with h | ⟨b, o, rfl, h⟩
    · exact Or.inl (by rw [h]; simp)
    · have h2 := BytesOff.drop p (Or.inr ⟨b, o, rfl, h⟩ : BytesOff rb B w (some ⟨b, o, none⟩) l)
      have e2 : (some (⟨b, o, none⟩ : Addr)).map (·.add p) = some ⟨b, o + p, none⟩ := by simp [Addr.add]
      rw [e2]
      exact h2

set_option maxHeartbeats 4000000 in
set_option maxRecDepth 100000 in
theorem refNumber_any (rb B : Nat) (l : List UInt8) (r : Rd) (lo hi : Int) (w : World) (hr : RfAt w rb B l r) :
    Calls Tryd.prog 59 #[.pointer (some ⟨rb, 0, none⟩), .int .i64 lo, .int .i64 hi] w fun en w' => en = .returned (.int .i64 (numberR lo hi r).1) ∧ RfTo rb B l w w' (numberR lo hi r).2 := by
  have c2 := hr.c2
  have HR := Lib.hid hr
  have HN := Lib.hid (numberR_int lo hi r)
  obtain ⟨ao, cap, p, c0, c1, h1, h2, h3, h4, h5, h6⟩ := hr.ex
  have f1 := hr.f1
  clear hr
  cases h : (r.fault == 0)
  · have h0 : r.fault ≠ 0 := by simpa using h
    have HE := Lib.hid (show numberR lo hi r = (0, r) from number_ill h0 (h6 h0))
    have hn : (r.fault != 0) = true := by simpa using h0
    clear h5 h6 h4 h0
    go_enter Tryd.func59, Tryd.ntmps59
    go_wp2_with fail
    go_ret
    exact ⟨by rw [HE.out]; rfl, by rw [HE.out]; exact RfTo.refl HR.out⟩
  have h0 : r.fault = 0 := by simpa using h
  have hn : (r.fault != 0) = false := by simpa using h0
  have HF := Lib.hid h0
  have hdl : (l.drop p).length = l.length - p := List.length_drop
  have hsl := cut_from ao l.length cap p h3
  have HOF := Lib.hid (h4.from p h3 h1)
  obtain ⟨ao', hao⟩ : ∃ ao', ao' = (if cap = p then ao else ao.map (·.add p)) := ⟨_, rfl⟩
  rw [← hao] at hsl HOF
  have HINT := Lib.hid (fun (W : World) (hb : Below w.heap.size w W) => refInt_any (l.drop p) ao' (cap - p) W ((HOF.out.keep (grownBy_of_below hb _)).at') (by omega) (by omega))
  rw [h5 h0] at HN
  have HI := Lib.hid (intB_ok (l.drop p))
  rw [hdl] at HINT HI
  obtain ⟨⟨v, n, f⟩, hv⟩ : ∃ x, x = intB (l.drop p) := ⟨_, rfl⟩
  rw [← hv] at HN HI HINT
  simp only at HN HI HINT
  have HV := Lib.hid hv
  unfold maxLen at h2
  have k0 : (0 : Int) ≤ (p : Int) := by omega
  have k1 : (p : Int) ≤ (l.length : Int) := by omega
  clear hao hdl h5 h6 h4 h0 h hv
  go_enter Tryd.func59, Tryd.ntmps59
  go_wp2_with fail
  go_region_held3 (fun w' => w'.cell? ⟨rb, 0, none⟩ = some (.slice ao l.length cap) ∧ w'.cell? ⟨rb, 1, none⟩ = some (.int .i64 p))
    (first
      | go_keep
      | exact ⟨c0', c1'⟩)
    ((first
      | (go_at_call 25; (with_reducible refine (HINT.out _ (Below.refl w.heap.size w).drew).mono ?_); rintro en w4 ⟨rfl, hb4⟩; have hbD := (Below.refl w.heap.size w).drew.trans hb4; have c0' := (hbD.cell (p := ⟨rb, 0, none⟩) HR.out.lt).trans c0; have c1' := (hbD.cell (p := ⟨rb, 1, none⟩) HR.out.lt).trans c1)))
  have HB := Lib.hid hbD
  have HR4 := Lib.hid (HR.out.below hbD)
  have f1' := HR4.out.f1
  clear hbD hb4 hsl c0 c1 c2 f1 HINT HOF
  cases hf : (f == 0)
  · have hf0 : f ≠ 0 := by simpa using hf
    have HE := Lib.hid (show numberR lo hi r = (0, r.refuse f) by rw [HN.out, if_neg hf0])
    have hf2 : (f != 0) = true := by simp [bne, hf]
    have HFF := Lib.hid (refFault_any rb B l r f hf0 w4 HR4.out)
    clear hf0
    go_wp2_with fail
    (with_reducible refine HFF.out.mono ?_); rintro en w5 ⟨rfl, hto⟩
    go_wp2_with fail
    go_ret
    exact ⟨by rw [HE.out]; rfl, by rw [HE.out]; exact RfTo.pre HB.out hto⟩
  have hf0 : f = 0 := by simpa using hf
  have hf2 : (f != 0) = false := by simp [bne, hf]
  obtain ⟨g1, g2, g3, g4⟩ := HI.out hf0
  have hpn : p + n ≤ l.length := by omega
  have e1 : IntKind.i64.wrap ((p : Int) + (n : Int)) = (p : Int) + (n : Int) := IntWalk.i64_in _ (by omega)
  have HTO := Lib.hid (RfTo.pre HB.out (HR4.out.setAt (p + n) hpn HF.out ((p : Int) + (n : Int)) (by omega)))
  have HD := Lib.hid (show (l.drop p).drop n = l.drop (p + n) by rw [List.drop_drop])
  obtain ⟨W1, hW1⟩ : ∃ W1, W1 = w4.setCell ⟨rb, 1, none⟩ (.int .i64 ((p : Int) + (n : Int))) := ⟨_, rfl⟩
  rw [← hW1] at HTO
  have HW1 := Lib.hid hW1
  clear hW1
  by_cases hb1 : v < lo ∨ hi < v
  · have HE := Lib.hid (show numberR lo hi r = (0, r.refuse 31) by rw [HN.out, if_pos hf0, if_pos hb1])
    have hb2 : v < lo ∨ (lo ≤ v ∧ hi < v) := by omega
    have HFF := Lib.hid (refFault_any rb B l ⟨l.drop (p + n), 0⟩ 31 (by decide) W1 HTO.out.at')
    have HRF := Lib.hid (show r.refuse 31 = (⟨l.drop (p + n), 0⟩ : Rd).refuse 31 by unfold Rd.refuse; rw [if_pos HF.out, if_pos rfl])
    clear hb1 hf hf0
    rcases hb2 with j1 | ⟨j1, j2⟩
    all_goals
      go_upto_region 8 with fail
      rw [← HW1.out]
      go_wp2_with fail
      (with_reducible refine HFF.out.mono ?_); rintro en w5 ⟨rfl, hto⟩
      go_wp2_with fail
      go_ret
      exact ⟨by rw [HE.out]; rfl, by rw [HE.out, HRF.out]; exact HTO.out.trans hto⟩
  · have HE := Lib.hid (show numberR lo hi r = (v, ⟨l.drop (p + n), 0⟩) by rw [HN.out, if_pos hf0, if_neg hb1, HD.out, HF.out])
    have j1 : lo ≤ v := by omega
    have j2 : v ≤ hi := by omega
    clear hb1 hf hf0
    go_upto_region 8 with fail
    rw [← HW1.out]
    go_wp2_with fail
    go_ret
    exact ⟨by rw [HE.out]; rfl, by rw [HE.out]; exact HTO.out⟩
end Go.Proofs.YtmdhacboegmccaaDoor
