/- Package wire: Unpack, for any bytes. -/
import Derived.Test.YtmdhacboegmccaaDoorEqFour
import Derived.Laws.Cover3
namespace Go.Proofs.YtmdhacboegmccaaDoor
open Go Go.RowKit

def unF (l : List UInt8) : Int :=
  if 1048576 < l.length then 2 else if l.length ≤ 4 then 30 else if sumB (l.take (l.length - 4)) ≠ l.drop (l.length - 4) then 32 else (leftR (batchR ⟨l.take (l.length - 4), 0⟩).2).fault
theorem four_of {l : List UInt8} (h : l.length = 4) : ∃ a b c d, l = [a, b, c, d] := by
  match l, h with
  | [a, b, c, d], _ => exact ⟨a, b, c, d, rfl⟩

set_option maxHeartbeats 8000000 in
set_option maxRecDepth 100000 in
theorem unpack_any (l : List UInt8) (ao : Option Addr) (cap : Nat) (w : World) (hres : ResAt w) (hb : BytesAt w ao l) (hlc : l.length ≤ cap) (hcm : cap ≤ maxLen) :
    Calls Tryd.prog 20 #[.slice ao l.length cap] w fun en w' => ∃ v, en = .returned (.tuple #[v, .int .i64 (unF l)]) ∧ Below w.heap.size w w' ∧ (unF l = 0 → ∃ (acc : List EvX) (gg cp : Nat), v = .slice (some ⟨gg, 0, none⟩) acc.length cp ∧ xs acc = (batchR ⟨l.take (l.length - 4), 0⟩).1 ∧ w'.ownsRow w.heap.size 24 3 (.slice (some ⟨gg, 0, none⟩) acc.length cp) acc.length (evCells acc) ∧ ∀ x ∈ acc, VOwn w.heap.size gg w' x) ∧ (unF l ≠ 0 → v = .slice none 0 0) := by
  have HRES := Lib.hid hres
  have HBY := Lib.hid hb
  unfold maxLen at hcm
  clear hres hb
  by_cases hbig : 1048576 < l.length
  · rw [show unF l = 2 from if_pos hbig]
    have hq : (1048576 : Int) < (l.length : Int) := by omega
    clear hbig
    go_enter Tryd.func20, Tryd.ntmps20
    go_wp2_with fail
    go_ret2
    first | exact ⟨_, rfl, Below.refl _ _, by simp, by simp⟩ | exact ⟨rfl, Below.refl _ _⟩
  have hq : ¬ (1048576 : Int) < (l.length : Int) := by omega
  by_cases hsm : l.length ≤ 4
  · rw [show unF l = 30 by unfold unF; rw [if_neg hbig, if_pos hsm]]
    clear hbig
    go_enter Tryd.func20, Tryd.ntmps20
    go_wp2_with fail
    go_ret2
    first | exact ⟨_, rfl, Below.refl _ _, by simp, by simp⟩ | exact ⟨rfl, Below.refl _ _⟩
  obtain ⟨N, hN⟩ : ∃ N, l.length = N + 4 := ⟨l.length - 4, by omega⟩
  have hN1 : 1 ≤ N := by omega
  have HFE := Lib.hid (show unF l = if sumB (l.take N) ≠ l.drop N then 32 else (leftR (batchR ⟨l.take N, 0⟩).2).fault by
    unfold unF
    rw [if_neg hbig, if_neg hsm, show l.length - 4 = N by omega])
  have hlN : l.length - 4 = N := by omega
  obtain ⟨b, o, rfl, hc⟩ : ∃ b o, ao = some ⟨b, o, none⟩ ∧ ∀ i (h : i < l.length), w.cell? ⟨b, o + i, none⟩ = some (.int .u8 (l[i].toNat : Int)) := by
    rcases HBY.out with h | h
    · rw [h] at hN; simp at hN
    · exact h
  obtain ⟨t0, t1, t2, t3, ht⟩ := four_of (show (l.drop N).length = 4 by rw [List.length_drop]; omega)
  have hget : ∀ j (h : N + j < l.length), (l.drop N)[j]? = some l[N + j] := fun j h => by rw [List.getElem?_drop, List.getElem?_eq_getElem h]
  have c0 : w.cell? ⟨b, o + N, none⟩ = some (.int .u8 (t0.toNat : Int)) := by
    have h1 := hget 0 (by omega); rw [ht] at h1; have h2 := hc (N + 0) (by omega); rw [← Option.some.inj h1] at h2; simpa using h2
  have c1 : w.cell? ⟨b, o + N + 1, none⟩ = some (.int .u8 (t1.toNat : Int)) := by
    have h1 := hget 1 (by omega); rw [ht] at h1; have h2 := hc (N + 1) (by omega); rw [← Option.some.inj h1] at h2; simpa [Nat.add_assoc] using h2
  have c2 : w.cell? ⟨b, o + N + 2, none⟩ = some (.int .u8 (t2.toNat : Int)) := by
    have h1 := hget 2 (by omega); rw [ht] at h1; have h2 := hc (N + 2) (by omega); rw [← Option.some.inj h1] at h2; simpa [Nat.add_assoc] using h2
  have c3 : w.cell? ⟨b, o + N + 3, none⟩ = some (.int .u8 (t3.toNat : Int)) := by
    have h1 := hget 3 (by omega); rw [ht] at h1; have h2 := hc (N + 3) (by omega); rw [← Option.some.inj h1] at h2; simpa [Nat.add_assoc] using h2
  have hbl : b < w.heap.size := World.block_lt_of_cell? w _ c0
  have hlt : (l.take N).length = N := by rw [List.length_take]; omega
  obtain ⟨M, hM⟩ : ∃ M, M = l.take N := ⟨_, rfl⟩
  have HM := Lib.hid (show BytesAt w (some ⟨b, o, none⟩) M by rw [hM]; exact HBY.out.take N)
  rw [ht] at HFE
  rw [hlN]
  rw [← hM] at HFE hlt ⊢
  clear hc hget ht hbig hsm hM hlN
  obtain ⟨s0, s1, s2, s3, hs⟩ : ∃ s0 s1 s2 s3, sumB M = [s0, s1, s2, s3] := ⟨_, _, _, _, rfl⟩
  rw [hs] at HFE
  have HSM := Lib.hid (fun W (h : BytesAt W (some ⟨b, o, none⟩) M) => sum_any M (some ⟨b, o, none⟩) cap W h (by omega) (by unfold maxLen; omega))
  rw [hs, hlt, show (bytesC [s0, s1, s2, s3]).toArray = #[.int .u8 (s0.toNat : Int), .int .u8 (s1.toNat : Int), .int .u8 (s2.toNat : Int), .int .u8 (s3.toNat : Int)] from rfl] at HSM
  clear hs
  obtain ⟨L, hL⟩ : ∃ L, L = l.length := ⟨_, rfl⟩
  rw [← hL] at hN hlc hq ⊢
  have hq2 : ¬ ((L : Int) ≤ 4) := by omega
  have z0 : (0 : Int) ≤ (N : Int) := by omega
  have z1 : (N : Int) ≤ (cap : Int) := by omega
  have z2 : (N : Int) ≤ (L : Int) := by omega
  have z3 : (L : Int) ≤ (cap : Int) := by omega
  have z4 : (L : Int) - 4 = (N : Int) := by omega
  have z5 : L - N = 4 := by omega
  have eqs := eq4 s0 s1 s2 s3 t0 t1 t2 t3
  obtain ⟨q, hqq⟩ : ∃ q, q = decide ([s0, s1, s2, s3] = [t0, t1, t2, t3]) := ⟨_, rfl⟩
  rw [← hqq] at eqs
  have HQ := Lib.hid hqq
  clear hqq
  have arr := fun (W : World) => run_arrayAt (P := Tryd.prog) (w := W) 91 5 4 (some ⟨b, o + N, none⟩) 4 (cap - N) Tryd.underlying91 (Nat.le_refl 4)
  have HL := Lib.hid hN
  clear hN hlc hL
  go_enter Tryd.func20, Tryd.ntmps20
  go_upto_region 6 with fail
  go_cut [27] (fun s27 wx => s27 = .bool (!q) ∧ Below w.heap.size w wx)
  case first =>
    go_region_held3 (fun w' => w'.cell? ⟨b, o + N, none⟩ = some (.int .u8 (t0.toNat : Int)) ∧ w'.cell? ⟨b, o + N + 1, none⟩ = some (.int .u8 (t1.toNat : Int)) ∧ w'.cell? ⟨b, o + N + 2, none⟩ = some (.int .u8 (t2.toNat : Int)) ∧ w'.cell? ⟨b, o + N + 3, none⟩ = some (.int .u8 (t3.toNat : Int)))
      (first
        | go_keep
        | exact ⟨r0, r1, r2, r3⟩)
      ((first
        | (go_at_call 51; (with_reducible refine (HSM.out _ (HM.out.below (Below.refl _ w).drew)).mono ?_); rintro e w4 ⟨rfl, hb4⟩; have hbD := (Below.refl w.heap.size w).drew.trans hb4; have r0 := (hbD.cell (p := ⟨b, o + N, none⟩) hbl).trans c0; have r1 := (hbD.cell (p := ⟨b, o + N + 1, none⟩) hbl).trans c1; have r2 := (hbD.cell (p := ⟨b, o + N + 2, none⟩) hbl).trans c2; have r3 := (hbD.cell (p := ⟨b, o + N + 3, none⟩) hbl).trans c3)))
    all_goals
      go_wp2_with fail
      go_meet
      exact ⟨rfl, hbD⟩
  case rest =>
    obtain ⟨rfl, hbc⟩ := hcut
    obtain ⟨W4, hW4⟩ : ∃ W4, W4 = wc := ⟨_, rfl⟩
    rw [← hW4] at hbc ⊢
    have HB4 := Lib.hid hbc
    clear hbc hW4
    cases q
    · have HF := Lib.hid (show unF l = 32 by rw [HFE.out, if_pos (by intro h; have := HQ.out; rw [decide_eq_true h] at this; cases this)])
      go_wp2_with fail
      go_ret2
      exact ⟨_, by rw [HF.out]; rfl, HB4.out, fun h => (by rw [HF.out] at h; cases h), fun _ => rfl⟩
    · have HF := Lib.hid (show unF l = (leftR (batchR ⟨M, 0⟩).2).fault by rw [HFE.out, if_neg (by intro h; exact h (of_decide_eq_true HQ.out.symm))])
      obtain ⟨R, hR⟩ : ∃ R, R = batchR ⟨M, 0⟩ := ⟨_, rfl⟩
      rw [← hR] at HF
      have HRE := Lib.hid hR
      clear hR
      obtain ⟨W5, hW5⟩ : ∃ W5, W5 = W4.alloc (Obj.cells #[.slice (some ⟨b, o, none⟩) N cap, .int .i64 0] 88) := ⟨_, rfl⟩
      obtain ⟨T, hT⟩ : ∃ T, T = W4.heap.size := ⟨_, rfl⟩
      have hb5 : Below W4.heap.size W4 W5 := by rw [hW5]; exact (Below.refl _ _).alloc (Nat.le_refl _) _
      have hy5 : W5.heap[T]? = some (Obj.cells #[.slice (some ⟨b, o, none⟩) N cap, .int .i64 0] 88 (0, 0)) := by rw [hW5, hT]; exact heap_alloc_new _ _
      have hz4 := HB4.out.size
      have hb45 := HB4.out.trans (hb5.mono hz4)
      have hr5 : RdAt W5 T w.heap.size ⟨M, 0⟩ := by
        refine ⟨⟨some ⟨b, o, none⟩, cap, by simp [World.cell?, hy5, hlt], (show M.length ≤ cap by omega), by unfold maxLen; omega, ?_⟩, by simp [World.cell?, hy5], by simp [World.frozen?, hy5], by simp [World.frozen?, hy5]⟩
        rcases HM.out with h | ⟨b', o', e, h⟩
        · exact Or.inl h
        · cases e
          exact Or.inr ⟨b, o, rfl, by omega, hbl, fun i hi => (hb45.cell (p := ⟨b, o + i, none⟩) hbl).trans (h i hi)⟩
      have hres5 := HRES.out.below hb45
      have hgl := HRES.out.lt
      have HEV := Lib.hid (events_any T w.heap.size ⟨M, 0⟩ W5 hres5 hr5 (by have := hb5.size; omega) (by omega))
      rw [← HRE.out] at HEV
      have HB5 := Lib.hid hb45
      have hTW : w.heap.size ≤ T := by omega
      have HW5 := Lib.hid hW5
      have HTE := Lib.hid hT
      clear hb5 hy5 hr5 hres5 hb45 hW5 hT
      go_upto_region 9 with fail
      rw [← HW5.out, ← HTE.out]
      go_wp2_with fail
      refine HEV.out.mono ?_; rintro en w6 ⟨⟨acc, gg, cp, rfl, hxs, hown, hvo⟩, hto⟩
      have HXS := Lib.hid hxs
      have HOWN := Lib.hid (own_base hown HB5.out.size)
      have HVO := Lib.hid (show ∀ x ∈ acc, VOwn w.heap.size gg w6 x from fun x hx => ⟨own_base (hvo x hx).own HB5.out.size, (hvo x hx).there⟩)
      have hy1 := hto.at'.c1
      obtain ⟨F, hF⟩ : ∃ F, F = (leftR R.2).fault := ⟨_, rfl⟩
      rw [← hF] at HF hy1
      have HB6 := Lib.hid (RdTo.fresh HB5.out hto hTW)
      clear hxs hown hvo hto hF
      cases hf0 : (F == 0)
      · have hfn : (F != 0) = true := by simp [bne, hf0]
        have HFN := Lib.hid (show F ≠ 0 by simpa using hf0)
        clear hf0
        go_wp2_with fail
        go_region
        all_goals
          go_wp2_with fail
          go_ret2
          exact ⟨_, by rw [HF.out]; rfl, HB6.out.drew, fun h => absurd (HF.out.symm.trans h) HFN.out, fun _ => rfl⟩
      · have hfn : (F != 0) = false := by simp [bne, hf0]
        have HFN := Lib.hid (show F = 0 by simpa using hf0)
        clear hf0
        go_wp2_with fail
        go_ret2
        exact ⟨_, by rw [HF.out, HFN.out]; rfl, HB6.out, fun _ => ⟨acc, gg, cp, rfl, by rw [HXS.out, HRE.out], HOWN.out, HVO.out⟩, fun h => absurd (HF.out.trans HFN.out) h⟩
end Go.Proofs.YtmdhacboegmccaaDoor
