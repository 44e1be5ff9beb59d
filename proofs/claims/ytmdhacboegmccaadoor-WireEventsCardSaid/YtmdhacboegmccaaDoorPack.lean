/- Package wire: Pack. -/
import Derived.Test.YtmdhacboegmccaaDoorSumWalk
namespace Go.Proofs.YtmdhacboegmccaaDoor
open Go Go.RowKit

/-- An event, where its values lie, and their room. -/
structure EvX where
  ev : Ev
  va : Option Addr
  cap : Nat
def EvX.v (x : EvX) : Value := evV x.ev x.va x.cap
def xs (l : List EvX) : List Ev := l.map (·.ev)
/-- Events that lie from an address on. -/
def EvsIn (B : Nat) (w : World) (ao : Option Addr) (l : List EvX) : Prop :=
  l = [] ∨ ∃ b o, ao = some ⟨b, o, none⟩ ∧ b < B ∧ ∀ i (h : i < l.length), (w.cell? ⟨b, o + i * 3, none⟩ = some (.string l[i].ev.ty) ∧ w.cell? ⟨b, o + i * 3 + 1, none⟩ = some (.int .i64 l[i].ev.time) ∧ w.cell? ⟨b, o + i * 3 + 2, none⟩ = some (.slice l[i].va l[i].ev.vals.length l[i].cap)) ∧ ValsIn B w l[i].va l[i].ev.vals
theorem EvsIn.below {B : Nat} {w w' : World} {ao : Option Addr} {l : List EvX} (h : EvsIn B w ao l) (hb : Below w.heap.size w w') (hB : B ≤ w.heap.size) : EvsIn B w' ao l := by
  rcases h with h | ⟨b, o, rfl, hlt, h⟩
  · exact Or.inl h
  · refine Or.inr ⟨b, o, rfl, hlt, fun i hi => ?_⟩
    obtain ⟨⟨h0, h1, h2⟩, h3⟩ := h i hi
    exact ⟨⟨(hb.cell (p := ⟨b, o + i * 3, none⟩) (Nat.lt_of_lt_of_le hlt hB)).trans h0, (hb.cell (p := ⟨b, o + i * 3 + 1, none⟩) (Nat.lt_of_lt_of_le hlt hB)).trans h1, (hb.cell (p := ⟨b, o + i * 3 + 2, none⟩) (Nat.lt_of_lt_of_le hlt hB)).trans h2⟩, h3.below hb hB⟩

def packB (l : List Ev) : List UInt8 := batchE l ++ sumB (batchE l)
def packOk (l : List Ev) : Prop := l.length ≤ 1024 ∧ (∀ e ∈ l, evOk e) ∧ (batchE l).length + 4 ≤ 1048576
/-- A value, as Go bounds it. -/
def valGo (a : Val) : Prop := a.str.size ≤ maxLen ∧ -9223372036854775808 ≤ a.int ∧ a.int ≤ 9223372036854775807
theorem flat_le (l : List Ev) (h : ∀ e ∈ l, evOk e) : (l.flatMap evE).length ≤ l.length * 4400 := by
  induction l with
  | nil => simp
  | cons a r ih =>
    have h1 := evE_le a (h a (by simp))
    have h2 := ih (fun e he => h e (by simp [he]))
    simp only [List.flatMap_cons, List.length_append, List.length_cons]
    omega
theorem flat_take (l : List Ev) (k : Nat) (hk : k < l.length) : (l.take (k + 1)).flatMap evE = (l.take k).flatMap evE ++ evE l[k] := by
  rw [List.take_succ_eq_append_getElem hk, List.flatMap_append]
  simp
theorem sum_block {w : World} {l : List UInt8} {b : Nat} {t : TypeId} (h : w.heap[b]? = some (Obj.cells (bytesC l).toArray t (0, 0))) (cap : Nat) : BytesArg w (some ⟨b, 0, none⟩) cap l := by
  rcases bytes_of_block h with h0 | ⟨b', o, e, hc⟩
  · exact Or.inr ⟨_, rfl, fun j u hu => by rw [h0] at hu; simp [bytesC] at hu⟩
  · cases e
    exact Or.inr ⟨_, rfl, news_of hc⟩

set_option maxHeartbeats 8000000 in
set_option maxRecDepth 100000 in
theorem pack_any (l : List EvX) (ao : Option Addr) (cap : Nat) (w : World) (hres : ResAt w) (hl : EvsIn w.heap.size w ao l) (_hlc : l.length ≤ cap) (_hcm : cap ≤ maxLen) (hin : ∀ x ∈ l, ∀ a ∈ x.ev.vals, valGo a) :
    Calls Tryd.prog 19 #[.slice ao l.length cap] w fun en w' => ∃ v f, en = .returned (.tuple #[v, .int .i64 f]) ∧ Below w.heap.size w w' ∧ ((f = 0 ∧ packOk (xs l) ∧ w'.ownsRow w.heap.size 5 1 v (packB (xs l)).length (bytesC (packB (xs l)))) ∨ (f ≠ 0 ∧ ¬ packOk (xs l) ∧ v = .slice none 0 0)) := by
  have HRES := Lib.hid hres
  have HL := Lib.hid hl
  have HIN := Lib.hid hin
  unfold maxLen at _hcm
  have hxl : (xs l).length = l.length := by simp [xs]
  clear hres hl hin
  by_cases hlong : 1024 < l.length
  · have hno : ¬ packOk (xs l) := fun h => by have := h.1; omega
    have HNO := Lib.hid hno
    clear hno hxl
    go_enter Tryd.func19, Tryd.ntmps19
    go_wp2_with fail
    go_ret2
    exact ⟨_, _, rfl, Below.refl _ _, Or.inr ⟨by decide, HNO.out, rfl⟩⟩
  · go_enter Tryd.func19, Tryd.ntmps19
    go_wp2_with fail
    refine (putInt_any (l.length : Int) w (by omega) (by omega)).mono ?_; rintro en w1 ⟨v1, rfl, hx1⟩
    have HO1 := Lib.hid (show w1.ownsRow w.heap.size 5 1 v1 (putB (l.length : Int) ++ ((xs l).take 0).flatMap evE).length (bytesC (putB (l.length : Int) ++ ((xs l).take 0).flatMap evE)) by simpa using hx1.own)
    have HB1 := Lib.hid hx1.fresh
    have HPL := Lib.hid (putB_le (l.length : Int) (by omega) (by omega))
    clear hx1
    go_wp2_with fail
    go_loopw [4, 17] (fun v i wr => ∃ k : Nat, k ≤ l.length ∧ i = .int .i64 k ∧ (∀ e ∈ (xs l).take k, evOk e) ∧ wr.ownsRow w.heap.size 5 1 v (putB (l.length : Int) ++ ((xs l).take k).flatMap evE).length (bytesC (putB (l.length : Int) ++ ((xs l).take k).flatMap evE)) ∧ Below w.heap.size w wr) (fun _ i _ => l.length - (intOf i).toNat)
    case atStart => exact ⟨0, Nat.zero_le _, rfl, by simp, HO1.out, HB1.out⟩
    case round =>
      obtain ⟨k, hk, rfl, hok, hown, hbel⟩ := hrel
      have HOK := Lib.hid hok
      have HOWN := Lib.hid hown
      have HBE := Lib.hid hbel
      clear hok hown hbel
      by_cases hlt : k < l.length
      · obtain ⟨b, o, rfl, hlb, hc⟩ : ∃ b o, ao = some ⟨b, o, none⟩ ∧ b < w.heap.size ∧ ∀ i (h : i < l.length), (wr.cell? ⟨b, o + i * 3, none⟩ = some (.string l[i].ev.ty) ∧ wr.cell? ⟨b, o + i * 3 + 1, none⟩ = some (.int .i64 l[i].ev.time) ∧ wr.cell? ⟨b, o + i * 3 + 2, none⟩ = some (.slice l[i].va l[i].ev.vals.length l[i].cap)) ∧ ValsIn w.heap.size wr l[i].va l[i].ev.vals := by
          rcases HL.out.below HBE.out (Nat.le_refl _) with h | h
          · rw [h] at hlt; simp at hlt
          · exact h
        obtain ⟨⟨d0, d1, d2⟩, hvk⟩ := hc k hlt
        have hgo := HIN.out l[k] (List.getElem_mem hlt)
        have hxk : (xs l)[k]'(by simpa [xs] using hlt) = l[k].ev := by simp [xs]
        have hft := flat_take (xs l) k (by simpa [xs] using hlt)
        have htk : (xs l).take (k + 1) = (xs l).take k ++ [l[k].ev] := by rw [List.take_succ_eq_append_getElem (by simpa [xs] using hlt), hxk]
        have hmem : l[k].ev ∈ xs l := List.mem_map_of_mem (List.getElem_mem hlt)
        rw [hxk] at hft
        obtain ⟨x, hx⟩ : ∃ x, x = l[k] := ⟨_, rfl⟩
        rw [← hx] at d0 d1 d2 hvk hgo hft htk hmem
        clear hx hxk hc
        obtain ⟨⟨ty, tm, vals⟩, va, vc⟩ := x
        simp only at d0 d1 d2 hvk hgo hft htk hmem
        have HV := Lib.hid hvk
        have HGO := Lib.hid hgo
        have HFT := Lib.hid hft
        have HTK := Lib.hid htk
        have HMEM := Lib.hid hmem
        have HLEN := Lib.hid (show (putB (l.length : Int) ++ ((xs l).take k).flatMap evE).length ≤ 700000000 by
          have h1 := HPL.out
          have h2 := flat_le ((xs l).take k) HOK.out
          have h3 : ((xs l).take k).length ≤ k := by rw [List.length_take]; omega
          have h4 : ((xs l).take k).length * 4400 ≤ k * 4400 := Nat.mul_le_mul_right _ h3
          rw [List.length_append]
          omega)
        obtain ⟨C, hC⟩ : ∃ C, C = putB (l.length : Int) ++ ((xs l).take k).flatMap evE := ⟨_, rfl⟩
        rw [← hC] at HOWN HLEN
        have HC := Lib.hid hC
        obtain ⟨W2, hW2⟩ : ∃ W2, W2 = wr.alloc (Obj.cells #[.string ty, .int .i64 tm, .slice va vals.length vc] 24) := ⟨_, rfl⟩
        obtain ⟨T, hT⟩ : ∃ T, T = wr.heap.size := ⟨_, rfl⟩
        have hb2 : Below wr.heap.size wr W2 := by rw [hW2]; exact (Below.refl _ _).alloc (Nat.le_refl _) _
        have HT2 := Lib.hid (show Cells3 W2 T (.string ty) (.int .i64 tm) (.slice va vals.length vc) by rw [hW2, hT]; exact Cells3.made _ _ _ _ _)
        have HB2 := Lib.hid (HBE.out.trans (hb2.mono HBE.out.size))
        have HV2 := Lib.hid (HV.out.below hb2 HBE.out.size)
        have HO2 := Lib.hid (owns_below HOWN.out hb2)
        have HW2 := Lib.hid hW2
        have HTE := Lib.hid hT
        clear hvk hgo hft htk hmem hC hW2 hT hb2
        have k0 : (0 : Int) ≤ (k : Int) := by omega
        go_upto_region 7 with fail
        rw [← HW2.out, ← HTE.out]
        have t0 := HT2.out.c0
        have t1 := HT2.out.c1
        have t2 := HT2.out.c2
        have HF := wfault_any ⟨ty, tm, vals⟩ va vc W2 (HRES.out.below HB2.out) (HV2.out.mono HB2.out.size) (fun a ha => (HGO.out a ha).1)
        simp only [evV] at HF
        have HFE := Lib.hid (evFault_ok ⟨ty, tm, vals⟩ (fun a ha => (HGO.out a ha).2))
        obtain ⟨f, hf⟩ : ∃ f, f = evFault ⟨ty, tm, vals⟩ := ⟨_, rfl⟩
        rw [← hf] at HF HFE
        have HFF := Lib.hid HF
        clear HF hf
        go_wp2_with fail
        refine HFF.out.mono ?_; rintro en w3 ⟨rfl, hb3⟩
        have HB3 := Lib.hid (HB2.out.trans (hb3.mono HB2.out.size))
        have HT3 := Lib.hid (HT2.out.below hb3)
        have HV3 := Lib.hid (HV2.out.below hb3 HB2.out.size)
        have HO3 := Lib.hid (owns_below HO2.out hb3)
        clear hb3 t0 t1 t2 d0 d1 d2
        cases hf0 : (f == 0)
        · have hfn : (f != 0) = true := by simp [bne, hf0]
          have HFN := Lib.hid (show f ≠ 0 by simpa using hf0)
          clear hf0
          go_wp2_with fail
          go_ret2
          exact ⟨_, _, rfl, HB3.out, Or.inr ⟨HFN.out, fun h => HFN.out (HFE.out.2 (h.2.1 _ HMEM.out)), rfl⟩⟩
        · have hfn : (f != 0) = false := by simp [bne, hf0]
          have HEO := Lib.hid (HFE.out.1 (by simpa using hf0))
          clear hf0
          have t0 := HT3.out.c0
          have t1 := HT3.out.c1
          have t2 := HT3.out.c2
          have HAP := Lib.hid (appendEvent_any w.heap.size _ C ⟨ty, tm, vals⟩ va vc w3 HEO.out HV3.out HO3.out HLEN.out HB3.out.size)
          simp only [evV] at HAP
          go_wp2_with fail
          refine HAP.out.mono ?_; rintro en w4 ⟨v4, rfl, hx4⟩
          have HX4 := Lib.hid hx4
          have HB4 := Lib.hid (HB3.out.grown hx4.grown HB3.out.size (fun j hj => (HO3.out.lt j hj).1))
          clear hx4 t0 t1 t2
          go_wp2_with fail
          go_roundw
          case rel =>
            refine ⟨k + 1, by omega, by go_num, ?_, ?_, HB4.out⟩
            · rw [HTK.out]
              intro e he
              rcases List.mem_append.1 he with he | he
              · exact HOK.out e he
              · rw [List.mem_singleton.1 he]; exact HEO.out
            · have h := HX4.out.own
              rw [HC.out, List.append_assoc, ← HFT.out] at h
              exact h
          case measure => simp [intOf]; omega
      · have hke : k = l.length := by omega
        subst hke
        have htk : (xs l).take l.length = xs l := by rw [← hxl, List.take_length]
        rw [htk] at HOK HOWN
        have HBT := Lib.hid (show putB (l.length : Int) ++ (xs l).flatMap evE = batchE (xs l) by unfold batchE; rw [hxl])
        rw [HBT.out] at HOWN
        obtain ⟨a9, c9, rfl, _, hy9, hc9, hm9⟩ := owned_arg HOWN.out
        have HY9 := Lib.hid hy9
        have HPO := Lib.hid (show packOk (xs l) ↔ (batchE (xs l)).length + 4 ≤ 1048576 from ⟨fun h => h.2.2, fun h => ⟨by omega, HOK.out, h⟩⟩)
        have hCl : (batchE (xs l)).length ≤ 700000000 := by
          have h1 := flat_le (xs l) HOK.out
          have h2 := HPL.out
          rw [← HBT.out, List.length_append]
          omega
        have HPB := Lib.hid (show packB (xs l) = batchE (xs l) ++ sumB (batchE (xs l)) from rfl)
        obtain ⟨C, hC⟩ : ∃ C, C = batchE (xs l) := ⟨_, rfl⟩
        rw [← hC] at HOWN HY9 HPO HPB hc9 hCl ⊢
        clear hy9 htk hC
        by_cases hbig : 1048576 < C.length + 4
        · have hq : (1048576 : Int) < (C.length : Int) + 4 := by omega
          have HNP := Lib.hid (show ¬ packOk (xs l) from fun h => by have := HPO.out.1 h; omega)
          clear hbig
          go_wp2_with fail
          go_ret2
          exact ⟨_, _, rfl, HBE.out, Or.inr ⟨by decide, HNP.out, rfl⟩⟩
        · have hq : ¬ (1048576 : Int) < (C.length : Int) + 4 := by omega
          have HYP := Lib.hid (HPO.out.2 (by omega))
          clear hbig
          have HSM := Lib.hid (sum_any C a9 c9 wr HY9.out hc9 hm9)
          obtain ⟨s0, s1, s2, s3, hs⟩ : ∃ s0 s1 s2 s3, sumB C = [s0, s1, s2, s3] := ⟨_, _, _, _, rfl⟩
          rw [hs] at HSM HPB
          have e4 : (bytesC [s0, s1, s2, s3]).toArray = #[.int .u8 (s0.toNat : Int), .int .u8 (s1.toNat : Int), .int .u8 (s2.toNat : Int), .int .u8 (s3.toNat : Int)] := rfl
          rw [e4] at HSM
          clear hs e4
          go_wp2_with fail
          refine HSM.out.mono ?_; rintro en w4 ⟨rfl, hb4⟩
          obtain ⟨W5, hW5⟩ : ∃ W5, W5 = w4.alloc (Obj.cells #[.int .u8 (s0.toNat : Int), .int .u8 (s1.toNat : Int), .int .u8 (s2.toNat : Int), .int .u8 (s3.toNat : Int)] 91) := ⟨_, rfl⟩
          obtain ⟨S, hS⟩ : ∃ S, S = w4.heap.size := ⟨_, rfl⟩
          have hb5 : Below w4.heap.size w4 W5 := by rw [hW5]; exact (Below.refl _ _).alloc (Nat.le_refl _) _
          have HB5 := Lib.hid ((HBE.out.trans (hb4.mono HBE.out.size)).trans (hb5.mono (Nat.le_trans HBE.out.size hb4.size)))
          have HO5 := Lib.hid (owns_below (owns_below HOWN.out hb4) hb5)
          have HG5 := Lib.hid (show BytesArg W5 (some ⟨S, 0, none⟩) 4 [s0, s1, s2, s3] from sum_block (by rw [hW5, hS]; exact heap_alloc_new _ _) 4)
          have hz5 : S < W5.heap.size := by rw [hW5, hS]; simp
          have HW5 := Lib.hid hW5
          have HSE := Lib.hid hS
          clear hb4 hb5 hW5 hS
          go_upto_region 15 with fail
          rw [← HW5.out, ← HSE.out]
          go_wp2_with (at_builtin; go_must (refine wpList_append_arg8 (by rfl) _ _ (by rfl) w.heap.size (.slice a9 C.length c9) C (by rfl) HO5.out (some ⟨S, 0, none⟩) 4 [s0, s1, s2, s3] (by rfl) HG5.out (by simp; omega) HB5.out.size ?_; intro v7 w7 ho7 hg7; have HO7 := Lib.hid ho7; have HB7 := Lib.hid (HB5.out.grown hg7 HB5.out.size (fun j hj => (HO5.out.lt j hj).1)); clear ho7 hg7))
          go_ret2
          exact ⟨_, _, rfl, HB7.out, Or.inl ⟨rfl, HYP.out, by rw [HPB.out]; exact HO7.out⟩⟩
end Go.Proofs.YtmdhacboegmccaaDoor
