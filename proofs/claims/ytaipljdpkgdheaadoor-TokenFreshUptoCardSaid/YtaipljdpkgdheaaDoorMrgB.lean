/- Texts put together: RefStr, RefSigns, RefOne, RefScan. -/
import Derived.Test.YtaipljdpkgdheaaDoorQuoted
import Derived.BigQuiet
import Derived.Test.YtaipljdpkgdheaaDoorScan
import Derived.Test.YtaipljdpkgdheaaDoorLimSpec
import Derived.Test.YtaipljdpkgdheaaDoorMrgA
/- The reference's str. -/
namespace Go.Proofs.YtaipljdpkgdheaaDoor
open Go Go.RowKit

/-- What was read at a place, as the reference tells it. -/
def gotC (n : Nat) (T : TokX) : Array Value := if T.err = 0 then #[.int .i64 T.kind, .string ⟨T.text.toArray⟩, .int .i64 ((n - T.start.length : Nat) : Int), .int .i64 ((n - T.rest.length : Nat) : Int), .int .i64 0, .int .i64 0] else #[.int .i64 0, .string ⟨#[]⟩, .int .i64 0, .int .i64 0, .int .i64 ((n - T.start.length : Nat) : Int), .int .i64 T.err]
def gotV (n : Nat) (T : TokX) : Value := .agg (gotC n T)
def strT (l : List UInt8) (X : StrX) : TokX := if X.err = 0 then ⟨3, X.bytes, l, X.rest, 0⟩ else faultX (if X.here then X.rest else l) X.err
structure Cells6 (w : World) (b : Nat) (v0 v1 v2 v3 v4 v5 : Value) : Prop where
  c0 : w.cell? ⟨b, 0, none⟩ = some v0
  c1 : w.cell? ⟨b, 1, none⟩ = some v1
  c2 : w.cell? ⟨b, 2, none⟩ = some v2
  c3 : w.cell? ⟨b, 3, none⟩ = some v3
  c4 : w.cell? ⟨b, 4, none⟩ = some v4
  c5 : w.cell? ⟨b, 5, none⟩ = some v5
  f : ∀ j, j < 6 → w.frozen? ⟨b, j, none⟩ = false
theorem Cells6.of {w : World} {b : Nat} {v0 v1 v2 v3 v4 v5 : Value} {t : TypeId} (h : w.heap[b]? = some (Obj.cells #[v0, v1, v2, v3, v4, v5] t (0, 0))) : Cells6 w b v0 v1 v2 v3 v4 v5 :=
  ⟨by simp [World.cell?, h], by simp [World.cell?, h], by simp [World.cell?, h], by simp [World.cell?, h], by simp [World.cell?, h], by simp [World.cell?, h], fun j _ => by simp [World.frozen?, h]⟩
theorem Cells6.lt {w : World} {b : Nat} {v0 v1 v2 v3 v4 v5 : Value} (h : Cells6 w b v0 v1 v2 v3 v4 v5) : b < w.heap.size := World.block_lt_of_cell? w _ h.c0
theorem Cells6.keep {w w' : World} {b : Nat} {v0 v1 v2 v3 v4 v5 : Value} (h : Cells6 w b v0 v1 v2 v3 v4 v5) (hk : w'.heap[b]? = w.heap[b]?) : Cells6 w' b v0 v1 v2 v3 v4 v5 := by
  have c : ∀ j : Nat, w'.cell? ⟨b, j, none⟩ = w.cell? ⟨b, j, none⟩ := fun j => World.cell?_of_block (w := w) hk
  have f : ∀ j : Nat, w'.frozen? ⟨b, j, none⟩ = w.frozen? ⟨b, j, none⟩ := fun j => World.frozen?_of_block (w := w) hk
  exact ⟨(c _).trans h.c0, (c _).trans h.c1, (c _).trans h.c2, (c _).trans h.c3, (c _).trans h.c4, (c _).trans h.c5, fun j hj => (f _).trans (h.f j hj)⟩
theorem Cells6.below {w w' : World} {b : Nat} {v0 v1 v2 v3 v4 v5 : Value} (h : Cells6 w b v0 v1 v2 v3 v4 v5) (hb : Below w.heap.size w w') : Cells6 w' b v0 v1 v2 v3 v4 v5 := h.keep (hb.block b h.lt)
def zeroG : Array Value := #[.int .i64 0, .string ⟨#[]⟩, .int .i64 0, .int .i64 0, .int .i64 0, .int .i64 0]
def ZeroG (w : World) (b : Nat) : Prop := Cells6 w b (.int .i64 0) (.string ⟨#[]⟩) (.int .i64 0) (.int .i64 0) (.int .i64 0) (.int .i64 0)
theorem below_six {a w : World} {B R : Nat} {v0 v1 v2 v3 v4 v5 : Value} (h : Below B a w) (hR : B ≤ R) : Below B a ((((((w.setCell ⟨R, 0, none⟩ v0).setCell ⟨R, 1, none⟩ v1).setCell ⟨R, 2, none⟩ v2).setCell ⟨R, 3, none⟩ v3).setCell ⟨R, 4, none⟩ v4).setCell ⟨R, 5, none⟩ v5) :=
  (((((h.setCell hR _).setCell hR _).setCell hR _).setCell hR _).setCell hR _).setCell hR _

set_option maxHeartbeats 8000000 in
set_option maxRecDepth 100000 in
theorem refStr_any (t : ByteArray) (i : Nat) (w : World) (hi : i < t.size) (ht : t.size ≤ 140737488355328) :
    Calls Tryd.prog 67 #[.string t, .int .i64 (i : Int)] w fun e w' => e = .returned (gotV t.size (strT (restB t i) (strR [] (restB t (i + 1))))) ∧ Below w.heap.size w w' := by
  obtain ⟨i0, hi0, iz0, iz1, iz2⟩ := info_parts Tryd.infoU8
  obtain ⟨X, hX⟩ : ∃ X, X = strR [] (restB t (i + 1)) := ⟨_, rfl⟩
  rw [← hX]
  have HX := Lib.hid hX
  obtain ⟨W, hW⟩ : ∃ W, W = w.alloc (Obj.cells zeroG 85) := ⟨_, rfl⟩
  obtain ⟨R, hR⟩ : ∃ R, R = w.heap.size := ⟨_, rfl⟩
  have HZ := Lib.hid (show ZeroG W R from Cells6.of (t := 85) (by rw [hW, hR]; exact heap_alloc_new _ _))
  have HBW := Lib.hid (show Below w.heap.size w W by rw [hW]; exact (Below.refl _ _).alloc (Nat.le_refl _) _)
  have hzW : R + 1 = W.heap.size := by rw [hW, hR]; simp
  have hwR : w.heap.size ≤ R := by omega
  have HSL := Lib.hid (show t.size - (restB t i).length = i by rw [rest_len]; omega)
  simp only [zeroG] at hW
  have HW := Lib.hid hW
  have HRE := Lib.hid hR
  have HZW := Lib.hid hzW
  clear hX hW hR hzW
  go_enter Tryd.func67, Tryd.ntmps67
  go_upto_region 1 with fail
  rw [← HW.out, ← HRE.out]
  have j0 : (0 : Int) ≤ (i : Int) := by omega
  go_wp2_with fail
  go_loopg [5, 6] (t.size + 1) (fun g v5 v6 wr => ∃ (k : Nat) (acc : List UInt8) (va : Option Addr) (cp : Nat), k ≤ t.size ∧ v6 = .int .i64 (k : Int) ∧ v5 = .slice va acc.length cp ∧ wr.ownsRow (R + 1) 5 1 (.slice va acc.length cp) acc.length (bytesC acc) ∧ strR acc (restB t k) = X ∧ acc.length ≤ 256 ∧ ZeroG wr R ∧ Below w.heap.size w wr ∧ R + 1 ≤ wr.heap.size ∧ t.size - k < g)
  case atStart => exact ⟨i + 1, [], none, 0, by omega, by go_num, rfl, World.ownsRow_nil _ _ _ _, HX.out.symm, by decide, HZ.out, HBW.out, by have := HZW.out; omega, by omega⟩
  case round =>
    obtain ⟨k, acc, va, cp, hk, rfl, rfl, hown, hx, hal, hz, hbel, hzr, hgk⟩ := hrel
    obtain ⟨g, rfl⟩ : ∃ g, gk = g + 1 := ⟨gk - 1, by omega⟩
    have HO := Lib.hid hown
    have HXX := Lib.hid hx
    have HZR := Lib.hid hz
    have HBE := Lib.hid hbel
    have k0 : (0 : Int) ≤ (k : Int) := by omega
    obtain ⟨n, hn⟩ : ∃ n, n = acc.length := ⟨_, rfl⟩
    rw [← hn] at HO hal ⊢
    have HN := Lib.hid hn
    have c0 := hz.c0
    have c1 := hz.c1
    have c2 := hz.c2
    have c3 := hz.c3
    have c4 := hz.c4
    have c5 := hz.c5
    have f0 := hz.f 0 (by omega)
    have f1 := hz.f 1 (by omega)
    have f2 := hz.f 2 (by omega)
    have f3 := hz.f 3 (by omega)
    have f4 := hz.f 4 (by omega)
    have f5 := hz.f 5 (by omega)
    clear hown hx hbel hn hz
    by_cases hlt : k < t.size
    · have k1 : (k : Int) < (t.size : Int) := by omega
      have HC := Lib.hid (rest_cons hlt)
      by_cases hb : t[k]'hlt = 34
      · have e34 : (((t[k]'hlt).toNat : Int) == 34) = true := by rw [hb]; rfl
        have HE := Lib.hid (show gotV t.size (strT (restB t i) X) = .agg #[.int .i64 3, .string ⟨acc.toArray⟩, .int .i64 (i : Int), .int .i64 ((k : Int) + 1), .int .i64 0, .int .i64 0] by
          rw [← HXX.out, HC.out, hb, strR_end]
          unfold strT gotV gotC
          simp only [if_true]
          rw [HSL.out, show t.size - (restB t (k + 1)).length = k + 1 by rw [rest_len]; omega]
          rfl)
        have hcv : (convert 22 9 (.slice va n cp)).run Tryd.prog wr = .ok (.string ⟨acc.toArray⟩) wr := by
          have h := HO.out
          rw [HN.out] at h ⊢
          exact conv_owned h
        clear hb
        go_wp2_with fail
        refine bodyPost_ret (v := .agg #[.int .i64 3, .string ⟨acc.toArray⟩, .int .i64 (i : Int), .int .i64 ((k : Int) + 1), .int .i64 0, .int .i64 0]) (by simp [results, Tryd.results67, go_sem, c0, c1, c2, c3, c4, c5]) rfl ⟨?_, below_six HBE.out (by omega)⟩
        rw [HE.out]
      · have e34 := u8_ne hb (n := 34) rfl
        have HB := Lib.hid hb
        obtain ⟨⟨c, m, e⟩, hcr⟩ : ∃ x, x = charR (restB t k) := ⟨_, rfl⟩
        have HCH := Lib.hid (refChar_any t k wr hlt ht)
        rw [← hcr] at HCH
        unfold charZ at HCH
        simp only at HCH
        have HCR := Lib.hid hcr
        clear hb hcr
        by_cases h52 : e = 52
        · subst h52
          have HE := Lib.hid (show gotV t.size (strT (restB t i) X) = .agg #[.int .i64 0, .string ⟨#[]⟩, .int .i64 0, .int .i64 0, .int .i64 (i : Int), .int .i64 52] by
            rw [← HXX.out, HC.out, strR_open HB.out (by rw [← HC.out, ← HCR.out])]
            unfold strT gotV gotC faultX
            simp only [show ¬ (52 : Int) = 0 by decide, if_false, Bool.false_eq_true]
            rw [HSL.out])
          rw [if_pos rfl] at HCH
          go_wp2_with ((go_at_call 76; (with_reducible refine HCH.out.mono ?_); rintro en w2 ⟨rfl, rfl⟩))
          refine bodyPost_ret (v := .agg #[.int .i64 0, .string ⟨#[]⟩, .int .i64 0, .int .i64 0, .int .i64 (i : Int), .int .i64 52]) (by simp [results, Tryd.results67, go_sem, c0, c1, c2, c3, c4, c5]) rfl ⟨?_, below_six HBE.out (by omega)⟩
          rw [HE.out]
        · rw [if_neg h52] at HCH
          by_cases h00 : e = 0
          · subst h00
            have hm := char_size (l := restB t k) (by rw [← HCR.out])
            rw [← HCR.out, rest_len] at hm
            simp only at hm
            obtain ⟨m1, m2⟩ := hm
            go_upto_region 12 with (first | (go_at_call 76; (with_reducible refine HCH.out.mono ?_); rintro en w2 ⟨rfl, rfl⟩) | (at_builtin; go_must (refine wpList_append_lies _ (by rfl) _ _ _ (by rfl) (R + 1) 5 i0 _ 1 1 Tryd.underlying22 hi0 iz0 iz1 iz2 rfl (by omega) (.slice va n cp) n (bytesC acc) (by rfl) (HO.out.alloc _) ⟨_, 0, none⟩ 1 1 [.int .u8 (c.toNat : Int)] (by rfl) (by rfl) (World.news_of_block (cs := #[.int .u8 (c.toNat : Int)]) (t := 5) (fr := (0, 0)) (heap_alloc_new _ _)) (by simp [Value.oneCell']) (by omega) (by unfold maxLen; omega) (by omega) (by simp; omega) _ rfl ?_; intro g2 cap2 w7 hown7 hgrow7 hat7 hlt7; have HO7 := Lib.hid hown7; have HG7 := Lib.hid hgrow7; clear hown7 hgrow7 hat7 hlt7)))
            have hbo : Below wr.heap.size wr (wr.alloc (Obj.cells #[.int .u8 (c.toNat : Int)] 5)) := (Below.refl _ _).alloc (Nat.le_refl _) _
            have HB7 := Lib.hid (show Below w.heap.size w w7 from (HBE.out.trans (hbo.mono HBE.out.size)).grown HG7.out (by have := HBE.out.size; simp; omega) (fun j hj => by have := (HO.out.lt j hj).1; omega))
            have hz7 := (HZR.out.below hbo).keep (HG7.out.block R (by simp; omega) (fun e => by have := (HO.out.lt R e.symm).1; omega))
            have HZ7 := Lib.hid (show ZeroG w7 R from hz7)
            have hs7 : R + 1 ≤ w7.heap.size := by have := hbo.size; have := HG7.out.size; omega
            clear c0 c1 c2 c3 c4 c5 f0 f1 f2 f3 f4 f5 hbo
            have c0 := hz7.c0
            have c1 := hz7.c1
            have c2 := hz7.c2
            have c3 := hz7.c3
            have c4 := hz7.c4
            have c5 := hz7.c5
            have f0 := hz7.f 0 (by omega)
            have f1 := hz7.f 1 (by omega)
            have f2 := hz7.f 2 (by omega)
            have f3 := hz7.f 3 (by omega)
            have f4 := hz7.f 4 (by omega)
            have f5 := hz7.f 5 (by omega)
            clear hz7
            by_cases h256 : n = 256
            · have k256 : (256 : Int) < (n : Int) + 1 := by omega
              have HE := Lib.hid (show gotV t.size (strT (restB t i) X) = .agg #[.int .i64 0, .string ⟨#[]⟩, .int .i64 0, .int .i64 0, .int .i64 (i : Int), .int .i64 51] by
                rw [← HXX.out, HC.out, strR_long HB.out (by rw [← HC.out, ← HCR.out]) (by rw [← HN.out, h256])]
                unfold strT gotV gotC faultX
                simp only [show ¬ (51 : Int) = 0 by decide, if_false, Bool.false_eq_true]
                rw [HSL.out])
              go_wp2_with fail
              refine bodyPost_ret (v := .agg #[.int .i64 0, .string ⟨#[]⟩, .int .i64 0, .int .i64 0, .int .i64 (i : Int), .int .i64 51]) (by simp [results, Tryd.results67, go_sem, c0, c1, c2, c3, c4, c5]) rfl ⟨?_, below_six HB7.out (by omega)⟩
              rw [HE.out]
            · have HE := Lib.hid (show strR (acc ++ [c]) (restB t (k + m)) = X by
                rw [← HXX.out, HC.out, strR_more HB.out (by rw [← HC.out, ← HCR.out]) (by rw [← HN.out]; exact h256), ← HC.out, ← HCR.out, rest_drop])
              have k256 : ¬ (256 : Int) < (n : Int) + 1 := by omega
              have hl7 : (acc ++ [c]).length = n + 1 := by rw [List.length_append, ← HN.out]; rfl
              have HL7 := Lib.hid hl7
              clear h256 hl7
              go_wp2_with fail
              go_roundg g
              case rel => exact ⟨k + m, acc ++ [c], some ⟨g2, 0, none⟩, cap2, by omega, by go_num, by rw [HL7.out], by rw [HL7.out, bytesC_append]; exact HO7.out, HE.out, by rw [HL7.out]; omega, HZ7.out, HB7.out, hs7, by omega⟩
              case measure => omega
          · have e00 : (e != 0) = true := by rw [bne, beq_eq_false_iff_ne.2 h00]; rfl
            have HE := Lib.hid (show gotV t.size (strT (restB t i) X) = .agg #[.int .i64 0, .string ⟨#[]⟩, .int .i64 0, .int .i64 0, .int .i64 (k : Int), .int .i64 e] by
              rw [← HXX.out, HC.out, strR_bad HB.out (by rw [← HC.out, ← HCR.out]; exact h52) (by rw [← HC.out, ← HCR.out]; exact h00), ← HC.out, ← HCR.out]
              unfold strT gotV gotC faultX
              simp only [h00, if_false, if_true]
              rw [show t.size - (restB t k).length = k by rw [rest_len]; omega])
            go_wp2_with ((go_at_call 76; (with_reducible refine HCH.out.mono ?_); rintro en w2 ⟨rfl, rfl⟩))
            refine bodyPost_ret (v := .agg #[.int .i64 0, .string ⟨#[]⟩, .int .i64 0, .int .i64 0, .int .i64 (k : Int), .int .i64 e]) (by simp [results, Tryd.results67, go_sem, c0, c1, c2, c3, c4, c5]) rfl ⟨?_, below_six HBE.out (by omega)⟩
            rw [HE.out]
    · have k1 : ¬ (k : Int) < (t.size : Int) := by omega
      have HE := Lib.hid (show gotV t.size (strT (restB t i) X) = .agg #[.int .i64 0, .string ⟨#[]⟩, .int .i64 0, .int .i64 0, .int .i64 (i : Int), .int .i64 52] by
        rw [← HXX.out, rest_nil (t := t) (k := k) (by omega), strR_nil]
        unfold strT gotV gotC faultX
        simp only [show ¬ (52 : Int) = 0 by decide, if_false, Bool.false_eq_true]
        rw [HSL.out])
      go_wp2_with fail
      refine bodyPost_ret (v := .agg #[.int .i64 0, .string ⟨#[]⟩, .int .i64 0, .int .i64 0, .int .i64 (i : Int), .int .i64 52]) (by simp [results, Tryd.results67, go_sem, c0, c1, c2, c3, c4, c5]) rfl ⟨?_, below_six HBE.out (by omega)⟩
      rw [HE.out]
end Go.Proofs.YtaipljdpkgdheaaDoor
/- The reference's signs. -/
namespace Go.Proofs.YtaipljdpkgdheaaDoor
open Go Go.RowKit

def sgnL : List (List UInt8) := [[46, 46], [33, 61], [60, 61], [62, 61], [40], [41], [91], [93], [123], [125], [44], [46], [43], [45], [42], [61], [60], [62], [33]]
def sgnS (j : Nat) : ByteArray := ⟨(sgnL.getD j []).toArray⟩
def sgnCells : Array Value := #[.string ⟨#[46, 46]⟩, .string ⟨#[33, 61]⟩, .string ⟨#[60, 61]⟩, .string ⟨#[62, 61]⟩, .string ⟨#[40]⟩, .string ⟨#[41]⟩, .string ⟨#[91]⟩, .string ⟨#[93]⟩, .string ⟨#[123]⟩, .string ⟨#[125]⟩, .string ⟨#[44]⟩, .string ⟨#[46]⟩, .string ⟨#[43]⟩, .string ⟨#[45]⟩, .string ⟨#[42]⟩, .string ⟨#[61]⟩, .string ⟨#[60]⟩, .string ⟨#[62]⟩, .string ⟨#[33]⟩]
theorem sgn_cell : ∀ j : Fin 19, sgnCells[j.val]? = some (.string (sgnS j.val)) := fun j => by
  obtain ⟨j, hj⟩ := j
  rcases (show j = 0 ∨ j = 1 ∨ j = 2 ∨ j = 3 ∨ j = 4 ∨ j = 5 ∨ j = 6 ∨ j = 7 ∨ j = 8 ∨ j = 9 ∨ j = 10 ∨ j = 11 ∨ j = 12 ∨ j = 13 ∨ j = 14 ∨ j = 15 ∨ j = 16 ∨ j = 17 ∨ j = 18 by omega) with rfl | rfl | rfl | rfl | rfl | rfl | rfl | rfl | rfl | rfl | rfl | rfl | rfl | rfl | rfl | rfl | rfl | rfl | rfl <;> rfl
theorem sign_end {l : List UInt8} (h : ∀ j, j < 19 → ¬ (sgnL.getD j []) <+: l) : signR l = 0 := by
  cases l with
  | nil => rfl
  | cons b r =>
    have h4 := h 4 (by omega)
    have h5 := h 5 (by omega)
    have h6 := h 6 (by omega)
    have h7 := h 7 (by omega)
    have h8 := h 8 (by omega)
    have h9 := h 9 (by omega)
    have h10 := h 10 (by omega)
    have h11 := h 11 (by omega)
    have h12 := h 12 (by omega)
    have h13 := h 13 (by omega)
    have h14 := h 14 (by omega)
    have h15 := h 15 (by omega)
    have h16 := h 16 (by omega)
    have h17 := h 17 (by omega)
    have h18 := h 18 (by omega)
    simp only [sgnL, List.getD_cons_succ, List.getD_cons_zero, List.cons_prefix_cons, List.nil_prefix, and_true] at h4 h5 h6 h7 h8 h9 h10 h11 h12 h13 h14 h15 h16 h17 h18
    unfold signR
    simp only [Ne.symm h4, Ne.symm h5, Ne.symm h6, Ne.symm h7, Ne.symm h8, Ne.symm h9, Ne.symm h10, Ne.symm h11, Ne.symm h12, Ne.symm h13, Ne.symm h14, Ne.symm h15, Ne.symm h16, Ne.symm h17, Ne.symm h18, if_false, or_self]
theorem sign_hit {l : List UInt8} {k : Nat} (hk : k < 19) (h : (sgnL.getD k []) <+: l) (hn : ∀ j, j < k → ¬ (sgnL.getD j []) <+: l) : signR l = (sgnL.getD k []).length := by
  have h0 := hn 0
  have h1 := hn 1
  have h2 := hn 2
  have h3 := hn 3
  rcases (show k = 0 ∨ k = 1 ∨ k = 2 ∨ k = 3 ∨ k = 4 ∨ k = 5 ∨ k = 6 ∨ k = 7 ∨ k = 8 ∨ k = 9 ∨ k = 10 ∨ k = 11 ∨ k = 12 ∨ k = 13 ∨ k = 14 ∨ k = 15 ∨ k = 16 ∨ k = 17 ∨ k = 18 by omega) with rfl | rfl | rfl | rfl | rfl | rfl | rfl | rfl | rfl | rfl | rfl | rfl | rfl | rfl | rfl | rfl | rfl | rfl | rfl
  all_goals
    obtain ⟨r, rfl⟩ := h
    cases r <;> simp_all [sgnL, signR] <;> (intro e; first | exact h0 e.symm | exact h1 e.symm | exact h2 e.symm | exact h3 e.symm)
set_option maxHeartbeats 4000000 in
set_option maxRecDepth 100000 in
theorem refSigns_any (w : World) : Calls Tryd.prog 68 #[] w fun e w' => e = .returned (.slice (some ⟨w.heap.size, 0, none⟩) 19 19) ∧ w' = w.alloc (Obj.cells sgnCells 9) := by
  go_enter Tryd.func68, Tryd.ntmps68
  go_wp2_with fail
  go_ret
  exact ⟨rfl, rfl⟩
end Go.Proofs.YtaipljdpkgdheaaDoor
/- The reference's one: the token at a place. -/
namespace Go.Proofs.YtaipljdpkgdheaaDoor
open Go Go.RowKit

theorem runP_word : runP true = wordByte := by
  funext c
  unfold runP wordByte digU letU
  simp
theorem runP_dig : runP false = digU := by
  funext c
  unfold runP
  simp
theorem cut_at (t : ByteArray) (i m : Nat) : t.extract i (i + m) = ⟨((restB t i).take m).toArray⟩ := by
  apply ByteArray.ext
  apply Array.toList_inj.1
  simp only [ByteArray.data_extract, Array.toList_extract, List.extract, restB]
  rw [Nat.add_sub_cancel_left]
theorem take_while_len {p : UInt8 → Bool} (l : List UInt8) : l.take (l.takeWhile p).length = l.takeWhile p := by
  have h : l.takeWhile p <+: l := List.takeWhile_prefix p
  exact (List.prefix_iff_eq_take.1 h).symm
theorem take_while_le {p : UInt8 → Bool} (l : List UInt8) : (l.takeWhile p).length ≤ l.length := (List.takeWhile_prefix p).length_le
/-- Of a number: the word that stands there is the digits alone, unless a letter stands right behind them. -/
theorem word_digits : ∀ l : List UInt8, (∀ c, (l.drop (l.takeWhile digU).length).head? = some c → letU c = false) → wordL l = l.takeWhile digU
  | [], _ => rfl
  | b :: r, h => by
    unfold wordL
    cases hd : digU b
    · have hl : letU b = false := h b (by rw [List.takeWhile_cons, hd]; rfl)
      have hw : wordByte b = false := by
        unfold wordByte
        unfold digU at hd
        unfold letU at hl
        rw [hd, hl]
        rfl
      rw [List.takeWhile_cons, List.takeWhile_cons, hd, hw]
      rfl
    · have hw : wordByte b = true := by
        unfold wordByte
        unfold digU at hd
        rw [hd]
        rfl
      have ih := word_digits r (fun c hc => h c (by rw [List.takeWhile_cons, hd]; simpa using hc))
      unfold wordL at ih
      rw [List.takeWhile_cons, List.takeWhile_cons, hd, hw, if_pos rfl, if_pos rfl, ih]
theorem word_letter : ∀ l : List UInt8, (∃ c, (l.drop (l.takeWhile digU).length).head? = some c ∧ letU c = true) → (wordL l).all digU = false
  | [], h => by obtain ⟨c, h, _⟩ := h; simp at h
  | b :: r, h => by
    unfold wordL
    obtain ⟨c, h1, h2⟩ := h
    cases hd : digU b
    · rw [List.takeWhile_cons, hd] at h1
      have e : b = c := by simpa using h1
      subst e
      have hw : wordByte b = true := by
        unfold wordByte
        unfold letU at h2
        rw [h2, Bool.or_true]
      rw [List.takeWhile_cons, hw, if_pos rfl, List.all_cons, hd]
      rfl
    · have hw : wordByte b = true := by
        unfold wordByte
        unfold digU at hd
        rw [hd]
        rfl
      have ih := word_letter r ⟨c, by rw [List.takeWhile_cons, hd] at h1; simpa using h1, h2⟩
      unfold wordL at ih
      rw [List.takeWhile_cons, hw, if_pos rfl, List.all_cons, ih, Bool.and_false]
theorem all_digits (l : List UInt8) : (l.takeWhile digU).all digU = true := by
  rw [List.all_eq_true]
  intro c hc
  exact (List.all_takeWhile (p := digU) (l := l) |> List.all_eq_true.1) c hc
theorem one_let {b : UInt8} {r : List UInt8} (h : letU b = true) : oneR (b :: r) = if (wordL (b :: r)).length ≤ 32 then ⟨1, wordL (b :: r), b :: r, (b :: r).drop (wordL (b :: r)).length, 0⟩ else faultX (b :: r) 51 := by simp only [oneR, h, if_true]
theorem one_dig {b : UInt8} {r : List UInt8} (h : letU b = false) (h2 : digU b = true) : oneR (b :: r) = if numB (wordL (b :: r)) then ⟨2, wordL (b :: r), b :: r, (b :: r).drop (wordL (b :: r)).length, 0⟩ else faultX (b :: r) 51 := by simp only [oneR, h, h2, Bool.false_eq_true, if_false, if_true]
theorem one_str {r : List UInt8} : oneR (34 :: r) = strT (34 :: r) (strR [] r) := by
  unfold strT
  simp only [oneR, show letU 34 = false from rfl, show digU 34 = false from rfl, Bool.false_eq_true, if_false, if_true]
theorem one_sgn {b : UInt8} {r : List UInt8} (h : letU b = false) (h2 : digU b = false) (h3 : ¬ b = 34) : oneR (b :: r) = if signR (b :: r) ≠ 0 then ⟨4, (b :: r).take (signR (b :: r)), b :: r, (b :: r).drop (signR (b :: r)), 0⟩ else faultX (b :: r) 50 := by simp only [oneR, h, h2, h3, Bool.false_eq_true, if_false]

theorem below_drewN2 {B : Nat} {a w : World} (h : Below B a w) : ∀ n, Below B a (w.drewN n)
  | 0 => h
  | n + 1 => (below_drewN2 h n).drew
theorem sgn_bytes (k : Nat) : (sgnS k).data.toList = sgnL.getD k [] := by unfold sgnS; simp
theorem sgn_size : ∀ k : Fin 19, 1 ≤ (sgnS k.val).size ∧ (sgnS k.val).size ≤ 2 := by decide +kernel
theorem sgn_len (k : Nat) : (sgnL.getD k []).length = (sgnS k).size := by rw [← sgn_bytes]; exact len_at _
theorem sgn_cut (t : ByteArray) (i k : Nat) (h : i + (sgnS k).size ≤ t.size) : (sgnL.getD k []) <+: restB t i ↔ t.extract i (i + (sgnS k).size) = sgnS k := by
  rw [cut_at, List.prefix_iff_eq_take, sgn_len]
  constructor
  · intro e
    rw [← e]
    rfl
  · intro e
    have h2 := congrArg (fun s : ByteArray => s.data.toList) e
    rw [← sgn_bytes]
    simpa using h2.symm

set_option maxHeartbeats 8000000 in
set_option maxRecDepth 100000 in
theorem refOne_any (t : ByteArray) (i : Nat) (w : World) (hi : i < t.size) (ht : t.size ≤ 140737488355328) :
    Calls Tryd.prog 45 #[.string t, .int .i64 (i : Int)] w fun e w' => e = .returned (gotV t.size (oneR (restB t i))) ∧ Below w.heap.size w w' := by
  obtain ⟨W, hW⟩ : ∃ W, W = w.alloc (Obj.cells zeroG 85) := ⟨_, rfl⟩
  obtain ⟨R, hR⟩ : ∃ R, R = w.heap.size := ⟨_, rfl⟩
  have hz : ZeroG W R := Cells6.of (t := 85) (by rw [hW, hR]; exact heap_alloc_new _ _)
  have HZ := Lib.hid hz
  have HBW := Lib.hid (show Below w.heap.size w W by rw [hW]; exact (Below.refl _ _).alloc (Nat.le_refl _) _)
  have hzW : R + 1 = W.heap.size := by rw [hW, hR]; simp
  have hwR : w.heap.size ≤ R := by omega
  have HSL := Lib.hid (show t.size - (restB t i).length = i by rw [rest_len]; omega)
  have hrl : (restB t i).length = t.size - i := rest_len t i
  simp only [zeroG] at hW
  have HW := Lib.hid hW
  have HRE := Lib.hid hR
  have HC := Lib.hid (rest_cons hi)
  have j0 : (0 : Int) ≤ (i : Int) := by omega
  have j1 : (i : Int) < (t.size : Int) := by omega
  have c0 := hz.c0
  have c1 := hz.c1
  have c2 := hz.c2
  have c3 := hz.c3
  have c4 := hz.c4
  have c5 := hz.c5
  have f0 := hz.f 0 (by omega)
  have f1 := hz.f 1 (by omega)
  have f2 := hz.f 2 (by omega)
  have f3 := hz.f 3 (by omega)
  have f4 := hz.f 4 (by omega)
  have f5 := hz.f 5 (by omega)
  clear hW hR hz
  have HL := Lib.hid (refLetter_any (t[i]'hi) W)
  have HD := Lib.hid (refDigit_any (t[i]'hi) W)
  go_enter Tryd.func45, Tryd.ntmps45
  go_upto_region 1 with fail
  rw [← HW.out, ← HRE.out]
  cases hl : letU (t[i]'hi)
  · rw [hl] at HL
    cases hd : digU (t[i]'hi)
    · rw [hd] at HD
      by_cases hq : t[i]'hi = 34
      · have e34 : (((t[i]'hi).toNat : Int) == 34) = true := by rw [hq]; rfl
        have HST := Lib.hid (refStr_any t i W hi ht)
        have HE := Lib.hid (show gotV t.size (oneR (restB t i)) = gotV t.size (strT (restB t i) (strR [] (restB t (i + 1)))) by rw [HC.out, hq, one_str])
        rw [← HE.out] at HST
        obtain ⟨v0, v1, v2, v3, v4, v5, hv⟩ : ∃ (v0 : Int) (v1 : ByteArray) (v2 v3 v4 v5 : Int), gotV t.size (oneR (restB t i)) = .agg #[.int .i64 v0, .string v1, .int .i64 v2, .int .i64 v3, .int .i64 v4, .int .i64 v5] := by
          unfold gotV gotC
          split <;> exact ⟨_, _, _, _, _, _, rfl⟩
        rw [hv] at HST
        have HV := Lib.hid hv
        clear hq hl hd hv
        go_wp2_with (first | (go_at_call 63; (with_reducible refine HL.out.mono ?_); rintro e w' ⟨rfl, rfl⟩) | (go_at_call 65; (with_reducible refine HD.out.mono ?_); rintro e w' ⟨rfl, rfl⟩) | (go_at_call 67; (with_reducible refine HST.out.mono ?_); rintro e w3 ⟨rfl, hb3⟩; have HB3 := Lib.hid hb3; have hz3 := HZ.out.below hb3; have d0 := hz3.c0; have d1 := hz3.c1; have d2 := hz3.c2; have d3 := hz3.c3; have d4 := hz3.c4; have d5 := hz3.c5; have g0 := hz3.f 0 (by omega); have g1 := hz3.f 1 (by omega); have g2 := hz3.f 2 (by omega); have g3 := hz3.f 3 (by omega); have g4 := hz3.f 4 (by omega); have g5 := hz3.f 5 (by omega); clear hb3 hz3))
        refine bodyPost_ret (v := .agg #[.int .i64 v0, .string v1, .int .i64 v2, .int .i64 v3, .int .i64 v4, .int .i64 v5]) (by simp [results, Tryd.results45, go_sem, d0, d1, d2, d3, d4, d5]) rfl ⟨?_, below_six (HBW.out.trans (HB3.out.mono (by omega))) (by omega)⟩
        rw [HV.out]
      · have e34 := u8_ne hq (n := 34) rfl
        have HOS := Lib.hid (one_sgn (r := restB t (i + 1)) hl hd hq)
        rw [← HC.out] at HOS
        obtain ⟨W2, hW2⟩ : ∃ W2, W2 = W.alloc (Obj.cells sgnCells 9) := ⟨_, rfl⟩
        obtain ⟨B, hB⟩ : ∃ B, B = W.heap.size := ⟨_, rfl⟩
        have hsg : W2.heap[B]? = some (Obj.cells sgnCells 9 (0, 0)) := by rw [hW2, hB]; exact heap_alloc_new _ _
        have hbW2 : Below W.heap.size W W2 := by rw [hW2]; exact (Below.refl _ _).alloc (Nat.le_refl _) _
        have HSG := Lib.hid hsg
        have HZ2 := Lib.hid (HZ.out.below hbW2)
        have HB2 := Lib.hid (HBW.out.trans (hbW2.mono (by omega)))
        have hB2 : B < W2.heap.size := (Array.getElem?_eq_some_iff.1 hsg).1
        have hR2 : R < W2.heap.size := by have := hbW2.size; omega
        have HSI := Lib.hid (refSigns_any W)
        rw [← hW2, ← hB] at HSI
        clear hq hl hd hW2 hsg hbW2 hB c0 c1 c2 c3 c4 c5 f0 f1 f2 f3 f4 f5
        go_wp2_with (first | (go_at_call 63; (with_reducible refine HL.out.mono ?_); rintro e w' ⟨rfl, rfl⟩) | (go_at_call 65; (with_reducible refine HD.out.mono ?_); rintro e w' ⟨rfl, rfl⟩) | (go_at_call 68; (with_reducible refine HSI.out.mono ?_); rintro e w3 ⟨rfl, h3⟩; obtain rfl : W2 = w3 := h3.symm))
        go_loopg [9, 10] 20 (fun g v9 v10 wr => ∃ k : Nat, k ≤ 19 ∧ v9 = .int .i64 (k : Int) ∧ (∀ j, j < k → ¬ (sgnL.getD j []) <+: restB t i) ∧ Below W2.heap.size W2 wr ∧ 19 - k < g)
        case atStart => exact ⟨0, by omega, rfl, fun j hj => by omega, Below.refl _ _, by omega⟩
        case round =>
          obtain ⟨k, hk, rfl, hno, hbe, hg⟩ := hrel
          obtain ⟨g, rfl⟩ : ∃ g, gk = g + 1 := ⟨gk - 1, by omega⟩
          have HNO := Lib.hid hno
          have HBE := Lib.hid hbe
          have hz := HZ2.out.below hbe
          have HZR := Lib.hid hz
          have c0 := hz.c0
          have c1 := hz.c1
          have c2 := hz.c2
          have c3 := hz.c3
          have c4 := hz.c4
          have c5 := hz.c5
          have f0 := hz.f 0 (by omega)
          have f1 := hz.f 1 (by omega)
          have f2 := hz.f 2 (by omega)
          have f3 := hz.f 3 (by omega)
          have f4 := hz.f 4 (by omega)
          have f5 := hz.f 5 (by omega)
          have k0 : (0 : Int) ≤ (k : Int) := by omega
          have hBR : B < wr.heap.size := by have := hbe.size; omega
          have hrow : wr.heap[B]? = some (Obj.cells sgnCells 9 (0, 0)) := (hbe.block B hB2).trans HSG.out
          clear hno hbe hz
          by_cases hlt : k < 19
          · have k1 : (k : Int) < 19 := by omega
            have s0 : wr.cell? ⟨B, k, none⟩ = some (.string (sgnS k)) := by
              rw [cell_of_row wr B _ _ _ (0, 0) hrow]
              exact sgn_cell ⟨k, hlt⟩
            obtain ⟨S, hS⟩ : ∃ S, S = sgnS k := ⟨_, rfl⟩
            have hs1 := (sgn_size ⟨k, hlt⟩).1
            have hs2 := (sgn_size ⟨k, hlt⟩).2
            have HCT := Lib.hid (sgn_cut t i k)
            have HLN := Lib.hid (sgn_len k)
            have HBY := Lib.hid (sgn_bytes k)
            simp only at hs1 hs2
            rw [← hS] at s0 hs1 hs2 HCT HLN HBY
            clear hS hrow
            obtain ⟨q, hq⟩ : ∃ q, q = i + S.size := ⟨_, rfl⟩
            have HQ := Lib.hid hq
            have hqi : (i : Int) + (S.size : Int) = (q : Int) := by omega
            have b1 : (0 : Int) ≤ (q : Int) := by omega
            have b3 : (i : Int) ≤ (q : Int) := by omega
            have hq2 : q ≤ i + 2 := by omega
            clear hq
            by_cases hle : q ≤ t.size
            · have b2 : (q : Int) ≤ (t.size : Int) := by omega
              have g1 : decide ((q : Int) ≤ (t.size : Int)) = true := decide_eq_true b2
              by_cases heq : t.extract i q = S
              · have he : ((t.extract i q).toList == S.toList) = true := by rw [heq, beq_self_eq_true]
                have HHI := Lib.hid (sign_hit hlt ((HCT.out (by have := HQ.out; omega)).2 (by rw [← HQ.out]; exact heq)) HNO.out)
                have HEQ := Lib.hid heq
                clear heq
                go_upto_region 19 with fail
                go_quiet (fail)
                have HE := Lib.hid (show gotV t.size (oneR (restB t i)) = .agg #[.int .i64 4, .string S, .int .i64 (i : Int), .int .i64 (q : Int), .int .i64 0, .int .i64 0] by
                  have hl := HLN.out
                  rw [HOS.out, HHI.out, hl, if_pos (by omega)]
                  unfold gotV gotC
                  simp only [if_true]
                  rw [HSL.out, List.length_drop, hrl, show t.size - (t.size - i - S.size) = q by have := HQ.out; omega]
                  have hp := ((HCT.out (by have := HQ.out; omega)).2 (by rw [← HQ.out]; exact HEQ.out))
                  rw [List.prefix_iff_eq_take, hl, ← HBY.out] at hp
                  rw [← hp])
                go_wp2_with fail
                refine bodyPost_ret (v := .agg #[.int .i64 4, .string S, .int .i64 (i : Int), .int .i64 (q : Int), .int .i64 0, .int .i64 0]) (by simp [results, Tryd.results45, go_sem, c0, c1, c2, c3, c4, c5]) rfl ⟨?_, below_six (below_drewN2 (HB2.out.trans (HBE.out.mono HB2.out.size)) _) (by omega)⟩
                rw [HE.out]
              · have he : ((t.extract i q).toList == S.toList) = false := by
                  rw [beq_eq_false_iff_ne, ByteArray.toList_eq, ByteArray.toList_eq]
                  exact fun h => heq (ByteArray.ext (Array.toList_inj.1 h))
                have HNP := Lib.hid (show ¬ (sgnL.getD k []) <+: restB t i from fun h => heq (by rw [HQ.out]; exact (HCT.out (by have := HQ.out; omega)).1 h))
                clear heq
                go_upto_region 19 with fail
                go_quiet (fail)
                go_wp2_with fail
                go_roundg g
                case rel => exact ⟨k + 1, by omega, by go_num, fun j hj => (by
                  by_cases hjk : j < k
                  · exact HNO.out j hjk
                  · obtain rfl : j = k := by omega
                    exact HNP.out), below_drewN2 HBE.out _, by omega⟩
                case measure => omega
            · have b2 : ¬ (q : Int) ≤ (t.size : Int) := by omega
              have g1 : decide ((q : Int) ≤ (t.size : Int)) = false := decide_eq_false b2
              have HNP := Lib.hid (show ¬ (sgnL.getD k []) <+: restB t i from fun h => by
                have h1 := h.length_le
                rw [HLN.out, hrl] at h1
                have := HQ.out
                omega)
              go_upto_region 19 with fail
              go_quiet (fail)
              go_wp2_with fail
              go_roundg g
              case rel => exact ⟨k + 1, by omega, by go_num, fun j hj => (by
                by_cases hjk : j < k
                · exact HNO.out j hjk
                · obtain rfl : j = k := by omega
                  exact HNP.out), below_drewN2 HBE.out _, by omega⟩
              case measure => omega
          · have k1 : ¬ (k : Int) < 19 := by omega
            have HE := Lib.hid (show gotV t.size (oneR (restB t i)) = .agg #[.int .i64 0, .string ⟨#[]⟩, .int .i64 0, .int .i64 0, .int .i64 (i : Int), .int .i64 50] by
              rw [HOS.out, if_neg (by rw [sign_end (fun j hj => HNO.out j (by omega))]; simp)]
              unfold gotV gotC faultX
              simp only [show ¬ (50 : Int) = 0 by decide, if_false]
              rw [HSL.out])
            go_wp2_with fail
            refine bodyPost_ret (v := .agg #[.int .i64 0, .string ⟨#[]⟩, .int .i64 0, .int .i64 0, .int .i64 (i : Int), .int .i64 50]) (by simp [results, Tryd.results45, go_sem, c0, c1, c2, c3, c4, c5]) rfl ⟨?_, below_six (HB2.out.trans (HBE.out.mono HB2.out.size)) (by omega)⟩
            rw [HE.out]
    · rw [hd] at HD
      obtain ⟨m, hm⟩ : ∃ m, m = ((restB t i).takeWhile digU).length := ⟨_, rfl⟩
      have hml : m ≤ t.size - i := by rw [hm, ← hrl]; exact take_while_le _
      have HM := Lib.hid hm
      have hm1 : 1 ≤ m := by rw [hm, HC.out, List.takeWhile_cons, hd]; simp
      have HRUN := Lib.hid (refRun_any t i false W (by omega) ht)
      rw [runP_dig, show ((restB t i).takeWhile digU).length = m from hm.symm] at HRUN
      have HOD := Lib.hid (one_dig (r := restB t (i + 1)) hl hd)
      rw [← HC.out] at HOD
      have hcut : t.extract i (i + m) = ⟨((restB t i).takeWhile digU).toArray⟩ := by rw [cut_at, hm, take_while_len]
      have HCUT := Lib.hid hcut
      have hsz : (t.extract i (i + m)).size = m := by rw [ByteArray.size_extract]; omega
      have HSM := Lib.hid (refSmall_any (t.extract i (i + m)) W (by rw [hsz]; omega))
      rw [show (t.extract i (i + m)).data.toList = (restB t i).takeWhile digU by rw [hcut]] at HSM
      have hne : (restB t i).takeWhile digU ≠ [] := fun e => by rw [e] at hm; simp at hm; omega
      have HNS := Lib.hid (small_num hne (all_digits (restB t i)))
      have b1 : (0 : Int) ≤ ((i + m : Nat) : Int) := by omega
      have b2 : ((i + m : Nat) : Int) ≤ (t.size : Int) := by omega
      have b3 : (i : Int) ≤ ((i + m : Nat) : Int) := by omega
      have HF := Lib.hid (show numB (wordL (restB t i)) = false → gotV t.size (oneR (restB t i)) = .agg #[.int .i64 0, .string ⟨#[]⟩, .int .i64 0, .int .i64 0, .int .i64 (i : Int), .int .i64 51] from fun h => by
        rw [HOD.out, if_neg (by rw [h]; simp)]
        unfold gotV gotC faultX
        simp only [show ¬ (51 : Int) = 0 by decide, if_false]
        rw [HSL.out])
      have HT := Lib.hid (show wordL (restB t i) = (restB t i).takeWhile digU → numB ((restB t i).takeWhile digU) = true → gotV t.size (oneR (restB t i)) = .agg #[.int .i64 2, .string (t.extract i (i + m)), .int .i64 (i : Int), .int .i64 ((i + m : Nat) : Int), .int .i64 0, .int .i64 0] from fun h1 h2 => by
        rw [HOD.out, h1, if_pos h2, HCUT.out]
        unfold gotV gotC
        simp only [if_true]
        rw [HSL.out, List.length_drop, hrl, ← HM.out, show t.size - (t.size - i - m) = i + m by omega])
      have HDR := Lib.hid (show (restB t i).drop ((restB t i).takeWhile digU).length = restB t (i + m) by rw [← HM.out, rest_drop])
      clear hl hd hm hcut hsz hne
      cases hs : smallB ((restB t i).takeWhile digU)
      · rw [hs] at HSM
        have HE := Lib.hid (HF.out (by
          by_cases hx : ∃ c, ((restB t i).drop ((restB t i).takeWhile digU).length).head? = some c ∧ letU c = true
          · exact num_other (word_letter _ hx)
          · rw [word_digits _ (fun c hc => by
              cases h : letU c
              · rfl
              · exact absurd ⟨c, hc, h⟩ hx), HNS.out, hs]))
        clear hs
        go_wp2_with (first | (go_at_call 63; (with_reducible refine HL.out.mono ?_); rintro e w' ⟨rfl, rfl⟩) | (go_at_call 65; (with_reducible refine HD.out.mono ?_); rintro e w' ⟨rfl, rfl⟩) | (go_at_call 64; (with_reducible refine HRUN.out.mono ?_); rintro e w' ⟨rfl, rfl⟩) | (go_at_call 66; (with_reducible refine HSM.out.mono ?_); rintro e w' ⟨rfl, rfl⟩))
        refine bodyPost_ret (v := .agg #[.int .i64 0, .string ⟨#[]⟩, .int .i64 0, .int .i64 0, .int .i64 (i : Int), .int .i64 51]) (by simp [results, Tryd.results45, go_sem, c0, c1, c2, c3, c4, c5]) rfl ⟨?_, below_six HBW.out (by omega)⟩
        rw [HE.out]
      · rw [hs] at HSM
        have HNT := Lib.hid (HNS.out.trans hs)
        clear hs
        by_cases hj : i + m < t.size
        · have b4 : ((i + m : Nat) : Int) < (t.size : Int) := by omega
          have HL2 := Lib.hid (refLetter_any (t[i + m]'hj) W)
          have HHD := Lib.hid (rest_head hj)
          cases hl2 : letU (t[i + m]'hj)
          · rw [hl2] at HL2
            have HE := Lib.hid (HT.out (word_digits _ (fun c hc => by rw [HDR.out, HHD.out] at hc; injection hc with hc; rw [← hc]; exact hl2)) HNT.out)
            clear hl2
            go_wp2_with (first | (go_at_call 63; (with_reducible refine HL.out.mono ?_); rintro e w' ⟨rfl, rfl⟩) | (go_at_call 65; (with_reducible refine HD.out.mono ?_); rintro e w' ⟨rfl, rfl⟩) | (go_at_call 64; (with_reducible refine HRUN.out.mono ?_); rintro e w' ⟨rfl, rfl⟩) | (go_at_call 66; (with_reducible refine HSM.out.mono ?_); rintro e w' ⟨rfl, rfl⟩) | (go_at_call 63; (with_reducible refine HL2.out.mono ?_); rintro e w' ⟨rfl, rfl⟩))
            refine bodyPost_ret (v := .agg #[.int .i64 2, .string (t.extract i (i + m)), .int .i64 (i : Int), .int .i64 ((i + m : Nat) : Int), .int .i64 0, .int .i64 0]) (by simp [results, Tryd.results45, go_sem, c0, c1, c2, c3, c4, c5]) rfl ⟨?_, below_six HBW.out (by omega)⟩
            rw [HE.out]
          · rw [hl2] at HL2
            have HE := Lib.hid (HF.out (num_other (word_letter _ ⟨_, by rw [HDR.out, HHD.out], hl2⟩)))
            clear hl2
            go_wp2_with (first | (go_at_call 63; (with_reducible refine HL.out.mono ?_); rintro e w' ⟨rfl, rfl⟩) | (go_at_call 65; (with_reducible refine HD.out.mono ?_); rintro e w' ⟨rfl, rfl⟩) | (go_at_call 64; (with_reducible refine HRUN.out.mono ?_); rintro e w' ⟨rfl, rfl⟩) | (go_at_call 66; (with_reducible refine HSM.out.mono ?_); rintro e w' ⟨rfl, rfl⟩) | (go_at_call 63; (with_reducible refine HL2.out.mono ?_); rintro e w' ⟨rfl, rfl⟩))
            refine bodyPost_ret (v := .agg #[.int .i64 0, .string ⟨#[]⟩, .int .i64 0, .int .i64 0, .int .i64 (i : Int), .int .i64 51]) (by simp [results, Tryd.results45, go_sem, c0, c1, c2, c3, c4, c5]) rfl ⟨?_, below_six HBW.out (by omega)⟩
            rw [HE.out]
        · have b4 : ¬ ((i + m : Nat) : Int) < (t.size : Int) := by omega
          have HE := Lib.hid (HT.out (word_digits _ (fun c hc => by rw [HDR.out, rest_nil (by omega)] at hc; cases hc)) HNT.out)
          go_wp2_with (first | (go_at_call 63; (with_reducible refine HL.out.mono ?_); rintro e w' ⟨rfl, rfl⟩) | (go_at_call 65; (with_reducible refine HD.out.mono ?_); rintro e w' ⟨rfl, rfl⟩) | (go_at_call 64; (with_reducible refine HRUN.out.mono ?_); rintro e w' ⟨rfl, rfl⟩) | (go_at_call 66; (with_reducible refine HSM.out.mono ?_); rintro e w' ⟨rfl, rfl⟩))
          refine bodyPost_ret (v := .agg #[.int .i64 2, .string (t.extract i (i + m)), .int .i64 (i : Int), .int .i64 ((i + m : Nat) : Int), .int .i64 0, .int .i64 0]) (by simp [results, Tryd.results45, go_sem, c0, c1, c2, c3, c4, c5]) rfl ⟨?_, below_six HBW.out (by omega)⟩
          rw [HE.out]
  · rw [hl] at HL
    obtain ⟨m, hm⟩ : ∃ m, m = (wordL (restB t i)).length := ⟨_, rfl⟩
    have hml : m ≤ t.size - i := by rw [hm, ← hrl]; exact take_while_le _
    have HRUN := Lib.hid (refRun_any t i true W (by omega) ht)
    rw [runP_word, show ((restB t i).takeWhile wordByte).length = m from hm.symm] at HRUN
    have HOL := Lib.hid (one_let (r := restB t (i + 1)) hl)
    rw [← HC.out, ← hm] at HOL
    have HM := Lib.hid hm
    clear hl hm
    by_cases h32 : m ≤ 32
    · have k32 : ¬ (32 : Int) < ((i + m : Nat) : Int) - (i : Int) := by omega
      have hcut := cut_at t i m
      have HE := Lib.hid (show gotV t.size (oneR (restB t i)) = .agg #[.int .i64 1, .string (t.extract i (i + m)), .int .i64 (i : Int), .int .i64 ((i + m : Nat) : Int), .int .i64 0, .int .i64 0] by
        rw [HOL.out, if_pos h32, hcut]
        unfold gotV gotC
        simp only [if_true]
        rw [HSL.out, HM.out, show (restB t i).take (wordL (restB t i)).length = wordL (restB t i) from take_while_len _, List.length_drop, hrl, ← HM.out, show t.size - (t.size - i - m) = i + m by omega])
      clear hcut
      have b1 : (0 : Int) ≤ ((i + m : Nat) : Int) := by omega
      have b2 : ((i + m : Nat) : Int) ≤ (t.size : Int) := by omega
      have b3 : (i : Int) ≤ ((i + m : Nat) : Int) := by omega
      go_wp2_with (first | (go_at_call 63; (with_reducible refine HL.out.mono ?_); rintro e w' ⟨rfl, rfl⟩) | (go_at_call 64; (with_reducible refine HRUN.out.mono ?_); rintro e w' ⟨rfl, rfl⟩))
      refine bodyPost_ret (v := .agg #[.int .i64 1, .string (t.extract i (i + m)), .int .i64 (i : Int), .int .i64 ((i + m : Nat) : Int), .int .i64 0, .int .i64 0]) (by simp [results, Tryd.results45, go_sem, c0, c1, c2, c3, c4, c5]) rfl ⟨?_, below_six HBW.out (by omega)⟩
      rw [HE.out]
    · have k32 : (32 : Int) < ((i + m : Nat) : Int) - (i : Int) := by omega
      have HE := Lib.hid (show gotV t.size (oneR (restB t i)) = .agg #[.int .i64 0, .string ⟨#[]⟩, .int .i64 0, .int .i64 0, .int .i64 (i : Int), .int .i64 51] by
        rw [HOL.out, if_neg h32]
        unfold gotV gotC faultX
        simp only [show ¬ (51 : Int) = 0 by decide, if_false]
        rw [HSL.out])
      go_wp2_with (first | (go_at_call 63; (with_reducible refine HL.out.mono ?_); rintro e w' ⟨rfl, rfl⟩) | (go_at_call 64; (with_reducible refine HRUN.out.mono ?_); rintro e w' ⟨rfl, rfl⟩))
      refine bodyPost_ret (v := .agg #[.int .i64 0, .string ⟨#[]⟩, .int .i64 0, .int .i64 0, .int .i64 (i : Int), .int .i64 51]) (by simp [results, Tryd.results45, go_sem, c0, c1, c2, c3, c4, c5]) rfl ⟨?_, below_six HBW.out (by omega)⟩
      rw [HE.out]
end Go.Proofs.YtaipljdpkgdheaaDoor
/- The reference's Scan, for every text. -/
namespace Go.Proofs.YtaipljdpkgdheaaDoor
open Go Go.RowKit

theorem skip_twice : ∀ (m : Bool) (l : List UInt8), skipR false (skipR m l) = skipR m l
  | _, [] => by simp [skipR]
  | true, b :: r => by
    by_cases h : b = 10
    · rw [skipR, if_pos h]; exact skip_twice false r
    · rw [skip_in h]; exact skip_twice true r
  | false, b :: r => by
    cases hb : blankU b
    · by_cases h2 : b = 45 ∧ r.head? = some 45
      · obtain ⟨rfl, h2⟩ := h2
        obtain ⟨r', rfl⟩ : ∃ r', r = 45 :: r' := by
          cases r with
          | nil => cases h2
          | cons d r' => simp only [List.head?_cons, Option.some.injEq] at h2; exact ⟨r', by rw [h2]⟩
        rw [skip_note]
        exact skip_twice true r'
      · rw [skip_none hb h2, skip_none hb h2]
    · rw [skip_blank hb]; exact skip_twice false r
theorem one_kind {b : UInt8} {r : List UInt8} : (oneR (b :: r)).kind ≠ 5 := by
  simp only [oneR, faultX]
  split
  · split <;> simp
  · split
    · split <;> simp
    · split
      · split <;> simp
      · split <;> simp
theorem next_skipped {l : List UInt8} (h : skipR false l = l) : nextR l = oneR l := by unfold nextR; rw [h]
theorem Cells3.ofBlock {w : World} {b : Nat} {v0 v1 v2 : Value} {t : TypeId} (h : w.heap[b]? = some (Obj.cells #[v0, v1, v2] t (0, 0))) : Cells3 w b v0 v1 v2 :=
  ⟨by simp [World.cell?, h], by simp [World.cell?, h], by simp [World.cell?, h], by simp [World.frozen?, h], by simp [World.frozen?, h], by simp [World.frozen?, h]⟩

set_option maxHeartbeats 8000000 in
set_option maxRecDepth 100000 in
theorem refScan_any (t : ByteArray) (w : World) (ht : t.size ≤ 4096) :
    Calls Tryd.prog 29 #[.string t] w fun e w' => (∃ (va : Option Addr) (cap : Nat), e = .returned (.tuple #[.slice va (scanR t.size [] t.data.toList).1.length cap, .int .i64 (scanAt t.size (scanR t.size [] t.data.toList)), .int .i64 (scanR t.size [] t.data.toList).2.2]) ∧ w'.ownsRow w.heap.size 28 3 (.slice va (scanR t.size [] t.data.toList).1.length cap) (scanR t.size [] t.data.toList).1.length (tkCells (scanR t.size [] t.data.toList).1)) ∧ Below w.heap.size w w' := by
  obtain ⟨i0, hi0, hz0, hz1, hz2⟩ := info_parts Tryd.infoTok
  have hq : ¬ (4096 : Int) < (t.size : Int) := by omega
  obtain ⟨R, hR⟩ : ∃ R, R = scanR t.size [] t.data.toList := ⟨_, rfl⟩
  rw [← hR]
  have HRR := Lib.hid hR
  have hs0 := refSkip_any t 0 w (Nat.zero_le _) (by omega)
  rw [show ((0 : Nat) : Int) = 0 from rfl] at hs0
  have HS0 := Lib.hid hs0
  clear hs0
  clear hR
  go_enter Tryd.func29, Tryd.ntmps29
  go_wp2_with ((go_at_call 44; (with_reducible refine HS0.out.mono ?_); rintro e w1 ⟨⟨j0, rfl, _, hj0, hjs⟩, rfl⟩; have HJ0 := Lib.hid hj0; have HJS := Lib.hid hjs; clear hj0 hjs))
  go_loopg [5, 6] (t.size + 2) (fun g v5 v6 wx => ∃ (acc : List Tk) (va : Option Addr) (cp k : Nat), v5 = .slice va acc.length cp ∧ v6 = .int .i64 (k : Int) ∧ wx.ownsRow w.heap.size 28 3 (.slice va acc.length cp) acc.length (tkCells acc) ∧ Below w.heap.size w wx ∧ k ≤ t.size ∧ scanR t.size acc (restB t k) = R ∧ skipR false (restB t k) = restB t k ∧ acc.length + (restB t k).length ≤ t.size ∧ (restB t k).length < g)
  case atStart => exact ⟨[], none, 0, j0, rfl, rfl, World.ownsRow_nil _ _ _ _, Below.refl _ _, HJ0.out, by
      rw [HRR.out, HJS.out]
      exact scanR_same (by unfold nextR; rw [skip_twice]; rfl), by rw [HJS.out, skip_twice], by rw [rest_len]; simp, by rw [rest_len]; omega⟩
  case round =>
    obtain ⟨acc, va, cp, k, rfl, rfl, hown, hbel, hk, hsp, hsk, hal, hlg⟩ := hrel
    obtain ⟨g, rfl⟩ : ∃ g, gk = g + 1 := ⟨gk - 1, by omega⟩
    have HO := Lib.hid hown
    have HBE := Lib.hid hbel
    have HSP := Lib.hid hsp
    have HSK := Lib.hid hsk
    have hzw := hbel.size
    have hl := rest_len t k
    have k0 : (0 : Int) ≤ (k : Int) := by omega
    obtain ⟨n, hn⟩ : ∃ n, n = acc.length := ⟨_, rfl⟩
    rw [← hn] at HO hal ⊢
    have HN := Lib.hid hn
    clear hown hbel hsp hsk hn
    by_cases hlt : k < t.size
    · have k1 : (k : Int) < (t.size : Int) := by omega
      have hne := refOne_any t k wr hlt (by omega)
      have HX0 := Lib.hid (next_skipped HSK.out)
      have hk5 : (oneR (restB t k)).kind ≠ 5 := by rw [rest_cons hlt]; exact one_kind
      obtain ⟨⟨kd, x, st, rs, f⟩, hX⟩ : ∃ T, T = oneR (restB t k) := ⟨_, rfl⟩
      rw [← hX] at hne hk5
      have HX := Lib.hid (HX0.out.trans hX.symm)
      clear hX
      by_cases hf : f = 0
      · subst hf
        obtain ⟨y, hy⟩ : ∃ y, y = t.size - st.length := ⟨_, rfl⟩
        obtain ⟨z, hz⟩ : ∃ z, z = t.size - rs.length := ⟨_, rfl⟩
        unfold gotV gotC at hne
        simp only [if_true, ← hy, ← hz] at hne
        have HNE := Lib.hid hne
        have HTK := Lib.hid (show tkOf t.size (nextR (restB t k)) = ⟨kd, x, y⟩ by rw [HX.out, hy]; rfl)
        have HSF := Lib.hid (show restB t z = rs by
          have h := next_suffix (restB t k)
          rw [HX.out] at h
          rw [hz]
          exact rest_suffix (h.trans (rest_is_suffix t k)))
        have hn4 : n ≤ 4096 := by omega
        have hz4 : z ≤ t.size := by omega
        have hless : rs.length < (restB t k).length := by
          have h := next_rest (restB t k) (by rw [HX.out]) (by rw [HX.out]; exact hk5)
          rw [HX.out] at h
          exact h
        have HE := Lib.hid (show scanR t.size (acc ++ [⟨kd, x, y⟩]) rs = R by
          have h := scanR_more (n := t.size) (acc := acc) (l := restB t k) (by rw [HX.out]) (by rw [HX.out]; exact hk5)
          rw [HTK.out, HX.out] at h
          exact h.symm.trans HSP.out)
        clear hne hy hz hk5
        go_upto_region 7 with ((go_at_call 45; (with_reducible refine HNE.out.mono ?_); rintro e w2 ⟨rfl, hb2⟩; have HB2 := Lib.hid hb2; clear hb2))
        obtain ⟨V, hV⟩ : ∃ V, V = w2.alloc (Obj.cells #[.int .i64 kd, .string ⟨x.toArray⟩, .int .i64 (y : Int), .int .i64 (z : Int), .int .i64 0, .int .i64 0] 85) := ⟨_, rfl⟩
        obtain ⟨b, hb⟩ : ∃ b, b = w2.heap.size := ⟨_, rfl⟩
        have hbV : Below w2.heap.size w2 V := by rw [hV]; exact (Below.refl _ _).alloc (Nat.le_refl _) _
        have hc := Cells6.of (w := V) (b := b) (t := 85) (by rw [hV, hb]; exact heap_alloc_new _ _)
        have HCV := Lib.hid hc
        have c0 := hc.c0
        have c1 := hc.c1
        have c2 := hc.c2
        have c3 := hc.c3
        have c4 := hc.c4
        have c5 := hc.c5
        have hb2s := HB2.out.size
        have HBV := Lib.hid (show Below w.heap.size w V from HBE.out.trans ((HB2.out.mono hzw).trans (hbV.mono (by omega))))
        have hoo := owns_below (owns_below HO.out HB2.out) hbV
        have HOV := Lib.hid hoo
        have hzV := HBV.out.size
        have hOb : ∀ q, (Value.slice va n cp).ownBlock = some q → q < b := fun q hq => by have := (HO.out.lt q hq).2; omega
        have HOb := Lib.hid hOb
        have hbl := hc.lt
        rw [← hV, ← hb]
        clear hV hb hbV hc hOb
        go_upto_region 10 with (at_builtin; go_must (refine wpList_append_lies _ (by rfl) _ _ _ (by rfl) w.heap.size 28 i0 _ 3 32 Tryd.underlying23 hi0 hz0 hz1 hz2 rfl (by omega) (.slice va n cp) n (tkCells acc) (by rfl) (HOV.out.alloc _) ⟨_, 0, none⟩ 1 1 (Tk.cells ⟨kd, x, y⟩) (by rfl) (by rfl) (World.news_of_block (cs := #[.int .i64 kd, .string ⟨x.toArray⟩, .int .i64 (y : Int)]) (t := 28) (fr := (0, 0)) (heap_alloc_new _ _)) (by simp [Tk.cells, Value.oneCell']) (by omega) (by unfold maxLen; omega) (by omega) (by simp; omega) _ rfl ?_; intro g2 cap2 w7 hown7 hgrow7 hat7 hlt7; have HO7 := Lib.hid hown7; have HG7 := Lib.hid hgrow7; clear hown7 hgrow7 hat7 hlt7))
        have hbo : Below V.heap.size V (V.alloc (Obj.cells #[.int .i64 kd, .string ⟨x.toArray⟩, .int .i64 (y : Int)] 28)) := (Below.refl _ _).alloc (Nat.le_refl _) _
        have HB7 := Lib.hid (show Below w.heap.size w w7 from (HBV.out.trans (hbo.mono hzV)).grown HG7.out (by simp; omega) (fun j hj => (HO.out.lt j hj).1))
        have hc7 := (HCV.out.below hbo).keep (HG7.out.block b (by simp; omega) (fun e => by have := HOb.out b e.symm; omega))
        clear c0 c1 c2 c3 c4 c5 hbo
        have c3 := hc7.c3
        have HSK7 := Lib.hid (refSkip_any t z w7 hz4 (by omega))
        clear hc7
        go_wp2_with ((go_at_call 44; (with_reducible refine HSK7.out.mono ?_); rintro e w8 ⟨⟨j, rfl, hzj, hj, hjs⟩, rfl⟩; have HJ := Lib.hid hj; have HJS := Lib.hid hjs; have HZJ := Lib.hid hzj; clear hj hjs hzj))
        have hlen : (acc ++ [(⟨kd, x, y⟩ : Tk)]).length = n + 1 := by rw [List.length_append, ← HN.out]; rfl
        have HLEN := Lib.hid hlen
        clear hlen
        have hzr : t.size - z = rs.length := by rw [← HSF.out, rest_len]
        go_roundg g
        case rel => exact ⟨acc ++ [⟨kd, x, y⟩], some ⟨g2, 0, none⟩, cap2, j, by rw [HLEN.out], rfl, by rw [HLEN.out, tkCells_snoc]; exact HO7.out, HB7.out, HJ.out, by
            rw [HJS.out, HSF.out, ← HE.out]
            exact scanR_same (by unfold nextR; rw [skip_twice]), by rw [HJS.out, skip_twice], by
            rw [HLEN.out, rest_len]
            have := HZJ.out
            omega, by
            rw [rest_len]
            have := HZJ.out
            omega⟩
        case measure => omega
      · have HE := Lib.hid (show R = ([], st, f) by rw [← HSP.out, scanR_bad (by rw [HX.out]; exact hf), HX.out])
        obtain ⟨y, hy⟩ : ∃ y, y = t.size - st.length := ⟨_, rfl⟩
        have e0 : (f != 0) = true := by rw [bne, beq_eq_false_iff_ne.2 hf]; rfl
        unfold gotV gotC at hne
        simp only [hf, if_false, ← hy] at hne
        have HNE := Lib.hid hne
        have HY := Lib.hid hy
        have HF := Lib.hid hf
        clear hne hy hf hk5
        go_upto_region 7 with ((go_at_call 45; (with_reducible refine HNE.out.mono ?_); rintro e w2 ⟨rfl, hb2⟩; have HB2 := Lib.hid hb2; clear hb2))
        obtain ⟨V, hV⟩ : ∃ V, V = w2.alloc (Obj.cells #[.int .i64 0, .string ⟨#[]⟩, .int .i64 0, .int .i64 0, .int .i64 (y : Int), .int .i64 f] 85) := ⟨_, rfl⟩
        obtain ⟨b, hb⟩ : ∃ b, b = w2.heap.size := ⟨_, rfl⟩
        have hbV : Below w2.heap.size w2 V := by rw [hV]; exact (Below.refl _ _).alloc (Nat.le_refl _) _
        have hc := Cells6.of (w := V) (b := b) (t := 85) (by rw [hV, hb]; exact heap_alloc_new _ _)
        have c4 := hc.c4
        have c5 := hc.c5
        have hb2s := HB2.out.size
        have HBV := Lib.hid (show Below w.heap.size w V from HBE.out.trans ((HB2.out.mono hzw).trans (hbV.mono (by omega))))
        rw [← hV, ← hb]
        clear hV hb hbV hc
        go_upto_region 8 with fail
        go_quiet (fail)
        go_wp2_with fail
        go_ret3
        rw [HE.out]
        refine ⟨⟨none, 0, ?_, World.ownsRow_nil _ _ _ _⟩, below_drewN2 HBV.out _⟩
        have hs : scanAt t.size ([], st, f) = (y : Int) := by unfold scanAt; rw [if_neg HF.out, HY.out]
        rw [hs]
        rfl
    · have k1 : ¬ (k : Int) < (t.size : Int) := by omega
      have hnil : restB t k = [] := rest_nil (by omega)
      have HE := Lib.hid (show R = (acc ++ [⟨5, [], t.size⟩], [], 0) by rw [← HSP.out, hnil, scan_nil])
      rw [hnil] at hal
      simp only [List.length_nil, Nat.add_zero] at hal
      clear hnil
      go_wp2_with (at_builtin; go_must (refine wpList_append_lies _ (by rfl) _ _ _ (by rfl) w.heap.size 28 i0 _ 3 32 Tryd.underlying23 hi0 hz0 hz1 hz2 rfl (by omega) (.slice va n cp) n (tkCells acc) (by rfl) (HO.out.alloc _) ⟨_, 0, none⟩ 1 1 (Tk.cells ⟨5, [], t.size⟩) (by rfl) (by rfl) (World.news_of_block (cs := #[.int .i64 5, .string ⟨#[]⟩, .int .i64 (t.size : Int)]) (t := 28) (fr := (0, 0)) (heap_alloc_new _ _)) (by simp [Tk.cells, Value.oneCell']) (by omega) (by unfold maxLen; omega) (by omega) (by simp; omega) _ rfl ?_; intro g2 cap2 w7 hown7 hgrow7 hat7 hlt7; have HO7 := Lib.hid hown7; have HG7 := Lib.hid hgrow7; clear hown7 hgrow7 hat7 hlt7))
      have hbo : Below wr.heap.size wr (wr.alloc (Obj.cells #[.int .i64 5, .string ⟨#[]⟩, .int .i64 (t.size : Int)] 28)) := (Below.refl _ _).alloc (Nat.le_refl _) _
      have HB7 := Lib.hid (show Below w.heap.size w w7 from (HBE.out.trans (hbo.mono hzw)).grown HG7.out (by simp; omega) (fun j hj => (HO.out.lt j hj).1))
      have hlen : (acc ++ [(⟨5, [], t.size⟩ : Tk)]).length = n + 1 := by rw [List.length_append, ← HN.out]; rfl
      go_ret3
      rw [HE.out]
      refine ⟨⟨some ⟨g2, 0, none⟩, cap2, ?_, ?_⟩, HB7.out⟩
      · simp only [hlen]
        rfl
      · simp only [hlen]
        rw [tkCells_snoc]
        exact HO7.out
end Go.Proofs.YtaipljdpkgdheaaDoor
