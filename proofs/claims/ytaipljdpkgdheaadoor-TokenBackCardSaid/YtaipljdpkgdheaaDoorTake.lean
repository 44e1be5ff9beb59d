/- Package token: how the scanner goes by a comment; how it takes a token. -/
import Derived.Test.YtaipljdpkgdheaaDoorState
namespace Go.Proofs.YtaipljdpkgdheaaDoor
open Go Go.RowKit

def lineD (l : List UInt8) : List UInt8 := l.dropWhile fun b => b != 10
theorem index_line : ∀ l : List UInt8, Lib.indexByte l 10 = if lineD l = [] then -1 else ((l.length - (lineD l).length : Nat) : Int) := by
  intro l
  induction l with
  | nil => rfl
  | cons b l ih =>
    by_cases h : b = 10
    · subst h
      simp [Lib.indexByte, lineD]
    · have e1 : lineD (b :: l) = lineD l := by simp [lineD, h]
      have h2 : (b == 10) = false := beq_eq_false_iff_ne.2 h
      have hle : (lineD l).length ≤ l.length := (List.dropWhile_suffix _).length_le
      rw [e1]
      simp only [Lib.indexByte, h2, ih, Bool.false_eq_true, if_false]
      by_cases hd : lineD l = []
      · simp [hd]
      · have hx : ¬ (((l.length - (lineD l).length : Nat) : Int) = -1) := by omega
        simp only [hd, if_false, List.length_cons, beq_iff_eq, hx]
        omega
theorem line_suffix (l : List UInt8) : lineD l <:+ l := List.dropWhile_suffix _
theorem line_idx (t : ByteArray) (w : World) : Calls Tryd.prog 54 #[.string t, .int .u8 10] w fun e w' => e = .returned (.int .i64 (Lib.indexByte t.data.toList 10)) ∧ w' = w := Tryd.strings_IndexByte t 10 w
set_option maxHeartbeats 8000000 in
set_option maxRecDepth 100000 in
theorem passComment_any (t : ByteArray) (p rb : Nat) (w : World) (hr : ReadAt w rb t p) (hk : p ≤ t.size) (ht : t.size ≤ 4096) :
    Calls Tryd.prog 35 #[.pointer (some ⟨rb, 0, none⟩)] w fun e w' => e = .returned (.tuple #[]) ∧ ReadTo rb w w' (t.size - (lineD (restB t p)).length) := by
  have c0 := hr.c0
  have c1 := hr.c1
  have f1 := hr.f1
  have q0 : (0 : Int) ≤ (p : Int) := by omega
  have q1 : (p : Int) ≤ (t.size : Int) := by omega
  have hI := index_line (restB t p)
  have hX : ∀ W, Calls Tryd.prog 54 #[.string (t.extract p t.size), .int .u8 10] W fun e w' => e = .returned (.int .i64 (Lib.indexByte (restB t p) 10)) ∧ W = w' := fun W => (line_idx (t.extract p t.size) W).mono fun e w' ⟨h1, h2⟩ => ⟨by rw [h1, rest_extract], h2.symm⟩
  have hle := (line_suffix (restB t p)).length_le
  rw [rest_len] at hle hI
  obtain ⟨n, hn⟩ : ∃ n, n = (lineD (restB t p)).length := ⟨_, rfl⟩
  rw [← hn] at hle hI ⊢
  by_cases h0 : lineD (restB t p) = []
  · rw [hI, if_pos h0] at hX
    rw [h0] at hn
    simp only [List.length_nil] at hn
    subst hn
    have HX := Lib.hid hX
    have HR := Lib.hid hr
    clear hX hr h0 hI hle
    go_enter Tryd.func35, Tryd.ntmps35
    go_wp2_with fail
    go_region_held3 (fun w' => w'.cell? ⟨rb, 0, none⟩ = some (.string t) ∧ w'.cell? ⟨rb, 1, none⟩ = some (.int .i64 p)) (go_keep) ((go_at_call 54; (with_reducible refine (HX.out _).mono ?_); rintro en w2 ⟨rfl, hw⟩; subst hw))
    all_goals
      go_wp2_with fail
      go_region_held3 (fun w' => w'.cell? ⟨rb, 0, none⟩ = some (.string t) ∧ w'.cell? ⟨rb, 1, none⟩ = some (.int .i64 p)) (go_keep) (fail)
    all_goals
      go_wp2_with fail
      refine bodyPost_end (v := .tuple #[]) (by simp [results, Tryd.results35, go_sem]) rfl ⟨rfl, ?_⟩
      rw [show (p : Int) + ((t.size : Int) - (p : Int)) = ((t.size - 0 : Nat) : Int) by omega]
      exact ReadTo.of (rb := rb) (q := t.size - 0) ((Below.refl w.heap.size w).drew.drew)
  · rw [hI, if_neg h0] at hX
    have HX := Lib.hid hX
    have HR := Lib.hid hr
    obtain ⟨m, hm⟩ : ∃ m, m = t.size - p - n := ⟨_, rfl⟩
    rw [← hm] at HX
    have e : t.size - n = p + m := by omega
    rw [e]
    have m1 : (m : Int) ≤ 4096 := by omega
    have m0 : ¬ (m : Int) < 0 := by omega
    clear hX hr h0 hI hle hm e
    go_enter Tryd.func35, Tryd.ntmps35
    go_wp2_with fail
    go_region_held3 (fun w' => w'.cell? ⟨rb, 0, none⟩ = some (.string t) ∧ w'.cell? ⟨rb, 1, none⟩ = some (.int .i64 p)) (go_keep) ((go_at_call 54; (with_reducible refine (HX.out _).mono ?_); rintro en w2 ⟨rfl, hw⟩; subst hw))
    all_goals
      go_wp2_with fail
      refine bodyPost_end (v := .tuple #[]) (by simp [results, Tryd.results35, go_sem]) rfl ⟨rfl, ?_⟩
      have h := ReadTo.of (rb := rb) (q := p + m) ((Below.refl w.heap.size w).drew)
      exact_mod_cast h
theorem clone_any (s : ByteArray) (w : World) (hlim : s.size ≤ 281474976710656) : Calls Tryd.prog 55 #[.string s] w fun e w' => e = .returned (.string s) ∧ Below w.heap.size w w' := by
  go_enter Tryd.func55, Tryd.ntmps55
  go_wp2_with (go_at_call 71; refine (Tryd.stringslite_Clone s _ hlim).mono ?_; rintro e w' ⟨rfl, hb⟩)
  go_ret
  exact ⟨rfl, hb⟩
set_option maxHeartbeats 8000000 in
set_option maxRecDepth 100000 in
theorem take_any (t s : ByteArray) (k : Int) (p rb : Nat) (w : World) (hr : ReadAt w rb t p) (hk : p ≤ 4096) (hs : s.size ≤ 4096) :
    Calls Tryd.prog 38 #[.pointer (some ⟨rb, 0, none⟩), .int .i64 k, .string s] w fun e w' => e = .returned (.agg #[.int .i64 k, .string s, .int .i64 (p : Int)]) ∧ ReadTo rb w w' (p + s.size) := by
  obtain ⟨O, hO⟩ : ∃ O, O = Obj.cells #[.int .i64 0, .string ⟨#[]⟩, .int .i64 0] 28 := ⟨_, rfl⟩
  obtain ⟨W1, hW1⟩ : ∃ W1, W1 = w.alloc (Obj.cells #[.int .i64 0, .string ⟨#[]⟩, .int .i64 0] 28) := ⟨_, rfl⟩
  have HB1 := Lib.hid (show Below w.heap.size w W1 by rw [hW1]; exact (Below.refl _ _).alloc (Nat.le_refl _) _)
  have HC1 := Lib.hid (show Cells3 W1 w.heap.size (.int .i64 0) (.string ⟨#[]⟩) (.int .i64 0) by rw [hW1]; exact Cells3.made _ _ _ _ _)
  have HR1 := Lib.hid (hr.below HB1.out)
  have HR := Lib.hid hr
  have r1 := HR1.out.c1
  have r2 := HR1.out.f1
  have hw1 : w.heap.size < W1.heap.size := HC1.out.lt
  have hrl := hr.lt
  -- the world in which the token is made ahead of the call
  obtain ⟨Y, hY⟩ : ∃ Y, Y = W1.alloc O := ⟨_, rfl⟩
  have HBY := Lib.hid (show Below W1.heap.size W1 Y by rw [hY]; exact (Below.refl _ _).alloc (Nat.le_refl _) _)
  have HCY := Lib.hid (show Cells3 Y W1.heap.size (.int .i64 0) (.string ⟨#[]⟩) (.int .i64 0) by rw [hY, hO]; exact Cells3.made _ _ _ _ _)
  have y1 : (W1.alloc O).cell? ⟨rb, 1, none⟩ = some (.int .i64 (p : Int)) := by rw [← hY]; exact (HR1.out.below HBY.out).c1
  have hyl : W1.heap.size < Y.heap.size := HCY.out.lt
  rw [hO] at y1
  have HK := Lib.hid (fun W => clone_any s W (by omega))
  have HW1 := Lib.hid hW1
  have HY := Lib.hid hY
  have HO := Lib.hid hO
  have n1 : rb ≠ w.heap.size := by omega
  have n2 : rb ≠ W1.heap.size := by omega
  have n3 : w.heap.size ≠ W1.heap.size := by omega
  clear hr hW1 hY hO
  go_enter Tryd.func38, Tryd.ntmps38
  go_upto_region 1 with fail
  rw [← HW1.out]
  go_region_with (go_at_call 55; refine (HK.out _).mono ?_; rintro e w2 ⟨rfl, hb2⟩; first
    | (have hbD : Below W1.heap.size W1 w2 := (Below.refl W1.heap.size W1).drew.trans hb2
       have HRD := HR1.out.below hbD
       have d1 := HRD.c1
       have d2 := HRD.f1
       have hzz := hbD.size
       have HCD := HC1.out.keep (hbD.block _ hw1)
       have hbE : Below w2.heap.size w2 (w2.alloc (Obj.cells #[.int .i64 k, .string s, .int .i64 (p : Int)] 28)) := (Below.refl _ _).alloc (Nat.le_refl _) _
       have x0 := (HRD.below (show Below w2.heap.size w2 (w2.alloc (Obj.cells #[.int .i64 0, .string ⟨#[]⟩, .int .i64 0] 28)) from (Below.refl _ _).alloc (Nat.le_refl _) _)).c1
       have HRE := HRD.below hbE
       have x1 := HRE.c1
       have x2 := HRE.f1
       have HCE := HCD.keep (hbE.block _ (by omega))
       have z0 := HCE.c0
       have z1 := HCE.c1
       have z2 := HCE.c2
       have zf0 := HCE.f0
       have zf1 := HCE.f1
       have zf2 := HCE.f2
       have m2 : rb ≠ w2.heap.size := by omega
       have m3 : w.heap.size ≠ w2.heap.size := by omega
       have HBX := Lib.hid (HB1.out.trans ((hbD.mono (by omega)).trans (hbE.mono (by omega))))
       clear hbD hb2 hbE HRD HCD HRE HCE hzz)
    | (have hbD : Below Y.heap.size Y w2 := by rw [HY.out, HO.out]; exact (Below.refl _ _).drew.trans hb2
       have HRD := (HR1.out.below HBY.out).below hbD
       have x1 := HRD.c1
       have x2 := HRD.f1
       have HCE := (HC1.out.keep (HBY.out.block _ hw1)).keep (hbD.block _ (by omega))
       have z0 := HCE.c0
       have z1 := HCE.c1
       have z2 := HCE.c2
       have zf0 := HCE.f0
       have zf1 := HCE.f1
       have zf2 := HCE.f2
       have HCN := HCY.out.keep (hbD.block _ hyl)
       have v0 := HCN.c0
       have v1 := HCN.c1
       have v2 := HCN.c2
       have vf0 := HCN.f0
       have vf1 := HCN.f1
       have vf2 := HCN.f2
       have HBX := Lib.hid (HB1.out.trans ((HBY.out.mono (by omega)).trans (hbD.mono (by omega))))
       clear hbD hb2 HRD HCE HCN))
  all_goals
    go_wp2_with fail
    refine bodyPost_ret (v := .agg #[.int .i64 k, .string s, .int .i64 (p : Int)]) (by simp [results, Tryd.results38, go_sem, z0, z1, z2]) rfl ⟨rfl, ?_⟩
    rw [show (p : Int) + (s.size : Int) = ((p + s.size : Nat) : Int) by omega]
    first
      | (have _hd := d1
         exact read_own3 (ReadTo.of (rb := rb) (q := p + s.size) HBX.out) (Nat.le_refl _) (.int .i64 k) (.string s) (.int .i64 (p : Int)))
      | (have hX3 := below_own (below_own (below_own HBX.out (show w.heap.size ≤ W1.heap.size by omega) 0 (.int .i64 k)) (show w.heap.size ≤ W1.heap.size by omega) 1 (.string s)) (show w.heap.size ≤ W1.heap.size by omega) 2 (.int .i64 (p : Int))
         exact read_own3 (ReadTo.of (rb := rb) (q := p + s.size) hX3) (Nat.le_refl _) (.int .i64 k) (.string s) (.int .i64 (p : Int)))
end Go.Proofs.YtaipljdpkgdheaaDoor
