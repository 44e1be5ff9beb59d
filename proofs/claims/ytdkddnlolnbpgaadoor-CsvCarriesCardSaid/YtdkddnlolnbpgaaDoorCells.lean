/- Package csv, the reader's plain cell; ContainsAny of the special bytes. -/
import Derived.Test.YtdkddnlolnbpgaaDoorReader
import Derived.Test.YtdkddnlolnbpgaaDoorIndexAny
import Derived.Test.YtdkddnlolnbpgaaDoorShelf2
namespace Go.Proofs.YtdkddnlolnbpgaaDoor
open Go Go.RowKit

theorem clone_any (s : ByteArray) (w : World) (hlim : s.size ≤ 281474976710656) : Calls Tryd.prog 19 #[.string s] w fun e w' => e = .returned (.string s) ∧ Below w.heap.size w w' := by
  go_enter Tryd.func19, Tryd.ntmps19
  go_wp2_with (go_at_call 30; refine (Tryd.stringslite_Clone s _ hlim).mono ?_; rintro e w' ⟨rfl, hb⟩)
  go_ret
  exact ⟨rfl, hb⟩
theorem containsAny_any (s : ByteArray) (w : World) (hs : s.size ≤ 4000000000) : Calls Tryd.prog 35 #[.string s, .string specS] w fun e w' => e = .returned (.bool (decide (0 ≤ Lib.indexAny s.data.toList specC))) ∧ Below w.heap.size w w' := by
  go_enter Tryd.func35, Tryd.ntmps35
  go_wp2_with (go_at_call 38; refine (indexAny_any s _ hs).mono ?_; rintro e w' ⟨rfl, hb⟩)
  go_ret
  exact ⟨rfl, hb⟩
theorem bwrite_any (B b : Nat) (bs : List Value) (s : ByteArray) (w : World) (h : Lib.IsBuilder 57 5 B b bs w) (hlen : bs.length + s.size ≤ 140737488355328) (hBw : B ≤ w.heap.size) :
    Calls Tryd.prog 24 #[.pointer (some ⟨b, 0, none⟩), .string s] w fun e w' => e = .returned (.tuple #[.int .i64 s.size, .nilIface]) ∧ (Lib.BuilderAt 57 5 B b (.pointer (some ⟨b, 0, none⟩)) (bs ++ Lib.strCells s) w' ∧ Below B w w') :=
  Any.Builder_WriteString { Tryd.lays155 with } Tryd.Builder_Extra_155 B b bs s w h hlen hBw
/-- Where the first special byte stands. -/
theorem index_plain : ∀ l : List UInt8, Lib.indexAny l specC = if plainD l = [] then -1 else ((plainL l).length : Int) := by
  intro l
  induction l with
  | nil => rfl
  | cons b l ih =>
    rw [Lib.indexAny, ih]
    cases h : specC.contains b
    · have e1 : plainL (b :: l) = b :: plainL l := by simp only [plainL, List.takeWhile_cons, h, Bool.not_false, if_true]
      have e2 : plainD (b :: l) = plainD l := by simp only [plainD, List.dropWhile_cons, h, Bool.not_false, if_true]
      rw [e1, e2]
      by_cases hd : plainD l = []
      · simp [hd]
      · simp only [hd, if_false, List.length_cons]
        rw [if_neg (by simp), if_neg (by rw [beq_iff_eq]; omega)]
        push_cast
        rfl
    · have e1 : plainL (b :: l) = [] := by simp only [plainL, List.takeWhile_cons, h, Bool.not_true, Bool.false_eq_true, if_false]
      have e2 : plainD (b :: l) = b :: l := by simp only [plainD, List.dropWhile_cons, h, Bool.not_true, Bool.false_eq_true, if_false]
      rw [e1, e2]
      simp
theorem index_none : ∀ l : List UInt8, decide (0 ≤ Lib.indexAny l specC) = specAny l := by
  intro l
  induction l with
  | nil => rfl
  | cons b l ih =>
    rw [Lib.indexAny]
    unfold specAny at ih ⊢
    rw [List.any_cons, ← ih]
    cases h : specC.contains b
    · simp only [Bool.false_eq_true, if_false, Bool.false_or]
      have := Lib.indexAny_ge specC l
      by_cases h2 : Lib.indexAny l specC = -1
      · rw [h2]; decide
      · rw [if_neg (by rw [beq_iff_eq]; exact h2)]
        rw [decide_eq_true (by omega), decide_eq_true (by omega)]
    · simp
theorem plain_take (l : List UInt8) : l.take (plainL l).length = plainL l := by
  have := List.take_left (l₁ := plainL l) (l₂ := plainD l)
  rwa [plain_split] at this
theorem plain_drop (l : List UInt8) : l.drop (plainL l).length = plainD l := by
  have := List.drop_left (l₁ := plainL l) (l₂ := plainD l)
  rwa [plain_split] at this
theorem plain_size (t : ByteArray) (p : Nat) (hp : p ≤ t.size) : p + (plainL (restB t p)).length ≤ t.size := by
  have := plain_len (restB t p)
  have := rest_len t p
  omega
theorem bytes_of {s : ByteArray} {l : List UInt8} (h : s.data.toList = l) : s = ⟨l.toArray⟩ := by rw [← h]
theorem plain_cut (t : ByteArray) (p : Nat) : ((t.extract p t.size).extract 0 (plainL (restB t p)).length) = ⟨(plainL (restB t p)).toArray⟩ := by
  apply bytes_of
  rw [ByteArray.data_extract, Array.toList_extract, rest_extract]
  simp only [List.extract, List.drop_zero, Nat.sub_zero]
  exact plain_take _

set_option maxHeartbeats 8000000 in
set_option maxRecDepth 100000 in
theorem plain_any (t : ByteArray) (p rb : Nat) (w : World) (hr : ReadAt w rb t p) (hk : p ≤ t.size) (ht : t.size ≤ 65536) :
    Calls Tryd.prog 28 #[.pointer (some ⟨rb, 0, none⟩)] w fun e w' => e = .returned (.string ⟨(plainL (restB t p)).toArray⟩) ∧ ReadTo rb w w' (p + (plainL (restB t p)).length) := by
  have c0 := hr.c0
  have c1 := hr.c1
  have f1 := hr.f1
  have HR := Lib.hid hr
  have hps := plain_size t p hk
  have HI := Lib.hid (index_plain (restB t p))
  obtain ⟨n, hn⟩ : ∃ n, n = (plainL (restB t p)).length := ⟨_, rfl⟩
  have HCUT := Lib.hid (plain_cut t p)
  have HX := Lib.hid (fun W => indexAny_any (t.extract p t.size) W (by rw [ByteArray.size_extract]; omega))
  rw [← hn] at hps HI HCUT ⊢
  have hes : (t.extract p t.size).size = t.size - p := by rw [ByteArray.size_extract]; omega
  have hend : plainD (restB t p) = [] → n = t.size - p := by
    intro h
    have h1 := plain_len (restB t p)
    rw [h, rest_len, ← hn] at h1
    simpa using h1
  have HEND := Lib.hid hend
  have b0 : (0 : Int) ≤ (p : Int) := by omega
  have b1 : (p : Int) ≤ (t.size : Int) := by omega
  clear hr hn hend
  by_cases hd : plainD (restB t p) = []
  · have HI2 := Lib.hid (show Lib.indexAny (restB t p) specC = -1 by rw [HI.out, if_pos hd])
    have hnn := HEND.out hd
    rw [← rest_extract] at HI2
    clear hd
    go_enter Tryd.func28, Tryd.ntmps28
    go_wp2_with fail
    go_region_held3 (fun w' => w'.cell? ⟨rb, 0, none⟩ = some (.string t) ∧ w'.cell? ⟨rb, 1, none⟩ = some (.int .i64 p)) (go_keep) (fail)
    all_goals
      go_wp2_with fail
      refine (HX.out _).mono ?_; rintro e w2 ⟨rfl, hb2⟩
      rw [HI2.out]
      have hbD := (Below.refl w.heap.size w).drew.trans hb2
      have HRD := Lib.hid (HR.out.below hbD)
      have r1 := HRD.out.c1
      have r2 := HRD.out.f1
      have HBD := Lib.hid hbD
      clear hbD hb2
      go_wp2_with fail
      refine (clone_any _ _ (by rw [ByteArray.size_extract]; omega)).mono ?_; rintro e w3 ⟨rfl, hb3⟩
      have HB3 := Lib.hid hb3
      clear hb3
      go_wp2_with fail
      go_ret
      refine ⟨congrArg (fun s => Ending.returned (.string s)) (by rw [← HCUT.out, hnn]), ?_⟩
      have h3 := HB3.out
      rw [show (p : Int) + ((t.size - p : Nat) : Int) = ((p + n : Nat) : Int) by omega] at h3
      exact (ReadTo.of (rb := rb) (q := p + n) HBD.out).below h3
  · have HI2 := Lib.hid (show Lib.indexAny (restB t p) specC = (n : Int) by rw [HI.out, if_neg hd])
    rw [← rest_extract] at HI2
    have n0 : (0 : Int) ≤ (n : Int) := by omega
    have n1 : (n : Int) ≤ ((t.size - p : Nat) : Int) := by omega
    clear hd
    go_enter Tryd.func28, Tryd.ntmps28
    go_wp2_with fail
    go_region_held3 (fun w' => w'.cell? ⟨rb, 0, none⟩ = some (.string t) ∧ w'.cell? ⟨rb, 1, none⟩ = some (.int .i64 p)) (go_keep) (fail)
    all_goals
      go_wp2_with fail
      refine (HX.out _).mono ?_; rintro e w2 ⟨rfl, hb2⟩
      rw [HI2.out]
      have hbD := (Below.refl w.heap.size w).drew.trans hb2
      have HRD := Lib.hid (HR.out.below hbD)
      have r1 := HRD.out.c1
      have r2 := HRD.out.f1
      have HBD := Lib.hid hbD
      clear hbD hb2
      go_wp2_with fail
      refine (clone_any _ _ (by rw [ByteArray.size_extract]; omega)).mono ?_; rintro e w3 ⟨rfl, hb3⟩
      have HB3 := Lib.hid hb3
      clear hb3
      go_wp2_with fail
      go_ret
      refine ⟨congrArg (fun s => Ending.returned (.string s)) (by rw [← HCUT.out]), ?_⟩
      have h3 := HB3.out
      rw [show (p : Int) + ((n : Nat) : Int) = ((p + n : Nat) : Int) by omega] at h3
      exact (ReadTo.of (rb := rb) (q := p + n) HBD.out).below h3
end Go.Proofs.YtdkddnlolnbpgaaDoor
