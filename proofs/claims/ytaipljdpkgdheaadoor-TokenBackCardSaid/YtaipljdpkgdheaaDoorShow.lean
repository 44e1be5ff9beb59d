/- Package value: Show. -/
import Derived.Test.YtaipljdpkgdheaaDoorValue
namespace Go.Proofs.YtaipljdpkgdheaaDoor
open Go Go.RowKit

def numV (n : Int) : Val := ⟨1, n, ⟨#[]⟩, false⟩
def boolV (b : Bool) : Val := ⟨3, 0, ⟨#[]⟩, b⟩
def strV (s : ByteArray) : Val := ⟨2, 0, s, false⟩
def trueS : ByteArray := ⟨#[84, 82, 85, 69]⟩
def falseS : ByteArray := ⟨#[70, 65, 76, 83, 69]⟩
def boolS (b : Bool) : ByteArray := if b then trueS else falseS
theorem show_no (a : Val) (w : World) (hm : a.str.size ≤ maxLen) (hv : validB a = false) :
    Calls Tryd.prog 43 #[a.v] w fun e w' => e = .returned (.tuple #[.string ⟨#[]⟩, .int .i64 12]) ∧ Below w.heap.size w w' := by
  have HV := Lib.hid (fun W => valid_any a W hm)
  rw [hv] at HV
  obtain ⟨k, n, s, b⟩ := a
  simp only [Val.v] at HV ⊢
  have hb := Lib.hid (fun (o : Obj) => (Below.refl w.heap.size w).alloc (Nat.le_refl _) o)
  clear hm hv
  go_enter Tryd.func43, Tryd.ntmps43
  go_wp2_with fail
  refine (HV.out _).mono ?_; rintro e w1 ⟨rfl, hb1⟩
  have HB1 := Lib.hid ((hb.out _).trans (hb1.mono (by rw [World.size_alloc]; omega)))
  clear hb1
  go_wp2_with fail
  go_ret2
  exact ⟨rfl, HB1.out⟩
theorem cell_of_heap {w : World} {g i : Nat} {cs : Array Value} {t : TypeId} {v : Value} (h : w.heap[g]? = some (.cells cs t)) (hv : cs[i]? = some v) : w.cell? ⟨g, i, none⟩ = some v := by
  simp [World.cell?, h, hv]
theorem empty_max : (⟨#[]⟩ : ByteArray).size ≤ maxLen := Nat.zero_le _
theorem show_int (n : Int) (w : World) (h0 : -9223372036854775808 ≤ n) (h1 : n ≤ 9223372036854775807) (ht : Tabs w) :
    Calls Tryd.prog 43 #[(numV n).v] w fun e w' => e = .returned (.tuple #[.string (numS n), .int .i64 0]) ∧ Below w.heap.size w w' := by
  have HV := Lib.hid (fun W => valid_any (numV n) W empty_max)
  rw [show validB (numV n) = true by simp [validB, numV]] at HV
  have HF := Lib.hid (fun W hT => format_any n h0 h1 W hT)
  simp only [Val.v, numV] at HV ⊢
  have hb := Lib.hid (fun (o : Obj) => (Below.refl w.heap.size w).alloc (Nat.le_refl _) o)
  have HT := Lib.hid ht
  clear ht
  go_enter Tryd.func43, Tryd.ntmps43
  go_wp2_with fail
  refine (HV.out _).mono ?_; rintro e w1 ⟨rfl, hb1⟩
  have HB1 := Lib.hid ((hb.out _).trans (hb1.mono (by rw [World.size_alloc]; omega)))
  have cb := hb1.block w.heap.size (by rw [World.size_alloc]; omega)
  rw [heap_alloc_new] at cb
  have c0 := cell_of_heap (i := 0) cb rfl
  have c1 := cell_of_heap (i := 1) cb rfl
  have c2 := cell_of_heap (i := 2) cb rfl
  have c3 := cell_of_heap (i := 3) cb rfl
  clear hb1 cb
  go_wp2_with fail
  refine (HF.out _ (HT.out.below HB1.out)).mono ?_; rintro e w2 ⟨rfl, hb2⟩
  have HB2 := Lib.hid (HB1.out.trans (hb2.mono HB1.out.size))
  clear hb2
  go_wp2_with fail
  go_ret2
  exact ⟨rfl, HB2.out⟩
theorem show_bool (b : Bool) (w : World) :
    Calls Tryd.prog 43 #[(boolV b).v] w fun e w' => e = .returned (.tuple #[.string (boolS b), .int .i64 0]) ∧ Below w.heap.size w w' := by
  have HV := Lib.hid (fun W => valid_any (boolV b) W empty_max)
  rw [show validB (boolV b) = true by simp [validB, boolV]] at HV
  simp only [Val.v, boolV] at HV ⊢
  have hb := Lib.hid (fun (o : Obj) => (Below.refl w.heap.size w).alloc (Nat.le_refl _) o)
  cases b
  all_goals
    go_enter Tryd.func43, Tryd.ntmps43
    go_wp2_with fail
    refine (HV.out _).mono ?_; rintro e w1 ⟨rfl, hb1⟩
    have HB1 := Lib.hid ((hb.out _).trans (hb1.mono (by rw [World.size_alloc]; omega)))
    have cb := hb1.block w.heap.size (by rw [World.size_alloc]; omega)
    rw [heap_alloc_new] at cb
    have c0 := cell_of_heap (i := 0) cb rfl
    have c1 := cell_of_heap (i := 1) cb rfl
    have c2 := cell_of_heap (i := 2) cb rfl
    have c3 := cell_of_heap (i := 3) cb rfl
    clear hb1 cb
    go_wp2_with fail
    go_ret2
    exact ⟨rfl, HB1.out⟩
theorem show_str (s : ByteArray) (w : World) (hs : s.size ≤ 256) :
    Calls Tryd.prog 43 #[(strV s).v] w fun e w' => (∃ q : ByteArray, e = .returned (.tuple #[.string q, .int .i64 0])) ∧ Below w.heap.size w w' := by
  have HV := Lib.hid (fun W => valid_any (strV s) W (by show s.size ≤ maxLen; unfold maxLen; omega))
  rw [show validB (strV s) = true by simp [validB, strV, hs]] at HV
  have HQ := Lib.hid (fun W => quote_any s W hs)
  simp only [Val.v, strV] at HV ⊢
  have hb := Lib.hid (fun (o : Obj) => (Below.refl w.heap.size w).alloc (Nat.le_refl _) o)
  go_enter Tryd.func43, Tryd.ntmps43
  go_wp2_with fail
  refine (HV.out _).mono ?_; rintro e w1 ⟨rfl, hb1⟩
  have HB1 := Lib.hid ((hb.out _).trans (hb1.mono (by rw [World.size_alloc]; omega)))
  have cb := hb1.block w.heap.size (by rw [World.size_alloc]; omega)
  rw [heap_alloc_new] at cb
  have c0 := cell_of_heap (i := 0) cb rfl
  have c1 := cell_of_heap (i := 1) cb rfl
  have c2 := cell_of_heap (i := 2) cb rfl
  have c3 := cell_of_heap (i := 3) cb rfl
  clear hb1 cb
  go_wp2_with fail
  refine (HQ.out _).mono ?_; rintro e w2 ⟨⟨q, rfl, _⟩, hb2⟩
  have HB2 := Lib.hid (HB1.out.trans (hb2.mono HB1.out.size))
  clear hb2
  go_wp2_with fail
  go_ret2
  exact ⟨⟨q, rfl⟩, HB2.out⟩
end Go.Proofs.YtaipljdpkgdheaaDoor
