/- Package value: may a value be; how it is shown; a number read. -/
import Derived.Test.YtaipljdpkgdheaaDoorShown
import Derived.Test.YtaipljdpkgdheaaDoorNum
import Derived.Test.YtaipljdpkgdheaaDoorShelf3
import Derived.Lib.ParseIntBTie
import Derived.WalkSmall
import Derived.Lib.SmallJoins
namespace Go.Proofs.YtaipljdpkgdheaaDoor
open Go Go.RowKit Go.Maps

/-- A value. -/
structure Val where
  kind : Int
  int : Int
  str : ByteArray
  bool : Bool
def Val.v (a : Val) : Value := .agg #[.int .i64 a.kind, .int .i64 a.int, .string a.str, .bool a.bool]
/-- May the value be? -/
def validB (a : Val) : Bool :=
  if a.kind = 1 then (a.str.toList == []) && !a.bool
  else if a.kind = 2 then (a.int == 0) && !a.bool && decide (a.str.size ≤ 256)
  else if a.kind = 3 then (a.int == 0) && (a.str.toList == [])
  else false
theorem ret_bool {b c : Bool} (h : b = c) : Ending.returned (.bool b) = .returned (.bool c) := by rw [h]
theorem valid_any (a : Val) (w : World) (hm : a.str.size ≤ maxLen) : Calls Tryd.prog 59 #[a.v] w fun e w' => e = .returned (.bool (validB a)) ∧ Below w.heap.size w w' := by
  obtain ⟨k, n, s, b⟩ := a
  simp only [Val.v]
  simp only at hm
  unfold maxLen at hm
  have hb := Lib.hid (fun (o : Obj) => (Below.refl w.heap.size w).alloc (Nat.le_refl _) o)
  by_cases h1 : k = 1
  · subst h1
    cases hs : (s.toList == []) <;> cases b
    all_goals
      have HE := Lib.hid hs
      go_enter Tryd.func59, Tryd.ntmps59
      go_wp2_with fail
      go_ret
      exact ⟨by simp [validB, HE.out], hb.out _⟩
  by_cases h2 : k = 2
  · subst h2
    cases hn : (n == 0) <;> cases b <;> by_cases hs : s.size ≤ 256
    all_goals
      have HE := Lib.hid hn
      have HS := Lib.hid hs
      go_enter Tryd.func59, Tryd.ntmps59
      go_wp2_with fail
      go_ret
      exact ⟨by (first | (simp [validB, HE.out, HS.out]; done) | (simp [validB, HE.out, HS.out]; omega)), hb.out _⟩
  by_cases h3 : k = 3
  · subst h3
    cases hn : (n == 0) <;> cases hs : (s.toList == [])
    all_goals
      have HE := Lib.hid hn
      have HS := Lib.hid hs
      go_enter Tryd.func59, Tryd.ntmps59
      go_wp2_with fail
      go_ret
      exact ⟨by simp [validB, HE.out, HS.out], hb.out _⟩
  have b1 : (k == 1) = false := by simpa using h1
  have b2 : (k == 2) = false := by simpa using h2
  have b3 : (k == 3) = false := by simpa using h3
  have HE := Lib.hid (show validB ⟨k, n, s, b⟩ = false by simp [validB, h1, h2, h3])
  clear h1 h2 h3
  go_enter Tryd.func59, Tryd.ntmps59
  go_wp2_with fail
  go_ret
  exact ⟨ret_bool HE.out.symm, hb.out _⟩
/-- What the library reads of the program's variables to write and read numbers. -/
structure Tabs (w : World) : Prop where
  pow : Lib.TabIs Tryd.prog w "internal/strconv.uint64pow10" .u64 Lib.pow10Tab
  syn : ∃ tp p, w.var? Tryd.prog "strconv.ErrSyntax" = some #[.iface tp p]
  ran : ∃ tp p, w.var? Tryd.prog "strconv.ErrRange" = some #[.iface tp p]
theorem var_lt {P : Program} {w : World} {name : String} {g : Nat} {cs : Array Value} (hg : P.globalNamed name = some g) (h : w.var? P name = some cs) : g < w.heap.size := by
  simp only [World.var?, hg, Option.bind_some] at h
  split at h
  · rename_i c t fr hh
    exact (Array.getElem?_eq_some_iff.1 hh).1
  · cases h
theorem gPow : Tryd.prog.globalNamed "internal/strconv.uint64pow10" = some 2 := by kernel_rfl
theorem gSyn : Tryd.prog.globalNamed "strconv.ErrSyntax" = some 3 := by kernel_rfl
theorem gRan : Tryd.prog.globalNamed "strconv.ErrRange" = some 4 := by kernel_rfl
theorem Tabs.below {w w' : World} (h : Tabs w) (hb : Below w.heap.size w w') : Tabs w' := by
  obtain ⟨tp, p, h1⟩ := h.syn
  obtain ⟨tq, q, h2⟩ := h.ran
  exact ⟨var?_below hb gPow (var_lt gPow h.pow) h.pow, ⟨tp, p, var?_below hb gSyn (var_lt gSyn h1) h1⟩, ⟨tq, q, var?_below hb gRan (var_lt gRan h2) h2⟩⟩
theorem below_grow (w : World) (k : Nat) (os : Array Obj) : Below w.heap.size w (Go.Sort.grow (w.drewN k) os) :=
  ⟨rfl, rfl, rfl, by simp [Go.Sort.grow], fun j hj => by
    show (w.heap ++ os)[j]? = w.heap[j]?
    rw [Array.getElem?_append_left hj]⟩
/-- A number written. -/
def numS (n : Int) : ByteArray := ⟨(Lib.itoa n).toArray⟩
theorem format_any (n : Int) (h0 : -9223372036854775808 ≤ n) (h1 : n ≤ 9223372036854775807) (w : World) (ht : Tabs w) :
    Calls Tryd.prog 60 #[.int .i64 n, .int .i64 10] w fun e w' => e = .returned (.string (numS n)) ∧ Below w.heap.size w w' :=
  (Tryd.strconv_FormatInt_10 n h0 h1 w ht.pow).mono fun e w' ⟨h1, k, os, h2⟩ => ⟨h1, by rw [h2]; exact below_grow w k os⟩
/-- A number read. -/
theorem parse_ok (s : ByteArray) (v : Int) (w : World) (hs : s.size ≤ 281474976710656) (h : Lib.atoiAll s.data.toList = .ok v) :
    Calls Tryd.prog 81 #[.string s, .int .i64 10, .int .i64 64] w fun e w' => e = .returned (.tuple #[.int .i64 v, .nilIface]) ∧ Below w.heap.size w w' := by
  refine (Tryd.strconv_ParseInt_10_at64_ok s (by omega) v (by rw [Lib.parseIntB_64]; exact h) w).mono fun e w' ⟨h1, h2⟩ => ⟨h1, ?_⟩
  rcases h2 with rfl | ⟨t, rfl⟩
  · exact Below.refl _ _
  · exact Go.Joins.below_bytesWorld _ w _ t (Nat.le_refl _)
theorem parse_no (s : ByteArray) (w : World) (hs : s.size ≤ 281474976710656) (h : ∀ v, Lib.atoiAll s.data.toList ≠ .ok v) (ht : Tabs w) :
    Calls Tryd.prog 81 #[.string s, .int .i64 10, .int .i64 64] w fun e w' => ∃ v N, e = .returned (.tuple #[.int .i64 v, .iface 139 (.pointer (some ⟨N, 0, none⟩))]) ∧ Below w.heap.size w w' := by
  obtain ⟨tp, p, h1⟩ := ht.syn
  obtain ⟨tq, q, h2⟩ := ht.ran
  cases hp : Lib.parseIntB 64 s.data.toList with
  | ok v => exact absurd (by rw [← Lib.parseIntB_64]; exact hp) (h v)
  | _ => first | exact (Tryd.strconv_ParseInt_10_at64_syntax_var s hs hp tp p w h1).mono fun e w' ⟨N, he, _, _, hb⟩ => ⟨_, N, he, hb⟩ | exact (Tryd.strconv_ParseInt_10_at64_range_var s hs hp tq q w h2).mono fun e w' ⟨N, he, _, _, hb⟩ => ⟨_, N, he, hb⟩
end Go.Proofs.YtaipljdpkgdheaaDoor
