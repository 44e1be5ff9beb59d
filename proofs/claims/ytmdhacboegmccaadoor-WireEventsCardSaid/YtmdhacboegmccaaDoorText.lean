/- Package wire: appendText and appendValue. -/
import Derived.Test.YtmdhacboegmccaaDoorInt
import Derived.Lib.AppendStr
namespace Go.Proofs.YtmdhacboegmccaaDoor
open Go Go.RowKit

section
variable {P : Program} (w : World)
/-- A string's bytes appended, and where the new slice lies. -/
theorem run_append_string_at (base : Nat) (t u ty e : TypeId) (i : TypeInfo) (ht : P.underlying t = some (.slice e)) (hu : P.underlying u = some .string) (hi : P.info? e = some i) (hz : i.zero = some (.int .u8 0))
    (hsize : i.size = 1) (hby : i.bytes = 1)
    (v : Value) (n : Nat) (xs : List Value) (hown : w.ownsRow base e 1 v n xs) (s : ByteArray)
    (h63 : n + s.size ≤ maxLen) (hbytes : n + s.size ≤ 140737488355328) (hbase : base ≤ w.heap.size) :
    ∃ v' w', (Builtin.append_ #[t, u] ty #[v, .string s]).run P w = .ok v' w' ∧ w'.ownsRow base e 1 v' (n + s.size) (xs ++ Lib.strCells s) ∧ w.grownBy w' v.ownBlock ∧ (v'.ownBlock = v.ownBlock ∨ v'.ownBlock = some w.heap.size) := by
  obtain ⟨v', w', hr, h2, h3, h4⟩ := Lib.run_append_own_string (P := P) w base t u ty e i ht hu hi hz hsize hby v n xs hown s h63 hbytes hbase
  refine ⟨v', w', hr, h2, h3, ?_⟩
  have hxl : xs.length = n := by simpa using hown.1
  unfold maxLen at h63
  rcases hown.2 with ⟨rfl, rfl⟩ | ⟨g, cap, cur, rfl, hbg, hg, hnc, hcm, hcs, htake⟩
  · by_cases hm : s.size = 0
    · have := h4.2 ⟨rfl, hm⟩
      rw [this]
      exact Or.inl rfl
    · have hr2 := run_append_nil_string (P := P) w t u ty e i (.int .u8 0) ht hu hi hz s (by omega) (by omega) (by rw [hby]; omega)
      rw [hr] at hr2
      injection hr2 with e1 _
      rw [e1]
      exact Or.inr rfl
  · by_cases hroom : n + s.size ≤ cap
    · have hcs' : cur.size = cap := by simpa using hcs
      have hr2 := Lib.run_append_room_string (P := P) w t u ty e i ht hu hi hsize g n cap cur hg s hroom (by omega)
      rw [hr] at hr2
      injection hr2 with e1 _
      rw [e1]
      exact Or.inl rfl
    · have holds : ∀ j u, xs[j]? = some u → w.cell? ((⟨g, 0, none⟩ : Addr).add j) = some u := hown.cells (g := g) rfl
      have hr2 := Lib.run_append_grow_string (P := P) w t u ty e i (.int .u8 0) ht hu hi hz ⟨g, 0, none⟩ n cap xs (by rw [hsize]; simpa using hxl) holds s (by omega) (by omega) (by rw [hby]; exact growslice_fits (by omega) (by omega))
      rw [hr] at hr2
      injection hr2 with e1 _
      rw [e1]
      exact Or.inr rfl
theorem wpList_append_string_at {ops : Array Oper} {rest : List Oper} {o : Oper} {a : Act} {Q : Exit → Act → World → Prop} (hgd : o.guard = none) (sl x : Operand) (t u : TypeId)
    (ho : o.op = .call { callee := .builtin .append, args := #[sl, x], argTypes := #[t, u] })
    (base : Nat) (e : TypeId) (i : TypeInfo) (ht : P.underlying t = some (.slice e)) (hu : P.underlying u = some .string) (hi : P.info? e = some i) (hz : i.zero = some (.int .u8 0))
    (hsize : i.size = 1) (hby : i.bytes = 1)
    (v : Value) (n : Nat) (xs : List Value) (hs : a.eval sl = v) (hown : w.ownsRow base e 1 v n xs) (s : ByteArray) (hx : a.eval x = .string s)
    (h63 : n + s.size ≤ maxLen) (hbytes : n + s.size ≤ 140737488355328) (hbase : base ≤ w.heap.size)
    (h : ∀ v' w', w'.ownsRow base e 1 v' (n + s.size) (xs ++ Lib.strCells s) → w.grownBy w' v.ownBlock → (v'.ownBlock = v.ownBlock ∨ v'.ownBlock = some w.heap.size) → wpList P ops Q rest (a.put o.dst v') w') : wpList P ops Q (o :: rest) a w := by
  refine wpList_plain hgd fun K hK => ?_
  obtain ⟨v', w', hr, h2, h3, h4⟩ := run_append_string_at (P := P) w base t u o.type e i ht hu hi hz hsize hby v n xs hown s h63 hbytes hbase
  unfold Oper.wp execOp
  simp only [ho, resolve, invoke, builtin, Sem.run_bind, Sem.run_pure, Result.andThen_ok, List.map_toArray, List.map_cons, List.map_nil, hs, hx, hr]
  exact hK _ _ (h v' w' h2 h3 h4)
end
theorem Ext8.appS {B : Nat} {w w7 : World} {v v' : Value} {l : List UInt8} {s : ByteArray} {k : Nat} (hk : k = l.length + s.size) (ho : w7.ownsRow B 5 1 v' k (bytesC l ++ Lib.strCells s)) (hg : w.grownBy w7 v.ownBlock) (ha : v'.ownBlock = v.ownBlock ∨ v'.ownBlock = some w.heap.size) : Ext8 B w v w7 v' (l ++ s.data.toList) := by
  subst hk
  refine ⟨?_, hg, ?_⟩
  · rw [bytesC_append, List.length_append]; exact ho
  · rcases ha with ha | ha
    · exact Or.inl ha
    · exact Or.inr ⟨_, Nat.le_refl _, ha⟩

set_option maxHeartbeats 8000000 in
set_option maxRecDepth 100000 in
theorem appendText_any (B : Nat) (v : Value) (l : List UInt8) (s : ByteArray) (w : World) (hown : w.ownsRow B 5 1 v l.length (bytesC l)) (hl : l.length ≤ 900000000) (hs : s.size ≤ 1000000) (hB : B ≤ w.heap.size) :
    Calls Tryd.prog 75 #[v, .string s] w fun e w' => ∃ v', e = .returned v' ∧ Ext8 B w v w' v' (l ++ textE s) := by
  obtain ⟨i0, hi0, hz0, hz1, hz2⟩ := info_parts Tryd.infoU8
  have HO := Lib.hid hown
  have hpl := putB_le (s.size : Int) (by omega) (by omega)
  clear hown
  go_enter Tryd.func75, Tryd.ntmps75
  go_wp2_with fail
  refine (appendInt_any B v l s.size w HO.out (by omega) hB (by omega) (by omega)).mono ?_; rintro e w1 ⟨v1, rfl, hx1⟩
  have HX := Lib.hid hx1
  have hll : (l ++ putB s.size).length ≤ 900000010 := by rw [List.length_append]; omega
  have hz1' := hx1.grown.size
  clear hx1
  go_wp2_with (at_builtin; go_must (refine wpList_append_string_at _ (by rfl) _ _ _ _ (by rfl) B 5 i0 Tryd.underlying25 Tryd.underlying9 hi0 hz0 hz1 hz2 v1 (l ++ putB s.size).length (bytesC (l ++ putB s.size)) (by rfl) HX.out.own s (by rfl) (by unfold maxLen; omega) (by omega) (by omega) ?_; intro v2 w7 hown7 hgrow7 hat7))
  go_ret
  refine ⟨_, rfl, ?_⟩
  have h := HX.out.trans (Ext8.appS rfl hown7 hgrow7 hat7)
  rw [List.append_assoc] at h
  exact h

/-- A value as it lies in memory, and as it is handed on. -/
def Val.v (a : Val) : Value := .agg #[.int .i64 a.kind, .int .i64 a.int, .string a.str, .bool a.bool]
end Go.Proofs.YtmdhacboegmccaaDoor
