/- Package schema, Print of a type that may be. -/
import Derived.Test.YtpcmhbafcgineaaDoorTyped
import Derived.Test.YtpcmhbafcgineaaDoorShelf3
import Derived.Test.YtpcmhbafcgineaaDoorTypedSpec
import Derived.Deep.DeepMust
import Derived.Deep.RegionHeld3
namespace Go.Proofs.YtpcmhbafcgineaaDoor
open Go Go.RowKit

theorem kindWord_below (k : Int) (w : World) (hk : KindAt w) : Calls Tryd.prog 22 #[.int .i64 k] w fun e w' => e = .returned (.string (kindWordB k)) ∧ Below w.heap.size w w' :=
  (kindWord_any k w hk).mono fun _ _ ⟨h1, h2⟩ => ⟨h1, by rw [← h2]; exact Below.refl _ _⟩
/-- An attribute as it is printed. -/
def attrS (a : Attr) : ByteArray := a.1 ++ ⟨#[32]⟩ ++ kindWordB a.2
def attrsS (l : List Attr) : List Value := l.map fun a => Value.string (attrS a)
def joinS (l : List Attr) : ByteArray := ⟨(Lib.join ((l.map attrS).map (·.data.toList)) [44, 32]).toArray⟩
/-- The text of a type. -/
def printB (n : ByteArray) (l : List Attr) : ByteArray := ⟨#[84, 89, 80, 69, 32]⟩ ++ n ++ ⟨#[32, 40]⟩ ++ joinS l ++ ⟨#[41]⟩
theorem Tryd.infoStr : (Tryd.prog.info? 9).map (fun i => (i.zero, i.size, i.bytes)) = some (some (.string ⟨#[]⟩), 1, 16) := by kernel_rfl
theorem kw_size (k : Int) : (kindWordB k).size ≤ 4 := by
  unfold kindWordB
  split
  · decide
  · split
    · decide
    · split <;> decide
theorem attrS_size (a : Attr) (h : a.1.size ≤ 32) : (attrS a).size ≤ 37 := by
  have h2 := kw_size a.2
  unfold attrS
  rw [ByteArray.size_append, ByteArray.size_append]
  have : (⟨#[32]⟩ : ByteArray).size = 1 := rfl
  omega

theorem join_cc (x y sep : List UInt8) (l : List (List UInt8)) : Lib.join (x :: y :: l) sep = x ++ (sep ++ Lib.join (y :: l) sep) := by simp [Lib.join, List.intercalate]
theorem join_len (sep : List UInt8) (m : Nat) : ∀ ls : List (List UInt8), (∀ x ∈ ls, x.length ≤ m) → (Lib.join ls sep).length ≤ ls.length * (m + sep.length)
  | [], _ => by simp [Lib.join]
  | [x], h => by
    have := h x (by simp)
    simp [Lib.join]
    omega
  | x :: y :: l, h => by
    have h1 := h x (by simp)
    have h2 := join_len sep m (y :: l) (fun z hz => h z (by simp only [List.mem_cons] at hz ⊢; exact Or.inr hz))
    rw [join_cc]
    simp only [List.length_append, List.length_cons] at h2 ⊢
    have e : (l.length + 1 + 1) * (m + sep.length) = (l.length + 1) * (m + sep.length) + (m + sep.length) := by rw [Nat.add_mul (l.length + 1), Nat.one_mul]
    omega
theorem joinS_size (l : List Attr) (hl : l.length ≤ 16) (hls : ∀ a ∈ l, a.1.size ≤ 32) : (joinS l).size ≤ 624 := by
  have h := join_len [44, 32] 37 ((l.map attrS).map (·.data.toList)) (by
    intro x hx
    simp only [List.map_map, List.mem_map] at hx
    obtain ⟨a, ha, rfl⟩ := hx
    exact attrS_size a (hls a ha))
  have e : (joinS l).size = (Lib.join ((l.map attrS).map (·.data.toList)) [44, 32]).length := by simp [joinS, ByteArray.size]
  rw [e]
  simp only [List.length_map, List.length_cons, List.length_nil] at h
  omega
theorem join_any (l : List Attr) (base gg cp : Nat) (w : World) (hl : l.length ≤ 16) (hls : ∀ a ∈ l, a.1.size ≤ 32) (ho : w.ownsRow base 9 1 (.slice (some ⟨gg, 0, none⟩) l.length cp) l.length (attrsS l)) :
    Calls Tryd.prog 23 #[.slice (some ⟨gg, 0, none⟩) l.length cp, .string ⟨#[44, 32]⟩] w fun e w' => e = .returned (.string (joinS l)) ∧ Below w.heap.size w w' := by
  have hc := ho.cells (g := gg) rfl
  have hlt := ownsRow_lt ho
  have hcp : l.length ≤ cp := by
    rcases ho.2 with ⟨h2, _⟩ | ⟨g, cap, cur, hv, hg, hh, hn, _⟩
    · cases h2
    · cases hv; exact hn
  have hj := joinS_size l hl hls
  have h := Tryd.strings_Join gg 0 cp (l.map attrS) ⟨#[44, 32]⟩ w (by
    intro j x hx
    have := hc j (.string x) (by
      unfold attrsS
      rw [List.getElem?_map] at hx ⊢
      cases hj : l[j]? with
      | none => rw [hj] at hx; cases hx
      | some a => rw [hj] at hx; cases hx; rfl)
    have e : (⟨gg, 0, none⟩ : Addr).add j = ⟨gg, 0 + j, none⟩ := by unfold Addr.add; split <;> simp_all
    rw [← e]
    exact this) hlt (by rw [List.length_map]; omega) (by rw [List.length_map]; exact hcp) (by
      have e : (joinS l).size = (Lib.join ((l.map attrS).map (·.data.toList)) [44, 32]).length := by simp [joinS, ByteArray.size]
      show (Lib.join ((l.map attrS).map (·.data.toList)) [44, 32]).length ≤ _
      omega)
  rw [List.length_map] at h
  exact h

set_option maxHeartbeats 8000000 in
set_option maxRecDepth 100000 in
theorem print_ok (n : ByteArray) (l : List Attr) (ao : Option Addr) (cap : Nat) (w : World) (hr : ResAt w) (hk : KindAt w) (hcap : l.length ≤ cap) (hc : AttrsAt w ao l) (hf : faultB n l = 0) (hn : n.size ≤ 32) (hl : l.length ≤ 16) (hls : ∀ a ∈ l, a.1.size ≤ 32) :
    Calls Tryd.prog 12 #[.agg #[.string n, .slice ao l.length cap]] w fun e w' => e = .returned (.tuple #[.string (printB n l), .int .i64 0]) ∧ Below w.heap.size w w' := by
  obtain ⟨i0, hi0, hz0, hz1, hz2⟩ := info_parts Tryd.infoStr
  obtain ⟨W1, hW1⟩ : ∃ W1, W1 = w.alloc (Obj.cells #[.string n, .slice ao l.length cap] 27) := ⟨_, rfl⟩
  have HB1 := Lib.hid (show Below w.heap.size w W1 by rw [hW1]; exact (Below.refl _ _).alloc (Nat.le_refl _) _)
  have HR := Lib.hid (hr.below HB1.out)
  have HK := Lib.hid (hk.below HB1.out (Nat.le_refl _))
  have HC := Lib.hid (hc.below' HB1.out)
  have hz : W1.heap.size = w.heap.size + 1 := by rw [hW1]; simp
  have e0 : W1.cell? ⟨w.heap.size, 0, none⟩ = some (.string n) := by rw [hW1]; simp
  have e1 : W1.cell? ⟨w.heap.size, 1, none⟩ = some (.slice ao l.length cap) := by rw [hW1]; simp
  have HF := Lib.hid hf
  have HLS := Lib.hid hls
  have HW1 := Lib.hid hW1
  clear hr hk hc hf hls hW1
  go_enter Tryd.func12, Tryd.ntmps12
  go_wp2_with fail
  rw [← HW1.out]
  refine (fault_any n l ao cap _ HR.out HK.out hcap HC.out).mono ?_; rintro e w2 ⟨rfl, hb2⟩; rw [HF.out]
  have HB2 := Lib.hid hb2
  have f0 := (hb2.cell (p := ⟨w.heap.size, 0, none⟩) (by simp; omega)).trans e0
  have f1 := (hb2.cell (p := ⟨w.heap.size, 1, none⟩) (by simp; omega)).trans e1
  have z2 := hb2.size
  have HE0 := Lib.hid e0
  clear hb2 e0 e1
  go_wp2_with (at_make; refine wpList_make_own _ rfl _ _ 42 rfl (w.heap.size + 1) 9 i0 _ 1 Tryd.underlying42 hi0 hz0 hz1 .i64 .i64 _ l.length rfl rfl rfl (by rw [hz2]; omega) (by unfold maxLen; omega) (by omega) ?_; intro w3 hown3 hgrow3; have f0' := (hgrow3.cell_far ⟨w.heap.size, 0, none⟩ (by simp; omega) (by simp)).trans f0; have f1' := (hgrow3.cell_far ⟨w.heap.size, 1, none⟩ (by simp; omega) (by simp)).trans f1; clear f0 f1)
  have HB3 := Lib.hid (((HB2.out.mono (show w.heap.size + 1 ≤ W1.heap.size by omega)).grown hgrow3 (by omega) (fun k hk => by cases hk)))
  have HO3 := Lib.hid hown3
  have z3 : w2.heap.size ≤ w3.heap.size := hgrow3.size
  clear hown3 hgrow3 f0' f1'
  go_loopw [5, 20] (fun v i wr => ∃ k gg cp : Nat, k ≤ l.length ∧ i = .int .i64 k ∧ v = .slice (some ⟨gg, 0, none⟩) k cp ∧ wr.ownsRow (w.heap.size + 1) 9 1 (.slice (some ⟨gg, 0, none⟩) k cp) k (attrsS (l.take k)) ∧ Below (w.heap.size + 1) W1 wr) (fun _ i _ => l.length - (intOf i).toNat)
  case atStart => exact ⟨0, _, _, Nat.zero_le _, rfl, rfl, HO3.out, HB3.out⟩
  case round =>
    obtain ⟨k, gg, cp, hk, rfl, rfl, hown, hbel⟩ := hrel
    have HO := Lib.hid hown
    have HB := Lib.hid hbel
    have hsz := hbel.size
    have hgl := ownsRow_lt hown
    clear hown
    by_cases hlt : k < l.length
    · obtain ⟨b, o, rfl, hcell⟩ : ∃ b o, ao = some ⟨b, o, none⟩ ∧ ∀ i (h : i < l.length), W1.cell? ⟨b, o + i * 2, none⟩ = some (.string l[i].1) ∧ W1.cell? ⟨b, o + i * 2 + 1, none⟩ = some (.int .i64 l[i].2) := by
        rcases HC.out with h | h
        · rw [h] at hlt; simp at hlt
        · exact h
      obtain ⟨g1, g2⟩ := hcell k hlt
      have hbl := World.block_lt_of_cell? W1 _ g1
      simp only at hbl
      have d1 := (hbel.cell (p := ⟨b, o + k * 2, none⟩) (by simp; omega)).trans g1
      have d2 := (hbel.cell (p := ⟨b, o + k * 2 + 1, none⟩) (by simp; omega)).trans g2
      have HT := Lib.hid (show attrsS (l.take k) ++ [.string (attrS l[k])] = attrsS (l.take (k + 1)) by unfold attrsS; rw [List.take_succ_eq_append_getElem hlt, List.map_append]; rfl)
      have hms := HLS.out l[k] (List.getElem_mem hlt)
      obtain ⟨⟨m, kd⟩, hm⟩ : ∃ a : Attr, a = l[k] := ⟨_, rfl⟩
      rw [← hm] at d1 d2 HT hms
      simp only at d1 d2 hms
      have HAS := Lib.hid (attrS_size (m, kd) hms)
      clear hm g1 g2 hcell
      have HKr := Lib.hid (HK.out.below hbel (by omega))
      clear hbel
      obtain ⟨A, hA⟩ : ∃ A, A = wr.alloc (Obj.cells #[Value.string m, Value.int IntKind.i64 kd] 38) := ⟨_, rfl⟩
      have HBA := Lib.hid (show Below wr.heap.size wr A by rw [hA]; exact (Below.refl _ _).alloc (Nat.le_refl _) _)
      have HKA := Lib.hid (HKr.out.below HBA.out (Nat.le_refl _))
      have HOA := Lib.hid (ownsRow_below HO.out HBA.out)
      have hzA : A.heap.size = wr.heap.size + 1 := by rw [hA]; simp
      have k0 : A.cell? ⟨wr.heap.size, 0, none⟩ = some (.string m) := by rw [hA]; simp
      have k1 : A.cell? ⟨wr.heap.size, 1, none⟩ = some (.int .i64 kd) := by rw [hA]; simp
      have HA := Lib.hid hA
      clear hA
      have kws := kw_size kd
      have ha1 : ∀ w : World, (Op.stringOp .add m ⟨#[32]⟩).run Tryd.prog w = .ok (.string (m ++ ⟨#[32]⟩)) w := fun w => run_string_add_sum w _ _ (by have : (⟨#[32]⟩ : ByteArray).size = 1 := rfl; omega)
      have ha2 : ∀ w : World, (Op.stringOp .add (m ++ ⟨#[32]⟩) (kindWordB kd)).run Tryd.prog w = .ok (.string (attrS (m, kd))) w := fun w => run_string_add_sum w _ _ (by rw [ByteArray.size_append]; have : (⟨#[32]⟩ : ByteArray).size = 1 := rfl; omega)
      have hne : some wr.heap.size ≠ some gg := by intro e; injection e; omega
      go_upto_region 8 with fail
      rw [← HA.out]
      go_region_held3 (fun w' => w'.cell? ⟨wr.heap.size, 0, none⟩ = some (.string m) ∧ w'.cell? ⟨wr.heap.size, 1, none⟩ = some (.int .i64 kd))
        (first
          | go_keep
          | exact ⟨r0, r1⟩
          | exact ⟨s0, s1⟩)
        ((first
          | (go_at_call 22; refine (kindWord_below kd _ (by exact HKA.out)).mono ?_; rintro e w5 ⟨rfl, hbC⟩; have hbD : Below A.heap.size A w5 := (Below.refl _ A).drew.trans hbC; have r0 := (hbD.cell (p := ⟨wr.heap.size, 0, none⟩) (by simp; omega)).trans k0; have r1 := (hbD.cell (p := ⟨wr.heap.size, 1, none⟩) (by simp; omega)).trans k1; have hsz5 := hbD.size)
          | (refine step_append_lies _ (by rfl) _ _ _ (by rfl) (w.heap.size + 1) 9 i0 _ 1 16 Tryd.underlying42 hi0 hz0 hz1 hz2 rfl (by omega) (.slice (some ⟨gg, 0, none⟩) k cp) k (attrsS (l.take k)) (by rfl) ((ownsRow_below HOA.out hbD).alloc _) ⟨_, 0, none⟩ 1 1 [.string (attrS (m, kd))] (by rfl) (by rfl) (World.news_of_block (cs := #[.string (attrS (m, kd))]) (t := 9) (fr := (0, 0)) (heap_alloc_new _ _)) (by simp [Value.oneCell']) (by omega) (by unfold maxLen; omega) (by omega) (by simp; omega) _ rfl ?_; intro g2 cap2 w6 hown6 hgrow6 hat6 hlt6; have s0 := (hgrow6.cell_far ⟨wr.heap.size, 0, none⟩ (by simp; omega) hne).trans ((World.cell?_alloc_lt _ _ _ (by simp; omega)).trans r0); have s1 := (hgrow6.cell_far ⟨wr.heap.size, 1, none⟩ (by simp; omega) hne).trans ((World.cell?_alloc_lt _ _ _ (by simp; omega)).trans r1))))
      go_wp2
      go_roundw
      case rel => exact ⟨k + 1, g2, cap2, by omega, by go_num, rfl, HT.out ▸ hown6, ((HB.out.trans ((HBA.out.trans (hbD.mono HBA.out.size)).mono (by omega))).alloc (by omega) _).grown hgrow6 (by simp; omega) (fun j hj => by cases hj; exact ownsRow_lo HO.out)⟩
      case measure => simp [intOf]; omega
    · obtain rfl : k = l.length := by omega
      have f0 := (hbel.cell (p := ⟨w.heap.size, 0, none⟩) (by simp)).trans (HE0.out)
      have HOL := Lib.hid (show wr.ownsRow (w.heap.size + 1) 9 1 (.slice (some ⟨gg, 0, none⟩) l.length cp) l.length (attrsS l) by have := HO.out; rwa [List.take_of_length_le (Nat.le_refl _)] at this)
      clear hbel
      have hbw : Below w.heap.size w wr := HB1.out.trans (HB.out.mono (by omega))
      have HBW := Lib.hid hbw
      clear hbw
      have hjs := joinS_size l hl HLS.out
      have s1 : (⟨#[84, 89, 80, 69, 32]⟩ : ByteArray).size = 5 := rfl
      have s2 : (⟨#[32, 40]⟩ : ByteArray).size = 2 := rfl
      have s3 : (⟨#[41]⟩ : ByteArray).size = 1 := rfl
      have hj1 : ∀ w : World, (Op.stringOp .add ⟨#[84, 89, 80, 69, 32]⟩ n).run Tryd.prog w = .ok (.string (⟨#[84, 89, 80, 69, 32]⟩ ++ n)) w := fun w => run_string_add_sum w _ _ (by omega)
      have hj2 : ∀ w : World, (Op.stringOp .add (⟨#[84, 89, 80, 69, 32]⟩ ++ n) ⟨#[32, 40]⟩).run Tryd.prog w = .ok (.string (⟨#[84, 89, 80, 69, 32]⟩ ++ n ++ ⟨#[32, 40]⟩)) w := fun w => run_string_add_sum w _ _ (by rw [ByteArray.size_append]; omega)
      have hj3 : ∀ w : World, (Op.stringOp .add (⟨#[84, 89, 80, 69, 32]⟩ ++ n ++ ⟨#[32, 40]⟩) (joinS l)).run Tryd.prog w = .ok (.string (⟨#[84, 89, 80, 69, 32]⟩ ++ n ++ ⟨#[32, 40]⟩ ++ joinS l)) w := fun w => run_string_add_sum w _ _ (by rw [ByteArray.size_append, ByteArray.size_append]; omega)
      have hj4 : ∀ w : World, (Op.stringOp .add (⟨#[84, 89, 80, 69, 32]⟩ ++ n ++ ⟨#[32, 40]⟩ ++ joinS l) ⟨#[41]⟩).run Tryd.prog w = .ok (.string (printB n l)) w := fun w => run_string_add_sum w _ _ (by rw [ByteArray.size_append, ByteArray.size_append, ByteArray.size_append]; omega)
      clear hjs s1 s2 s3
      go_wp2_with fail
      go_region_held3 (fun w' => w'.cell? ⟨w.heap.size, 0, none⟩ = some (.string n))
        (first
          | go_keep
          | exact r0)
        ((first
          | (go_at_call 23; refine (join_any l (w.heap.size + 1) gg cp _ hl HLS.out (by exact HOL.out)).mono ?_; rintro e w5 ⟨rfl, hbC⟩; have hbD : Below wr.heap.size wr w5 := (Below.refl _ wr).drew.trans hbC; have r0 := (hbD.cell (p := ⟨w.heap.size, 0, none⟩) (by simp; omega)).trans f0)))
      go_wp2_with fail
      go_ret2
      exact ⟨rfl, HBW.out.trans (hbD.mono (by omega))⟩
end Go.Proofs.YtpcmhbafcgineaaDoor
