/- Package schema, the reader of a declaration: move, ahead, pass: for every text and place. -/
import Derived.Test.YtpcmhbafcgineaaDoorName
import Derived.Test.YtpcmhbafcgineaaDoorShelf3
import Derived.Shelf.Strings.SlTrimAscii
import Derived.Deep.RegionWith
import Derived.Deep.RegionHeld3
import Derived.Deep.AppendLies
import Derived.Deep.DeepMust
namespace Go.Proofs.YtpcmhbafcgineaaDoor
open Go Go.RowKit

def blanksB : List UInt8 := [32, 9, 10, 13]
/-- The place behind the blanks that stand from a place on. -/
def skipB (t : ByteArray) (p : Nat) : Nat := t.size - (Lib.trimLeftS (t.data.toList.drop p) blanksB).length
theorem trim_le (l cs : List UInt8) : (Lib.trimLeftS l cs).length ≤ l.length := (List.dropWhile_suffix _).length_le
theorem skipB_le (t : ByteArray) (p : Nat) : skipB t p ≤ t.size := Nat.sub_le _ _
theorem skipB_ge (t : ByteArray) (p : Nat) (h : p ≤ t.size) : p ≤ skipB t p := by
  have h1 := trim_le (t.data.toList.drop p) blanksB
  have h2 : (t.data.toList.drop p).length = t.size - p := by rw [List.length_drop]; rfl
  unfold skipB
  omega

theorem trim_any (s : ByteArray) (w : World) : Calls Tryd.prog 37 #[.string s, .string ⟨#[32, 9, 10, 13]⟩] w fun e w' => e = .returned (.string ⟨(Lib.trimLeftS s.data.toList blanksB).toArray⟩) ∧ Below w.heap.size w w' :=
  Any.strings_TrimLeft_laid Tryd.lays161 (by kernel_rfl) s ⟨#[32, 9, 10, 13]⟩ w (by decide) (ascii_of_all (by decide))

/-- The reader: its text and its place. -/
structure ReadAt (w : World) (rb : Nat) (t : ByteArray) (p : Nat) : Prop where
  c0 : w.cell? ⟨rb, 0, none⟩ = some (.string t)
  c1 : w.cell? ⟨rb, 1, none⟩ = some (.int .i64 p)
  f1 : w.frozen? ⟨rb, 1, none⟩ = false
theorem ReadAt.lt {w : World} {rb : Nat} {t : ByteArray} {p : Nat} (h : ReadAt w rb t p) : rb < w.heap.size := World.block_lt_of_cell? w _ h.c0
theorem ReadAt.below {w w' : World} {rb : Nat} {t : ByteArray} {p : Nat} (h : ReadAt w rb t p) (hb : Below w.heap.size w w') : ReadAt w' rb t p :=
  ⟨(hb.cell (p := ⟨rb, 0, none⟩) h.lt).trans h.c0, (hb.cell (p := ⟨rb, 1, none⟩) h.lt).trans h.c1, (hb.frozen (p := ⟨rb, 1, none⟩) h.lt).trans h.f1⟩
theorem ReadAt.set {w : World} {rb : Nat} {t : ByteArray} {p : Nat} (h : ReadAt w rb t p) (q : Nat) : ReadAt (w.setCell ⟨rb, 1, none⟩ (.int .i64 q)) rb t q :=
  ⟨(World.cell?_setCell_other _ _ _ _ (by intro e; injection e; omega)).trans h.c0, World.cell?_setCell_same _ _ _ h.c1, (World.frozen?_setCell _ _ _ _).trans h.f1⟩

theorem skip_val (t : ByteArray) (p k : Nat) (h : p + k ≤ t.size) (ht : t.size ≤ 2 ^ 63 - 1) : IntKind.i64.wrap ((t.size : Int) - ((Lib.trimLeftS (List.take (t.size - ((p : Int) + (k : Int)).toNat) (List.drop ((p : Int) + (k : Int)).toNat t.data.toList)) blanksB).length : Int)) = ((skipB t (p + k) : Nat) : Int) := by
  have e : ((p : Int) + (k : Int)).toNat = p + k := by omega
  have hl : (List.drop (p + k) t.data.toList).length = t.size - (p + k) := by rw [List.length_drop]; rfl
  have h1 := trim_le (List.drop (p + k) t.data.toList) blanksB
  rw [e, List.take_of_length_le (by omega)]
  unfold skipB
  rw [IntWalk.i64_in _ (by omega)]
  omega

set_option maxHeartbeats 8000000 in
set_option maxRecDepth 100000 in
theorem move_any (t : ByteArray) (p k rb : Nat) (w : World) (hr : ReadAt w rb t p) (hk : p + k ≤ t.size) (ht : t.size ≤ maxLen) :
    Calls Tryd.prog 24 #[.pointer (some ⟨rb, 0, none⟩), .int .i64 k] w fun e w' => e = .returned (.tuple #[]) ∧ ∃ w1, Below w.heap.size w w1 ∧ w' = w1.setCell ⟨rb, 1, none⟩ (.int .i64 (skipB t (p + k))) := by
  have HR := Lib.hid hr
  have c0 := hr.c0
  have c1 := hr.c1
  have f1 := hr.f1
  unfold maxLen at ht
  clear hr
  go_enter Tryd.func24, Tryd.ntmps24
  have hw : IntKind.i64.wrap ((p : Int) + (k : Int)) = (p : Int) + (k : Int) := IntWalk.i64_in _ (by omega)
  have b0 : (0 : Int) ≤ (p : Int) + (k : Int) := by omega
  have b1 : (p : Int) + (k : Int) ≤ (t.size : Int) := by omega
  go_wp2_with fail
  go_region_held3 (fun w' => w'.cell? ⟨rb, 0, none⟩ = some (.string t) ∧ w'.cell? ⟨rb, 1, none⟩ = some (.int .i64 p)) (go_keep) (fail)
  all_goals
    go_wp2_with fail
    go_region_with (go_at_call 37; refine (trim_any _ _).mono ?_; rintro e w2 ⟨rfl, hb2⟩; have hbD := (Below.refl w.heap.size w).drew.drew.trans hb2; have HRD := HR.out.below hbD; have r0 := HRD.c0; have r1 := HRD.c1; have r2 := HRD.f1; have HBD := Lib.hid hbD; clear hbD hb2)
    all_goals
      go_wp2_with fail
      rw [skip_val t p k hk ht]
      exact bodyPost_end (v := .tuple #[]) (by simp [results, Tryd.results24, go_sem]) rfl ⟨rfl, _, HBD.out, rfl⟩

/-- The token ahead. -/
def aheadB (t : ByteArray) (p : Nat) : ByteArray :=
  let r := t.extract p t.size
  if 0 < wordLen r then r.extract 0 (wordLen r)
  else match r.data.toList.head? with
    | none => ⟨#[]⟩
    | some b => if (0 : Int) ≤ Lib.indexByte [40, 41, 44] b then r.extract 0 1 else ⟨#[]⟩
theorem head_get (r : ByteArray) (h : 0 < r.size) : r.data.toList.head? = some (r[0]'h) := by
  rw [List.head?_eq_getElem?, List.getElem?_eq_getElem (by exact h)]
  rfl

set_option maxHeartbeats 8000000 in
set_option maxRecDepth 100000 in
theorem ahead_any (t : ByteArray) (p rb : Nat) (w : World) (hr : ReadAt w rb t p) (hk : p ≤ t.size) (ht : t.size ≤ maxLen) :
    Calls Tryd.prog 54 #[.pointer (some ⟨rb, 0, none⟩)] w fun e w' => e = .returned (.string (aheadB t p)) ∧ Below w.heap.size w w' := by
  have HR := Lib.hid hr
  have c0 := hr.c0
  have c1 := hr.c1
  unfold maxLen at ht
  clear hr
  have b0 : (0 : Int) ≤ (p : Int) := by omega
  have b1 : (p : Int) ≤ (t.size : Int) := by omega
  by_cases hwl : 0 < wordLen (t.extract p t.size)
  · have hle : wordLen (t.extract p t.size) ≤ t.size - p := by have := wordLen_le (t.extract p t.size); rw [ByteArray.size_extract] at this; omega
    have HE := Lib.hid (show aheadB t p = (t.extract p t.size).extract 0 (wordLen (t.extract p t.size)) by unfold aheadB; simp only; rw [if_pos hwl])
    go_enter Tryd.func54, Tryd.ntmps54
    go_wp2_with fail
    go_region_held3 (fun w' => w'.cell? ⟨rb, 0, none⟩ = some (.string t) ∧ w'.cell? ⟨rb, 1, none⟩ = some (.int .i64 p)) (go_keep) (fail)
    all_goals
      go_wp2_with (go_at_call 41; refine (wordLength_any _ _).mono ?_; rintro e w2 ⟨rfl, hb2⟩)
      go_ret
      exact ⟨congrArg (fun s => Ending.returned (.string s)) HE.out.symm, (Below.refl _ _).drew.trans hb2⟩
  · by_cases hx : (t.extract p t.size).toList = []
    · have HE := Lib.hid (show aheadB t p = ⟨#[]⟩ by
        rw [ByteArray.toList_eq] at hx
        unfold aheadB
        simp only
        rw [if_neg hwl, hx]
        rfl)
      go_enter Tryd.func54, Tryd.ntmps54
      go_wp2_with fail
      go_region_held3 (fun w' => w'.cell? ⟨rb, 0, none⟩ = some (.string t) ∧ w'.cell? ⟨rb, 1, none⟩ = some (.int .i64 p)) (go_keep) (fail)
      all_goals
        go_wp2_with (go_at_call 41; refine (wordLength_any _ _).mono ?_; rintro e w2 ⟨rfl, hb2⟩)
        go_ret
        exact ⟨congrArg (fun s => Ending.returned (.string s)) HE.out.symm, (Below.refl _ _).drew.trans hb2⟩
    · have hsz : 0 < t.size - p := by
        have h : (t.extract p t.size).size = t.size - p := by rw [ByteArray.size_extract]; omega
        rcases Nat.eq_zero_or_pos (t.size - p) with h0 | h0
        · exfalso
          apply hx
          rw [ByteArray.toList_eq]
          apply List.eq_nil_of_length_eq_zero
          have : (t.extract p t.size).data.toList.length = (t.extract p t.size).size := rfl
          omega
        · exact h0
      have hs0 : 0 < (t.extract p t.size).size := by rw [ByteArray.size_extract]; omega
      have hx' : (t.extract p t.size).toList.isEmpty = false := by
        cases h : (t.extract p t.size).toList with
        | nil => exact absurd h hx
        | cons _ _ => rfl
      by_cases hi : (0 : Int) ≤ Lib.indexByte [40, 41, 44] ((t.extract p t.size)[0]'hs0)
      · have HE := Lib.hid (show aheadB t p = (t.extract p t.size).extract 0 1 by unfold aheadB; simp only; rw [if_neg hwl, head_get _ hs0]; simp only; rw [if_pos hi])
        go_enter Tryd.func54, Tryd.ntmps54
        go_wp2_with fail
        go_region_held3 (fun w' => w'.cell? ⟨rb, 0, none⟩ = some (.string t) ∧ w'.cell? ⟨rb, 1, none⟩ = some (.int .i64 p)) (go_keep) (fail)
        all_goals
          go_wp2_with (first
            | (go_at_call 41; refine (wordLength_any _ _).mono ?_; rintro e w2 ⟨rfl, hb2⟩)
            | (go_at_call 74; go_must (refine (Tryd.strings_IndexByte _ _ _).mono ?_; rintro e w3 ⟨rfl, rfl⟩)))
          go_ret
          exact ⟨congrArg (fun s => Ending.returned (.string s)) HE.out.symm, (Below.refl _ _).drew.trans hb2⟩
      · have HE := Lib.hid (show aheadB t p = ⟨#[]⟩ by unfold aheadB; simp only; rw [if_neg hwl, head_get _ hs0]; simp only; rw [if_neg hi])
        go_enter Tryd.func54, Tryd.ntmps54
        go_wp2_with fail
        go_region_held3 (fun w' => w'.cell? ⟨rb, 0, none⟩ = some (.string t) ∧ w'.cell? ⟨rb, 1, none⟩ = some (.int .i64 p)) (go_keep) (fail)
        all_goals
          go_wp2_with (first
            | (go_at_call 41; refine (wordLength_any _ _).mono ?_; rintro e w2 ⟨rfl, hb2⟩)
            | (go_at_call 74; go_must (refine (Tryd.strings_IndexByte _ _ _).mono ?_; rintro e w3 ⟨rfl, rfl⟩)))
          go_ret
          exact ⟨congrArg (fun s => Ending.returned (.string s)) HE.out.symm, (Below.refl _ _).drew.trans hb2⟩
end Go.Proofs.YtpcmhbafcgineaaDoor
