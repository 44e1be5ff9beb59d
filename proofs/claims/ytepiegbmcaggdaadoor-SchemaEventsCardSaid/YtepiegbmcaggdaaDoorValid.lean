/- Package value, Valid, and package schema, Check: for every value, every event, every catalog. -/
import Derived.Test.YtepiegbmcaggdaaDoorCat
import Derived.Test.YtepiegbmcaggdaaDoorVals
namespace Go.Proofs.YtepiegbmcaggdaaDoor
open Go Go.RowKit Go.Maps

/-- May the value be? -/
def validB (a : Val) : Bool :=
  if a.kind = 1 then (a.str.toList == []) && !a.bool
  else if a.kind = 2 then (a.int == 0) && !a.bool && decide (a.str.size ≤ 256)
  else if a.kind = 3 then (a.int == 0) && (a.str.toList == [])
  else false

theorem valid_any (a : Val) (w : World) (hm : a.str.size ≤ maxLen) : Calls Tryd.prog 21 #[a.v] w fun e w' => e = .returned (.bool (validB a)) ∧ Below w.heap.size w w' := by
  obtain ⟨k, n, s, b⟩ := a
  simp only [Val.v]
  simp only at hm
  unfold maxLen at hm
  have hb := Lib.hid (fun (o : Obj) => (Below.refl w.heap.size w).alloc (Nat.le_refl _) o)
  by_cases h1 : k = 1
  · subst h1
    cases hs : (s.toList == []) <;> cases b
    all_goals
      have HE := Lib.hid hs
      go_enter Tryd.func21, Tryd.ntmps21
      go_wp2_with fail
      go_ret
      exact ⟨by simp [validB, HE.out], hb.out _⟩
  by_cases h2 : k = 2
  · subst h2
    cases hn : (n == 0) <;> cases b <;> by_cases hs : s.size ≤ 256
    all_goals
      have HE := Lib.hid hn
      have HS := Lib.hid hs
      go_enter Tryd.func21, Tryd.ntmps21
      go_wp2_with fail
      go_ret
      exact ⟨by (first | (simp [validB, HE.out, HS.out]; done) | (simp [validB, HE.out, HS.out]; omega)), hb.out _⟩
  by_cases h3 : k = 3
  · subst h3
    cases hn : (n == 0) <;> cases hs : (s.toList == [])
    all_goals
      have HE := Lib.hid hn
      have HS := Lib.hid hs
      go_enter Tryd.func21, Tryd.ntmps21
      go_wp2_with fail
      go_ret
      exact ⟨by simp [validB, HE.out, HS.out], hb.out _⟩
  have b1 : (k == 1) = false := by simpa using h1
  have b2 : (k == 2) = false := by simpa using h2
  have b3 : (k == 3) = false := by simpa using h3
  have HE := Lib.hid (show validB ⟨k, n, s, b⟩ = false by simp [validB, h1, h2, h3])
  clear h1 h2 h3
  go_enter Tryd.func21, Tryd.ntmps21
  go_wp2_with fail
  go_ret
  exact ⟨ret_bool HE.out.symm, hb.out _⟩

/-- A value's cells. -/
def Val.cells (a : Val) : List Value := [.int .i64 a.kind, .int .i64 a.int, .string a.str, .bool a.bool]
/-- The cells of a list of values lie from an address on. -/
def ValsAt (w : World) (ao : Option Addr) (l : List Val) : Prop :=
  l = [] ∨ ∃ b o, ao = some ⟨b, o, none⟩ ∧ ∀ i (h : i < l.length), w.cell? ⟨b, o + i * 4, none⟩ = some (.int .i64 l[i].kind) ∧ w.cell? ⟨b, o + i * 4 + 1, none⟩ = some (.int .i64 l[i].int) ∧ w.cell? ⟨b, o + i * 4 + 2, none⟩ = some (.string l[i].str) ∧ w.cell? ⟨b, o + i * 4 + 3, none⟩ = some (.bool l[i].bool)
theorem ValsAt.below {w w' : World} {ao : Option Addr} {l : List Val} (h : ValsAt w ao l) (hb : Below w.heap.size w w') : ValsAt w' ao l := by
  rcases h with h | ⟨b, o, rfl, h⟩
  · exact Or.inl h
  · refine Or.inr ⟨b, o, rfl, fun i hi => ?_⟩
    have hl := World.block_lt_of_cell? w _ (h i hi).1
    simp only at hl
    exact ⟨(hb.cell (p := ⟨b, _, none⟩) hl).trans (h i hi).1, (hb.cell (p := ⟨b, _, none⟩) hl).trans (h i hi).2.1, (hb.cell (p := ⟨b, _, none⟩) hl).trans (h i hi).2.2.1, (hb.cell (p := ⟨b, _, none⟩) hl).trans (h i hi).2.2.2⟩

/-- What is wrong with a value of an attribute. -/
def valFault (k : Int) (v : Val) : Int := if v.kind = k then (if validB v then 0 else 12) else 10
/-- What is wrong with the values. -/
def valsFault : List Attr → List Val → Int
  | a :: l, v :: r => if valFault a.2 v = 0 then valsFault l r else valFault a.2 v
  | _, _ => 0
theorem valsFault_step (l : List Attr) (vs : List Val) (k : Nat) (h1 : k < l.length) (h2 : k < vs.length) : valsFault (l.drop k) (vs.drop k) = if valFault l[k].2 vs[k] = 0 then valsFault (l.drop (k + 1)) (vs.drop (k + 1)) else valFault l[k].2 vs[k] := by
  rw [List.drop_eq_getElem_cons h1, List.drop_eq_getElem_cons h2, valsFault]
/-- What is wrong with an event of a type that is declared. -/
def eventFault (l : List Attr) (t : Int) (vs : List Val) : Int := if t < 0 ∨ 4611686018427387904 < t then 23 else if vs.length = l.length then valsFault l vs else 22

set_option maxRecDepth 100000 in
set_option maxHeartbeats 4000000 in
theorem check_any (ty : ByteArray) (tm : Int) (vs : List Val) (va : Option Addr) (vc cb mb sz : Nat) (D : DataW Value) (nm : ByteArray) (aa : Option Addr) (ac : Nat) (l : List Attr) (w : World)
    (hcat : CatAt w cb mb sz D) (hty : ty.size ≤ maxLen) (hh : Maps.has D (keyL ty) = true) (hat : D.atKey (keyL ty) (.held zeroT) = .held (typeV nm aa l.length ac)) (hla : AttrsAt w aa l) (hva : ValsAt w va vs) (hl : l.length ≤ 16) (hms : ∀ v ∈ vs, v.str.size ≤ maxLen) :
    Calls Tryd.prog 10 #[.pointer (some ⟨cb, 0, none⟩), .agg #[.string ty, .int .i64 tm, .slice va vs.length vc]] w fun e w' => e = .returned (.int .i64 (eventFault l tm vs)) ∧ Below w.heap.size w w' := by
  obtain ⟨w0, hw0⟩ : ∃ w0, w0 = w.alloc (Obj.cells #[.string ty, .int .i64 tm, .slice va vs.length vc] 33) := ⟨_, rfl⟩
  have hb0 : Below w.heap.size w w0 := by rw [hw0]; exact (Below.refl _ _).alloc (Nat.le_refl _) _
  have HB0 := Lib.hid hb0
  have hct0 := hcat.below hb0
  have HLA := Lib.hid (hla.below' hb0)
  have HVA := Lib.hid (hva.below hb0)
  have HMS := Lib.hid hms
  have HH := Lib.hid hh
  obtain ⟨hcb, hmb⟩ := hct0.lt
  have hlk := hct0.look_at hty hat w0 rfl
  rw [hh] at hlk
  have HL := Lib.hid (fun (W : World) (hW : W.heap[mb]? = w0.heap[mb]?) => (show (Instr.lookup 56 (.map (some mb)) (.string ty) true).run Tryd.prog W = .ok (.tuple #[.agg #[.string nm, .slice aa l.length ac], .bool true]) W by
    have := hct0.look_at hty hat W hW
    rwa [HH.out] at this))
  have g0 := hct0.cell
  have e0 : w0.cell? ⟨w.heap.size, 0, none⟩ = some (.string ty) := by rw [hw0]; simp
  have e1 : w0.cell? ⟨w.heap.size, 1, none⟩ = some (.int .i64 tm) := by rw [hw0]; simp
  have e2 : w0.cell? ⟨w.heap.size, 2, none⟩ = some (.slice va vs.length vc) := by rw [hw0]; simp
  have hz0 : w.heap.size < w0.heap.size := by rw [hw0]; simp
  clear hcat hla hva hms hh hat hb0 hct0
  go_enter Tryd.func10, Tryd.ntmps10
  go_upto_region 1 with fail
  rw [← hw0]
  clear hw0
  go_cut [5, 6] (fun s5 s6 wx => s5 = .pointer (some ⟨w0.heap.size, 0, none⟩) ∧ s6 = .bool true ∧ wx.cell? ⟨w0.heap.size, 1, none⟩ = some (.slice aa l.length ac) ∧ Below w0.heap.size w0 wx ∧ w0.heap.size < wx.heap.size)
  case first =>
    go_region_held3 (fun w' => w'.cell? ⟨cb, 0, none⟩ = some (.map (some mb)) ∧ w'.cell? ⟨w.heap.size, 0, none⟩ = some (.string ty) ∧ (Instr.lookup 56 (.map (some mb)) (.string ty) true).run Tryd.prog w' = .ok (.tuple #[.agg #[.string nm, .slice aa l.length ac], .bool true]) w')
      ((go_split_ands; refine ⟨by go_keep, by go_keep, ?_⟩; (first | exact HL.out _ rfl | exact HL.out _ (Below.heap_alloc _ _ mb (by omega)))))
      (fail)
    all_goals
      go_wp2_with fail
      go_meet
      exact ⟨rfl, rfl, by simp, ((Below.refl _ _).alloc (Nat.le_refl _) _).drew, by simp⟩
  case rest =>
    obtain ⟨rfl, rfl, t1, hb2, hz2⟩ := hcut
    obtain ⟨W2, hW2⟩ : ∃ W2, W2 = wc := ⟨_, rfl⟩
    rw [← hW2] at t1 hb2 hz2 ⊢
    clear hW2
    have x1 := (hb2.cell (p := ⟨w.heap.size, 1, none⟩) (by simp; omega)).trans e1
    have x2 := (hb2.cell (p := ⟨w.heap.size, 2, none⟩) (by simp; omega)).trans e2
    have HLA2 := Lib.hid (HLA.out.below' hb2)
    have HVA2 := Lib.hid (HVA.out.below hb2)
    have HB2 := Lib.hid (HB0.out.trans (hb2.mono (by omega)))
    have hzw : w.heap.size ≤ w0.heap.size := by omega
    clear hb2 e0 e1 e2 g0 hlk
    by_cases ht1 : tm < 0
    · have HE := Lib.hid (show eventFault l tm vs = 23 by rw [eventFault, if_pos (Or.inl ht1)])
      go_wp2_with fail
      go_ret
      exact ⟨ret_err HE.out.symm, HB2.out⟩
    by_cases ht2 : 4611686018427387904 < tm
    · have HE := Lib.hid (show eventFault l tm vs = 23 by rw [eventFault, if_pos (Or.inr ht2)])
      go_wp2_with fail
      go_ret
      exact ⟨ret_err HE.out.symm, HB2.out⟩
    by_cases hlen : vs.length = l.length
    · have HE := Lib.hid (show eventFault l tm vs = valsFault l vs by rw [eventFault, if_neg (by omega), if_pos hlen])
      have hlb : ((vs.length : Int) == (l.length : Int)) = true := by simp [hlen]
      have hlb2 : ((vs.length : Int) != (l.length : Int)) = false := by simp [hlen]
      have HLEN := Lib.hid hlen
      have hle1 : vs.length ≤ l.length := by omega
      have hle2 : l.length ≤ vs.length := by omega
      clear hlen
      go_wp2_with fail
      go_loopw [42] (fun i wr => ∃ k : Nat, k ≤ vs.length ∧ i = .int .i64 k ∧ Below W2.heap.size W2 wr ∧ valsFault (l.drop k) (vs.drop k) = valsFault l vs) (fun i _ => vs.length - (intOf i).toNat)
      case atStart => exact ⟨0, Nat.zero_le _, rfl, Below.refl _ _, rfl⟩
      case round =>
        obtain ⟨k, hk, rfl, hbel, hf⟩ := hrel
        have HF := Lib.hid hf
        have HB := Lib.hid hbel
        clear hf
        by_cases hlt : k < vs.length
        · have hkl : k < l.length := by omega
          have HS := Lib.hid (valsFault_step l vs k hkl hlt)
          obtain ⟨b, o, rfl, hvc4⟩ : ∃ b o, va = some ⟨b, o, none⟩ ∧ ∀ i (h : i < vs.length), W2.cell? ⟨b, o + i * 4, none⟩ = some (.int .i64 vs[i].kind) ∧ W2.cell? ⟨b, o + i * 4 + 1, none⟩ = some (.int .i64 vs[i].int) ∧ W2.cell? ⟨b, o + i * 4 + 2, none⟩ = some (.string vs[i].str) ∧ W2.cell? ⟨b, o + i * 4 + 3, none⟩ = some (.bool vs[i].bool) := by
            rcases HVA2.out with h | h
            · rw [h] at hlt; simp at hlt
            · exact h
          obtain ⟨b2, o2, rfl, hac4⟩ : ∃ b o, aa = some ⟨b, o, none⟩ ∧ ∀ i (h : i < l.length), W2.cell? ⟨b, o + i * 2, none⟩ = some (.string l[i].1) ∧ W2.cell? ⟨b, o + i * 2 + 1, none⟩ = some (.int .i64 l[i].2) := by
            rcases HLA2.out with h | h
            · rw [h] at hkl; simp at hkl
            · exact h
          obtain ⟨v0, v1, v2, v3⟩ := hvc4 k hlt
          have a1 := (hac4 k hkl).2
          have hbv := World.block_lt_of_cell? W2 _ v0
          have hba := World.block_lt_of_cell? W2 _ a1
          simp only at hbv hba
          have v0 := (hbel.cell (p := ⟨b, o + k * 4, none⟩) hbv).trans v0
          have v1 := (hbel.cell (p := ⟨b, o + k * 4 + 1, none⟩) hbv).trans v1
          have v2 := (hbel.cell (p := ⟨b, o + k * 4 + 2, none⟩) hbv).trans v2
          have v3 := (hbel.cell (p := ⟨b, o + k * 4 + 3, none⟩) hbv).trans v3
          have a1 := (hbel.cell (p := ⟨b2, o2 + k * 2 + 1, none⟩) hba).trans a1
          have s1 := (hbel.cell (p := ⟨w0.heap.size, 1, none⟩) (by simp; omega)).trans t1
          have hzr := hbel.size
          obtain ⟨⟨vk, vi, vstr, vb⟩, hv⟩ : ∃ v, v = vs[k] := ⟨_, rfl⟩
          rw [← hv] at v0 v1 v2 v3
          simp only at v0 v1 v2 v3
          have hstr : vstr.size ≤ maxLen := by have := HMS.out vs[k] (List.getElem_mem hlt); rw [← hv] at this; exact this
          obtain ⟨⟨an, ak⟩, ha⟩ : ∃ a, a = l[k] := ⟨_, rfl⟩
          rw [← ha] at a1
          simp only at a1
          rw [← hv, ← ha] at HS
          have hq1 : w0.heap.size < wr.heap.size := by omega
          have hq2 : b2 < wr.heap.size := by omega
          clear hvc4 hac4 hbel hv ha
          by_cases hkk : vk = ak
          · have hkb : (vk == ak) = true := by simpa using hkk
            have hkb2 : (vk != ak) = false := by simpa using hkk
            have HKK := Lib.hid hkk
            clear hkk
            cases hvl : validB ⟨vk, vi, vstr, vb⟩
            · have HK := Lib.hid (show valsFault l vs = 12 by rw [← HF.out, HS.out, valFault, if_pos (show (⟨vk, vi, vstr, vb⟩ : Val).kind = ak from HKK.out), hvl]; rfl)
              go_wp2_with fail
              go_region
              all_goals
                go_wp2_with (go_at_call 21; refine (valid_any ⟨vk, vi, vstr, vb⟩ _ hstr).mono ?_; rintro e w5 ⟨rfl, hb5⟩)
                go_ret
                exact ⟨ret_err (by rw [HE.out, HK.out]), HB2.out.trans ((HB.out.mono (by omega)).trans ((((Below.refl _ wr).alloc (Nat.le_refl _) _).drew.trans (hb5.mono (by simp))).mono (by omega)))⟩
            · have HK := Lib.hid (show valsFault (l.drop (k + 1)) (vs.drop (k + 1)) = valsFault l vs by rw [← HF.out, HS.out, valFault, if_pos (show (⟨vk, vi, vstr, vb⟩ : Val).kind = ak from HKK.out), hvl]; rfl)
              go_wp2_with fail
              go_region
              all_goals
                go_wp2_with (go_at_call 21; refine (valid_any ⟨vk, vi, vstr, vb⟩ _ hstr).mono ?_; rintro e w5 ⟨rfl, hb5⟩)
                go_roundw
                case rel => exact ⟨k + 1, by omega, by go_num, HB.out.trans ((((Below.refl _ wr).alloc (Nat.le_refl _) _).drew.trans (hb5.mono (by simp))).mono (by omega)), HK.out⟩
                case measure => simp [intOf]; omega
          · have HK := Lib.hid (show valsFault l vs = 10 by rw [← HF.out, HS.out, valFault, if_neg (show ¬ (⟨vk, vi, vstr, vb⟩ : Val).kind = ak from hkk)]; rfl)
            have hkb : (vk == ak) = false := by simpa using hkk
            have hkb2 : (vk != ak) = true := by simpa using hkk
            clear hkk
            go_wp2_with fail
            go_region
            all_goals
              go_wp2_with fail
              go_ret
              exact ⟨ret_err (by rw [HE.out, HK.out]), HB2.out.trans ((HB.out.mono (by omega)).trans (((Below.refl _ wr).alloc (Nat.le_refl _) _).mono (by omega)).drew)⟩
        · have HK := Lib.hid (show valsFault l vs = 0 by rw [← HF.out, List.drop_of_length_le (show vs.length ≤ k by omega), List.drop_of_length_le (show l.length ≤ k by omega)]; rfl)
          go_wp2_with fail
          go_ret
          exact ⟨ret_err (by rw [HE.out, HK.out]), HB2.out.trans (HB.out.mono (by omega))⟩
    · have HE := Lib.hid (show eventFault l tm vs = 22 by rw [eventFault, if_neg (by omega), if_neg hlen])
      have hlb : ((vs.length : Int) == (l.length : Int)) = false := by simp; omega
      have hlb2 : ((vs.length : Int) != (l.length : Int)) = true := by simp; omega
      clear hlen
      go_wp2_with fail
      go_ret
      exact ⟨ret_err HE.out.symm, HB2.out⟩

set_option maxRecDepth 100000 in
set_option maxHeartbeats 4000000 in
/-- An event of a type that is not declared. -/
theorem check_none (ty : ByteArray) (tm : Int) (va : Option Addr) (n vc cb mb sz : Nat) (D : DataW Value) (w : World)
    (hcat : CatAt w cb mb sz D) (hty : ty.size ≤ maxLen) (hh : Maps.has D (keyL ty) = false) :
    Calls Tryd.prog 10 #[.pointer (some ⟨cb, 0, none⟩), .agg #[.string ty, .int .i64 tm, .slice va n vc]] w fun e w' => e = .returned (.int .i64 21) ∧ Below w.heap.size w w' := by
  obtain ⟨w0, hw0⟩ : ∃ w0, w0 = w.alloc (Obj.cells #[.string ty, .int .i64 tm, .slice va n vc] 33) := ⟨_, rfl⟩
  have hb0 : Below w.heap.size w w0 := by rw [hw0]; exact (Below.refl _ _).alloc (Nat.le_refl _) _
  have HB0 := Lib.hid hb0
  have hct0 := hcat.below hb0
  have HH := Lib.hid hh
  obtain ⟨hcb, hmb⟩ := hct0.lt
  obtain ⟨nm, aa, al, ac, hlk, hat⟩ := hct0.look ty hty
  rw [hh] at hlk
  have HL := Lib.hid (fun (W : World) (hW : W.heap[mb]? = w0.heap[mb]?) => (show (Instr.lookup 56 (.map (some mb)) (.string ty) true).run Tryd.prog W = .ok (.tuple #[.agg #[.string nm, .slice aa al ac], .bool false]) W by
    have := hct0.look_at hty hat W hW
    rwa [HH.out] at this))
  have g0 := hct0.cell
  have e0 : w0.cell? ⟨w.heap.size, 0, none⟩ = some (.string ty) := by rw [hw0]; simp
  have hz0 : w.heap.size < w0.heap.size := by rw [hw0]; simp
  clear hcat hh hat hb0 hct0
  go_enter Tryd.func10, Tryd.ntmps10
  go_upto_region 1 with fail
  rw [← hw0]
  clear hw0
  go_region_held3 (fun w' => w'.cell? ⟨cb, 0, none⟩ = some (.map (some mb)) ∧ w'.cell? ⟨w.heap.size, 0, none⟩ = some (.string ty) ∧ (Instr.lookup 56 (.map (some mb)) (.string ty) true).run Tryd.prog w' = .ok (.tuple #[.agg #[.string nm, .slice aa al ac], .bool false]) w')
    ((go_split_ands; refine ⟨by go_keep, by go_keep, ?_⟩; (first | exact HL.out _ rfl | exact HL.out _ (Below.heap_alloc _ _ mb (by omega)))))
    (fail)
  all_goals
    go_wp2_with fail
    go_ret
    exact ⟨rfl, HB0.out.trans (((Below.refl _ w0).alloc (Nat.le_refl _) _).mono (by omega)).drew⟩
end Go.Proofs.YtepiegbmcaggdaaDoor
