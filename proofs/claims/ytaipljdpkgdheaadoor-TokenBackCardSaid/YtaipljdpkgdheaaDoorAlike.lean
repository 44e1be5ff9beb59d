/- The laws' alike, at what is alike. -/
import Derived.Test.YtaipljdpkgdheaaDoorBackSpec
import Derived.Test.YtaipljdpkgdheaaDoorSpellSpec
import Derived.Deep.QuietTactic
import Derived.BigQuiet
namespace Go.Proofs.YtaipljdpkgdheaaDoor
open Go Go.RowKit

theorem below_drewN {B : Nat} {a w : World} (h : Below B a w) (n : Nat) : Below B a (w.drewN n) := ⟨h.os, h.tape, h.output, h.size, h.block⟩

set_option maxHeartbeats 8000000 in
set_option maxRecDepth 1000000 in
theorem alike_any (a b : List Tok) (n : Nat) (ao bo : Option Addr) (ca cb : Nat) (w : World) (hna : a.length = n) (hnb : b.length = n + 1) (hn : n ≤ 100000) (ha : ToksAt w ao a) (hb : ToksAt w bo b)
    (hk : ∀ i (h : i < a.length) (h' : i < b.length), b[i].kind = a[i].kind ∧ b[i].str = a[i].str) (he : ∀ h : n < b.length, b[n].kind = 5 ∧ b[n].str = ⟨#[]⟩) :
    Calls Tryd.prog 12 #[.slice ao n ca, .slice bo (n + 1) cb] w fun e w' => e = .returned (.bool true) ∧ Below w.heap.size w w' := by
  have HA := Lib.hid ha
  have HK := Lib.hid hk
  have HNA := Lib.hid hna
  have HNB := Lib.hid hnb
  obtain ⟨b2, o2, rfl, hcb⟩ : ∃ x o, bo = some ⟨x, o, none⟩ ∧ ∀ j (h : j < b.length), w.cell? ⟨x, o + j * 3, none⟩ = some (.int .i64 b[j].kind) ∧ w.cell? ⟨x, o + j * 3 + 1, none⟩ = some (.string b[j].str) ∧ w.cell? ⟨x, o + j * 3 + 2, none⟩ = some (.int .i64 b[j].pos) := by
    rcases hb with h | h
    · rw [h] at hnb; simp at hnb
    · exact h
  have HB := Lib.hid hcb
  obtain ⟨e0, e1⟩ := he (by omega)
  obtain ⟨l0, l1, l2⟩ := hcb n (by omega)
  rw [e0] at l0
  rw [e1] at l1
  have q1 : (((n + 1 : Nat) : Int) != (n : Int) + 1) = false := by simp
  have q2 : (n : Int) < ((n + 1 : Nat) : Int) := by omega
  have q3 : (0 : Int) ≤ (n : Int) := by omega
  clear ha hb hk he hcb e0 e1 l2
  clear hna hnb
  go_enter Tryd.func12, Tryd.ntmps12
  go_wp2_with fail
  clear l0 l1 q1 q2 q3
  go_loopw [5] (fun i wr => ∃ k d : Nat, k ≤ n ∧ i = .int .i64 k ∧ wr = w.drewN d) (fun i _ => n - (intOf i).toNat)
  case atStart => exact ⟨0, 0, Nat.zero_le _, rfl, rfl⟩
  case round =>
    obtain ⟨k, d, hk, rfl, rfl⟩ := hrel
    by_cases hlt : k < n
    · have hka : k < a.length := by rw [HNA.out]; exact hlt
      have hkb : k < b.length := by rw [HNB.out]; omega
      obtain ⟨b1, o1, rfl, hca⟩ : ∃ x o, ao = some ⟨x, o, none⟩ ∧ ∀ j (h : j < a.length), w.cell? ⟨x, o + j * 3, none⟩ = some (.int .i64 a[j].kind) ∧ w.cell? ⟨x, o + j * 3 + 1, none⟩ = some (.string a[j].str) ∧ w.cell? ⟨x, o + j * 3 + 2, none⟩ = some (.int .i64 a[j].pos) := by
        rcases HA.out with h | h
        · rw [h] at hka; simp at hka
        · exact h
      obtain ⟨g1, g2, _⟩ := hca k hka
      obtain ⟨h1, h2, _⟩ := HB.out k hkb
      obtain ⟨f1, f2⟩ := HK.out k hka hkb
      rw [f1] at h1
      rw [f2] at h2
      obtain ⟨x, hx⟩ : ∃ x, x = a[k].kind := ⟨_, rfl⟩
      obtain ⟨y, hy⟩ : ∃ y, y = a[k].str := ⟨_, rfl⟩
      rw [← hx] at g1 h1
      rw [← hy] at g2 h2
      clear hx hy hca f1 f2
      have b1' : (0 : Int) ≤ (k : Int) := by omega
      have b2' : (k : Int) < (n : Int) := by omega
      have b3' : (k : Int) < ((n + 1 : Nat) : Int) := by omega
      go_wp2_with fail
      go_quiet (fail)
      go_wp2_with fail
      go_roundw
      case rel => exact ⟨k + 1, d + nq, by omega, by go_num, by simp [World.drewN]⟩
      case measure => simp [intOf]; omega
    · have b2' : ¬ (k : Int) < (n : Int) := by omega
      go_wp2_with fail
      go_ret
      exact ⟨rfl, below_drewN (Below.refl _ _) _⟩
end Go.Proofs.YtaipljdpkgdheaaDoor
