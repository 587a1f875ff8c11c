/- What the document's answer tells of an act's text: the same text as package act's. No conditions. -/
import Derived.Test.YtoeopapnegjooaaDoorG2
import Derived.Deep.RegionWith
namespace Go.Proofs.YtoeopapnegjooaaDoor
open Go.RowKit

theorem dg1' {n : Nat} (h : n < 10) : dg n = ⟨#[UInt8.ofNat (48 + n)]⟩ := by unfold dg; rw [Lib.decDigits_one h]
theorem piece : ∀ n, n < 10 → (⟨#[48, 49, 50, 51, 52, 53, 54, 55, 56, 57]⟩ : ByteArray).extract n (n + 1) = ⟨#[UInt8.ofNat (48 + n)]⟩ := by decide
theorem dg_step {n : Nat} (h : ¬ n < 10) : dg (n / 10) ++ dg (n % 10) = dg n := by
  rw [dg1' (Nat.mod_lt n (by decide))]
  unfold dg
  rw [Lib.decDigits.eq_1 n, dif_neg h]
  exact ByteArray.mk_append_mk _ _

set_option maxRecDepth 100000 in
set_option maxHeartbeats 1000000 in
theorem digits_small (n : Nat) (h : n < 10) (w : World) : Calls Tryd.prog 41 #[.int .u64 n] w fun e w' => e = .returned (.string (dg n)) ∧ w' = w := by
  have hd : decide ((n : Int) < 10) = true := by simp; omega
  have hp := piece n h
  rw [dg1' h]
  go_enter Tryd.func41, Tryd.ntmps41
  go_wp2
  go_ret
  exact ⟨by simp, rfl⟩

set_option maxRecDepth 100000 in
set_option maxHeartbeats 1000000 in
theorem digits_at : ∀ (n : Nat), n < 18446744073709551616 → ∀ (w : World), Calls Tryd.prog 41 #[.int .u64 n] w fun e w' => e = .returned (.string (dg n)) ∧ w' = w := by
  intro n
  induction n using Nat.strongRecOn with
  | ind n ih =>
    intro hn w
    by_cases h : n < 10
    · exact digits_small n h w
    · have H1 := Lib.hid (ih (n / 10) (by omega) (by omega) w)
      have H2 := Lib.hid (digits_small (n % 10) (by omega) w)
      have hd : decide ((n : Int) < 10) = false := by simp; omega
      have z1 := dg_size (n / 10) (by omega)
      have z2 := dg_size (n % 10) (by omega)
      have y1 : ¬ 9223372036854775807 < (dg (n / 10)).size + (dg (n % 10)).size := by omega
      have e1 : (n : Int).tdiv 10 = ((n / 10 : Nat) : Int) := by rw [Int.tdiv_eq_ediv_of_nonneg (by omega)]; rfl
      have e2 : (n : Int).tmod 10 = ((n % 10 : Nat) : Int) := by rw [Int.tmod_eq_emod_of_nonneg (by omega)]; rfl
      rw [← dg_step h]
      clear ih
      go_enter Tryd.func41, Tryd.ntmps41
      go_wp2_with fail
      refine H1.out.mono ?_
      rintro e w' ⟨rfl, hw'⟩
      rw [hw']
      clear hw' w'
      go_wp2_with fail
      refine H2.out.mono ?_
      rintro e w' ⟨rfl, hw'⟩
      rw [hw']
      clear hw' w'
      go_wp2
      go_ret
      exact ⟨rfl, rfl⟩

theorem box_alloc {w w' : World} {x : Ac} {o : Obj} (h : (w'.cell? ⟨w.heap.size, 0, none⟩ = some (.int .i64 x.kd) ∧ w'.cell? ⟨w.heap.size, 1, none⟩ = some (.int .i64 x.ad)) ∧ Below w.heap.size w w') :
    ((w'.alloc o).cell? ⟨w.heap.size, 0, none⟩ = some (.int .i64 x.kd) ∧ (w'.alloc o).cell? ⟨w.heap.size, 1, none⟩ = some (.int .i64 x.ad)) ∧ Below w.heap.size w (w'.alloc o) := by
  have hlt : w.heap.size < w'.heap.size := World.block_lt_of_cell? w' ⟨w.heap.size, 0, none⟩ h.1.1
  exact ⟨⟨((below_alloc w' o).cell (p := ⟨w.heap.size, 0, none⟩) hlt).trans h.1.1, ((below_alloc w' o).cell (p := ⟨w.heap.size, 1, none⟩) hlt).trans h.1.2⟩, zkeep h.2 o⟩
end Go.Proofs.YtoeopapnegjooaaDoor
