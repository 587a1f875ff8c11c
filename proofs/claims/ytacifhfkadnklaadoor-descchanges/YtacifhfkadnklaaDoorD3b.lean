/- What the document's answer's leads and Name return, for every argument; the world's old blocks are as they were. -/
import Derived.Test.YtacifhfkadnklaaDoorD3
namespace Go.Proofs.YtacifhfkadnklaaDoor
open Go.RowKit

set_option maxRecDepth 100000 in
set_option maxHeartbeats 1000000 in
theorem leads_any (k b : Int) (w : World) (h : btw k 0 5 = true) :
    Calls Tryd.prog 29 #[.int .i64 k, .int .i64 b] w fun x w' => x = .returned (.bool (way k b)) ∧ w' = w := by
  have hk := btw_yes.1 h
  have HW := hid (way_iff k b hk)
  have ways : (k = 0 ∨ k = 1 ∨ k = 2 ∨ k = 3 ∨ k = 4 ∨ k = 5) := by omega
  clear hk h
  generalize way k b = u at *
  rcases ways with rfl | rfl | rfl | rfl | rfl | rfl
  all_goals
    have hw := HW.out
    simp at hw
    have HA := hid hw
    clear hw HW
    go_enter Tryd.func29, Tryd.ntmps29
    go_wp2
    all_goals
      go_ret
      refine ⟨ret_bool ?_, rfl⟩
      have hA := HA.out
      rw [Bool.eq_iff_iff, hA]
      clear hA HA
      first
        | (simp [*]; done)
        | (simp only [beq_iff_eq, Bool.false_eq_true, false_iff]; omega)
        | (simp; omega)

set_option maxRecDepth 100000 in
set_option maxHeartbeats 400000 in
theorem rname_core (k : Nat) (s : ByteArray) (w : World) (hk : k < 6) (hw : Calls Tryd.prog 27 #[.int .i64 k, .int .i64 5] w fun x w' => x = .returned (.bool true) ∧ w' = w)
    (hc : ∀ W : World, (W.alloc (.cells #[.string (nmB 0), .string (nmB 1), .string (nmB 2), .string (nmB 3), .string (nmB 4), .string (nmB 5)] 9)).cell? ⟨W.heap.size, k, none⟩ = some (.string s)) :
    Calls Tryd.prog 16 #[.int .i64 k] w fun x w' => x = .returned (.string s) ∧ Below w.heap.size w w' := by
  have HK := hid hw
  clear hw
  have hc0 := hc w
  simp only [nmB] at hc0
  clear hc
  go_enter Tryd.func16, Tryd.ntmps16
  go_wp2_with fail
  refine HK.out.mono ?_
  rintro x w1 ⟨rfl, rfl⟩
  go_wp2
  go_ret
  exact ⟨rfl, below_one _ _⟩
theorem rname_yes (k : Nat) (w : World) (hk : k < 6) :
    Calls Tryd.prog 16 #[.int .i64 k] w fun x w' => x = .returned (.string (nmB k)) ∧ Below w.heap.size w w' := by
  refine rname_core k (nmB k) w hk (within_yes k 5 w (btw_yes.2 ⟨by omega, by omega⟩)) fun W => ?_
  rw [World.cell?_alloc_at _ _ _ _ rfl]
  match k, hk with
  | 0, _ => rfl
  | 1, _ => rfl
  | 2, _ => rfl
  | 3, _ => rfl
  | 4, _ => rfl
  | 5, _ => rfl
set_option maxHeartbeats 400000 in
theorem rname_no (k : Int) (w : World) (hk : btw k 0 5 = false) :
    Calls Tryd.prog 16 #[.int .i64 k] w fun x w' => x = .returned (.string ⟨#[]⟩) ∧ Below w.heap.size w w' := by
  have HK := hid hk
  clear hk
  go_enter Tryd.func16, Tryd.ntmps16
  go_wp2_with fail
  refine (within_no _ _ _ HK.out).mono ?_
  rintro x w1 ⟨rfl, rfl⟩
  go_wp2
  go_ret
  exact ⟨rfl, Below.refl _ _⟩
theorem rname_at (k : Int) (w : World) :
    Calls Tryd.prog 16 #[.int .i64 k] w fun x w' => x = .returned (.string (nmOf k)) ∧ Below w.heap.size w w' := by
  cases hk : btw k 0 5
  · rw [show nmOf k = ⟨#[]⟩ by simp [nmOf, hk]]
    exact rname_no k w hk
  · have h := btw_yes.1 hk
    rw [show nmOf k = nmB k.toNat by simp [nmOf, hk]]
    obtain ⟨n, rfl⟩ := Int.eq_ofNat_of_zero_le h.1
    exact rname_yes n w (by omega)
end Go.Proofs.YtacifhfkadnklaaDoor
