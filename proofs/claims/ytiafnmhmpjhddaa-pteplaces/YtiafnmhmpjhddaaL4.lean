/- The walk of PtePlaces: for every three numbers it returns true; nothing that lay before is changed. No conditions. -/
import Derived.Test.YtiafnmhmpjhddaaK
namespace Go.Proofs.Ytiafnmhmpjhddaa
open Go.RowKit

set_option maxRecDepth 100000 in
set_option maxHeartbeats 1000000 in
theorem places_walk (f n v : Int) (w : World) : Calls Try.prog 4 #[.int .i64 f, .int .i64 n, .int .i64 v] w fun x w' => x = .returned (.bool true) ∧ Below w.heap.size w w' := by
  have Ui := hid (fun w => index_at n v w)
  have Ri := hid (fun w => rindex_at n v w)
  have Ua := hid (fun w => place_at f n v w)
  have Ra := hid (fun w => rplace_at f n v w)
  have Us := hid (fun w => span_at v w)
  have Rs := hid (fun w => rspan_at v w)
  generalize ix n v = i at *
  generalize at' f n v = a at *
  generalize sp v = s at *
  have ei : (i == i) = true := by simp
  have ea : (a == a) = true := by simp
  have es : (s == s) = true := by simp
  go_enter Try.func4, Try.ntmps4
  go_wp2_with fail
  refine (Ui.out _).mono ?_
  rintro v w1 ⟨rfl, hw⟩
  rw [hw]
  clear hw w1
  (try simp only [])
  go_wp2_with fail
  refine (Ri.out _).mono ?_
  rintro v w2 ⟨rfl, hB⟩
  have HB := hid (hB)
  clear hB
  (try simp only [])
  go_wp2_with fail
  refine (Ua.out _).mono ?_
  rintro v w3 ⟨rfl, hw⟩
  rw [hw]
  clear hw w3
  (try simp only [])
  go_wp2_with fail
  refine (Ra.out _).mono ?_
  rintro v w4 ⟨rfl, hB⟩
  have HBn := hid (bgo HB.out hB)
  clear HB
  have HB := HBn
  clear HBn
  clear hB
  (try simp only [])
  go_wp2_with fail
  refine (Us.out _).mono ?_
  rintro v w5 ⟨rfl, hw⟩
  rw [hw]
  clear hw w5
  (try simp only [])
  go_wp2_with fail
  refine (Rs.out _).mono ?_
  rintro v w6 ⟨rfl, hB⟩
  have HBn := hid (bgo HB.out hB)
  clear HB
  have HB := HBn
  clear HBn
  clear hB
  (try simp only [])
  go_wp2_with fail
  refine (known_yes _).mono ?_
  rintro v w7 ⟨rfl, hB⟩
  have HBn := hid (bgo HB.out hB)
  clear HB
  have HB := HBn
  clear HBn
  clear hB
  (try simp only [])
  go_wp2
  go_ret
  exact ⟨rfl, HB.out⟩

end Go.Proofs.Ytiafnmhmpjhddaa
