/- What the epochs' small calls (isNone, fault, Now, Pinned) return, for every epochs that lie in memory and every number: the world's old blocks are as they were. -/
import Derived.Test.YthiicngnhnglfaaH
import Derived.BigQuiet
import Derived.WalkSmall
namespace Go.Proofs.Ythiicngnhnglfaa
open Go.RowKit

set_option maxHeartbeats 400000 in
theorem isNone_no {w : World} {p b m : Nat} {s : Ep} (h : IsE w p b m s) (hp : 1 ≤ s.P.length) :
    Calls Try.prog 28 #[.pointer (some ⟨p, 0, none⟩)] w fun e w' => e = .returned (.bool false) ∧ w' = w := by
  obtain ⟨c, -, hc, -, -⟩ := h.heads
  generalize s.P.length = n at hc hp
  have hn : ((n : Int) == 0) = false := by simpa using (by omega : ¬ n = 0)
  clear hp h
  go_enter Try.func28, Try.ntmps28
  go_wp2
  go_ret
  exact ⟨rfl, rfl⟩
set_option maxHeartbeats 400000 in
theorem isNone_yes {w : World} {v : Value} (h : NoE w v) :
    Calls Try.prog 28 #[v] w fun e w' => e = .returned (.bool true) ∧ w' = w := by
  rcases h with rfl | ⟨g, rfl, hc⟩
  · go_enter Try.func28, Try.ntmps28
    go_wp2
    go_ret
    exact ⟨rfl, rfl⟩
  · go_enter Try.func28, Try.ntmps28
    go_wp2
    go_ret
    exact ⟨rfl, rfl⟩

set_option maxHeartbeats 400000 in
theorem fault_none {w : World} {v : Value} (h : NoE w v) (f : Int) :
    Calls Try.prog 33 #[v, .int .i64 f] w fun e w' => e = .returned (.int .i64 10) ∧ w' = w := by
  have HH := hid h
  clear h
  go_enter Try.func33, Try.ntmps33
  go_wp2_with fail
  refine (isNone_yes HH.out).mono ?_
  rintro e w1 ⟨rfl, rfl⟩
  go_wp2
  go_ret
  exact ⟨rfl, rfl⟩
set_option maxHeartbeats 400000 in
theorem fault_out {w : World} {p b m : Nat} {s : Ep} (h : IsE w p b m s) (hp : 1 ≤ s.P.length) (f : Int) (hf : ¬ isC s f) :
    Calls Try.prog 33 #[.pointer (some ⟨p, 0, none⟩), .int .i64 f] w fun e w' => e = .returned (.int .i64 2) ∧ w' = w := by
  have HH := hid h
  have HP := hid hp
  obtain ⟨c, -, hc, -, -⟩ := h.heads
  clear h hp
  unfold isC at hf
  generalize s.P.length = n at hc hf
  by_cases h0 : f < 0
  · clear hf
    go_enter Try.func33, Try.ntmps33
    go_wp2_with fail
    refine (isNone_no HH.out HP.out).mono ?_
    rintro e w1 ⟨rfl, rfl⟩
    go_wp2
    go_ret
    exact ⟨rfl, rfl⟩
  · have h1 : (n : Int) ≤ f := by omega
    clear hf
    go_enter Try.func33, Try.ntmps33
    go_wp2_with fail
    refine (isNone_no HH.out HP.out).mono ?_
    rintro e w1 ⟨rfl, rfl⟩
    go_wp2
    go_ret
    exact ⟨rfl, rfl⟩
set_option maxHeartbeats 400000 in
theorem fault_in {w : World} {p b m : Nat} {s : Ep} (h : IsE w p b m s) (hp : 1 ≤ s.P.length) (i : Nat) (hi : i < s.P.length) :
    Calls Try.prog 33 #[.pointer (some ⟨p, 0, none⟩), .int .i64 i] w fun e w' => e = .returned (.int .i64 0) ∧ w' = w := by
  have HH := hid h
  have HP := hid hp
  obtain ⟨c, -, hc, -, -⟩ := h.heads
  clear h hp
  generalize s.P.length = n at hc hi
  have h0 : ¬ (i : Int) < 0 := by omega
  have h1 : ¬ (n : Int) ≤ i := by omega
  clear hi
  go_enter Try.func33, Try.ntmps33
  go_wp2_with fail
  refine (isNone_no HH.out HP.out).mono ?_
  rintro e w1 ⟨rfl, rfl⟩
  go_wp2
  go_ret
  exact ⟨rfl, rfl⟩

set_option maxHeartbeats 400000 in
theorem now_at {w : World} {p b m : Nat} {s : Ep} (h : IsE w p b m s) (hp : 1 ≤ s.P.length) :
    Calls Try.prog 23 #[.pointer (some ⟨p, 0, none⟩)] w fun e w' => e = .returned (.int .i64 s.n) ∧ w' = w := by
  have HH := hid h
  have HP := hid hp
  obtain ⟨c, hc, -, -, -⟩ := h.heads
  clear h hp
  generalize s.n = n at hc ⊢
  go_enter Try.func23, Try.ntmps23
  go_wp2_with fail
  refine (isNone_no HH.out HP.out).mono ?_
  rintro e w1 ⟨rfl, rfl⟩
  go_wp2
  go_ret
  exact ⟨rfl, rfl⟩
set_option maxHeartbeats 400000 in
theorem now_none {w : World} {v : Value} (h : NoE w v) :
    Calls Try.prog 23 #[v] w fun e w' => e = .returned (.int .i64 0) ∧ w' = w := by
  have HH := hid h
  clear h
  go_enter Try.func23, Try.ntmps23
  go_wp2_with fail
  refine (isNone_yes HH.out).mono ?_
  rintro e w1 ⟨rfl, rfl⟩
  go_wp2
  go_ret
  exact ⟨rfl, rfl⟩

set_option maxHeartbeats 400000 in
theorem pinned_none {w : World} {v : Value} (h : NoE w v) (f : Int) :
    Calls Try.prog 22 #[v, .int .i64 f] w fun e w' => e = .returned (.tuple #[.int .i64 0, .bool false]) ∧ w' = w := by
  have HH := hid h
  clear h
  go_enter Try.func22, Try.ntmps22
  go_wp2_with fail
  refine (fault_none HH.out f).mono ?_
  rintro e w1 ⟨rfl, rfl⟩
  go_wp2
  go_ret2
  exact ⟨rfl, rfl⟩
set_option maxHeartbeats 400000 in
theorem pinned_out {w : World} {p b m : Nat} {s : Ep} (h : IsE w p b m s) (hp : 1 ≤ s.P.length) (f : Int) (hf : ¬ isC s f) :
    Calls Try.prog 22 #[.pointer (some ⟨p, 0, none⟩), .int .i64 f] w fun e w' => e = .returned (.tuple #[.int .i64 0, .bool false]) ∧ w' = w := by
  have HH := hid h
  have HP := hid hp
  have HF := hid hf
  clear h hp hf
  go_enter Try.func22, Try.ntmps22
  go_wp2_with fail
  refine (fault_out HH.out HP.out f HF.out).mono ?_
  rintro e w1 ⟨rfl, rfl⟩
  go_wp2
  go_ret2
  exact ⟨rfl, rfl⟩
set_option maxHeartbeats 400000 in
theorem pinned_in {w : World} {p b m : Nat} {s : Ep} (h : IsE w p b m s) (hp : 1 ≤ s.P.length) (h8 : s.P.length ≤ 8) (i : Nat) (hi : i < s.P.length) :
    Calls Try.prog 22 #[.pointer (some ⟨p, 0, none⟩), .int .i64 i] w fun e w' => e = .returned (.tuple #[.int .i64 ((s.P.getD i none).getD 0 : Nat), .bool (s.P.getD i none).isSome]) ∧ ∃ q, w' = w.drewN q := by
  have HH := hid h
  have HP := hid hp
  have HI := hid hi
  obtain ⟨c, -, hc, -, -⟩ := h.heads
  obtain ⟨c0, c1⟩ := h.cells i hi
  clear h hp
  generalize (s.P.getD i none).isSome = x at *
  generalize (s.P.getD i none).getD 0 = y at *
  have hw : IntKind.i64.wrap (i : Int) = i := i64w (by omega) (by omega)
  generalize s.P.length = n at hc hi h8
  go_enter Try.func22, Try.ntmps22
  go_wp2_with fail
  refine (fault_in HH.out HP.out i HI.out).mono ?_
  rintro e w1 ⟨rfl, rfl⟩
  go_wp2
  go_quiet (fail)
  go_wp2
  go_ret2
  exact ⟨rfl, _, rfl⟩
theorem pinned_at {w : World} {p b m B : Nat} {s : Ep} (h : IsE w p b m s) (k : Ok B s) (f : Int) :
    Calls Try.prog 22 #[.pointer (some ⟨p, 0, none⟩), .int .i64 f] w fun e w' => e = .returned (.tuple #[.int .i64 (pnA s f), .bool (pnB s f)]) ∧ Below w.heap.size w w' := by
  by_cases hf : isC s f
  · obtain ⟨i, rfl⟩ : ∃ i : Nat, f = i := ⟨f.toNat, by have := hf.1; omega⟩
    have hi : i < s.P.length := by have := hf.2; omega
    refine (pinned_in h k.pos k.cpus i hi).mono ?_
    rintro e w' ⟨rfl, q, rfl⟩
    refine ⟨?_, below_drewN (Below.refl _ _) q⟩
    simp only [pnA, pnB, if_pos hf, pinOf, Int.toNat_natCast]
  · refine (pinned_out h k.pos f hf).mono ?_
    rintro e w' ⟨rfl, hw⟩
    rw [hw]
    refine ⟨?_, Below.refl _ _⟩
    simp only [pnA, pnB, if_neg hf]
end Go.Proofs.Ythiicngnhnglfaa
