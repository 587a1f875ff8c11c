/- The fixed calls that every statement of this seat ends with return true; nothing that lay before is changed. No conditions. -/
import Derived.Test.YtfnfbceblpaggaaS8
namespace Go.Proofs.Ytfnfbceblpaggaa
open Go.RowKit

/-- What stands while a ring is used: its words, its block, and that all this is new. -/
structure Kn (w0 : World) (p b r : Nat) (ad n : Int) (w : World) (s : St) : Prop where
  mem : Mem 77 w p b s
  ring : w.heap[r]? = some (.cells #[.int .i64 ad, .int .i64 n] 35 (0, 0))
  bel : Below w0.heap.size w0 w
  rp : r ≠ p
  rb : r ≠ b
  p0 : w0.heap.size ≤ p
  b0 : w0.heap.size ≤ b
  r0 : w0.heap.size ≤ r
theorem Kn.below {w0 w w' : World} {p b r : Nat} {ad n : Int} {s : St} (H : Kn w0 p b r ad n w s) (k : Below w.heap.size w w') : Kn w0 p b r ad n w' s :=
  { H with mem := H.mem.below k, ring := (k.block _ (lt_of_block H.ring)).trans H.ring, bel := bel_trans H.bel k }
theorem Kn.turn {w0 w w' : World} {p b r : Nat} {ad n : Int} {s s' : St} (H : Kn w0 p b r ad n w s) (T : Turns 77 p b w w' s') : Kn w0 p b r ad n w' s' :=
  { H with mem := T.1, ring := (T.2.block _ (lt_of_block H.ring) H.rp H.rb).trans H.ring, bel := H.bel.trans (T.2.below H.bel.size H.p0 H.b0) }
theorem Kn.c0 {w0 w : World} {p b r : Nat} {ad n : Int} {s : St} (H : Kn w0 p b r ad n w s) : w.cell? ⟨r, 0, none⟩ = some (.int .i64 ad) := cell_of H.ring rfl
theorem Kn.c1 {w0 w : World} {p b r : Nat} {ad n : Int} {s : St} (H : Kn w0 p b r ad n w s) : w.cell? ⟨r, 1, none⟩ = some (.int .i64 n) := cell_of H.ring rfl
theorem Kn.first {w w1 : World} {s : St} (ad n : Int) (hM : IsMem 77 w1 (w.heap.size + 1) w.heap.size s.xs s.d s.l) (hB : Below w.heap.size w w1) :
    Kn w (w.heap.size + 1) w.heap.size w1.heap.size ad n (w1.alloc (.cells #[.int .i64 ad, .int .i64 n] 35)) s := by
  have l := hM.lt
  exact ⟨hM.below (below_alloc _ _), heap_alloc_new _ _, bel_trans hB (below_alloc _ _), by omega, by omega, by omega, by omega, by omega⟩
def cntB (s : St) (k : Nat) : Bool := decide (0 ≤ s.d ∧ s.d ≤ k ∧ 0 ≤ s.l ∧ s.l ≤ k)
theorem cnt_of {s : St} {k : Nat} (h : cntB s k = true) : Cnt s k := by
  obtain ⟨a, b, c, d⟩ := of_decide_eq_true h
  exact ⟨a, b, c, d⟩
def sokB (s : St) : Bool := s.xs.all fun v => decide (0 ≤ v ∧ v ≤ 18446744073709551615)
theorem sok_of {s : St} (h : sokB s = true) : SOk s := by
  refine ⟨fun i => ?_⟩
  by_cases hi : i < s.xs.length
  · have := List.all_eq_true.1 h (s.xs[i]) (List.getElem_mem hi)
    simpa [List.getD, hi] using this
  · rw [List.getD, List.getElem?_eq_none (by omega)]
    decide

def kn0 : St := (initR ⟨List.replicate 20 0, 0, 0⟩ 3 (emp 2)).1
def kn1 : St := (run 10 kn0 (newG 3 2)).1
def kn2 : St := (run 10 kn1 (newP 3 2 5)).1
def kn3 : St := (run 10 kn2 (newP 3 2 6)).1
def kn4 : St := (run 10 kn3 (newP 3 2 7)).1
def kn5 : St := (run 10 kn4 (newG 3 2)).1
def kn6 : St := (run 10 kn5 (newP 3 2 8)).1
def kn7 : St := (run 10 kn6 (newG 3 2)).1
def kn8 : St := (run 10 kn7 (newG 3 2)).1
theorem q32 : QOk 3 2 := ⟨by decide, by decide, by decide, by decide⟩

set_option maxRecDepth 100000 in
set_option maxHeartbeats 2000000 in
theorem known_yes (w : World) : Calls Try.prog 9 #[] w fun e w' => e = .returned (.bool true) ∧ Below w.heap.size w w' := by
  go_enter Try.func9, Try.ntmps9
  go_wp2_with fail
  refine (new_yes 20 _ (by decide) (by decide)).mono ?_
  rintro e w1 ⟨rfl, hM1, hB1⟩
  have K0 := hid (Kn.first (s := ⟨List.replicate 20 0, 0, 0⟩) 3 2 hM1 hB1)
  clear hM1 hB1
  have c0 := K0.out.c0
  have c1 := K0.out.c1
  generalize w.heap.size + 1 = p at *
  generalize hq : w.heap.size = q at *
  clear hq
  go_wp2_with fail
  refine (init_at (c := 0) K0.out.mem (cnt_of (by kernel_rfl)) (by decide) 2 3 q32).mono ?_
  rintro e wa ⟨rfl, T⟩
  rw [show (initR ⟨List.replicate 20 0, 0, 0⟩ 3 (emp 2)).2 = 0 from by kernel_rfl]
  have J0 : Hid (Kn w p q w1.heap.size 3 2 wa kn0) := hid (K0.out.turn T)
  clear T K0 c0 c1
  have c0 := J0.out.c0
  have c1 := J0.out.c1
  go_wp2_with fail
  refine (lawG (c := 200) J0.out.mem (cnt_of (by kernel_rfl)) (by decide) (sok_of (by kernel_rfl)) q32).mono ?_
  rintro e v0 ⟨rfl, T⟩
  rw [show gotV (run 10 kn0 (newG 3 2)).2 = 0 from by kernel_rfl, show ((run 10 kn0 (newG 3 2)).2.wh && gotD (run 10 kn0 (newG 3 2)).2) = false from by kernel_rfl]
  have J1 : Hid (Kn w p q w1.heap.size 3 2 v0 kn1) := hid (J0.out.turn T)
  clear T J0 c0 c1
  have c0 := J1.out.c0
  have c1 := J1.out.c1
  go_wp2_with fail
  refine (lawP (c := 220) J1.out.mem (cnt_of (by kernel_rfl)) (by decide) (sok_of (by kernel_rfl)) q32 (by decide) (by decide)).mono ?_
  rintro e v1 ⟨rfl, T⟩
  rw [show ((run 10 kn1 (newP 3 2 5)).2.wh && ((run 10 kn1 (newP 3 2 5)).2.tn == 5)) = true from by kernel_rfl]
  have J2 : Hid (Kn w p q w1.heap.size 3 2 v1 kn2) := hid (J1.out.turn T)
  clear T J1 c0 c1
  have c0 := J2.out.c0
  have c1 := J2.out.c1
  go_wp2_with fail
  refine (lawP (c := 240) J2.out.mem (cnt_of (by kernel_rfl)) (by decide) (sok_of (by kernel_rfl)) q32 (by decide) (by decide)).mono ?_
  rintro e v2 ⟨rfl, T⟩
  rw [show ((run 10 kn2 (newP 3 2 6)).2.wh && ((run 10 kn2 (newP 3 2 6)).2.tn == 5)) = true from by kernel_rfl]
  have J3 : Hid (Kn w p q w1.heap.size 3 2 v2 kn3) := hid (J2.out.turn T)
  clear T J2 c0 c1
  have c0 := J3.out.c0
  have c1 := J3.out.c1
  go_wp2_with fail
  refine (lawP (c := 260) J3.out.mem (cnt_of (by kernel_rfl)) (by decide) (sok_of (by kernel_rfl)) q32 (by decide) (by decide)).mono ?_
  rintro e v3 ⟨rfl, T⟩
  rw [show ((run 10 kn3 (newP 3 2 7)).2.wh && ((run 10 kn3 (newP 3 2 7)).2.tn == 5)) = false from by kernel_rfl]
  have J4 : Hid (Kn w p q w1.heap.size 3 2 v3 kn4) := hid (J3.out.turn T)
  clear T J3 c0 c1
  have c0 := J4.out.c0
  have c1 := J4.out.c1
  go_wp2_with fail
  refine (lawG (c := 280) J4.out.mem (cnt_of (by kernel_rfl)) (by decide) (sok_of (by kernel_rfl)) q32).mono ?_
  rintro e v4 ⟨rfl, T⟩
  rw [show gotV (run 10 kn4 (newG 3 2)).2 = 5 from by kernel_rfl, show ((run 10 kn4 (newG 3 2)).2.wh && gotD (run 10 kn4 (newG 3 2)).2) = true from by kernel_rfl]
  have J5 : Hid (Kn w p q w1.heap.size 3 2 v4 kn5) := hid (J4.out.turn T)
  clear T J4 c0 c1
  have c0 := J5.out.c0
  have c1 := J5.out.c1
  go_wp2_with fail
  refine (lawP (c := 300) J5.out.mem (cnt_of (by kernel_rfl)) (by decide) (sok_of (by kernel_rfl)) q32 (by decide) (by decide)).mono ?_
  rintro e v5 ⟨rfl, T⟩
  rw [show ((run 10 kn5 (newP 3 2 8)).2.wh && ((run 10 kn5 (newP 3 2 8)).2.tn == 5)) = true from by kernel_rfl]
  have J6 : Hid (Kn w p q w1.heap.size 3 2 v5 kn6) := hid (J5.out.turn T)
  clear T J5 c0 c1
  have c0 := J6.out.c0
  have c1 := J6.out.c1
  go_wp2_with fail
  refine (lawG (c := 320) J6.out.mem (cnt_of (by kernel_rfl)) (by decide) (sok_of (by kernel_rfl)) q32).mono ?_
  rintro e v6 ⟨rfl, T⟩
  rw [show gotV (run 10 kn6 (newG 3 2)).2 = 6 from by kernel_rfl, show ((run 10 kn6 (newG 3 2)).2.wh && gotD (run 10 kn6 (newG 3 2)).2) = true from by kernel_rfl]
  have J7 : Hid (Kn w p q w1.heap.size 3 2 v6 kn7) := hid (J6.out.turn T)
  clear T J6 c0 c1
  have c0 := J7.out.c0
  have c1 := J7.out.c1
  go_wp2_with fail
  refine (lawG (c := 340) J7.out.mem (cnt_of (by kernel_rfl)) (by decide) (sok_of (by kernel_rfl)) q32).mono ?_
  rintro e v7 ⟨rfl, T⟩
  rw [show gotV (run 10 kn7 (newG 3 2)).2 = 8 from by kernel_rfl, show ((run 10 kn7 (newG 3 2)).2.wh && gotD (run 10 kn7 (newG 3 2)).2) = true from by kernel_rfl]
  have J8 : Hid (Kn w p q w1.heap.size 3 2 v7 kn8) := hid (J7.out.turn T)
  clear T J7 c0 c1
  have J9 := hid (J8.out.below (below_alloc v7 (.cells #[.int .i64 3, .int .i64 1] 35)))
  have l9 := heap_alloc_new v7 (.cells #[.int .i64 3, .int .i64 1] 35 (0, 0))
  have HL := hid l9
  have c0 : (v7.alloc (.cells #[.int .i64 3, .int .i64 1] 35)).cell? ⟨v7.heap.size, 0, none⟩ = some (.int .i64 3) := cell_of l9 rfl
  have c1 : (v7.alloc (.cells #[.int .i64 3, .int .i64 1] 35)).cell? ⟨v7.heap.size, 1, none⟩ = some (.int .i64 1) := cell_of l9 rfl
  clear l9 J8
  go_wp2_with fail
  refine (init_no _ _ (ad := 3) (sz := 1) (by decide)).mono ?_
  rintro e x1 ⟨rfl, K⟩
  have g1 := (K.block _ (lt_of_block HL.out)).trans HL.out
  have J10 := hid (J9.out.below K)
  have c0 : x1.cell? ⟨v7.heap.size, 0, none⟩ = some (.int .i64 3) := cell_of g1 rfl
  have c1 : x1.cell? ⟨v7.heap.size, 1, none⟩ = some (.int .i64 1) := cell_of g1 rfl
  have HL1 := hid g1
  clear K g1 J9 HL
  go_wp2_with fail
  refine (push_no _ 1 (ad := 3) (sz := 1) (by decide)).mono ?_
  rintro e x2 ⟨rfl, K⟩
  have g1 := (K.block _ (lt_of_block HL1.out)).trans HL1.out
  have J11 := hid (J10.out.below K)
  have c0 : x2.cell? ⟨v7.heap.size, 0, none⟩ = some (.int .i64 3) := cell_of g1 rfl
  have c1 : x2.cell? ⟨v7.heap.size, 1, none⟩ = some (.int .i64 1) := cell_of g1 rfl
  clear K g1 J10 HL1
  go_wp2_with fail
  refine (pop_no _ (ad := 3) (sz := 1) (by decide)).mono ?_
  rintro e x3 ⟨rfl, K⟩
  have HB := hid (J11.out.below K).bel
  clear K J11
  go_wp2
  go_ret
  exact ⟨rfl, HB.out⟩
end Go.Proofs.Ytfnfbceblpaggaa
