/- The fixed calls that every statement of this seat ends with return true; nothing that lay before is changed. No conditions. -/
import Derived.Test.YtmglacaikpcjhaaS8
namespace Go.Proofs.Ytmglacaikpcjhaa
open Go.RowKit

/-- What stands while a deque is used: its words, its block, and that all this is new. -/
structure Kn (w0 : World) (p b r : Nat) (ad n : Int) (w : World) (s : St) : Prop where
  mem : Mem 78 w p b s
  deq : w.heap[r]? = some (.cells #[.int .i64 ad, .int .i64 n] 34 (0, 0))
  bel : Below w0.heap.size w0 w
  rp : r ≠ p
  rb : r ≠ b
  p0 : w0.heap.size ≤ p
  b0 : w0.heap.size ≤ b
  r0 : w0.heap.size ≤ r
theorem Kn.below {w0 w w' : World} {p b r : Nat} {ad n : Int} {s : St} (H : Kn w0 p b r ad n w s) (k : Below w.heap.size w w') : Kn w0 p b r ad n w' s :=
  { H with mem := H.mem.below k, deq := (k.block _ (lt_of_block H.deq)).trans H.deq, bel := bel_trans H.bel k }
theorem Kn.turn {w0 w w' : World} {p b r : Nat} {ad n : Int} {s s' : St} (H : Kn w0 p b r ad n w s) (T : Turns 78 p b w w' s') : Kn w0 p b r ad n w' s' :=
  { H with mem := T.1, deq := (T.2.block _ (lt_of_block H.deq) H.rp H.rb).trans H.deq, bel := H.bel.trans (T.2.below H.bel.size H.p0 H.b0) }
theorem Kn.task {w0 w w1 : World} {p b r g : Nat} {ad n : Int} {s : St} {x : Tk} (H : Kn w0 p b r ad n w s) (hx : IsTk w1 g x) (hg : w.heap.size ≤ g) (k : Below w.heap.size w w1) : Hs w1 p b g s x ∧ Kn w0 p b r ad n w1 s ∧ g ≠ r ∧ w0.heap.size ≤ g := by
  have l := H.mem.lt
  have lr := lt_of_block H.deq
  have := H.bel.size
  exact ⟨⟨H.mem.below k, hx, by omega, by omega⟩, H.below k, by omega, by omega⟩
theorem Kn.ran {w0 w1 w2 : World} {p b r g : Nat} {ad n : Int} {s s' : St} {x' : Tk} (H : Kn w0 p b r ad n w1 s) (hr : g ≠ r) (hg : w0.heap.size ≤ g) (T : Hs w2 p b g s' x' ∧ But3 g p b w1 w2) : Kn w0 p b r ad n w2 s' :=
  { H with mem := T.1.mem, deq := (T.2.block _ (lt_of_block H.deq) hr.symm H.rp H.rb).trans H.deq, bel := T.2.bel H.bel hg H.p0 H.b0 }
theorem Kn.c0 {w0 w : World} {p b r : Nat} {ad n : Int} {s : St} (H : Kn w0 p b r ad n w s) : w.cell? ⟨r, 0, none⟩ = some (.int .i64 ad) := cell_of H.deq rfl
theorem Kn.c1 {w0 w : World} {p b r : Nat} {ad n : Int} {s : St} (H : Kn w0 p b r ad n w s) : w.cell? ⟨r, 1, none⟩ = some (.int .i64 n) := cell_of H.deq rfl
theorem Kn.first {w w1 : World} {s : St} (ad n : Int) (hM : IsMem 78 w1 (w.heap.size + 1) w.heap.size s.xs s.d s.l) (hB : Below w.heap.size w w1) :
    Kn w (w.heap.size + 1) w.heap.size w1.heap.size ad n (w1.alloc (.cells #[.int .i64 ad, .int .i64 n] 34)) s := by
  have l := hM.lt
  exact ⟨hM.below (below_alloc _ _), heap_alloc_new _ _, bel_trans hB (below_alloc _ _), by omega, by omega, by omega, by omega, by omega⟩
def cntB (s : St) (k : Nat) : Bool := decide (0 ≤ s.d ∧ s.d ≤ k ∧ 0 ≤ s.l ∧ s.l ≤ k)
theorem cnt_of {s : St} {k : Nat} (h : cntB s k = true) : Cnt s k := by
  obtain ⟨a, b, c, d⟩ := of_decide_eq_true h
  exact ⟨a, b, c, d⟩
def sokB (s : St) : Bool := s.xs.all fun v => decide (0 ≤ v ∧ v ≤ 18446744073709551615)
theorem sok_of {s : St} (h : sokB s = true) : SOk s := by
  refine ⟨fun i => ?_⟩
  by_cases hi : i < s.xs.length
  · have := List.all_eq_true.1 h (s.xs[i]) (List.getElem_mem hi)
    simpa [List.getD, hi] using this
  · rw [List.getD, List.getElem?_eq_none (by omega)]
    decide

def kn0 : St := ⟨List.replicate 10 0, 0, 0⟩
def kn1 : St := (run 10 kn0 (newG 1 2)).1
def kn2 : St := (run 10 kn1 (newP 1 2 5)).1
def kn3 : St := (run 10 kn2 (newP 1 2 6)).1
def kn4 : St := (run 10 kn3 (newP 1 2 7)).1
def kn5 : St := (run 10 kn4 (newS 1 2)).1
def kn6 : St := (run 10 kn5 (newG 1 2)).1
def kn7 : St := (run 10 kn6 (newS 1 2)).1
theorem q12 : QOk 1 2 := ⟨by decide, by decide, by decide, by decide⟩
theorem no00 : canB 0 0 = false := by decide

set_option maxRecDepth 100000 in
set_option maxHeartbeats 2000000 in
theorem known_yes (w : World) : Calls Try.prog 8 #[] w fun e w' => e = .returned (.bool true) ∧ Below w.heap.size w w' := by
  go_enter Try.func8, Try.ntmps8
  go_wp2_with fail
  refine (new_yes 10 _ (by decide) (by decide)).mono ?_
  rintro e w1 ⟨rfl, hM1, hB1⟩
  have J0 : Hid (Kn w (w.heap.size + 1) w.heap.size w1.heap.size 1 2 (w1.alloc (.cells #[.int .i64 1, .int .i64 2] 34)) kn0) := hid (Kn.first (s := kn0) 1 2 hM1 hB1)
  clear hM1 hB1
  have c0 := J0.out.c0
  have c1 := J0.out.c1
  generalize w.heap.size + 1 = p at *
  generalize hq : w.heap.size = q at *
  clear hq
  go_wp2_with fail
  refine (pop_at _ q12).mono ?_
  rintro e u0 ⟨g, rfl, hx, hg, K⟩
  obtain ⟨hh, hk, hr, hg0⟩ := J0.out.task hx hg K
  have HH := hid hh
  have HK := hid hk
  have HR := hid hr
  have HG := hid hg0
  clear hx hg K hh hk hr hg0 c0 c1 J0
  go_wp2_with fail
  refine (run_at (c := 200) HH.out (newG_ok q12) (cnt_of (by kernel_rfl)) (by decide) (sok_of (by kernel_rfl))).mono ?_
  rintro e v0 ⟨rfl, T⟩
  rw [show resV (run 10 kn0 (newG 1 2)).2 = 0 from by kernel_rfl, show resB (run 10 kn0 (newG 1 2)).2 = false from by kernel_rfl]
  have J1 : Hid (Kn w p q w1.heap.size 1 2 v0 kn1) := hid (HK.out.ran HR.out HG.out T)
  clear T HH HK HR HG
  have c0 := J1.out.c0
  have c1 := J1.out.c1
  go_wp2_with fail
  refine (push_at _ 5 q12).mono ?_
  rintro e u1 ⟨g, rfl, hx, hg, K⟩
  obtain ⟨hh, hk, hr, hg0⟩ := J1.out.task hx hg K
  have HH := hid hh
  have HK := hid hk
  have HR := hid hr
  have HG := hid hg0
  clear hx hg K hh hk hr hg0 c0 c1 J1
  go_wp2_with fail
  refine (run_at (c := 220) HH.out (newP_ok q12 (by decide) (by decide)) (cnt_of (by kernel_rfl)) (by decide) (sok_of (by kernel_rfl))).mono ?_
  rintro e v1 ⟨rfl, T⟩
  rw [show resV (run 10 kn1 (newP 1 2 5)).2 = 5 from by kernel_rfl, show resB (run 10 kn1 (newP 1 2 5)).2 = true from by kernel_rfl]
  have J2 : Hid (Kn w p q w1.heap.size 1 2 v1 kn2) := hid (HK.out.ran HR.out HG.out T)
  clear T HH HK HR HG
  have c0 := J2.out.c0
  have c1 := J2.out.c1
  go_wp2_with fail
  refine (push_at _ 6 q12).mono ?_
  rintro e u2 ⟨g, rfl, hx, hg, K⟩
  obtain ⟨hh, hk, hr, hg0⟩ := J2.out.task hx hg K
  have HH := hid hh
  have HK := hid hk
  have HR := hid hr
  have HG := hid hg0
  clear hx hg K hh hk hr hg0 c0 c1 J2
  go_wp2_with fail
  refine (run_at (c := 240) HH.out (newP_ok q12 (by decide) (by decide)) (cnt_of (by kernel_rfl)) (by decide) (sok_of (by kernel_rfl))).mono ?_
  rintro e v2 ⟨rfl, T⟩
  rw [show resV (run 10 kn2 (newP 1 2 6)).2 = 6 from by kernel_rfl, show resB (run 10 kn2 (newP 1 2 6)).2 = true from by kernel_rfl]
  have J3 : Hid (Kn w p q w1.heap.size 1 2 v2 kn3) := hid (HK.out.ran HR.out HG.out T)
  clear T HH HK HR HG
  have c0 := J3.out.c0
  have c1 := J3.out.c1
  go_wp2_with fail
  refine (push_at _ 7 q12).mono ?_
  rintro e u3 ⟨g, rfl, hx, hg, K⟩
  obtain ⟨hh, hk, hr, hg0⟩ := J3.out.task hx hg K
  have HH := hid hh
  have HK := hid hk
  have HR := hid hr
  have HG := hid hg0
  clear hx hg K hh hk hr hg0 c0 c1 J3
  go_wp2_with fail
  refine (run_at (c := 260) HH.out (newP_ok q12 (by decide) (by decide)) (cnt_of (by kernel_rfl)) (by decide) (sok_of (by kernel_rfl))).mono ?_
  rintro e v3 ⟨rfl, T⟩
  rw [show resV (run 10 kn3 (newP 1 2 7)).2 = 0 from by kernel_rfl, show resB (run 10 kn3 (newP 1 2 7)).2 = false from by kernel_rfl]
  have J4 : Hid (Kn w p q w1.heap.size 1 2 v3 kn4) := hid (HK.out.ran HR.out HG.out T)
  clear T HH HK HR HG
  have c0 := J4.out.c0
  have c1 := J4.out.c1
  go_wp2_with fail
  refine (steal_at _ q12).mono ?_
  rintro e u4 ⟨g, rfl, hx, hg, K⟩
  obtain ⟨hh, hk, hr, hg0⟩ := J4.out.task hx hg K
  have HH := hid hh
  have HK := hid hk
  have HR := hid hr
  have HG := hid hg0
  clear hx hg K hh hk hr hg0 c0 c1 J4
  go_wp2_with fail
  refine (run_at (c := 280) HH.out (newS_ok q12) (cnt_of (by kernel_rfl)) (by decide) (sok_of (by kernel_rfl))).mono ?_
  rintro e v4 ⟨rfl, T⟩
  rw [show resV (run 10 kn4 (newS 1 2)).2 = 5 from by kernel_rfl, show resB (run 10 kn4 (newS 1 2)).2 = true from by kernel_rfl]
  have J5 : Hid (Kn w p q w1.heap.size 1 2 v4 kn5) := hid (HK.out.ran HR.out HG.out T)
  clear T HH HK HR HG
  have c0 := J5.out.c0
  have c1 := J5.out.c1
  go_wp2_with fail
  refine (pop_at _ q12).mono ?_
  rintro e u5 ⟨g, rfl, hx, hg, K⟩
  obtain ⟨hh, hk, hr, hg0⟩ := J5.out.task hx hg K
  have HH := hid hh
  have HK := hid hk
  have HR := hid hr
  have HG := hid hg0
  clear hx hg K hh hk hr hg0 c0 c1 J5
  go_wp2_with fail
  refine (run_at (c := 300) HH.out (newG_ok q12) (cnt_of (by kernel_rfl)) (by decide) (sok_of (by kernel_rfl))).mono ?_
  rintro e v5 ⟨rfl, T⟩
  rw [show resV (run 10 kn5 (newG 1 2)).2 = 6 from by kernel_rfl, show resB (run 10 kn5 (newG 1 2)).2 = true from by kernel_rfl]
  have J6 : Hid (Kn w p q w1.heap.size 1 2 v5 kn6) := hid (HK.out.ran HR.out HG.out T)
  clear T HH HK HR HG
  have c0 := J6.out.c0
  have c1 := J6.out.c1
  go_wp2_with fail
  refine (steal_at _ q12).mono ?_
  rintro e u6 ⟨g, rfl, hx, hg, K⟩
  obtain ⟨hh, hk, hr, hg0⟩ := J6.out.task hx hg K
  have HH := hid hh
  have HK := hid hk
  have HR := hid hr
  have HG := hid hg0
  clear hx hg K hh hk hr hg0 c0 c1 J6
  go_wp2_with fail
  refine (run_at (c := 320) HH.out (newS_ok q12) (cnt_of (by kernel_rfl)) (by decide) (sok_of (by kernel_rfl))).mono ?_
  rintro e v6 ⟨rfl, T⟩
  rw [show resV (run 10 kn6 (newS 1 2)).2 = 0 from by kernel_rfl, show resB (run 10 kn6 (newS 1 2)).2 = false from by kernel_rfl]
  have J7 : Hid (Kn w p q w1.heap.size 1 2 v6 kn7) := hid (HK.out.ran HR.out HG.out T)
  clear T HH HK HR HG
  have c0 := J7.out.c0
  have c1 := J7.out.c1
  have HL : Hid ((v6.alloc (.cells #[.int .i64 0, .int .i64 0] 34)).heap[v6.heap.size]? = some (.cells #[.int .i64 0, .int .i64 0] 34 (0, 0))) := hid (heap_alloc_new _ _)
  have J9 := hid (J7.out.below (below_alloc v6 (.cells #[.int .i64 0, .int .i64 0] 34)))
  clear c0 c1 J7
  go_wp2_with fail
  refine (push_no _ 1 no00).mono ?_
  rintro e x1 ⟨rfl, K⟩
  have g1 := (K.block _ (lt_of_block HL.out)).trans HL.out
  have J10 := hid (J9.out.below K)
  have c0 : x1.cell? ⟨v6.heap.size, 0, none⟩ = some (.int .i64 0) := cell_of g1 rfl
  have c1 : x1.cell? ⟨v6.heap.size, 1, none⟩ = some (.int .i64 0) := cell_of g1 rfl
  have HL1 := hid g1
  clear K g1 J9 HL
  go_wp2_with fail
  refine (pop_no _ no00).mono ?_
  rintro e x2 ⟨rfl, K⟩
  have g1 := (K.block _ (lt_of_block HL1.out)).trans HL1.out
  have J11 := hid (J10.out.below K)
  have c0 : x2.cell? ⟨v6.heap.size, 0, none⟩ = some (.int .i64 0) := cell_of g1 rfl
  have c1 : x2.cell? ⟨v6.heap.size, 1, none⟩ = some (.int .i64 0) := cell_of g1 rfl
  clear K g1 J10 HL1
  go_wp2_with fail
  refine (steal_no _ no00).mono ?_
  rintro e x3 ⟨rfl, K⟩
  have HB := hid (J11.out.below K).bel
  clear K J11
  go_wp2
  go_ret
  exact ⟨rfl, HB.out⟩
end Go.Proofs.Ytmglacaikpcjhaa
