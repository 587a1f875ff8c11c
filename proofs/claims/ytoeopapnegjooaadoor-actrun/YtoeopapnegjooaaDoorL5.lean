/- The walk of ActOrder: for every list of acts and every two acts it returns true; nothing that lay before is changed. Condition: the tables stand in their variables. -/
import Derived.Test.YtoeopapnegjooaaDoorO
import Derived.Test.YtoeopapnegjooaaDoorQ
import Derived.Test.YtoeopapnegjooaaDoorKit
namespace Go.Proofs.YtoeopapnegjooaaDoor
open Go.RowKit

/-- Two memories, apart from one another, and two acts in blocks of their own, all made since w0. -/
structure Ord (w0 w : World) (x y : Ac) (p b : Nat) (s : St) (p' b' : Nat) (s' : St) : Prop where
  m1 : Mem 62 w p b s
  m2 : Mem 62 w p' b' s'
  A : IsAc w w0.heap.size x
  B : IsAc w (w0.heap.size + 1) y
  bel : Below w0.heap.size w0 w
  h1 : w0.heap.size + 2 ≤ p
  h2 : w0.heap.size + 2 ≤ b
  h3 : w0.heap.size + 2 ≤ p'
  h4 : w0.heap.size + 2 ≤ b'
  n1 : p ≠ p'
  n2 : p ≠ b'
  n3 : b ≠ p'
  n4 : b ≠ b'
theorem Ord.left {w0 w w' : World} {x y : Ac} {p b p' b' : Nat} {s s' t : St} (h : Ord w0 w x y p b s p' b' s') (k : Turns 62 p b w w' t) : Ord w0 w' x y p b t p' b' s' :=
  ⟨k.1, h.m2.but k.2 (fun e => h.n1 e.symm) (fun e => h.n3 e.symm) (fun e => h.n2 e.symm) (fun e => h.n4 e.symm), (k.2.block _ h.A.lt (by have := h.h1; omega) (by have := h.h2; omega)).trans h.A, (k.2.block _ h.B.lt (by have := h.h1; omega) (by have := h.h2; omega)).trans h.B, h.bel.trans (k.2.below h.bel.size (by have := h.h1; omega) (by have := h.h2; omega)), h.h1, h.h2, h.h3, h.h4, h.n1, h.n2, h.n3, h.n4⟩
theorem Ord.right {w0 w w' : World} {x y : Ac} {p b p' b' : Nat} {s s' t : St} (h : Ord w0 w x y p b s p' b' s') (k : Turns 62 p' b' w w' t) : Ord w0 w' x y p b s p' b' t :=
  ⟨h.m1.but k.2 h.n1 h.n2 h.n3 h.n4, k.1, (k.2.block _ h.A.lt (by have := h.h3; omega) (by have := h.h4; omega)).trans h.A, (k.2.block _ h.B.lt (by have := h.h3; omega) (by have := h.h4; omega)).trans h.B, h.bel.trans (k.2.below h.bel.size (by have := h.h3; omega) (by have := h.h4; omega)), h.h1, h.h2, h.h3, h.h4, h.n1, h.n2, h.n3, h.n4⟩
theorem Ord.below {w0 w w' : World} {x y : Ac} {p b p' b' : Nat} {s s' : St} (h : Ord w0 w x y p b s p' b' s') (k : Below w.heap.size w w') : Ord w0 w' x y p b s p' b' s' :=
  ⟨h.m1.below k, h.m2.below k, h.A.below k, h.B.below k, bel_trans h.bel k, h.h1, h.h2, h.h3, h.h4, h.n1, h.n2, h.n3, h.n4⟩
/-- Block g holds an answer. -/
def IsRe (w : World) (g : Nat) (r : Re) : Prop := w.heap[g]? = some (.cells (reC r) 37 (0, 0))
theorem IsRe.new (w : World) (r : Re) : IsRe (w.alloc (.cells (reC r) 37)) w.heap.size r := heap_alloc_new _ _
theorem IsRe.below {w w' : World} {g : Nat} {r : Re} (h : IsRe w g r) (k : Below w.heap.size w w') : IsRe w' g r := (k.block _ (lt_of_block h)).trans h
theorem IsRe.turns {w w' : World} {g p b : Nat} {r : Re} {t : TypeId} {s : St} (h : IsRe w g r) (k : Turns t p b w w' s) (h1 : g ≠ p) (h2 : g ≠ b) : IsRe w' g r := (k.2.block _ (lt_of_block h) h1 h2).trans h
theorem IsRe.c0 {w : World} {g : Nat} {r : Re} (h : IsRe w g r) : w.cell? ⟨g, 0, none⟩ = some (.int .u64 r.v) := cell_of h rfl
theorem IsRe.c1 {w : World} {g : Nat} {r : Re} (h : IsRe w g r) : w.cell? ⟨g, 1, none⟩ = some (.bool r.ok) := cell_of h rfl
theorem IsRe.c2 {w : World} {g : Nat} {r : Re} (h : IsRe w g r) : w.cell? ⟨g, 2, none⟩ = some (.int .i64 r.e) := cell_of h rfl

def st8 : St := ⟨List.replicate 8 0, 0, 0⟩
theorem cnt8 (k : Nat) : Cnt st8 k := ⟨Int.le_refl 0, by unfold st8; simp, Int.le_refl 0, by unfold st8; simp⟩
theorem cnt_run (l : List Ac) (h : l.length ≤ 100) (k : Nat) (hk : 100 ≤ k) : Cnt (runT st8 l) k := ((cnt8 0).runT l).mono (by omega)
theorem words_same {s t : St} (h : s.xs = t.xs) (a m : Int) : wordsV s a m = wordsV t a m := by unfold wordsV; rw [h]

set_option maxRecDepth 100000 in
set_option maxHeartbeats 1000000 in
theorem order_long (q : Option Addr) (n c : Nat) (x y : Ac) (hn : 40 < n) (w : World) (h : Std w) :
    Calls Tryd.prog 5 #[.slice q n c, acV x, acV y] w fun e w' => e = .returned (.bool true) ∧ Below w.heap.size w w' := by
  have HS := Lib.hid h
  have hd : decide ((40 : Int) < n) = true := by simp; omega
  clear h hn
  go_enter Tryd.func5, Tryd.ntmps5
  go_wp2_with fail
  refine (known_yes _ (HS.out.below (zkeep (below_alloc _ _) _))).mono ?_
  rintro e w2 ⟨rfl, K⟩
  go_wp2
  go_ret
  exact ⟨rfl, bel_trans (zkeep (below_alloc _ _) _) K⟩

set_option maxRecDepth 100000 in
set_option maxHeartbeats 1000000 in
theorem order_meets (q : Option Addr) (n c : Nat) (x y : Ac) (hn : n ≤ 40) (hm : meetsB x y = true) (w : World) (h : Std w) :
    Calls Tryd.prog 5 #[.slice q n c, acV x, acV y] w fun e w' => e = .returned (.bool true) ∧ Below w.heap.size w w' := by
  have HS := Lib.hid h
  have hd : decide ((40 : Int) < n) = false := by simp; omega
  have HMe := Lib.hid (fun w => meets_at x y w)
  rw [hm] at HMe
  clear h hn hm
  obtain ⟨xk, xd, xa, xb⟩ := x
  obtain ⟨yk, yd, ya, yb⟩ := y
  go_enter Tryd.func5, Tryd.ntmps5
  go_wp2_with fail
  refine (HMe.out _).mono ?_
  rintro e w1 ⟨rfl, K⟩
  have HB := Lib.hid (bel_trans (zkeep (below_alloc w (.cells (acC ⟨xk, xd, xa, xb⟩) 40)) (.cells (acC ⟨yk, yd, ya, yb⟩) 40)) K)
  clear K
  go_wp2_with fail
  refine (known_yes _ (HS.out.below HB.out)).mono ?_
  rintro e w2 ⟨rfl, K⟩
  go_wp2
  go_ret
  exact ⟨rfl, bel_trans HB.out K⟩

set_option maxRecDepth 100000 in
set_option maxHeartbeats 4000000 in
theorem order_apart (q : Option Addr) (n c : Nat) (l : List Ac) (x y : Ac) (hn : n ≤ 40) (hl : l.length = n) (hm : meetsB x y = false) (w : World) (h : Std w) (hA : Acts w q l) :
    Calls Tryd.prog 5 #[.slice q n c, acV x, acV y] w fun e w' => e = .returned (.bool true) ∧ Below w.heap.size w w' := by
  have HS := Lib.hid h
  have HA := Lib.hid hA
  have HL := Lib.hid hl
  have HN := Lib.hid hn
  have hd : decide ((40 : Int) < n) = false := by simp; omega
  have HMe := Lib.hid (fun w => meets_at x y w)
  rw [hm] at HMe
  have HX := Lib.hid (tells_same (s := runT st8 l) hm)
  have HY := Lib.hid (tells_same (s := runT st8 l) (x := y) (y := x) (by rw [meets_comm]; exact hm))
  have HZ := Lib.hid (leaves_same (s := runT st8 l) hm)
  have C0 := Lib.hid (cnt_run l (by omega) 100 (by omega))
  have C1 := Lib.hid (C0.out.doT x)
  have C2 := Lib.hid (C0.out.doT y)
  clear h hA hl hn hm
  obtain ⟨xk, xd, xa, xb⟩ := x
  obtain ⟨yk, yd, ya, yb⟩ := y
  go_enter Tryd.func5, Tryd.ntmps5
  go_wp2_with fail
  refine (HMe.out _).mono ?_
  rintro e w1 ⟨rfl, K⟩
  have H1 := two_acs (x := ⟨xk, xd, xa, xb⟩) (y := ⟨yk, yd, ya, yb⟩) K
  have HH1 := Lib.hid H1
  clear K H1
  go_wp2_with fail
  refine (new_yes 8 w1 (by decide) (by decide)).mono ?_
  rintro e w2 ⟨rfl, hM, hB⟩
  have H2 := acs_keep HH1.out hB
  have HM2 : Hid (Mem 62 w2 (w1.heap.size + 1) w1.heap.size st8) := Lib.hid hM
  have HH2 := Lib.hid H2
  have l1 := HH1.out.1.2.lt
  have l2 := HM2.out.lt
  clear hM hB H2
  go_wp2_with fail
  refine (run_ex (m := 0) HM2.out (cnt8 0) (by decide) q n c l HL.out (by have := HN.out; omega) (HA.out.script HH2.out.2 (by omega) (by omega))).mono ?_
  rintro e w3 ⟨gr, rfl, -, -, hT⟩
  have A3 : IsAc w3 w.heap.size ⟨xk, xd, xa, xb⟩ := (hT.2.block _ HH2.out.1.1.lt (by omega) (by omega)).trans HH2.out.1.1
  have B3 : IsAc w3 (w.heap.size + 1) ⟨yk, yd, ya, yb⟩ := (hT.2.block _ HH2.out.1.2.lt (by omega) (by omega)).trans HH2.out.1.2
  have L3 : Below w.heap.size w w3 := HH2.out.2.trans (hT.2.below HH2.out.2.size (by omega) (by omega))
  have HM3 := Lib.hid hT.1
  have HH3 := Lib.hid (And.intro A3 (And.intro B3 L3))
  clear hT A3 B3 L3 HH2 HM2 HH1 HA
  go_wp2_with fail
  refine (copy_at HM3.out).mono ?_
  rintro e w4 ⟨p', b', rfl, hM4, hp', hb', hB4⟩
  have l3 := HM3.out.lt
  have H4 : Ord w w4 ⟨xk, xd, xa, xb⟩ ⟨yk, yd, ya, yb⟩ (w1.heap.size + 1) w1.heap.size (runT st8 l) p' b' (runT st8 l) :=
    ⟨HM3.out.below hB4, hM4, HH3.out.1.below hB4, HH3.out.2.1.below hB4, bel_trans HH3.out.2.2 hB4, by omega, by omega, by omega, by omega, by omega, by omega, by omega, by omega⟩
  have HH4 := Lib.hid H4
  clear H4 hM4 hp' hb' hB4 HM3 HH3 l3
  have x0 : w4.cell? ⟨w.heap.size, 0, none⟩ = some (.int .i64 xk) := HH4.out.A.c0
  have x1 : w4.cell? ⟨w.heap.size, 1, none⟩ = some (.int .i64 xd) := HH4.out.A.c1
  have x2 : w4.cell? ⟨w.heap.size, 2, none⟩ = some (.int .u64 xa) := HH4.out.A.c2
  have x3 : w4.cell? ⟨w.heap.size, 3, none⟩ = some (.int .u64 xb) := HH4.out.A.c3
  have y0 : w4.cell? ⟨w.heap.size + 1, 0, none⟩ = some (.int .i64 yk) := HH4.out.B.c0
  have y1 : w4.cell? ⟨w.heap.size + 1, 1, none⟩ = some (.int .i64 yd) := HH4.out.B.c1
  have y2 : w4.cell? ⟨w.heap.size + 1, 2, none⟩ = some (.int .u64 ya) := HH4.out.B.c2
  have y3 : w4.cell? ⟨w.heap.size + 1, 3, none⟩ = some (.int .u64 yb) := HH4.out.B.c3
  have q1 := HH4.out.h3
  have q2 := HH4.out.h4
  go_wp2_with fail
  refine (do_at HH4.out.m1 C0.out (by decide) ⟨xk, xd, xa, xb⟩).mono ?_
  rintro e w5 ⟨rfl, hT⟩
  have HD := Lib.hid (HH4.out.left hT)
  have HH5 := Lib.hid (HD.out.below (below_alloc w5 (.cells (reC (doR (runT st8 l) ⟨xk, xd, xa, xb⟩)) 37)))
  have R5 := Lib.hid (IsRe.new w5 (doR (runT st8 l) ⟨xk, xd, xa, xb⟩))
  have sz5 := HD.out.m1.lt
  have sy5 := HD.out.m2.lt
  have sw5 : w.heap.size + 1 < w5.heap.size := HD.out.B.lt
  have sv5 : w.heap.size < w5.heap.size := HD.out.A.lt
  clear hT HH4
  clear x0 x1 x2 x3 y0 y1 y2 y3
  have x0 : w5.cell? ⟨w.heap.size, 0, none⟩ = some (.int .i64 xk) := HD.out.A.c0
  have x1 : w5.cell? ⟨w.heap.size, 1, none⟩ = some (.int .i64 xd) := HD.out.A.c1
  have x2 : w5.cell? ⟨w.heap.size, 2, none⟩ = some (.int .u64 xa) := HD.out.A.c2
  have x3 : w5.cell? ⟨w.heap.size, 3, none⟩ = some (.int .u64 xb) := HD.out.A.c3
  have y0 : w5.cell? ⟨w.heap.size + 1, 0, none⟩ = some (.int .i64 yk) := HD.out.B.c0
  have y1 : w5.cell? ⟨w.heap.size + 1, 1, none⟩ = some (.int .i64 yd) := HD.out.B.c1
  have y2 : w5.cell? ⟨w.heap.size + 1, 2, none⟩ = some (.int .u64 ya) := HD.out.B.c2
  have y3 : w5.cell? ⟨w.heap.size + 1, 3, none⟩ = some (.int .u64 yb) := HD.out.B.c3
  clear HD
  go_wp2_with fail
  refine (do_at HH5.out.m1 C1.out (by decide) ⟨yk, yd, ya, yb⟩).mono ?_
  rintro e w6 ⟨rfl, hT⟩
  have R5n := Lib.hid (R5.out.turns hT (by omega) (by omega))
  clear R5
  have R5 := Lib.hid (R5n.out.below (below_alloc w6 (.cells (reC (doR (doT (runT st8 l) ⟨xk, xd, xa, xb⟩) ⟨yk, yd, ya, yb⟩)) 37)))
  have HD := Lib.hid (HH5.out.left hT)
  have HH6 := Lib.hid (HD.out.below (below_alloc w6 (.cells (reC (doR (doT (runT st8 l) ⟨xk, xd, xa, xb⟩) ⟨yk, yd, ya, yb⟩)) 37)))
  have R6 := Lib.hid (IsRe.new w6 (doR (doT (runT st8 l) ⟨xk, xd, xa, xb⟩) ⟨yk, yd, ya, yb⟩))
  have sz6 := HD.out.m1.lt
  have sy6 := HD.out.m2.lt
  have sw6 : w.heap.size + 1 < w6.heap.size := HD.out.B.lt
  have sv6 : w.heap.size < w6.heap.size := HD.out.A.lt
  clear hT HH5
  clear x0 x1 x2 x3 y0 y1 y2 y3
  have x0 : w6.cell? ⟨w.heap.size, 0, none⟩ = some (.int .i64 xk) := HD.out.A.c0
  have x1 : w6.cell? ⟨w.heap.size, 1, none⟩ = some (.int .i64 xd) := HD.out.A.c1
  have x2 : w6.cell? ⟨w.heap.size, 2, none⟩ = some (.int .u64 xa) := HD.out.A.c2
  have x3 : w6.cell? ⟨w.heap.size, 3, none⟩ = some (.int .u64 xb) := HD.out.A.c3
  have y0 : w6.cell? ⟨w.heap.size + 1, 0, none⟩ = some (.int .i64 yk) := HD.out.B.c0
  have y1 : w6.cell? ⟨w.heap.size + 1, 1, none⟩ = some (.int .i64 yd) := HD.out.B.c1
  have y2 : w6.cell? ⟨w.heap.size + 1, 2, none⟩ = some (.int .u64 ya) := HD.out.B.c2
  have y3 : w6.cell? ⟨w.heap.size + 1, 3, none⟩ = some (.int .u64 yb) := HD.out.B.c3
  clear HD
  go_wp2_with fail
  refine (do_at HH6.out.m2 C0.out (by decide) ⟨yk, yd, ya, yb⟩).mono ?_
  rintro e w7 ⟨rfl, hT⟩
  have R5n := Lib.hid (R5.out.turns hT (by omega) (by omega))
  clear R5
  have R5 := Lib.hid (R5n.out.below (below_alloc w7 (.cells (reC (doR (runT st8 l) ⟨yk, yd, ya, yb⟩)) 37)))
  have R6n := Lib.hid (R6.out.turns hT (by omega) (by omega))
  clear R6
  have R6 := Lib.hid (R6n.out.below (below_alloc w7 (.cells (reC (doR (runT st8 l) ⟨yk, yd, ya, yb⟩)) 37)))
  have HD := Lib.hid (HH6.out.right hT)
  have HH7 := Lib.hid (HD.out.below (below_alloc w7 (.cells (reC (doR (runT st8 l) ⟨yk, yd, ya, yb⟩)) 37)))
  have R7 := Lib.hid (IsRe.new w7 (doR (runT st8 l) ⟨yk, yd, ya, yb⟩))
  have sz7 := HD.out.m1.lt
  have sy7 := HD.out.m2.lt
  have sw7 : w.heap.size + 1 < w7.heap.size := HD.out.B.lt
  have sv7 : w.heap.size < w7.heap.size := HD.out.A.lt
  clear hT HH6
  clear x0 x1 x2 x3 y0 y1 y2 y3
  have x0 : w7.cell? ⟨w.heap.size, 0, none⟩ = some (.int .i64 xk) := HD.out.A.c0
  have x1 : w7.cell? ⟨w.heap.size, 1, none⟩ = some (.int .i64 xd) := HD.out.A.c1
  have x2 : w7.cell? ⟨w.heap.size, 2, none⟩ = some (.int .u64 xa) := HD.out.A.c2
  have x3 : w7.cell? ⟨w.heap.size, 3, none⟩ = some (.int .u64 xb) := HD.out.A.c3
  have y0 : w7.cell? ⟨w.heap.size + 1, 0, none⟩ = some (.int .i64 yk) := HD.out.B.c0
  have y1 : w7.cell? ⟨w.heap.size + 1, 1, none⟩ = some (.int .i64 yd) := HD.out.B.c1
  have y2 : w7.cell? ⟨w.heap.size + 1, 2, none⟩ = some (.int .u64 ya) := HD.out.B.c2
  have y3 : w7.cell? ⟨w.heap.size + 1, 3, none⟩ = some (.int .u64 yb) := HD.out.B.c3
  clear HD
  go_wp2_with fail
  refine (do_at HH7.out.m2 C2.out (by decide) ⟨xk, xd, xa, xb⟩).mono ?_
  rintro e w8 ⟨rfl, hT⟩
  have R5n := Lib.hid (R5.out.turns hT (by omega) (by omega))
  clear R5
  have R5 := Lib.hid (R5n.out.below (below_alloc w8 (.cells (reC (doR (doT (runT st8 l) ⟨yk, yd, ya, yb⟩) ⟨xk, xd, xa, xb⟩)) 37)))
  have R6n := Lib.hid (R6.out.turns hT (by omega) (by omega))
  clear R6
  have R6 := Lib.hid (R6n.out.below (below_alloc w8 (.cells (reC (doR (doT (runT st8 l) ⟨yk, yd, ya, yb⟩) ⟨xk, xd, xa, xb⟩)) 37)))
  have R7n := Lib.hid (R7.out.turns hT (by omega) (by omega))
  clear R7
  have R7 := Lib.hid (R7n.out.below (below_alloc w8 (.cells (reC (doR (doT (runT st8 l) ⟨yk, yd, ya, yb⟩) ⟨xk, xd, xa, xb⟩)) 37)))
  have HD := Lib.hid (HH7.out.right hT)
  have HH8 := Lib.hid (HD.out.below (below_alloc w8 (.cells (reC (doR (doT (runT st8 l) ⟨yk, yd, ya, yb⟩) ⟨xk, xd, xa, xb⟩)) 37)))
  have R8 := Lib.hid (IsRe.new w8 (doR (doT (runT st8 l) ⟨yk, yd, ya, yb⟩) ⟨xk, xd, xa, xb⟩))
  have sz8 := HD.out.m1.lt
  have sy8 := HD.out.m2.lt
  have sw8 : w.heap.size + 1 < w8.heap.size := HD.out.B.lt
  have sv8 : w.heap.size < w8.heap.size := HD.out.A.lt
  clear hT HH7
  clear x0 x1 x2 x3 y0 y1 y2 y3
  clear HD
  have a0 := R5n.out.c0
  have a1 := R5n.out.c1
  have a2 := R5n.out.c2
  have b0 := R6n.out.c0
  have b1 := R6n.out.c1
  have b2 := R6n.out.c2
  rw [HY.out] at b0 b1 b2
  have c0 := R7n.out.c0
  have c1 := R7n.out.c1
  have c2 := R7n.out.c2
  have la := lt_of_block R5n.out
  have lb := lt_of_block R6n.out
  have lc := lt_of_block R7n.out
  rw [HX.out] at HH8
  rw [HX.out]
  clear R5n R6n R7n R5 R6 R7 R8
  go_wp2_with fail
  refine (words_any HH8.out.m1 0 8 (by decide)).mono ?_
  rintro e w9 ⟨v, rfl, hLi, K⟩
  have HH9 := Lib.hid (HH8.out.below K)
  have HLi := Lib.hid hLi
  clear K HH8 hLi
  go_wp2_with fail
  refine (words_any HH9.out.m2 0 8 (by decide)).mono ?_
  rintro e w10 ⟨v', rfl, hLi', K⟩
  have HH10 := Lib.hid (HH9.out.below K)
  have HLj := Lib.hid (HLi.out.below K)
  rw [← words_same HZ.out] at hLi'
  have HLk := Lib.hid hLi'
  clear K HH9 hLi' HLi
  go_wp2_with fail
  refine (same_any HLj.out HLk.out).mono ?_
  rintro e w11 ⟨rfl, K⟩
  have HH11 := Lib.hid (HH10.out.below K)
  clear K HH10
  go_wp2_with fail
  refine (known_yes _ (HS.out.below HH11.out.bel)).mono ?_
  rintro e w12 ⟨rfl, K⟩
  go_wp2
  go_ret
  exact ⟨rfl, bel_trans HH11.out.bel K⟩

theorem order_walk (q : Option Addr) (n c : Nat) (l : List Ac) (x y : Ac) (hl : l.length = n) (w : World) (h : Std w) (hA : Acts w q l) :
    Calls Tryd.prog 5 #[.slice q n c, acV x, acV y] w fun e w' => e = .returned (.bool true) ∧ Below w.heap.size w w' := by
  by_cases hn : 40 < n
  · exact order_long q n c x y hn w h
  · cases hm : meetsB x y
    · exact order_apart q n c l x y (by omega) hl hm w h hA
    · exact order_meets q n c x y (by omega) hm w h
end Go.Proofs.YtoeopapnegjooaaDoor
