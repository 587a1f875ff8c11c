/- The fixed calls that every statement of this seat ends with return true; nothing that lay before is changed. No conditions. -/
import Derived.Test.YtkdgjgbmbdmmfaaS12
namespace Go.Proofs.Ytkdgjgbmbdmmfaa
open Go.RowKit

def wokB (x : Wr) : Bool := decide (0 ≤ x.ad ∧ x.ad ≤ 65000 ∧ 1 ≤ x.n ∧ x.n ≤ 16 ∧ 0 ≤ x.t ∧ x.t ≤ x.n + 3 ∧ x.e = x.n + 3 ∧ 0 ≤ x.m ∧ x.m ≤ 18446744073709551615)
theorem wok_of {x : Wr} (h : wokB x = true) : WOk x := by
  obtain ⟨a, b, c, d, e, f, g, i, j⟩ := of_decide_eq_true h
  exact ⟨a, b, c, d, e, f, g, i, j⟩
def rokB (x : Wr) : Bool := decide (0 ≤ x.ad ∧ x.ad ≤ 65000 ∧ 1 ≤ x.n ∧ x.n ≤ 16 ∧ 0 ≤ x.t ∧ x.t ≤ x.n + 2 ∧ x.e = x.n + 2)
theorem rok_of {x : Wr} (h : rokB x = true) : ROk x := by
  obtain ⟨a, b, c, d, e, f, g⟩ := of_decide_eq_true h
  exact ⟨a, b, c, d, e, f, g⟩
def mokB (s : St) (ad n : Int) : Bool := decide (ad + n < s.xs.length) && s.xs.all fun v => decide (0 ≤ v) && decide (v ≤ 18446744073709551615)
theorem mok_of {s : St} {ad n : Int} (h : mokB s ad n = true) : MOk s ad n := by
  simp [mokB] at h
  exact ⟨h.1, h.2⟩

def kX : Wr := ⟨2, 2, 0, 5, 0, [7, 8, 0, 0, 0, 0, 0, 0, 0, 0, 0, 0, 0, 0, 0, 0]⟩
def kR0 : Rd := ⟨⟨2, 2, 0, 4, 0, List.replicate 16 0⟩, 0, false⟩
def kS : Nat → St × Wr
  | 0 => (⟨List.replicate 8 0, 0, 0⟩, kX)
  | i + 1 => wS (kS i).1 (kS i).2
def kR : Nat → St × Rd
  | 0 => ((kS 5).1, kR0)
  | i + 1 => rS (kR i).1 (kR i).2

theorem kS_cnt : ∀ i, Cnt (kS i).1 i
  | 0 => ⟨by decide, by decide, by decide, by decide⟩
  | i + 1 => (kS_cnt i).wS _
theorem kR_cnt : ∀ i, Cnt (kR i).1 (5 + i)
  | 0 => kS_cnt 5
  | i + 1 => (kR_cnt i).rS _

/-- What stands while the fixed calls are made. -/
structure Kn (w0 w : World) (p b g h lk : Nat) (s : St) (x : Wr) (r : Rd) : Prop where
  mem : Mem 56 w p b s
  wr : IsWr w g x
  rd : IsRd w h r
  lock : w.heap[lk]? = some (.cells #[.int .i64 2, .int .i64 2] 33 (0, 0))
  bel : Below w0.heap.size w0 w
  gp : g ≠ p
  gb : g ≠ b
  hp : h ≠ p
  hb : h ≠ b
  gh : g ≠ h
  lp : lk ≠ p
  lb : lk ≠ b
  lg : lk ≠ g
  lh : lk ≠ h
  p0 : w0.heap.size ≤ p
  b0 : w0.heap.size ≤ b
  g0 : w0.heap.size ≤ g
  h0 : w0.heap.size ≤ h
theorem Kn.below {w0 w w' : World} {p b g h lk : Nat} {s : St} {x : Wr} {r : Rd} (H : Kn w0 w p b g h lk s x r) (k : Below w.heap.size w w') : Kn w0 w' p b g h lk s x r :=
  { H with mem := H.mem.below k, wr := H.wr.below k, rd := H.rd.below k, lock := (k.block _ (lt_of_block H.lock)).trans H.lock, bel := bel_trans H.bel k }
theorem But3.bel {g p b : Nat} {w0 w w' : World} (h : But3 g p b w w') (hB : Below w0.heap.size w0 w) (h1 : w0.heap.size ≤ g) (h2 : w0.heap.size ≤ p) (h3 : w0.heap.size ≤ b) : Below w0.heap.size w0 w' :=
  hB.trans ⟨h.os, h.tape, h.output, h.size, fun k hk => h.block k (Nat.lt_of_lt_of_le hk hB.size) (by omega) (by omega) (by omega)⟩
theorem Kn.stepW {w0 w w' : World} {p b g h lk : Nat} {s s' : St} {x x' : Wr} {r : Rd} (H : Kn w0 w p b g h lk s x r) (k : Ws w' p b g s' x' ∧ But3 g p b w w') : Kn w0 w' p b g h lk s' x' r :=
  { H with mem := k.1.mem, wr := k.1.wr, rd := H.rd.keep (k.2.block _ H.rd.lt H.gh.symm H.hp H.hb), lock := (k.2.block _ (lt_of_block H.lock) H.lg H.lp H.lb).trans H.lock, bel := k.2.bel H.bel H.g0 H.p0 H.b0 }
theorem Kn.stepR {w0 w w' : World} {p b g h lk : Nat} {s s' : St} {x : Wr} {r r' : Rd} (H : Kn w0 w p b g h lk s x r) (k : Rs w' p b h s' r' ∧ But3 h p b w w') : Kn w0 w' p b g h lk s' x r' :=
  { H with mem := k.1.mem, rd := k.1.rd, wr := H.wr.keep (k.2.block _ H.wr.lt H.gh H.gp H.gb), lock := (k.2.block _ (lt_of_block H.lock) H.lh H.lp H.lb).trans H.lock, bel := k.2.bel H.bel H.h0 H.p0 H.b0 }
theorem Kn.load {w0 w w' : World} {p b g h lk : Nat} {s s' : St} {x : Wr} {r : Rd} (H : Kn w0 w p b g h lk s x r) (k : Turns 56 p b w w' s') : Kn w0 w' p b g h lk s' x r :=
  { H with mem := k.1, wr := H.wr.keep (k.2.block _ H.wr.lt H.gp H.gb), rd := H.rd.keep (k.2.block _ H.rd.lt H.hp H.hb), lock := (k.2.block _ (lt_of_block H.lock) H.lp H.lb).trans H.lock, bel := (But3.of_but (g := g) k.2).bel H.bel H.g0 H.p0 H.b0 }
theorem Kn.ws {w0 w : World} {p b g h lk : Nat} {s : St} {x : Wr} {r : Rd} (H : Kn w0 w p b g h lk s x r) : Ws w p b g s x := ⟨H.mem, H.wr, H.gp, H.gb⟩
theorem Kn.rs {w0 w : World} {p b g h lk : Nat} {s : St} {x : Wr} {r : Rd} (H : Kn w0 w p b g h lk s x r) : Rs w p b h s r := ⟨H.mem, H.rd, H.hp, H.hb⟩

theorem lies_two (w : World) (o : Obj) (a b : Int) : Lies ((w.alloc o).alloc (.cells #[.int .u64 a, .int .u64 b] 36)) (.slice (some ⟨w.heap.size + 1, 0, none⟩) 2 2) [a, b] := by
  have h : IsRow ((w.alloc o).alloc (.cells #[.int .u64 a, .int .u64 b] 36)) (w.heap.size + 1) [a, b] := by
    have := heap_alloc_new (w.alloc o) (.cells #[.int .u64 a, .int .u64 b] 36 (0, 0))
    simpa [IsRow, wd] using this
  exact h.lies rfl (by decide)
theorem kn_pre {w w1 w2 : World} {g : Nat} {x : Wr} {s : St} (hM : IsMem 56 w1 (w.heap.size + 1) w.heap.size s.xs s.d s.l) (hB1 : Below w.heap.size w w1)
    (hB2 : Below ((w1.alloc (.cells #[.int .i64 2, .int .i64 2] 33)).alloc (.cells #[.int .u64 7, .int .u64 8] 36)).heap.size ((w1.alloc (.cells #[.int .i64 2, .int .i64 2] 33)).alloc (.cells #[.int .u64 7, .int .u64 8] 36)) w2)
    (hW : IsWr w2 g x) (hg : ((w1.alloc (.cells #[.int .i64 2, .int .i64 2] 33)).alloc (.cells #[.int .u64 7, .int .u64 8] 36)).heap.size ≤ g) :
    IsMem 56 w2 (w.heap.size + 1) w.heap.size s.xs s.d s.l ∧ IsWr w2 g x ∧ w2.heap[w1.heap.size]? = some (.cells #[.int .i64 2, .int .i64 2] 33 (0, 0)) ∧ Below w.heap.size w w2 ∧ w1.heap.size < g ∧ w.heap.size + 1 < w1.heap.size := by
  have e0 := heap_alloc_new w1 (.cells #[.int .i64 2, .int .i64 2] 33 (0, 0))
  have k1 := below_alloc w1 (.cells #[.int .i64 2, .int .i64 2] 33)
  have k2 := below_alloc (w1.alloc (.cells #[.int .i64 2, .int .i64 2] 33)) (.cells #[.int .u64 7, .int .u64 8] 36)
  have k3 := bel_trans k2 hB2
  have k4 := bel_trans k1 k3
  exact ⟨hM.below k4, hW, (k3.block _ (lt_of_block e0)).trans e0, bel_trans hB1 k4, by simp at hg; omega, hM.lt.1⟩
theorem kn_first {w w1 w2 w3 : World} {g h : Nat} {x : Wr} {r : Rd} {s : St} (H : IsMem 56 w2 (w.heap.size + 1) w.heap.size s.xs s.d s.l ∧ IsWr w2 g x ∧ w2.heap[w1.heap.size]? = some (.cells #[.int .i64 2, .int .i64 2] 33 (0, 0)) ∧ Below w.heap.size w w2 ∧ w1.heap.size < g ∧ w.heap.size + 1 < w1.heap.size)
    (hR : IsRd w3 h r) (hh : w2.heap.size ≤ h) (hB : Below w2.heap.size w2 w3) : Kn w w3 (w.heap.size + 1) w.heap.size g h w1.heap.size s x r := by
  obtain ⟨h1, h2, h3, h4, h5, h6⟩ := H
  have u1 := h1.lt
  have u2 := h2.lt
  have u3 := lt_of_block h3
  exact ⟨h1.below hB, h2.below hB, hR, (hB.block _ u3).trans h3, bel_trans h4 hB, by omega, by omega, by omega, by omega, by omega, by omega, by omega, by omega, by omega, by omega, by omega, by omega, by omega⟩

set_option maxRecDepth 100000 in
set_option maxHeartbeats 2000000 in
theorem known_yes (w : World) : Calls Try.prog 8 #[] w fun e w' => e = .returned (.bool true) ∧ Below w.heap.size w w' := by
  go_enter Try.func8, Try.ntmps8
  go_wp2_with fail
  refine (new_yes 8 _ (by decide) (by decide)).mono ?_
  rintro e w1 ⟨rfl, hM1, hB1⟩
  have HM1 := hid hM1
  have HB1 := hid hB1
  have u1 := hM1.lt
  clear hM1 hB1
  go_wp2_with fail
  refine (write_at _ 2 2 2 _ [7, 8] rfl (by decide) (by decide) (by decide) (by decide) (lies_two w1 _ 7 8)).mono ?_
  rintro e w2 ⟨g, rfl, hW2, hg2, hB2⟩
  have hK2 := kn_pre (s := ⟨List.replicate 8 0, 0, 0⟩) HM1.out HB1.out hB2 hW2 hg2
  have HK2 := hid hK2
  have l2 : w2.heap[w1.heap.size]? = some (.cells #[.int .i64 2, .int .i64 2] 33 (0, 0)) := hK2.2.2.1
  have c0 : w2.cell? ⟨w1.heap.size, 0, none⟩ = some (.int .i64 2) := cell_of l2 rfl
  have c1 : w2.cell? ⟨w1.heap.size, 1, none⟩ = some (.int .i64 2) := cell_of l2 rfl
  clear hW2 hB2 hK2 l2 HM1 HB1
  go_wp2_with fail
  refine (read_at _ 2 2 (by decide) (by decide) (by decide) (by decide)).mono ?_
  rintro e w3 ⟨h, rfl, hR3, hh3, hB3⟩
  have K0 : Hid (Kn w w3 (w.heap.size + 1) w.heap.size g h w1.heap.size (kS 0).1 (kS 0).2 kR0) := hid (kn_first HK2.out hR3 hh3 hB3)
  clear hR3 hB3 HK2 c0 c1
  go_wp2
  refine wp_loop_rounds 5 ?_
  rw [rounds_succ]
  go_wp2_with fail
  refine (wstep_at (k := 0) K0.out.ws (wok_of (by kernel_rfl)) (mok_of (by kernel_rfl)) (kS_cnt 0) (by decide)).mono ?_
  rintro e w4 ⟨rfl, hX⟩
  have K1 : Hid (Kn w w4 (w.heap.size + 1) w.heap.size g h w1.heap.size (kS 1).1 (kS 1).2 kR0) := hid (K0.out.stepW hX)
  clear hX K0
  rw [show ((wS (kS 0).1 (kS 0).2).2.t == (wS (kS 0).1 (kS 0).2).2.e) = false from by kernel_rfl]
  go_wp2
  rw [rounds_succ]
  go_wp2_with fail
  refine (wstep_at (k := 1) K1.out.ws (wok_of (by kernel_rfl)) (mok_of (by kernel_rfl)) (kS_cnt 1) (by decide)).mono ?_
  rintro e w5 ⟨rfl, hX⟩
  have K2 : Hid (Kn w w5 (w.heap.size + 1) w.heap.size g h w1.heap.size (kS 2).1 (kS 2).2 kR0) := hid (K1.out.stepW hX)
  clear hX K1
  rw [show ((wS (kS 1).1 (kS 1).2).2.t == (wS (kS 1).1 (kS 1).2).2.e) = false from by kernel_rfl]
  go_wp2
  rw [rounds_succ]
  go_wp2_with fail
  refine (wstep_at (k := 2) K2.out.ws (wok_of (by kernel_rfl)) (mok_of (by kernel_rfl)) (kS_cnt 2) (by decide)).mono ?_
  rintro e w6 ⟨rfl, hX⟩
  have K3 : Hid (Kn w w6 (w.heap.size + 1) w.heap.size g h w1.heap.size (kS 3).1 (kS 3).2 kR0) := hid (K2.out.stepW hX)
  clear hX K2
  rw [show ((wS (kS 2).1 (kS 2).2).2.t == (wS (kS 2).1 (kS 2).2).2.e) = false from by kernel_rfl]
  go_wp2
  rw [rounds_succ]
  go_wp2_with fail
  refine (wstep_at (k := 3) K3.out.ws (wok_of (by kernel_rfl)) (mok_of (by kernel_rfl)) (kS_cnt 3) (by decide)).mono ?_
  rintro e w7 ⟨rfl, hX⟩
  have K4 : Hid (Kn w w7 (w.heap.size + 1) w.heap.size g h w1.heap.size (kS 4).1 (kS 4).2 kR0) := hid (K3.out.stepW hX)
  clear hX K3
  rw [show ((wS (kS 3).1 (kS 3).2).2.t == (wS (kS 3).1 (kS 3).2).2.e) = false from by kernel_rfl]
  go_wp2
  rw [rounds_succ]
  go_wp2_with fail
  refine (wstep_at (k := 4) K4.out.ws (wok_of (by kernel_rfl)) (mok_of (by kernel_rfl)) (kS_cnt 4) (by decide)).mono ?_
  rintro e w8 ⟨rfl, hX⟩
  have K5 : Hid (Kn w w8 (w.heap.size + 1) w.heap.size g h w1.heap.size (kS 5).1 (kS 5).2 kR0) := hid (K4.out.stepW hX)
  clear hX K4
  rw [show ((wS (kS 4).1 (kS 4).2).2.t == (wS (kS 4).1 (kS 4).2).2.e) = true from by kernel_rfl]
  go_wp2
  refine wp_loop_rounds 4 ?_
  have L0 : Hid (Kn w w8 (w.heap.size + 1) w.heap.size g h w1.heap.size (kR 0).1 (kS 5).2 (kR 0).2) := K5
  clear K5
  rw [rounds_succ]
  go_wp2_with fail
  refine (rstep_at (k := 5 + 0) L0.out.rs (rok_of (by kernel_rfl)) (mok_of (by kernel_rfl)) (kR_cnt 0) (by decide) (of_decide_eq_true (by kernel_rfl)) (of_decide_eq_true (by kernel_rfl))).mono ?_
  rintro e w9 ⟨rfl, hX⟩
  have L1 : Hid (Kn w w9 (w.heap.size + 1) w.heap.size g h w1.heap.size (kR 1).1 (kS 5).2 (kR 1).2) := hid (L0.out.stepR hX)
  clear hX L0
  rw [show ((rS (kR 0).1 (kR 0).2).2.x.t == (rS (kR 0).1 (kR 0).2).2.x.e) = false from by kernel_rfl]
  go_wp2
  rw [rounds_succ]
  go_wp2_with fail
  refine (rstep_at (k := 5 + 1) L1.out.rs (rok_of (by kernel_rfl)) (mok_of (by kernel_rfl)) (kR_cnt 1) (by decide) (of_decide_eq_true (by kernel_rfl)) (of_decide_eq_true (by kernel_rfl))).mono ?_
  rintro e w10 ⟨rfl, hX⟩
  have L2 : Hid (Kn w w10 (w.heap.size + 1) w.heap.size g h w1.heap.size (kR 2).1 (kS 5).2 (kR 2).2) := hid (L1.out.stepR hX)
  clear hX L1
  rw [show ((rS (kR 1).1 (kR 1).2).2.x.t == (rS (kR 1).1 (kR 1).2).2.x.e) = false from by kernel_rfl]
  go_wp2
  rw [rounds_succ]
  go_wp2_with fail
  refine (rstep_at (k := 5 + 2) L2.out.rs (rok_of (by kernel_rfl)) (mok_of (by kernel_rfl)) (kR_cnt 2) (by decide) (of_decide_eq_true (by kernel_rfl)) (of_decide_eq_true (by kernel_rfl))).mono ?_
  rintro e w11 ⟨rfl, hX⟩
  have L3 : Hid (Kn w w11 (w.heap.size + 1) w.heap.size g h w1.heap.size (kR 3).1 (kS 5).2 (kR 3).2) := hid (L2.out.stepR hX)
  clear hX L2
  rw [show ((rS (kR 2).1 (kR 2).2).2.x.t == (rS (kR 2).1 (kR 2).2).2.x.e) = false from by kernel_rfl]
  go_wp2
  rw [rounds_succ]
  go_wp2_with fail
  refine (rstep_at (k := 5 + 3) L3.out.rs (rok_of (by kernel_rfl)) (mok_of (by kernel_rfl)) (kR_cnt 3) (by decide) (of_decide_eq_true (by kernel_rfl)) (of_decide_eq_true (by kernel_rfl))).mono ?_
  rintro e w12 ⟨rfl, hX⟩
  have L4 : Hid (Kn w w12 (w.heap.size + 1) w.heap.size g h w1.heap.size (kR 4).1 (kS 5).2 (kR 4).2) := hid (L3.out.stepR hX)
  clear hX L3
  rw [show ((rS (kR 3).1 (kR 3).2).2.x.t == (rS (kR 3).1 (kR 3).2).2.x.e) = true from by kernel_rfl]
  go_wp2_with fail
  refine (values_yes L4.out.rd 2 (by kernel_rfl) (by decide) (by kernel_rfl)).mono ?_
  rintro e w13 ⟨rfl, hV, hB13⟩
  have HV : Hid (IsRow w13 w12.heap.size [7, 8]) := hid (show IsRow w13 w12.heap.size ((kR 4).2.x.vs.take 2) from hV)
  have vlt := L4.out.mem.lt
  have L5 := hid (L4.out.below hB13)
  clear hV hB13 L4
  go_wp2_with fail
  refine (load_any L5.out.mem (kR_cnt 4) (by decide) 2).mono ?_
  rintro e w14 ⟨rfl, hT⟩
  have L6 := hid (L5.out.load hT)
  have HV2 : Hid (IsRow w14 w12.heap.size [7, 8]) := hid (HV.out.keep (hT.2.block _ HV.out.lt (by omega) (by omega)))
  clear hT L5 HV
  rw [show loadV (kR 4).1 2 = 2 from by kernel_rfl, show errV (kR 4).1 2 = 0 from by kernel_rfl]
  go_wp2_with fail
  have hB15 : Below w14.heap.size w14 ((w14.alloc (.cells #[.int .i64 2, .int .i64 0] 33)).alloc (.cells #[.int .u64 7, .int .u64 8] 36)) := zkeep (below_alloc _ _) _
  refine (same_any ((HV2.out.lies rfl (by decide)).below hB15) (lies_two w14 _ 7 8)).mono ?_
  rintro e w16 ⟨rfl, K16⟩
  have L7 := hid (L6.out.below (bel_trans hB15 K16))
  have hbd : w16.heap[w14.heap.size]? = some (.cells #[.int .i64 2, .int .i64 0] 33 (0, 0)) := by
    have e0 := heap_alloc_new w14 (.cells #[.int .i64 2, .int .i64 0] 33 (0, 0))
    have k2 := below_alloc (w14.alloc (.cells #[.int .i64 2, .int .i64 0] 33)) (.cells #[.int .u64 7, .int .u64 8] 36)
    exact ((bel_trans k2 K16).block _ (lt_of_block e0)).trans e0
  have HBD := hid hbd
  clear hB15 K16 L6 HV2 hbd
  go_wp2_with fail
  refine (turn_at _ g 5 L7.out.wr.pc.c2).mono ?_
  rintro e w17 ⟨rfl, hw17⟩
  rw [hw17]
  clear hw17 w17
  go_wp2_with fail
  refine (tries_at _ h 1 L7.out.rd.tries).mono ?_
  rintro e w17 ⟨rfl, hw17⟩
  rw [hw17]
  clear hw17 w17
  go_wp2_with fail
  refine (wnext_at L7.out.wr (wok_of (by kernel_rfl))).mono ?_
  rintro e w17 ⟨rfl, K17⟩
  rw [show wNext (kS 5).2 = ⟨0, 0, 0, 0⟩ from by kernel_rfl]
  have L8 := hid (L7.out.below K17)
  have hbd : w17.heap[w14.heap.size]? = some (.cells #[.int .i64 2, .int .i64 0] 33 (0, 0)) := (K17.block _ (lt_of_block HBD.out)).trans HBD.out
  have b0 : w17.cell? ⟨w14.heap.size, 0, none⟩ = some (.int .i64 2) := cell_of hbd rfl
  have b1 : w17.cell? ⟨w14.heap.size, 1, none⟩ = some (.int .i64 0) := cell_of hbd rfl
  clear K17 L7 HBD hbd
  go_wp2_with fail
  refine (read_none _ 2).mono ?_
  rintro e w18 ⟨rfl, K18⟩
  have L9 := hid (L8.out.below K18)
  have b2 : w18.cell? ⟨w1.heap.size, 0, none⟩ = some (.int .i64 2) := cell_of L9.out.lock rfl
  have b3 : w18.cell? ⟨w1.heap.size, 1, none⟩ = some (.int .i64 2) := cell_of L9.out.lock rfl
  clear K18 L8 b0 b1
  go_wp2_with fail
  refine (write_nil _ 2 2 (by decide) (by decide) (by decide) (by decide)).mono ?_
  rintro e w19 ⟨rfl, K19⟩
  have HF := hid (bel_trans L9.out.bel K19)
  clear K19 L9 b2 b3
  go_wp2
  go_ret
  exact ⟨rfl, HF.out⟩
end Go.Proofs.Ytkdgjgbmbdmmfaa
