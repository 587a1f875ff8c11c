/- The walk of WalkAll: for every words and every three numbers it returns true; nothing that lay before is changed. No conditions but the numbers' sizes. -/
import Derived.Test.YtfpekfpjoldinaaK
import Derived.Test.YtfpekfpjoldinaaR4
namespace Go.Proofs.Ytfpekfpjoldinaa
open Go.RowKit

/-- What stands while both sides go on alone: a1, a2 tell whether each has. -/
structure Wx (w : World) (p b q c : Nat) (s : St) (x0 x1 x2 : Int) (W : World) (a1 a2 : Bool) : Prop where
  pm : a1 = false → Mem 76 W p b s
  rm : a2 = false → Mem 85 W q c s
  bel : Below w.heap.size w W
  box : W.heap[w.heap.size]? = some (.cells #[.int .i64 x0, .int .i64 x1, .int .i64 x2] 23 (0, 0))
/-- Where both lie. -/
structure Wy (n p b q c : Nat) : Prop where
  p0 : n < p
  b0 : n < b
  q0 : n < q
  c0 : n < c
  pq : p ≠ q
  pc : p ≠ c
  bq : b ≠ q
  bc : b ≠ c
abbrev S3 (k : Nat) (x0 x1 x2 : Int) (w' : World) : Prop := w'.cell? ⟨k, 0, none⟩ = some (.int .i64 x0) ∧ w'.cell? ⟨k, 1, none⟩ = some (.int .i64 x1) ∧ w'.cell? ⟨k, 2, none⟩ = some (.int .i64 x2)
theorem Wx.cells {w W : World} {p b q c : Nat} {s : St} {x0 x1 x2 : Int} {a1 a2 : Bool} (h : Wx w p b q c s x0 x1 x2 W a1 a2) : S3 w.heap.size x0 x1 x2 W := ⟨cell_of h.box rfl, cell_of h.box rfl, cell_of h.box rfl⟩
theorem Wx.below {w W W' : World} {p b q c : Nat} {s : St} {x0 x1 x2 : Int} {a1 a2 : Bool} (h : Wx w p b q c s x0 x1 x2 W a1 a2) (k : Below W.heap.size W W') : Wx w p b q c s x0 x1 x2 W' a1 a2 :=
  ⟨fun e => (h.pm e).below k, fun e => (h.rm e).below k, bel_trans h.bel k, P.stay k h.box⟩
theorem Wx.left {w W W' : World} {p b q c : Nat} {s : St} {x0 x1 x2 : Int} {a1 a2 : Bool} (h : Wx w p b q c s x0 x1 x2 W a1 a2) (y : Wy w.heap.size p b q c) (k : But p b W W') : Wx w p b q c s x0 x1 x2 W' true a2 :=
  ⟨fun e => (by cases e), fun e => (h.rm e).but k y.pq.symm y.bq.symm y.pc.symm y.bc.symm, h.bel.trans (k.below h.bel.size (Nat.le_of_lt y.p0) (Nat.le_of_lt y.b0)), k.stay h.box (by have := y.p0; omega) (by have := y.b0; omega)⟩
theorem Wx.right {w W W' : World} {p b q c : Nat} {s : St} {x0 x1 x2 : Int} {a1 a2 : Bool} (h : Wx w p b q c s x0 x1 x2 W a1 a2) (y : Wy w.heap.size p b q c) (k : But q c W W') : Wx w p b q c s x0 x1 x2 W' a1 true :=
  ⟨fun e => (h.pm e).but k y.pq y.pc y.bq y.bc, fun e => (by cases e), h.bel.trans (k.below h.bel.size (Nat.le_of_lt y.q0) (Nat.le_of_lt y.c0)), k.stay h.box (by have := y.q0; omega) (by have := y.c0; omega)⟩

set_option maxRecDepth 100000 in
set_option maxHeartbeats 4000000 in
theorem all_walk {w : World} {v : Value} {l : List (Int × Int)} (h : Wl w v l) (hv : V64 l) (x0 x1 x2 : Int) (l1 : -9223372036854775808 ≤ x2) (l2 : x2 ≤ 9223372036854775807) :
    Calls Try.prog 3 #[v, .agg #[.int .i64 x0, .int .i64 x1, .int .i64 x2]] w fun e w' => e = .returned (.bool true) ∧ Below w.heap.size w w' := by
  have HV := hid (both_at (h.below' (below_alloc w (.cells #[.int .i64 x0, .int .i64 x1, .int .i64 x2] 23))))
  have HU : Hid (U64 (bothS l).xs) := hid (bothS_u64 hv)
  have HC := hid (bothS_cnt l)
  have hbn : 200 + 4 ≤ bnd := by unfold bnd; omega
  have HA := hid (fun p b W (m : Mem 76 W p b (bothS l)) => all_at m HC.out hbn HU.out x0 x1 x2 l1 l2)
  have HB := hid (fun q c W (m : Mem 85 W q c (bothS l)) => rall_at m HC.out hbn HU.out x0 x1 x2)
  clear h hv l1 l2 hbn
  generalize bothS l = s at *
  generalize fAll s.xs x0 x1 x2 = d at *
  go_enter Try.func3, Try.ntmps3
  go_wp2_with fail
  refine HV.out.mono ?_
  rintro e w1 ⟨p, b, q, c, rfl, hB⟩
  have hx : Wx w p b q c s x0 x1 x2 w1 false false := ⟨fun _ => hB.pm, fun _ => hB.rm, (below_alloc w _).trans (hB.bel.mono (by simp)), P.stay hB.bel (heap_alloc_new w _)⟩
  have hy : Wy w.heap.size p b q c := by
    have h1 := hB.p0
    have h2 := hB.b0
    have h3 := hB.q0
    have h4 := hB.c0
    simp at h1 h2 h3 h4
    exact ⟨h1, h2, h3, h4, hB.pq, hB.pc, hB.bq, hB.bc⟩
  have UX0 := hid (hx.below (Below.refl _ _).drew)
  have hS0 := UX0.out.cells
  simp only [S3] at hS0
  have A10 : Hid (∀ W a2, Hid (Wx w p b q c s x0 x1 x2 W false a2) → Calls Try.prog 10 #[.pointer (some ⟨p, 0, none⟩), .int .i64 x0, .int .i64 x1, .int .i64 x2] W fun e w' => e = .returned (fdV d) ∧ Hid (Wx w p b q c s x0 x1 x2 w' true a2)) := hid (fun W a2 hW =>
    (HA.out p b W (hW.out.pm rfl)).mono fun e w' ⟨a, _, k⟩ => ⟨a, hid (hW.out.left hy k)⟩)
  have A11 : Hid (∀ W a1, Hid (Wx w p b q c s x0 x1 x2 W a1 false) → Calls Try.prog 11 #[.pointer (some ⟨q, 0, none⟩), .int .i64 x0, .int .i64 x1, .int .i64 x2] W fun e w' => e = .returned (fdV d) ∧ Hid (Wx w p b q c s x0 x1 x2 w' a1 true)) := hid (fun W a1 hW =>
    (HB.out q c W (hW.out.rm rfl)).mono fun e w' ⟨a, _, k⟩ => ⟨a, hid (hW.out.right hy k)⟩)
  have A9 : Hid (∀ W a1 a2, Hid (Wx w p b q c s x0 x1 x2 W a1 a2) → Calls Try.prog 9 #[fdV d] W fun e w' => e = .returned (fdV d) ∧ Hid (Wx w p b q c s x0 x1 x2 w' a1 a2)) := hid (fun W a1 a2 hW =>
    (plain_at d W).mono fun e w' ⟨a, k⟩ => ⟨a, hid (hW.out.below k)⟩)
  have A12 : Hid (∀ W a1 a2, Hid (Wx w p b q c s x0 x1 x2 W a1 a2) → Calls Try.prog 12 #[] W fun e w' => e = .returned (.bool true) ∧ Hid (Wx w p b q c s x0 x1 x2 w' a1 a2)) := hid (fun W a1 a2 hW =>
    (known_yes W).mono fun e w' ⟨a, k⟩ => ⟨a, hid (hW.out.below k)⟩)
  have HCl : Hid (∀ W a1 a2, Hid (Wx w p b q c s x0 x1 x2 W a1 a2) → S3 w.heap.size x0 x1 x2 W) := hid (fun W a1 a2 hW => hW.out.cells)
  clear hx hy hB HA HB HU HC HV
  obtain ⟨df, dr, dv, de⟩ := d
  go_wp2_with fail
  go_region_held3 (fun w' => w'.cell? ⟨w.heap.size, 0, none⟩ = some (.int .i64 x0) ∧ w'.cell? ⟨w.heap.size, 1, none⟩ = some (.int .i64 x1) ∧ w'.cell? ⟨w.heap.size, 2, none⟩ = some (.int .i64 x2)) (first | with_reducible exact hS0 | with_reducible assumption)
    (first
      | (go_at_call 10; refine (A10.out _ _ (by assumption)).mono ?_; rintro e v1 ⟨rfl, hk1⟩; have hs1 := HCl.out _ _ _ hk1)
      | (go_at_call 9; refine (A9.out _ _ _ (by assumption)).mono ?_; rintro e v2 ⟨rfl, hk2⟩; have hs2 := HCl.out _ _ _ hk2)
      | (go_at_call 11; refine (A11.out _ _ (by assumption)).mono ?_; rintro e v3 ⟨rfl, hk3⟩; have hs3 := HCl.out _ _ _ hk3)
      | (go_at_call 12; refine (A12.out _ _ _ (by assumption)).mono ?_; rintro e v4 ⟨rfl, hk4⟩; have hs4 := HCl.out _ _ _ hk4))
  all_goals
    go_wp2
    go_ret
    exact ⟨rfl, hk4.out.bel⟩
end Go.Proofs.Ytfpekfpjoldinaa
