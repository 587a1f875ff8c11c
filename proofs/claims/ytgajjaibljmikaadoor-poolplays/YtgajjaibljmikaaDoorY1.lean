/- Two pools apart, the program's and the document's, with a call of a script in a block of its own: each call of one leaves the other one and the block as they were. Condition: the table of rules lies in its variable. -/
import Derived.Test.YtgajjaibljmikaaDoorL7
import Derived.Test.YtgajjaibljmikaaDoorSc
namespace Go.Proofs.YtgajjaibljmikaaDoor
open Go.RowKit

/-- A pool of the program's and one of the document's, made since w0, apart. -/
structure Tw (w0 w : World) (p b p' b' : Nat) (A B : List Ds) : Prop where
  ow : Ow w0 w p b A
  rp : RP w p' b' B
  hp : w0.heap.size ≤ p'
  hb : w0.heap.size ≤ b'
  n1 : p' ≠ b
  n2 : b' ≠ b
  n3 : p ≠ b'
abbrev clC (x : Cl) : Array Value := #[.int .i64 x.kd, .int .i64 x.f, .int .i64 x.k, .int .i64 x.o, .int .i64 x.y]
/-- .. and a call in the block z. -/
structure Tz (w0 : World) (p b p' b' z : Nat) (x : Cl) (w : World) (A B : List Ds) : Prop where
  tw : Tw w0 w p b p' b' A B
  bx : w.heap[z]? = some (.cells (clC x) 32 (0, 0))
  z1 : z ≠ b
  z2 : z ≠ b'
section
variable {w0 w w' : World} {p b p' b' z : Nat} {x : Cl} {A B A' B' : List Ds}
theorem Tw.below (h : Tw w0 w p b p' b' A B) (k : Below w.heap.size w w') : Tw w0 w' p b p' b' A B :=
  ⟨h.ow.below k, h.rp.below k, h.hp, h.hb, h.n1, h.n2, h.n3⟩
theorem Tw.left (h : Tw w0 w p b p' b' A B) (k : Bt b w w') (hO : Ow w0 w' p b A') : Tw w0 w' p b p' b' A' B :=
  ⟨hO, h.rp.bt k h.n1 h.n2, h.hp, h.hb, h.n1, h.n2, h.n3⟩
theorem Tw.right (h : Tw w0 w p b p' b' A B) (k : Bt b' w w') (hR : RP w' p' b' B') : Tw w0 w' p b p' b' A B' :=
  ⟨⟨h.ow.pool.bt k h.n3 (Ne.symm h.n2), k.tab h.ow.tab (by have := h.ow.pos; have := h.hb; omega), h.ow.bel.trans (k.below h.ow.bel.size h.hb), h.ow.hp, h.ow.hb, h.ow.pos⟩, hR, h.hp, h.hb, h.n1, h.n2, h.n3⟩
theorem Tz.below (h : Tz w0 p b p' b' z x w A B) (k : Below w.heap.size w w') : Tz w0 p b p' b' z x w' A B := ⟨h.tw.below k, stay k h.bx, h.z1, h.z2⟩
theorem Tz.left (h : Tz w0 p b p' b' z x w A B) (k : Bt b w w') (hO : Ow w0 w' p b A') : Tz w0 p b p' b' z x w' A' B :=
  ⟨h.tw.left k hO, (k.block z (lt_of_block h.bx) h.z1).trans h.bx, h.z1, h.z2⟩
theorem Tz.right (h : Tz w0 p b p' b' z x w A B) (k : Bt b' w w') (hR : RP w' p' b' B') : Tz w0 p b p' b' z x w' A B' :=
  ⟨h.tw.right k hR, (k.block z (lt_of_block h.bx) h.z2).trans h.bx, h.z1, h.z2⟩
/-- A call in a new block. -/
theorem Tw.box (h : Tw w0 w p b p' b' A B) (x : Cl) : Tz w0 p b p' b' w.heap.size x (w.alloc (.cells (clC x) 32)) A B :=
  ⟨h.below (below_one _ _), heap_alloc_new _ _, by have := h.ow.pool.lt.2; omega, by have := h.rp.lt.2; omega⟩
theorem Tz.c0 (h : Tz w0 p b p' b' z x w A B) : w.cell? ⟨z, 0, none⟩ = some (.int .i64 x.kd) := cell_of h.bx rfl
theorem Tz.c1 (h : Tz w0 p b p' b' z x w A B) : w.cell? ⟨z, 1, none⟩ = some (.int .i64 x.f) := cell_of h.bx rfl
theorem Tz.c2 (h : Tz w0 p b p' b' z x w A B) : w.cell? ⟨z, 2, none⟩ = some (.int .i64 x.k) := cell_of h.bx rfl
theorem Tz.c3 (h : Tz w0 p b p' b' z x w A B) : w.cell? ⟨z, 3, none⟩ = some (.int .i64 x.o) := cell_of h.bx rfl
theorem Tz.c4 (h : Tz w0 p b p' b' z x w A B) : w.cell? ⟨z, 4, none⟩ = some (.int .i64 x.y) := cell_of h.bx rfl

theorem Tz.take (h : Tz w0 p b p' b' z x w A B) (k o : Int) :
    Calls Tryd.prog 12 #[.pointer (some ⟨p, 0, none⟩), .int .i64 k, .int .i64 o] w fun v w' => v = .returned (.tuple #[.int .i64 (kF A k o), .int .i64 (kE A k o)]) ∧ Tz w0 p b p' b' z x w' (kL A k o) B :=
  (h.tw.ow.take k o _ _ _ rfl rfl rfl).mono fun _ _ ⟨a, b, c⟩ => ⟨a, h.left c b⟩
theorem Tz.rtake (h : Tz w0 p b p' b' z x w A B) (k o : Int) :
    Calls Tryd.prog 13 #[.pointer (some ⟨p', 0, none⟩), .int .i64 k, .int .i64 o] w fun v w' => v = .returned (.tuple #[.int .i64 (kF B k o), .int .i64 (kE B k o)]) ∧ Tz w0 p b p' b' z x w' A (kL B k o) :=
  (rtake_at h.tw.rp k o).mono fun _ _ ⟨a, b, c⟩ => ⟨a, h.right c b⟩
theorem Tz.give (h : Tz w0 p b p' b' z x w A B) (f : Int) :
    Calls Tryd.prog 14 #[.pointer (some ⟨p, 0, none⟩), .int .i64 f] w fun v w' => v = .returned (.int .i64 (tE A f 0 0)) ∧ Tz w0 p b p' b' z x w' (tL A f 0 0) B :=
  (h.tw.ow.give f _ _ rfl rfl).mono fun _ _ ⟨a, b, c⟩ => ⟨a, h.left c b⟩
theorem Tz.rgive (h : Tz w0 p b p' b' z x w A B) (f : Int) :
    Calls Tryd.prog 15 #[.pointer (some ⟨p', 0, none⟩), .int .i64 f] w fun v w' => v = .returned (.int .i64 (tE B f 0 0)) ∧ Tz w0 p b p' b' z x w' A (tL B f 0 0) :=
  (rgive_at h.tw.rp f).mono fun _ _ ⟨a, b, c⟩ => ⟨a, h.right c b⟩
theorem Tz.turn (h : Tz w0 p b p' b' z x w A B) (f k o : Int) :
    Calls Tryd.prog 16 #[.pointer (some ⟨p, 0, none⟩), .int .i64 f, .int .i64 k, .int .i64 o] w fun v w' => v = .returned (.int .i64 (tE A f k o)) ∧ Tz w0 p b p' b' z x w' (tL A f k o) B :=
  (h.tw.ow.turn f k o _ _ rfl rfl).mono fun _ _ ⟨a, b, c⟩ => ⟨a, h.left c b⟩
theorem Tz.rturn (h : Tz w0 p b p' b' z x w A B) (f k o : Int) :
    Calls Tryd.prog 17 #[.pointer (some ⟨p', 0, none⟩), .int .i64 f, .int .i64 k, .int .i64 o] w fun v w' => v = .returned (.int .i64 (tE B f k o)) ∧ Tz w0 p b p' b' z x w' A (tL B f k o) :=
  (rturn_at h.tw.rp f k o).mono fun _ _ ⟨a, b, c⟩ => ⟨a, h.right c b⟩
theorem Tz.ref (h : Tz w0 p b p' b' z x w A B) (f y : Int) :
    Calls Tryd.prog 18 #[.pointer (some ⟨p, 0, none⟩), .int .i64 f, .int .i64 y] w fun v w' => v = .returned (.int .i64 (gE A f y)) ∧ Tz w0 p b p' b' z x w' (gL A f y) B :=
  (h.tw.ow.ref f y _ _ rfl rfl).mono fun _ _ ⟨a, b, c⟩ => ⟨a, h.left c b⟩
theorem Tz.rref (h : Tz w0 p b p' b' z x w A B) (f y : Int) :
    Calls Tryd.prog 19 #[.pointer (some ⟨p', 0, none⟩), .int .i64 f, .int .i64 y] w fun v w' => v = .returned (.int .i64 (gE B f y)) ∧ Tz w0 p b p' b' z x w' A (gL B f y) :=
  (rpref_at h.tw.rp f y).mono fun _ _ ⟨a, b, c⟩ => ⟨a, h.right c b⟩
/-- A copy takes its place, while the elder one goes on: what the walk owes. -/
theorem Tz.copy (h : Tz w0 p b p' b' z x w A B) :
    Calls Tryd.prog 20 #[.pointer (some ⟨p, 0, none⟩)] w fun v w' => ∃ q g, v = .returned (.pointer (some ⟨q, 0, none⟩)) ∧ Tz w0 q g p' b' z x w' A B ∧ Ow w0 w' p b A ∧ q ≠ b ∧ g ≠ b := by
  refine (copy_at h.tw.ow.pool).mono ?_
  rintro v w' ⟨q, g, a, hq, h1, h2, hB⟩
  have l1 := h.tw.ow.pool.lt
  have l2 := h.tw.rp.lt
  have lz := lt_of_block h.bx
  have hs := h.tw.ow.bel.size
  have hO := h.tw.ow.below hB
  exact ⟨q, g, a, ⟨⟨⟨hq, hO.tab, hO.bel, by omega, by omega, hO.pos⟩, h.tw.rp.below hB, h.tw.hp, h.tw.hb, by omega, by omega, by omega⟩, stay hB h.bx, by omega, h.z2⟩, hO, by omega, by omega⟩
theorem Tz.keep {q g : Nat} (h : Tz w0 q g p' b' z x w A B) (k : Bt b w w') (hT : Tab w') (hbl : Below w0.heap.size w0 w') (n1 : q ≠ b) (n2 : g ≠ b) (n3 : p' ≠ b) (n4 : b' ≠ b) (n5 : z ≠ b) : Tz w0 q g p' b' z x w' A B :=
  ⟨⟨⟨h.tw.ow.pool.bt k n1 n2, hT, hbl, h.tw.ow.hp, h.tw.ow.hb, h.tw.ow.pos⟩, h.tw.rp.bt k n3 n4, h.tw.hp, h.tw.hb, h.tw.n1, h.tw.n2, h.tw.n3⟩, (k.block z (lt_of_block h.bx) n5).trans h.bx, h.z1, h.z2⟩

theorem Tz.count (h : Tz w0 p b p' b' z x w A B) (k : Int) (c : Nat) (hc : cK A k = c) :
    Calls Tryd.prog 23 #[.pointer (some ⟨p, 0, none⟩), .int .i64 k] w fun v w' => v = .returned (.int .i64 (c : Nat)) ∧ Tz w0 p b p' b' z x w' A B :=
  (h.tw.ow.count k c hc).mono fun _ _ ⟨a, _, c⟩ => ⟨a, h.below c⟩
theorem Tz.rcount (h : Tz w0 p b p' b' z x w A B) (k : Int) (c : Nat) (hc : cK B k = c) :
    Calls Tryd.prog 24 #[.pointer (some ⟨p', 0, none⟩), .int .i64 k] w fun v w' => v = .returned (.int .i64 (c : Nat)) ∧ Tz w0 p b p' b' z x w' A B := by
  subst hc
  refine (rcount_at h.tw.rp k).mono ?_
  rintro v w' ⟨a, rfl⟩
  exact ⟨a, h⟩
theorem Tz.owned (h : Tz w0 p b p' b' z x w A B) (o : Int) (l : List Nat) (hl : oL A o = l) :
    Calls Tryd.prog 26 #[.pointer (some ⟨p, 0, none⟩), .int .i64 o] w fun v w' => ∃ u, v = .returned u ∧ Lies w' u l ∧ Tz w0 p b p' b' z x w' A B ∧ Below w.heap.size w w' :=
  (h.tw.ow.owned o l hl).mono fun _ _ ⟨u, a, b, _, c⟩ => ⟨u, a, b, h.below c, c⟩
theorem Tz.rowned (h : Tz w0 p b p' b' z x w A B) (o : Int) (l : List Nat) (hl : oL B o = l) :
    Calls Tryd.prog 27 #[.pointer (some ⟨p', 0, none⟩), .int .i64 o] w fun v w' => ∃ u, v = .returned u ∧ Lies w' u l ∧ Tz w0 p b p' b' z x w' A B ∧ Below w.heap.size w w' := by
  subst hl
  exact (rowned_at h.tw.rp o).mono fun _ _ ⟨u, a, r, c⟩ => ⟨u, a, Lies.of_owns r (Nat.le_trans (wh_len _ _) (Nat.le_trans h.tw.rp.top (by decide))), h.below c, c⟩
end

theorem results_row {fn : Func} {p : Tmp} {ty : TypeId} (h : fn.results = #[.cell p ty]) (tmps : Array Value) (w : World) (g : Nat) (cs : Array Value)
    (hp : tmps.getD p undef = .pointer (some ⟨g, 0, none⟩)) (hl : (loadVar ty ⟨g, 0, none⟩).run Tryd.prog w = .ok (.agg cs) w) :
    (results fn tmps).run Tryd.prog w = .ok (.agg cs) w := by
  have hp' : tmps[p]?.getD undef = .pointer (some ⟨g, 0, none⟩) := by simpa using hp
  simp only [results, h]
  simp [asAddr, hp', hl]
set_option maxRecDepth 100000 in
set_option maxHeartbeats 1000000 in
theorem plain_at (a0 a1 a2 a3 : Int) (w : World) :
    Calls Tryd.prog 22 #[.agg #[.int .i64 a0, .int .i64 a1, .int .i64 a2, .int .i64 a3]] w fun v w' => v = .returned (.agg #[.int .i64 a0, .int .i64 a1, .int .i64 a2, .int .i64 a3]) ∧ Below w.heap.size w w' := by
  obtain ⟨hA, hB⟩ := two_new w (.cells #[.int .i64 a0, .int .i64 a1, .int .i64 a2, .int .i64 a3] 40) (.cells #[.int .i64 a0, .int .i64 a1, .int .i64 a2, .int .i64 a3] 43)
  have HB := hid hB
  clear hA hB
  go_enter Tryd.func22, Tryd.ntmps22
  go_wp2
  (try simp only [Exit.inBlock, Exit.then])
  refine bodyPost_ret (results_row rfl _ _ (w.heap.size + 1) _ rfl (run_loadVar_row _ _ 43 43 _ (0, 0) _ HB.out Tryd.underlying43 rfl size43)) rfl ?_
  exact ⟨rfl, btwo w _ _⟩
end Go.Proofs.YtgajjaibljmikaaDoor
