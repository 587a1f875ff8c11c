/- What NptPlays knows of its world: the program's tables and the document's, in two memories; and what stays when one side is turned. Of no law; no conditions but what is written. What the document's calls leave of the world of NptPlays, and what Drop leaves on both sides; what Query, All and Root tell. Of no law; no conditions but what is written. What Same tells where both sides are alike: true. Conditions: the two sides' words and frames are the same. -/
import Derived.Test.YtpfmmlbakbhklaaGreatDoorCK
import Derived.Test.YtpfmmlbakbhklaaGreatDoorBN
import Derived.Laws.StructEq
import Derived.BigQuiet
namespace Go.Proofs.YtpfmmlbakbhklaaGreatDoor
open Go.RowKit
/-- What lies where: the law's block, two sides, two guests' tables and their roots. -/
structure Pd where
  g : Nat
  u : Si
  v : Si
  X : Nat → Option Addr
  B : Nat → Nat
  R : Nat → Int
/-- A guest's tables of the program: none (0), live (1), dropped (2). -/
def Ts (u : Si) (w : World) (x : Option Addr) (l : Nat) (o r : Int) : Prop :=
  (l = 0 ∧ x = none) ∨ (l = 1 ∧ ∃ a, x = some ⟨a, 0, none⟩ ∧ IsT u w a 1 o r) ∨ (l = 2 ∧ ∃ a, x = some ⟨a, 0, none⟩ ∧ w.heap[a]? = some (.cells #[.int .i64 2, .pointer none, .pointer none, .int .i64 0, .int .i64 0] 70 (0, 0)))
/-- The two sides at their states. -/
structure Pw (w0 : World) (d : Pd) (k : Nat) (w : World) (s : Sm) (L : Nat → Nat) (s' : Sm) (L' : Nat → Nat) : Prop where
  blk : w.heap[d.g]? = some (.cells #[.pointer (some ⟨d.u.mp, 0, none⟩), .pointer (some ⟨d.u.pp, 0, none⟩), .pointer (d.X 0), .pointer (d.X 1), .pointer (some ⟨d.v.mp, 0, none⟩), .pointer (some ⟨d.v.pp, 0, none⟩), .pointer (some ⟨d.B 0, 0, none⟩), .pointer (some ⟨d.B 1, 0, none⟩)] 39 (0, 0))
  wo : Wo d.u w s k
  wr : Wr d.v w s' k
  ts : ∀ i, i < 2 → Ts d.u w (d.X i) (L i) (i + 1 : Nat) (d.R i)
  us : ∀ i, i < 2 → L' i ≠ 0 → IsU d.v w (d.B i) (i + 1 : Nat) (d.R i) (L' i == 2)
  ne : d.u.wb ≠ d.v.wb
  nx : ∀ i j, i < 2 → j < 2 → i ≠ j → ∀ a, d.X i = some ⟨a, 0, none⟩ → d.X j ≠ some ⟨a, 0, none⟩
  nb : ∀ i j, i < 2 → j < 2 → i ≠ j → d.B i ≠ d.B j
  lo : (w0.heap.size ≤ d.u.mp ∧ w0.heap.size ≤ d.u.wb ∧ w0.heap.size ≤ d.u.pb) ∧ (w0.heap.size ≤ d.v.mp ∧ w0.heap.size ≤ d.v.wb ∧ w0.heap.size ≤ d.v.pb) ∧ (∀ i, i < 2 → ∀ a, d.X i = some ⟨a, 0, none⟩ → w0.heap.size ≤ a) ∧ ∀ i, i < 2 → w0.heap.size ≤ d.B i
  bel : Below w0.heap.size w0 w
/-- The trees behind the words. -/
def PI (d : Pd) (s : Sm) (L : Nat → Nat) : Prop := ∃ ty, Inv s ty (-1) ∧ ∀ i, i < 2 → L i = 1 → ty (d.R i) = some ⟨(i + 1 : Nat), 3, 0⟩
/-- Blocks of other types stay. -/
def Kq (w w' : World) : Prop := ∀ (q : Nat) (c : Array Value) (T : TypeId), T ≠ 124 → T ≠ 67 → T ≠ 64 → T ≠ 70 → T ≠ 87 → T ≠ 91 → T ≠ 101 → w.heap[q]? = some (.cells c T (0, 0)) → w'.heap[q]? = some (.cells c T (0, 0))
theorem Kq.of_below {w w' : World} (b : Below w.heap.size w w') : Kq w w' := fun _ _ _ _ _ _ _ _ _ _ hq => P.stay b hq
theorem Kq.trans {x y z : World} (a : Kq x y) (b : Kq y z) : Kq x z := fun q c T h1 h2 h3 h4 h5 h6 h7 hq => b q c T h1 h2 h3 h4 h5 h6 h7 (a q c T h1 h2 h3 h4 h5 h6 h7 hq)
theorem Ts.keep {u : Si} {w w' : World} {x : Option Addr} {l : Nat} {o r : Int} (h : Ts u w x l o r) (hk : ∀ a c, x = some ⟨a, 0, none⟩ → w.heap[a]? = some (.cells c 70 (0, 0)) → w'.heap[a]? = some (.cells c 70 (0, 0))) : Ts u w' x l o r := by
  rcases h with h | ⟨h1, a, h2, h3⟩ | ⟨h1, a, h2, h3⟩
  · exact .inl h
  · exact .inr (.inl ⟨h1, a, h2, hk a _ h2 h3⟩)
  · exact .inr (.inr ⟨h1, a, h2, hk a _ h2 h3⟩)
section
variable {w0 w w' : World} {d : Pd} {k k' : Nat} {s s' s1 : Sm} {L L' : Nat → Nat}
theorem Pw.below (h : Pw w0 d k w s L s' L') (b : Below w.heap.size w w') : Pw w0 d k w' s L s' L' :=
  ⟨P.stay b h.blk, h.wo.below b, h.wr.below b, fun i hi => (h.ts i hi).keep fun _ _ _ hc => P.stay b hc, fun i hi hl => (h.us i hi hl).below b, h.ne, h.nx, h.nb, h.lo, h.bel.trans (b.mono h.bel.size)⟩
theorem Pw.mono (h : Pw w0 d k w s L s' L') (hk : k ≤ k') : Pw w0 d k' w s L s' L' := ⟨h.blk, h.wo.mono hk, h.wr.mono hk, h.ts, h.us, h.ne, h.nx, h.nb, h.lo, h.bel⟩
/-- The program's side is turned. -/
theorem Pw.stepO (h : Pw w0 d k w s L s' L') (hC : Ch d.u w w') (hW : Wo d.u w' s1 k') (hk : k ≤ k') : Pw w0 d k' w' s1 L s' L' ∧ Kq w w' :=
  ⟨⟨h.wo.keep hC h.blk (by decide) (by decide) (by decide), hW, (h.wr.chO h.wo h.ne hC).mono hk, fun i hi => (h.ts i hi).keep fun _ _ _ hc => h.wo.keep hC hc (by decide) (by decide) (by decide), fun i hi hl => h.wo.keep hC (h.us i hi hl) (by decide) (by decide) (by decide), h.ne, h.nx, h.nb, h.lo, h.bel.trans (hC.below h.bel.size h.lo.1.1 h.lo.1.2.1 h.lo.1.2.2)⟩,
    fun _ _ _ h1 h2 h3 _ _ _ _ hq => h.wo.keep hC hq h1 h2 h3⟩
/-- The document's side is turned. -/
theorem Pw.stepR (h : Pw w0 d k w s L s' L') (hC : Ch d.v w w') (hW : Wr d.v w' s1 k') (hk : k ≤ k') : Pw w0 d k' w' s L s1 L' ∧ Kq w w' :=
  ⟨⟨h.wr.keepR hC h.blk (by decide) (by decide) (by decide), (h.wo.chR h.wr h.ne hC).mono hk, hW, fun i hi => (h.ts i hi).keep fun _ _ _ hc => h.wr.keepR hC hc (by decide) (by decide) (by decide), fun i hi hl => (h.us i hi hl).ch h.wr hC, h.ne, h.nx, h.nb, h.lo, h.bel.trans (hC.below h.bel.size h.lo.2.1.1 h.lo.2.1.2.1 h.lo.2.1.2.2)⟩,
    fun _ _ _ _ h2 _ _ h5 h6 _ hq => h.wr.keepR hC hq h5 h2 h6⟩
theorem Pw.live (h : Pw w0 d k w s L s' L') {i : Nat} (hi : i < 2) (hl : L i = 1) : ∃ a, d.X i = some ⟨a, 0, none⟩ ∧ IsT d.u w a 1 (i + 1 : Nat) (d.R i) := by
  rcases h.ts i hi with ⟨h1, -⟩ | ⟨-, a, h2, h3⟩ | ⟨h1, -⟩
  · omega
  · exact ⟨a, h2, h3⟩
  · omega
theorem Pw.dead (h : Pw w0 d k w s L s' L') {i : Nat} (hi : i < 2) (hl : L i ≠ 1) (h0 : L i ≠ 0) : Dd w (d.X i) 6 := by
  rcases h.ts i hi with ⟨h1, -⟩ | ⟨h1, -⟩ | ⟨-, a, h2, h3⟩
  · omega
  · omega
  · rw [h2]
    exact Dd.two (P.cell_of (i := 0) h3 rfl)
theorem Pw.two (h : Pw w0 d k w s L s' L') {i : Nat} (hi : i < 2) (hl : L i ≠ 1) (h0 : L i ≠ 0) : L i = 2 := by
  rcases h.ts i hi with ⟨h1, -⟩ | ⟨h1, -⟩ | ⟨h1, -⟩
  · omega
  · omega
  · exact h1
theorem Pw.doc (h : Pw w0 d k w s L s' L') {i : Nat} (hi : i < 2) (hl : L' i = 1) : IsU d.v w (d.B i) (i + 1 : Nat) (d.R i) false := by
  have := h.us i hi (by omega)
  rw [hl] at this
  exact this
theorem Pw.docD (h : Pw w0 d k w s L s' L') {i : Nat} (hi : i < 2) (hl : L' i = 2) : IsU d.v w (d.B i) (i + 1 : Nat) (d.R i) true := by
  have := h.us i hi (by omega)
  rw [hl] at this
  exact this
/-- What a call of a guest tells and leaves. -/
def lE (l : Nat) (e : Int) : Int := if l = 1 then e else 6
def lS (l : Nat) (s s' : Sm) : Sm := if l = 1 then s' else s
/-- The program's calls. -/
theorem Pw.mapO (h : Pw w0 d k w s L s' L') (hk : k + 200 ≤ bnd) {i : Nat} (hi : i < 2) (h0 : L i ≠ 0) (pg f r : Int) :
    Calls Tryz.prog 21 #[.pointer (d.X i), .int .i64 pg, .int .i64 f, .int .i64 r] w fun e w' => e = .returned (.int .i64 (lE (L i) (putE s (d.R i) pg 0 ⟨true, r, false, f⟩))) ∧ Pw w0 d (k + 100) w' (lS (L i) s (putT s (i + 1 : Nat) (d.R i) pg 0 ⟨true, r, false, f⟩)) L s' L' ∧ Kq w w' := by
  unfold lE lS
  by_cases hl : L i = 1
  · obtain ⟨a, e, hT⟩ := h.live hi hl
    rw [if_pos hl, if_pos hl, e]
    refine (map_at hT h.wo hk pg f r).mono ?_
    rintro e w' ⟨rfl, hW, hC⟩
    exact ⟨rfl, h.stepO hC hW (by omega)⟩
  · rw [if_neg hl, if_neg hl]
    refine (map_dead (h.dead hi hl h0) pg f r).mono ?_
    rintro e w' ⟨rfl, hB⟩
    exact ⟨rfl, (h.below hB).mono (by omega), .of_below hB⟩
theorem Pw.largeO (h : Pw w0 d k w s L s' L') (hk : k + 200 ≤ bnd) {i : Nat} (hi : i < 2) (h0 : L i ≠ 0) (pg f r : Int) :
    Calls Tryz.prog 22 #[.pointer (d.X i), .int .i64 pg, .int .i64 f, .int .i64 r] w fun e w' => e = .returned (.int .i64 (lE (L i) (putE s (d.R i) pg 1 ⟨true, r, true, f⟩))) ∧ Pw w0 d (k + 100) w' (lS (L i) s (putT s (i + 1 : Nat) (d.R i) pg 1 ⟨true, r, true, f⟩)) L s' L' ∧ Kq w w' := by
  unfold lE lS
  by_cases hl : L i = 1
  · obtain ⟨a, e, hT⟩ := h.live hi hl
    rw [if_pos hl, if_pos hl, e]
    refine (large_at hT h.wo hk pg f r).mono ?_
    rintro e w' ⟨rfl, hW, hC⟩
    exact ⟨rfl, h.stepO hC hW (by omega)⟩
  · rw [if_neg hl, if_neg hl]
    refine (large_dead (h.dead hi hl h0) pg f r).mono ?_
    rintro e w' ⟨rfl, hB⟩
    exact ⟨rfl, (h.below hB).mono (by omega), .of_below hB⟩
theorem Pw.unmapO (h : Pw w0 d k w s L s' L') (hk : k + 200 ≤ bnd) {i : Nat} (hi : i < 2) (h0 : L i ≠ 0) (pg : Int) :
    Calls Tryz.prog 23 #[.pointer (d.X i), .int .i64 pg] w fun e w' => e = .returned (.tuple #[.int .i64 (if L i = 1 then unF s (i + 1 : Nat) (d.R i) pg else 0), .int .i64 (lE (L i) (unE s (i + 1 : Nat) (d.R i) pg))]) ∧ Pw w0 d (k + 100) w' (lS (L i) s (unS s (i + 1 : Nat) (d.R i) pg)) L s' L' ∧ Kq w w' := by
  unfold lE lS
  by_cases hl : L i = 1
  · obtain ⟨a, e, hT⟩ := h.live hi hl
    rw [if_pos hl, if_pos hl, if_pos hl, e]
    refine (unmap_at hT h.wo hk pg).mono ?_
    rintro e w' ⟨rfl, hW, hC⟩
    exact ⟨rfl, h.stepO hC (hW.mono (show _ ≤ k + 100 by omega)) (by omega)⟩
  · rw [if_neg hl, if_neg hl, if_neg hl]
    refine (unmap_dead (h.dead hi hl h0) pg).mono ?_
    rintro e w' ⟨rfl, hB⟩
    exact ⟨rfl, (h.below hB).mono (by omega), .of_below hB⟩
theorem Pw.protectO (h : Pw w0 d k w s L s' L') (hk : k + 200 ≤ bnd) {i : Nat} (hi : i < 2) (h0 : L i ≠ 0) (pg r : Int) :
    Calls Tryz.prog 24 #[.pointer (d.X i), .int .i64 pg, .int .i64 r] w fun e w' => e = .returned (.int .i64 (lE (L i) (prE s (i + 1 : Nat) (d.R i) pg r))) ∧ Pw w0 d (k + 100) w' (lS (L i) s (prS s (i + 1 : Nat) (d.R i) pg r)) L s' L' ∧ Kq w w' := by
  unfold lE lS
  by_cases hl : L i = 1
  · obtain ⟨a, e, hT⟩ := h.live hi hl
    rw [if_pos hl, if_pos hl, e]
    refine (protect_at hT h.wo hk pg r).mono ?_
    rintro e w' ⟨rfl, hW, hC⟩
    exact ⟨rfl, h.stepO hC (hW.mono (show _ ≤ k + 100 by omega)) (by omega)⟩
  · rw [if_neg hl, if_neg hl]
    refine (protect_dead (h.dead hi hl h0) pg r).mono ?_
    rintro e w' ⟨rfl, rfl⟩
    exact ⟨rfl, h.mono (by omega), fun _ _ _ _ _ _ _ _ _ _ hq => hq⟩
end
end Go.Proofs.YtpfmmlbakbhklaaGreatDoor
namespace Go.Proofs.YtpfmmlbakbhklaaGreatDoor
open Go.RowKit
section
variable {u v : Si} {w w' : World} {s s' : Sm} {k k' t : Nat} {c : Array Value}
/-- The document's side stays where the program's is turned, and its tables. -/
theorem Wg.chTO (h : Wr v w s k) (hr : Wo u w s' k') (hne : u.wb ≠ v.wb) (hT : w.heap[t]? = some (.cells c 70 (0, 0))) (hC : ChT u t w w') (tab : O.Tab w') : Wr v w' s k := by
  obtain ⟨d, l, hm, hd⟩ := h.mem
  obtain ⟨cc, hh⟩ := h.pool.head
  obtain ⟨r, hb⟩ := h.pool.row
  obtain ⟨d', l', hm', -⟩ := hr.mem
  obtain ⟨r', hb'⟩ := hr.pool.row
  have ap : ∀ {q : Nat} {c' : Array Value} {T : TypeId}, w.heap[q]? = some (.cells c' T (0, 0)) → T ≠ 70 → q ≠ t := by
    intro q c' T hq hT' e
    rw [e, hT] at hq
    injection hq with hq
    injection hq with _ hq _
    exact hT' hq.symm
  have a1 := hr.apart hm.head (by decide) (by decide) (by decide)
  have a2 := hr.apart hh (by decide) (by decide) (by decide)
  have a3 := hr.apart hb (by decide) (by decide) (by decide)
  have hrow : w.heap[v.wb]? = _ := hm.row
  have b1 : v.wb ≠ u.mp := fun e => by
    rw [e, hm'.head] at hrow; injection hrow with hrow; injection hrow with _ hrow _; cases hrow
  have b3 : v.wb ≠ u.pb := fun e => by
    rw [e, hb'] at hrow; injection hrow with hrow; injection hrow with _ hrow _; cases hrow
  exact ⟨⟨d, l, hm.keep (hC.block _ h.lt.1.1 a1.1 a1.2.1 a1.2.2 (ap hm.head (by decide))) (hC.block _ h.lt.1.2 b1 hne.symm b3 (ap hrow (by decide))), hd⟩, h.pool.keep (hC.block _ h.lt.2.1 a2.1 a2.2.1 a2.2.2 (ap hh (by decide))) (hC.block _ h.lt.2.2 a3.1 a3.2.1 a3.2.2 (ap hb (by decide))), tab, h.u64, h.low, h.ne⟩
/-- The program's side stays where the document's is turned, and its tables. -/
theorem Wg.chTR (h : Wo u w s k) (hr : Wr v w s' k') (hne : u.wb ≠ v.wb) (hT : w.heap[t]? = some (.cells c 101 (0, 0))) (hC : ChT v t w w') (tab : O.Tab w') : Wo u w' s k := by
  obtain ⟨d, l, hm, hd⟩ := h.mem
  obtain ⟨cc, hh⟩ := h.pool.head
  obtain ⟨r, hb⟩ := h.pool.row
  obtain ⟨d', l', hm', -⟩ := hr.mem
  obtain ⟨r', hb'⟩ := hr.pool.row
  have ap : ∀ {q : Nat} {c' : Array Value} {T : TypeId}, w.heap[q]? = some (.cells c' T (0, 0)) → T ≠ 101 → q ≠ t := by
    intro q c' T hq hT' e
    rw [e, hT] at hq
    injection hq with hq
    injection hq with _ hq _
    exact hT' hq.symm
  have a1 := hr.apartR hm.head (by decide) (by decide) (by decide)
  have a2 := hr.apartR hh (by decide) (by decide) (by decide)
  have a3 := hr.apartR hb (by decide) (by decide) (by decide)
  have hrow : w.heap[u.wb]? = _ := hm.row
  have b1 : u.wb ≠ v.mp := fun e => by
    rw [e, hm'.head] at hrow; injection hrow with hrow; injection hrow with _ hrow _; cases hrow
  have b3 : u.wb ≠ v.pb := fun e => by
    rw [e, hb'] at hrow; injection hrow with hrow; injection hrow with _ hrow _; cases hrow
  exact ⟨⟨d, l, hm.keep (hC.block _ h.lt.1.1 a1.1 a1.2.1 a1.2.2 (ap hm.head (by decide))) (hC.block _ h.lt.1.2 b1 hne b3 (ap hrow (by decide))), hd⟩, h.pool.keep (hC.block _ h.lt.2.1 a2.1 a2.2.1 a2.2.2 (ap hh (by decide))) (hC.block _ h.lt.2.2 a3.1 a3.2.1 a3.2.2 (ap hb (by decide))), tab, h.u64, h.low, h.ne⟩
theorem Wg.keepTR (h : Wr v w s k) (hT : w.heap[t]? = some (.cells c 101 (0, 0))) (hC : ChT v t w w') {q : Nat} {c' : Array Value} {T : TypeId} (hq : w.heap[q]? = some (.cells c' T (0, 0))) (h1 : T ≠ 87) (h2 : T ≠ 67) (h3 : T ≠ 91) (h4 : T ≠ 101 ∨ q ≠ t) : w'.heap[q]? = some (.cells c' T (0, 0)) := by
  obtain ⟨a, b, e⟩ := h.apartR hq h1 h2 h3
  refine (hC.block q (lt_of_block hq) a b e ?_).trans hq
  rintro rfl
  rcases h4 with h4 | h4
  · rw [hT] at hq
    injection hq with hq
    injection hq with _ hq _
    exact h4 hq.symm
  · exact h4 rfl
theorem Wg.keepTO (h : Wo u w s k) (hT : w.heap[t]? = some (.cells c 70 (0, 0))) (hC : ChT u t w w') {q : Nat} {c' : Array Value} {T : TypeId} (hq : w.heap[q]? = some (.cells c' T (0, 0))) (h1 : T ≠ 124) (h2 : T ≠ 67) (h3 : T ≠ 64) (h4 : T ≠ 70 ∨ q ≠ t) : w'.heap[q]? = some (.cells c' T (0, 0)) := by
  obtain ⟨a, b, e⟩ := h.apart hq h1 h2 h3
  refine (hC.block q (lt_of_block hq) a b e ?_).trans hq
  rintro rfl
  rcases h4 with h4 | h4
  · rw [hT] at hq
    injection hq with hq
    injection hq with _ hq _
    exact h4 hq.symm
  · exact h4 rfl
theorem ChT.below {n : Nat} (h : ChT u t w w') (hn : n ≤ w.heap.size) (h1 : n ≤ u.mp) (h2 : n ≤ u.wb) (h3 : n ≤ u.pb) (h4 : n ≤ t) : Below n w w' :=
  ⟨h.os, h.tape, h.output, h.size, fun j hj => h.block j (by omega) (by omega) (by omega) (by omega) (by omega)⟩
end
def upL (L : Nat → Nat) (i : Nat) : Nat → Nat := fun j => if j = i then 2 else L j
section
variable {w0 w w' : World} {d : Pd} {k k' : Nat} {s s' s1 : Sm} {L L' : Nat → Nat}
theorem Pw.mapR (h : Pw w0 d k w s L s' L') (hP : PI d s' L') (hk : k + 200 ≤ bnd) {i : Nat} (hi : i < 2) (h0 : L' i = 1 ∨ L' i = 2) (pg f r : Int) :
    Calls Tryz.prog 41 #[.pointer (some ⟨d.B i, 0, none⟩), .int .i64 pg, .int .i64 f, .int .i64 r] w fun e w' => e = .returned (.int .i64 (lE (L' i) (putE s' (d.R i) pg 0 ⟨true, r, false, f⟩))) ∧ Pw w0 d (k + 100) w' s L (lS (L' i) s' (putT s' (i + 1 : Nat) (d.R i) pg 0 ⟨true, r, false, f⟩)) L' ∧ Kq w w' := by
  unfold lE lS
  obtain ⟨ty, hI, hr⟩ := hP
  rcases h0 with hl | hl
  · rw [if_pos hl, if_pos hl]
    refine (rmap_at hI (hr i hi hl) (by omega) (h.doc hi hl) h.wr hk pg f r).mono ?_
    rintro e w' ⟨rfl, hW, hC⟩
    exact ⟨rfl, h.stepR hC hW (by omega)⟩
  · rw [if_neg (by omega), if_neg (by omega)]
    refine (rmap_dr (h.docD hi hl) pg f r).mono ?_
    rintro e w' ⟨rfl, hB⟩
    exact ⟨rfl, (h.below hB).mono (by omega), .of_below hB⟩
theorem Pw.largeR (h : Pw w0 d k w s L s' L') (hP : PI d s' L') (hk : k + 200 ≤ bnd) {i : Nat} (hi : i < 2) (h0 : L' i = 1 ∨ L' i = 2) (pg f r : Int) :
    Calls Tryz.prog 42 #[.pointer (some ⟨d.B i, 0, none⟩), .int .i64 pg, .int .i64 f, .int .i64 r] w fun e w' => e = .returned (.int .i64 (lE (L' i) (putE s' (d.R i) pg 1 ⟨true, r, true, f⟩))) ∧ Pw w0 d (k + 100) w' s L (lS (L' i) s' (putT s' (i + 1 : Nat) (d.R i) pg 1 ⟨true, r, true, f⟩)) L' ∧ Kq w w' := by
  unfold lE lS
  obtain ⟨ty, hI, hr⟩ := hP
  rcases h0 with hl | hl
  · rw [if_pos hl, if_pos hl]
    refine (rlarge_at hI (hr i hi hl) (by omega) (h.doc hi hl) h.wr hk pg f r).mono ?_
    rintro e w' ⟨rfl, hW, hC⟩
    exact ⟨rfl, h.stepR hC hW (by omega)⟩
  · rw [if_neg (by omega), if_neg (by omega)]
    refine (rlarge_dr (h.docD hi hl) pg f r).mono ?_
    rintro e w' ⟨rfl, hB⟩
    exact ⟨rfl, (h.below hB).mono (by omega), .of_below hB⟩
theorem Pw.unmapR (h : Pw w0 d k w s L s' L') (hP : PI d s' L') (hk : k + 200 ≤ bnd) {i : Nat} (hi : i < 2) (h0 : L' i = 1 ∨ L' i = 2) (pg : Int) :
    Calls Tryz.prog 43 #[.pointer (some ⟨d.B i, 0, none⟩), .int .i64 pg] w fun e w' => e = .returned (.tuple #[.int .i64 (if L' i = 1 then unF s' (i + 1 : Nat) (d.R i) pg else 0), .int .i64 (lE (L' i) (unE s' (i + 1 : Nat) (d.R i) pg))]) ∧ Pw w0 d (k + 100) w' s L (lS (L' i) s' (unS s' (i + 1 : Nat) (d.R i) pg)) L' ∧ Kq w w' := by
  unfold lE lS
  obtain ⟨ty, hI, hr⟩ := hP
  rcases h0 with hl | hl
  · rw [if_pos hl, if_pos hl, if_pos hl]
    refine (runmap_at hI (hr i hi hl) (by omega) (h.doc hi hl) h.wr hk pg).mono ?_
    rintro e w' ⟨rfl, hW, hC⟩
    exact ⟨rfl, h.stepR hC hW (by omega)⟩
  · rw [if_neg (by omega), if_neg (by omega), if_neg (by omega)]
    refine (runmap_dr (h.docD hi hl) pg).mono ?_
    rintro e w' ⟨rfl, rfl⟩
    exact ⟨rfl, h.mono (by omega), fun _ _ _ _ _ _ _ _ _ _ hq => hq⟩
theorem Pw.protectR (h : Pw w0 d k w s L s' L') (hP : PI d s' L') (hk : k + 200 ≤ bnd) {i : Nat} (hi : i < 2) (h0 : L' i = 1 ∨ L' i = 2) (pg r : Int) :
    Calls Tryz.prog 44 #[.pointer (some ⟨d.B i, 0, none⟩), .int .i64 pg, .int .i64 r] w fun e w' => e = .returned (.int .i64 (lE (L' i) (prE s' (i + 1 : Nat) (d.R i) pg r))) ∧ Pw w0 d (k + 100) w' s L (lS (L' i) s' (prS s' (i + 1 : Nat) (d.R i) pg r)) L' ∧ Kq w w' := by
  unfold lE lS
  obtain ⟨ty, hI, hr⟩ := hP
  rcases h0 with hl | hl
  · rw [if_pos hl, if_pos hl]
    refine (rprotect_at hI (hr i hi hl) (by omega) (h.doc hi hl) h.wr hk pg r).mono ?_
    rintro e w' ⟨rfl, hW, hC⟩
    exact ⟨rfl, h.stepR hC hW (by omega)⟩
  · rw [if_neg (by omega), if_neg (by omega)]
    refine (rprotect_dr (h.docD hi hl) pg r).mono ?_
    rintro e w' ⟨rfl, rfl⟩
    exact ⟨rfl, h.mono (by omega), fun _ _ _ _ _ _ _ _ _ _ hq => hq⟩
/-! Drop -/
def lA (l : Nat) (A : List Int) : List Int := if l = 1 then A else []
theorem allL_5000 (xs : List Int) (root : Int) : (allL xs root).length ≤ 5000 := by
  rw [allL_len]
  have := gat_len xs root
  omega
theorem LiesI.nil (w : World) : LiesI w (.slice none 0 0) [] := ⟨by simp, none, 0, rfl, fun h => absurd rfl h⟩
theorem Pw.dropO (h : Pw w0 d k w s L s' L') {i : Nat} (hi : i < 2) (h0 : L i = 1 ∨ L i = 2) :
    Calls Tryz.prog 37 #[.pointer (d.X i)] w fun e w' => (∃ x n, e = .returned x ∧ w'.ownsRow n 3 1 x (lA (L i) (allL s.xs (d.R i))).length ((lA (L i) (allL s.xs (d.R i))).map (Value.int .i64))) ∧ Pw w0 d k w' (lS (L i) s ⟨s.xs, turnAll s.ds (allL s.xs (d.R i))⟩) (upL L i) s' L' ∧ Kq w w' := by
  unfold lA lS
  rcases h0 with hl | hl
  · obtain ⟨a, e, hT⟩ := h.live hi hl
    rw [if_pos hl, if_pos hl, e]
    refine (drop_at hT h.wo).mono ?_
    rintro x w' ⟨⟨x, rfl, hrow⟩, hW, hC, hc⟩
    refine ⟨⟨x, _, rfl, hrow⟩, ⟨h.wo.keepTO hT hC h.blk (by decide) (by decide) (by decide) (.inl (by decide)), hW, h.wr.chTO h.wo h.ne hT hC hW.tab, fun j hj => ?_, fun j hj hlj => h.wo.keepTO hT hC (h.us j hj hlj) (by decide) (by decide) (by decide) (.inl (by decide)), h.ne, h.nx, h.nb, h.lo,
      h.bel.trans (hC.below h.bel.size h.lo.1.1 h.lo.1.2.1 h.lo.1.2.2 (h.lo.2.2.1 i hi a e))⟩, fun _ _ _ h1 h2 h3 h4 _ _ _ hq => h.wo.keepTO hT hC hq h1 h2 h3 (.inl h4)⟩
    unfold upL
    by_cases hji : j = i
    · rw [if_pos hji, hji]
      exact .inr (.inr ⟨rfl, a, e, hc⟩)
    · rw [if_neg hji]
      exact (h.ts j hj).keep fun b c hb hbc => h.wo.keepTO hT hC hbc (by decide) (by decide) (by decide) (.inr fun eb => h.nx i j hi hj (fun e2 => hji e2.symm) a e (by rw [hb, eb]))
  · have hL : upL L i = L := by
      funext j
      unfold upL
      by_cases hji : j = i
      · rw [if_pos hji, hji, hl]
      · rw [if_neg hji]
    rw [if_neg (by omega), if_neg (by omega), hL]
    refine (drop_dead (h.dead hi (by omega) (by omega))).mono ?_
    rintro e w' ⟨rfl, rfl⟩
    exact ⟨⟨_, 0, rfl, World.ownsRow_nil _ _ _ _⟩, h, fun _ _ _ _ _ _ _ _ _ _ hq => hq⟩
theorem own_kq {n m : Nat} {v : Value} {xs : List Value} (h : w.ownsRow n 3 1 v m xs) (c : Kq w w') : w'.ownsRow n 3 1 v m xs := by
  refine ⟨h.1, ?_⟩
  rcases h.2 with h | ⟨g, cap, cur, hv, a, hb, e⟩
  · exact .inl h
  · exact .inr ⟨g, cap, cur, hv, a, c _ _ _ (by decide) (by decide) (by decide) (by decide) (by decide) (by decide) (by decide) hb, e⟩
theorem Pw.dropR (h : Pw w0 d k w s L s' L') (hP : PI d s' L') {i : Nat} (hi : i < 2) (h0 : L' i = 1 ∨ L' i = 2) :
    Calls Tryz.prog 45 #[.pointer (some ⟨d.B i, 0, none⟩)] w fun e w' => (∃ x, e = .returned x ∧ LiesI w' x (lA (L' i) (allL s'.xs (d.R i)))) ∧ Pw w0 d k w' s L (lS (L' i) s' ⟨s'.xs, turnAll s'.ds (allL s'.xs (d.R i))⟩) (upL L' i) ∧ Kq w w' := by
  unfold lA lS
  obtain ⟨ty, hI, hr⟩ := hP
  have fin : ∀ w' x s2, ChT d.v (d.B i) w w' → (∀ dr, L' i = (if dr = true then 2 else 1) → IsU d.v w (d.B i) (i + 1 : Nat) (d.R i) dr) → Wr d.v w' s2 k → IsU d.v w' (d.B i) (i + 1 : Nat) (d.R i) true → (x = x) → Pw w0 d k w' s L s2 (upL L' i) ∧ Kq w w' := fun w' (x : Nat) s2 hC hT hW hU _ => by
    have hT' : ∃ c, w.heap[d.B i]? = some (.cells c 101 (0, 0)) := by
      rcases h0 with hl | hl
      · exact ⟨_, hT false (by rw [hl]; rfl)⟩
      · exact ⟨_, hT true (by rw [hl]; rfl)⟩
    obtain ⟨c, hT'⟩ := hT'
    refine ⟨⟨h.wr.keepTR hT' hC h.blk (by decide) (by decide) (by decide) (.inl (by decide)), h.wo.chTR h.wr h.ne hT' hC hW.tab, hW, fun j hj => (h.ts j hj).keep fun _ _ _ hbc => h.wr.keepTR hT' hC hbc (by decide) (by decide) (by decide) (.inl (by decide)), fun j hj hlj => ?_, h.ne, h.nx, h.nb, h.lo,
      h.bel.trans (hC.below h.bel.size h.lo.2.1.1 h.lo.2.1.2.1 h.lo.2.1.2.2 (h.lo.2.2.2 i hi))⟩, fun _ _ _ _ h2 _ _ h5 h6 h7 hq => h.wr.keepTR hT' hC hq h5 h2 h6 (.inl h7)⟩
    by_cases hji : j = i
    · subst hji
      have : (upL L' j j == 2) = true := by unfold upL; rw [if_pos rfl]; rfl
      rw [this]
      exact hU
    · have e : upL L' i j = L' j := by unfold upL; rw [if_neg hji]
      rw [e] at hlj ⊢
      exact h.wr.keepTR hT' hC (h.us j hj hlj) (by decide) (by decide) (by decide) (.inr (h.nb j i hj hi hji))
  rcases h0 with hl | hl
  · rw [if_pos hl, if_pos hl]
    have hr' := hr i hi hl
    refine (rdrop_at (h.doc hi hl) h.wr (hI.und_ok 3 _ _ hr' rfl) (hI.all_cnt hr') (allL_5000 _ _)).mono ?_
    rintro e w' ⟨⟨x, rfl, hrow⟩, hW, hC, hU⟩
    refine ⟨⟨x, rfl, .of_own hrow (by have := allL_5000 s'.xs (d.R i); omega)⟩, fin w' 0 _ hC (fun dr e => ?_) hW hU rfl⟩
    cases dr
    · exact h.doc hi hl
    · exact absurd e (by rw [hl]; decide)
  · rw [if_neg (by omega), if_neg (by omega)]
    refine (rdrop_dr h.wr (h.docD hi hl)).mono ?_
    rintro e w' ⟨rfl, hW, hC, hU⟩
    refine ⟨⟨_, rfl, .nil _⟩, fin w' 0 _ hC (fun dr e => ?_) hW hU rfl⟩
    cases dr
    · exact absurd e (by rw [hl]; decide)
    · exact h.docD hi hl
/-! Query, All, Root -/
theorem Pw.queryO (h : Pw w0 d k w s L s' L') {i : Nat} (hi : i < 2) (h0 : L i = 1 ∨ L i = 2) (pg : Int) :
    Calls Tryz.prog 13 #[.pointer (d.X i), .int .i64 pg] w fun e w' => e = .returned (.tuple #[.int .i64 (if L i = 1 then qF s (d.R i) pg else 0), .int .i64 (if L i = 1 then qR s (d.R i) pg else 0), .int .i64 (lE (L i) (qE s (d.R i) pg))]) ∧ Below w.heap.size w w' := by
  unfold lE
  rcases h0 with hl | hl
  · obtain ⟨a, e, hT⟩ := h.live hi hl
    rw [if_pos hl, if_pos hl, if_pos hl, e]
    exact query_at hT h.wo pg
  · rw [if_neg (by omega), if_neg (by omega), if_neg (by omega)]
    exact query_dead (h.dead hi (by omega) (by omega)) pg
theorem Pw.queryR (h : Pw w0 d k w s L s' L') (hP : PI d s' L') {i : Nat} (hi : i < 2) (h0 : L' i = 1 ∨ L' i = 2) (pg : Int) :
    Calls Tryz.prog 14 #[.pointer (some ⟨d.B i, 0, none⟩), .int .i64 pg] w fun e w' => e = .returned (.tuple #[.int .i64 (if L' i = 1 then qF s' (d.R i) pg else 0), .int .i64 (if L' i = 1 then qR s' (d.R i) pg else 0), .int .i64 (lE (L' i) (qE s' (d.R i) pg))]) ∧ Below w.heap.size w w' := by
  unfold lE
  obtain ⟨ty, hI, hr⟩ := hP
  rcases h0 with hl | hl
  · rw [if_pos hl, if_pos hl, if_pos hl]
    exact rquery_at (h.doc hi hl) h.wr pg (fun hb => hI.way_ok (hr i hi hl) hb) (fun hb hp => hI.lv (hr i hi hl) hb hp)
  · rw [if_neg (by omega), if_neg (by omega), if_neg (by omega)]
    refine (rquery_dr (h.docD hi hl) pg).mono ?_
    rintro e w' ⟨rfl, rfl⟩
    exact ⟨rfl, Below.refl _ _⟩
theorem Pw.allO (h : Pw w0 d k w s L s' L') {i : Nat} (hi : i < 2) (h0 : L i = 1 ∨ L i = 2) :
    Calls Tryz.prog 16 #[.pointer (d.X i)] w fun e w' => (∃ x, e = .returned x ∧ LiesI w' x (lA (L i) (allL s.xs (d.R i)))) ∧ Below w.heap.size w w' := by
  unfold lA
  rcases h0 with hl | hl
  · obtain ⟨a, e, hT⟩ := h.live hi hl
    rw [if_pos hl, e]
    refine (all_at hT h.wo).mono ?_
    rintro e w' ⟨x, rfl, hrow, hB⟩
    exact ⟨⟨x, rfl, .of_own hrow (by have := allL_5000 s.xs (d.R i); omega)⟩, hB⟩
  · rw [if_neg (by omega)]
    refine (all_dead (h.dead hi (by omega) (by omega))).mono ?_
    rintro e w' ⟨rfl, rfl⟩
    exact ⟨⟨_, rfl, .nil _⟩, Below.refl _ _⟩
theorem Pw.allR (h : Pw w0 d k w s L s' L') (hP : PI d s' L') {i : Nat} (hi : i < 2) (h0 : L' i = 1 ∨ L' i = 2) :
    Calls Tryz.prog 17 #[.pointer (some ⟨d.B i, 0, none⟩)] w fun e w' => (∃ x, e = .returned x ∧ LiesI w' x (lA (L' i) (allL s'.xs (d.R i)))) ∧ Below w.heap.size w w' := by
  unfold lA
  obtain ⟨ty, hI, hr⟩ := hP
  rcases h0 with hl | hl
  · rw [if_pos hl]
    have hr' := hr i hi hl
    refine (rall_at (h.doc hi hl) h.wr (hI.und_ok 3 _ _ hr' rfl)).mono ?_
    rintro e w' ⟨x, rfl, hrow, hB⟩
    rw [hI.all_cnt hr'] at hrow
    exact ⟨⟨x, rfl, .of_own hrow (by have := allL_5000 s'.xs (d.R i); omega)⟩, hB⟩
  · rw [if_neg (by omega)]
    refine (rall_dr (h.docD hi hl)).mono ?_
    rintro e w' ⟨rfl, rfl⟩
    exact ⟨⟨_, rfl, .nil _⟩, Below.refl _ _⟩
theorem Pw.rootO (h : Pw w0 d k w s L s' L') {i : Nat} (hi : i < 2) (h0 : L i = 1 ∨ L i = 2) :
    Calls Tryz.prog 18 #[.pointer (d.X i)] w fun e w' => e = .returned (.int .i64 (if L i = 1 then d.R i else -1)) ∧ w' = w := by
  rcases h0 with hl | hl
  · obtain ⟨a, e, hT⟩ := h.live hi hl
    rw [if_pos hl, e]
    have := root_at hT
    rw [if_pos rfl] at this
    exact this
  · rw [if_neg (by omega)]
    exact root_dead (h.dead hi (by omega) (by omega))
theorem Pw.rootR (h : Pw w0 d k w s L s' L') {i : Nat} (hi : i < 2) (h0 : L' i = 1 ∨ L' i = 2) :
    Calls Tryz.prog 19 #[.pointer (some ⟨d.B i, 0, none⟩)] w fun e w' => e = .returned (.int .i64 (if L' i = 1 then d.R i else -1)) ∧ w' = w := by
  rcases h0 with hl | hl
  · rw [if_pos hl]
    exact rroot_at (h.doc hi hl)
  · rw [if_neg (by omega)]
    exact rroot_at (h.docD hi hl)
/-! The trees behind a call. -/
theorem PI.any (h : PI d s L) {o : Int} (ha : ∀ ty, Inv s ty (-1) → (∀ i, i < 2 → L i = 1 → ty (d.R i) = some ⟨(i + 1 : Nat), 3, 0⟩) → ∃ ty', Any o s ty s' ty') : PI d s' L := by
  obtain ⟨ty, hI, hr⟩ := h
  obtain ⟨ty', a⟩ := ha ty hI hr
  exact ⟨ty', a.inv, fun i hi hl => a.stp.root _ _ (hr i hi hl) rfl⟩
theorem PI.put (h : PI d s L) {i : Nat} (hi : i < 2) (pg f r : Int) {lo : Nat} {l : Bool} (hle : (lo = 0 ∧ l = false) ∨ (lo = 1 ∧ l = true)) : PI d (lS (L i) s (putT s (i + 1 : Nat) (d.R i) pg lo ⟨true, r, l, f⟩)) L := by
  unfold lS
  split
  · exact h.any (o := (i + 1 : Nat)) fun ty hI hr => hI.any_put (hr i hi ‹_›) (by omega) pg r f hle
  · exact h
theorem PI.un (h : PI d s L) {i : Nat} (hi : i < 2) (pg : Int) : PI d (lS (L i) s (unS s (i + 1 : Nat) (d.R i) pg)) L := by
  unfold lS
  split
  · exact h.any (o := (i + 1 : Nat)) fun ty hI hr => hI.any_un (hr i hi ‹_›) (by omega) pg
  · exact h
theorem PI.pr (h : PI d s L) {i : Nat} (hi : i < 2) (pg r : Int) : PI d (lS (L i) s (prS s (i + 1 : Nat) (d.R i) pg r)) L := by
  unfold lS
  split
  · exact h.any (o := (i + 1 : Nat)) fun ty hI hr => hI.any_pr (hr i hi ‹_›) (by omega) pg r
  · exact h
theorem PI.drop (h : PI d s L) {i : Nat} (hi : i < 2) : PI d (lS (L i) s ⟨s.xs, turnAll s.ds (allL s.xs (d.R i))⟩) (upL L i) := by
  unfold lS
  obtain ⟨ty, hI, hr⟩ := h
  split
  · rename_i hl
    refine ⟨_, (hI.drop (hr i hi hl)).1, fun j hj hlj => ?_⟩
    unfold upL at hlj
    split at hlj
    · omega
    · rename_i hji
      refine without_some.2 ⟨hr j hj hlj, fun e => hji ?_⟩
      simp only at e
      omega
  · refine ⟨ty, hI, fun j hj hlj => ?_⟩
    unfold upL at hlj
    split at hlj
    · omega
    · exact hr j hj hlj
end
end Go.Proofs.YtpfmmlbakbhklaaGreatDoor
namespace Go.Proofs.YtpfmmlbakbhklaaGreatDoor
open Go.RowKit
theorem words_whole (xs : List Int) (d l : Int) (h : 1 ≤ xs.length) : wordsV ⟨xs, d, l⟩ 0 xs.length = xs := by
  unfold wordsV allB cut
  rw [if_pos (by simp; omega)]
  simp
section
variable {w0 w w' : World} {d : Pd} {k : Nat} {s : Sm} {L : Nat → Nat}
set_option maxRecDepth 100000 in
set_option maxHeartbeats 4000000 in
theorem Pw.same (h : Pw w0 d k w s L s L) : Calls Tryz.prog 12 #[.pointer (some ⟨d.g, 0, none⟩)] w fun e w' => e = .returned (.bool true) ∧ Below w.heap.size w w' := by
  have HP := hid h
  obtain ⟨dd, l, hm, -⟩ := h.wo.mem
  obtain ⟨dd', l', hm', -⟩ := h.wr.mem
  have htop := hm.top
  have hds := h.wr.pool.top
  have HWO : Hid (∀ W, Below w.heap.size w W → Calls Tryz.prog 29 #[.pointer (some ⟨d.u.mp, 0, none⟩), .int .i64 0, .int .i64 s.xs.length] W fun e w' => ∃ v, e = .returned v ∧ Lies w' v s.xs ∧ Below W.heap.size W w') := fun W b => by
    have := words_any (s := ⟨s.xs, dd, l⟩) (hm.below b) 0 s.xs.length (by omega)
    rw [words_whole _ _ _ hm.pos] at this
    exact this
  have HLN : Hid (∀ W, Below w.heap.size w W → Calls Tryz.prog 30 #[.pointer (some ⟨d.u.mp, 0, none⟩)] W fun e w' => e = .returned (.int .i64 s.xs.length) ∧ w' = W) := fun W b => len_at (hm.below b)
  have HSM : Hid (∀ W x, Below w.heap.size w W → Lies W x s.xs → Calls Tryz.prog 28 #[x, .slice (some ⟨d.v.wb, 0, none⟩) s.xs.length s.xs.length] W fun e w' => e = .returned (.bool true) ∧ Below W.heap.size W w') := fun W x b hx => same_any hx ((hm'.below b).row.lies rfl htop)
  have HC0 : Hid (∀ W, Below w.heap.size w W → W.cell? ⟨d.v.mp, 0, none⟩ = some (.slice (some ⟨d.v.wb, 0, none⟩) s.xs.length s.xs.length)) := fun W b => (hm'.below b).cells.1
  have HCG : Hid (∀ W, Below w.heap.size w W → W.cell? ⟨d.g, 0, none⟩ = some (.pointer (some ⟨d.u.mp, 0, none⟩)) ∧ W.cell? ⟨d.g, 4, none⟩ = some (.pointer (some ⟨d.v.mp, 0, none⟩)) ∧ W.cell? ⟨d.g, 1, none⟩ = some (.pointer (some ⟨d.u.pp, 0, none⟩)) ∧ W.cell? ⟨d.g, 5, none⟩ = some (.pointer (some ⟨d.v.pp, 0, none⟩))) := fun W b => by
    have hb := P.stay b h.blk
    exact ⟨P.cell_of (i := 0) hb rfl, P.cell_of (i := 4) hb rfl, P.cell_of (i := 1) hb rfl, P.cell_of (i := 5) hb rfl⟩
  obtain ⟨cap, hcap⟩ := h.wr.pool.head
  have HCP : Hid (∀ W, Below w.heap.size w W → W.cell? ⟨d.v.pp, 0, none⟩ = some (.slice (some ⟨d.v.pb, 0, none⟩) s.ds.length cap)) := fun W b => P.cell_of (i := 0) (P.stay b hcap) rfl
  obtain ⟨r, hrow⟩ := h.wr.pool.row
  have HDS : Hid (∀ W, Below w.heap.size w W → ∀ i, i < s.ds.length → W.cell? ⟨d.v.pb, i * 4, none⟩ = some (.int .i64 (s.ds.getD i O.zd).k) ∧ W.cell? ⟨d.v.pb, i * 4 + 1, none⟩ = some (.int .i64 (s.ds.getD i O.zd).o) ∧ W.cell? ⟨d.v.pb, i * 4 + 2, none⟩ = some (.int .i64 (s.ds.getD i O.zd).r) ∧ W.cell? ⟨d.v.pb, i * 4 + 3, none⟩ = some (.int .i64 (s.ds.getD i O.zd).e)) := fun W b i hi => by
    obtain ⟨a0, a1, a2, a3⟩ := O.fl_at s.ds i hi
    have ap : ∀ j v, (O.fl s.ds)[j]? = some v → (⟨O.fl s.ds ++ r⟩ : Array Value)[j]? = some v := fun j v hj => by
      have hjl : j < (O.fl s.ds).length := (List.getElem?_eq_some_iff.1 hj).1
      rw [List.getElem?_toArray, List.getElem?_append_left hjl]
      exact hj
    have hb := P.stay b hrow
    exact ⟨P.cell_of hb (ap _ _ a0), P.cell_of hb (ap _ _ a1), P.cell_of hb (ap _ _ a2), P.cell_of hb (ap _ _ a3)⟩
  have HOF : Hid (∀ W, Below w.heap.size w W → ∀ i : Nat, i < s.ds.length → Calls Tryz.prog 33 #[.pointer (some ⟨d.u.pp, 0, none⟩), .int .i64 (i : Nat)] W fun x w' => x = .returned (.tuple #[O.dV (s.ds.getD i O.zd), .bool true]) ∧ Below W.heap.size W w') := fun W b i hi => O.of_in (h.wo.pool.below b) i hi
  generalize s.xs = xs at *
  obtain ⟨n, hn⟩ : ∃ n, xs.length = n := ⟨_, rfl⟩
  obtain ⟨N, hN⟩ : ∃ N, s.ds.length = N := ⟨_, rfl⟩
  rw [hn] at HWO HLN HSM HC0
  rw [hN] at HCP HDS HOF hds
  generalize s.ds = ds at *
  have HD : Hid (Below w.heap.size w w.drew) := (Below.refl _ _).drew
  obtain ⟨g0, g4, -⟩ := HCG.out _ HD.out
  have v0 := HC0.out _ HD.out
  have HS : Hid (∀ W, Below w.heap.size w W → (W.cell? ⟨d.g, 0, none⟩ = some (.pointer (some ⟨d.u.mp, 0, none⟩)) ∧ W.cell? ⟨d.g, 4, none⟩ = some (.pointer (some ⟨d.v.mp, 0, none⟩)) ∧ W.cell? ⟨d.v.mp, 0, none⟩ = some (.slice (some ⟨d.v.wb, 0, none⟩) n n))) := fun W b => ⟨(HCG.out _ b).1, (HCG.out _ b).2.1, HC0.out _ b⟩
  have H30 : Hid (∀ W, Hid (Below w.heap.size w W) → Calls Tryz.prog 30 #[.pointer (some ⟨d.u.mp, 0, none⟩)] W fun e w' => e = .returned (.int .i64 n) ∧ (w'.cell? ⟨d.g, 0, none⟩ = some (.pointer (some ⟨d.u.mp, 0, none⟩)) ∧ w'.cell? ⟨d.g, 4, none⟩ = some (.pointer (some ⟨d.v.mp, 0, none⟩)) ∧ w'.cell? ⟨d.v.mp, 0, none⟩ = some (.slice (some ⟨d.v.wb, 0, none⟩) n n)) ∧ Hid (Below w.heap.size w w')) := fun W b => by
    refine (HLN.out W b.out).mono ?_
    rintro e w' ⟨rfl, rfl⟩
    exact ⟨rfl, HS.out _ b.out, b⟩
  have H29 : Hid (∀ W, Hid (Below w.heap.size w W) → Calls Tryz.prog 29 #[.pointer (some ⟨d.u.mp, 0, none⟩), .int .i64 0, .int .i64 n] W fun e w' => ∃ x, e = .returned x ∧ (w'.cell? ⟨d.g, 0, none⟩ = some (.pointer (some ⟨d.u.mp, 0, none⟩)) ∧ w'.cell? ⟨d.g, 4, none⟩ = some (.pointer (some ⟨d.v.mp, 0, none⟩)) ∧ w'.cell? ⟨d.v.mp, 0, none⟩ = some (.slice (some ⟨d.v.wb, 0, none⟩) n n)) ∧ Hid (Below w.heap.size w w' ∧ Lies w' x xs)) := fun W b => by
    refine (HWO.out W b.out).mono ?_
    rintro e w' ⟨x, rfl, hL, hB⟩
    have := b.out.trans (hB.mono b.out.size)
    exact ⟨x, rfl, HS.out _ this, this, hL⟩
  have H28 : Hid (∀ W x, Hid (Below w.heap.size w W ∧ Lies W x xs) → Calls Tryz.prog 28 #[x, .slice (some ⟨d.v.wb, 0, none⟩) n n] W fun e w' => e = .returned (.bool true) ∧ (w'.cell? ⟨d.g, 0, none⟩ = some (.pointer (some ⟨d.u.mp, 0, none⟩)) ∧ w'.cell? ⟨d.g, 4, none⟩ = some (.pointer (some ⟨d.v.mp, 0, none⟩)) ∧ w'.cell? ⟨d.v.mp, 0, none⟩ = some (.slice (some ⟨d.v.wb, 0, none⟩) n n)) ∧ Hid (Below w.heap.size w w')) := fun W x b => by
    refine (HSM.out W x b.out.1 b.out.2).mono ?_
    rintro e w' ⟨rfl, hB⟩
    have := b.out.1.trans (hB.mono b.out.1.size)
    exact ⟨rfl, HS.out _ this, this⟩
  clear h hm hm' htop hcap hrow hn hN
  go_enter Tryz.func12, Tryz.ntmps12
  go_wp2
  go_region_held3 (fun w' => w'.cell? ⟨d.g, 0, none⟩ = some (.pointer (some ⟨d.u.mp, 0, none⟩)) ∧ w'.cell? ⟨d.g, 4, none⟩ = some (.pointer (some ⟨d.v.mp, 0, none⟩)) ∧ w'.cell? ⟨d.v.mp, 0, none⟩ = some (.slice (some ⟨d.v.wb, 0, none⟩) n n)) (first | exact ⟨g0, g4, v0⟩ | assumption)
    (first
      | (go_at_call 30; refine (H30.out _ (by assumption)).mono ?_; rintro e3 w3 ⟨rfl, hS3, HT3⟩)
      | (go_at_call 29; refine (H29.out _ (by assumption)).mono ?_; rintro e4 w4 ⟨x4, rfl, hS4, HT4⟩)
      | (go_at_call 28; refine (H28.out _ _ (by assumption)).mono ?_; rintro e5 w5 ⟨rfl, hS5, HT5⟩))
  all_goals
    clear hS3 hS4 hS5 g0 g4 v0
    go_wp2
    go_loopw [3] (fun p wr => ∃ i : Nat, p = .int .i64 i ∧ i ≤ N ∧ Below w.heap.size w wr) (fun p _ => N - (intOf p).toNat)
    case atStart => exact ⟨0, rfl, Nat.zero_le _, HT5.out⟩
    case round =>
      obtain ⟨i, rfl, hi, hB⟩ := hrel
      have HB := hid hB
      obtain ⟨-, -, g1, g5⟩ := HCG.out _ hB
      have p0 := HCP.out _ hB
      by_cases hlt : i < N
      · have hlt' : (i : Int) < (N : Int) := by omega
        have hi0 : (0 : Int) ≤ (i : Int) := by omega
        have HO := hid (HOF.out _ hB i hlt)
        have HX := hid (fun W b => HDS.out W b i hlt)
        have hwr : wrap64 ((i : Int) + 1) = ((i + 1 : Nat) : Int) := by unfold wrap64; omega
        generalize ds.getD i O.zd = q at *
        obtain ⟨qk, qo, qr, qe⟩ := q
        unfold O.dV at HO
        simp only at HO
        clear hB
        go_wp2_with fail
        refine HO.out.mono ?_
        rintro e w6 ⟨rfl, hB6⟩
        have hB7 := HB.out.trans (((hB6.alloc hB6.size (.cells #[.int .i64 qk, .int .i64 qo, .int .i64 qr, .int .i64 qe] 64))).mono HB.out.size)
        obtain ⟨-, -, -, h5⟩ := HCG.out _ hB7
        have h0 := HCP.out _ hB7
        obtain ⟨x0, x1, x2, x3⟩ := HX.out _ hB7
        obtain ⟨y0, y1, y2, y3⟩ := cells4V (heap_alloc_new w6 (.cells #[.int .i64 qk, .int .i64 qo, .int .i64 qr, .int .i64 qe] 64))
        have HB7 := hid hB7
        clear hB6 hB7 g1 g5 p0
        go_wp2
        go_quiet (fail)
        go_wp2
        have e1 : (i : Int) + 1 = ((i + 1 : Nat) : Int) := by omega
        rw [e1]
        exact ⟨⟨i + 1, rfl, by omega, below_drewN HB7.out _⟩, meas hlt⟩
      · obtain rfl : i = N := by omega
        clear hB
        go_wp2
        go_ret
        exact ⟨rfl, HB.out⟩
end
end Go.Proofs.YtpfmmlbakbhklaaGreatDoor
