/- Both sides of EpochPlays apart, the program's epochs and the document's, with a call of a script in a block of its own: each call of one leaves the other one and the block as they were. No conditions beyond what Ok says. -/
import Derived.Test.YthiicngnhnglfaaY1
import Derived.Test.YthiicngnhnglfaaR5
namespace Go.Proofs.Ythiicngnhnglfaa
open Go.RowKit

/-- Epochs of the program's and of the document's, made since w0. -/
structure Tw (w0 w : World) (p b m q r : Nat) (s t : Ep) : Prop where
  ep : IsE w p b m s
  rf : IsR w q r t
  bel : Below w0.heap.size w0 w
  hp : w0.heap.size ≤ p
  hb : w0.heap.size ≤ b
  hm : w0.heap.size ≤ m
  hq : w0.heap.size ≤ q
  hr : w0.heap.size ≤ r
/-- .. and a call in the block z. -/
structure Tz (w0 : World) (p b m q r z : Nat) (o : Cl) (w : World) (s t : Ep) : Prop where
  tw : Tw w0 w p b m q r s t
  bx : w.heap[z]? = some (zC o)
section
variable {w0 w w' : World} {p b m q r z B : Nat} {o : Cl} {s t s' t' : Ep}
/-- A block of another kind is none of the document's two. -/
theorem rapart_of {c : Array Value} {u : TypeId} {g : Nat} (h : IsR w q r t) (hg : w.heap[g]? = some (.cells c u (0, 0))) (h1 : u ≠ 42) (h2 : u ≠ 3) : g ≠ q ∧ g ≠ r := by
  obtain ⟨c1, v, hc, _⟩ := h.head
  obtain ⟨d, hd⟩ := h.row
  refine ⟨fun e => ?_, fun e => ?_⟩
  · rw [← e, hg] at hc
    simp only [Option.some.injEq, Obj.cells.injEq] at hc
    exact h1 hc.2.1
  · rw [← e, hg] at hd
    simp only [Option.some.injEq, Obj.cells.injEq] at hd
    exact h2 hd.2.1
theorem rapart_map {es : Array MapEntry} {k g : Nat} (h : IsR w q r t) (hg : w.heap[g]? = some (.map es k)) : g ≠ q ∧ g ≠ r := by
  obtain ⟨c1, v, hc, _⟩ := h.head
  obtain ⟨d, hd⟩ := h.row
  refine ⟨fun e => ?_, fun e => ?_⟩
  · rw [← e, hg] at hc; simp at hc
  · rw [← e, hg] at hd; simp at hd
/-- The document's epochs stay, whatever the program's do. -/
theorem IsR.other (h : IsR w q r t) (e : IsE w p b m s) (k : Bt p b m w w') : IsR w' q r t := by
  obtain ⟨c1, v, hc, _⟩ := h.head
  obtain ⟨d, hd⟩ := h.row
  exact h.bt k (apart_of e hc (by decide) (by decide)) (apart_of e hd (by decide) (by decide)) (fun g c hg => apart_of e hg (by decide) (by decide))
/-- The program's epochs stay, whatever the document's do. -/
theorem IsE.other (h : IsE w p b m s) (e : IsR w q r t) (k : Bt q r r w w') : IsE w' p b m s := by
  obtain ⟨c, hc⟩ := h.head
  obtain ⟨d, hd⟩ := h.row
  obtain ⟨es, j, hm, _⟩ := h.map
  obtain ⟨a1, a2⟩ := rapart_of e hc (by decide) (by decide)
  obtain ⟨b1, b2⟩ := rapart_of e hd (by decide) (by decide)
  obtain ⟨c1, c2⟩ := rapart_map e hm
  exact h.keep (k.block _ (lt_of_block hc) a1 a2 a2) (k.block _ (lt_of_block hd) b1 b2 b2) (k.block _ (lt_of_block hm) c1 c2 c2)
theorem Tw.below (h : Tw w0 w p b m q r s t) (k : Below w.heap.size w w') : Tw w0 w' p b m q r s t :=
  ⟨h.ep.below k, h.rf.below k, h.bel.trans (k.mono h.bel.size), h.hp, h.hb, h.hm, h.hq, h.hr⟩
theorem Tw.left (h : Tw w0 w p b m q r s t) (hE : IsE w' p b m s') (k : Bt p b m w w') : Tw w0 w' p b m q r s' t :=
  ⟨hE, h.rf.other h.ep k, h.bel.trans (k.below h.bel.size h.hp h.hb h.hm), h.hp, h.hb, h.hm, h.hq, h.hr⟩
theorem Tw.right (h : Tw w0 w p b m q r s t) (hR : IsR w' q r t') (k : Bt q r r w w') : Tw w0 w' p b m q r s t' :=
  ⟨h.ep.other h.rf k, hR, h.bel.trans (k.below h.bel.size h.hq h.hr h.hr), h.hp, h.hb, h.hm, h.hq, h.hr⟩
theorem Tz.below (h : Tz w0 p b m q r z o w s t) (k : Below w.heap.size w w') : Tz w0 p b m q r z o w' s t := ⟨h.tw.below k, stay k h.bx⟩
theorem Tz.left (h : Tz w0 p b m q r z o w s t) (hE : IsE w' p b m s') (k : Bt p b m w w') : Tz w0 p b m q r z o w' s' t := by
  obtain ⟨a, b', c⟩ := apart_of h.tw.ep h.bx (by decide) (by decide)
  exact ⟨h.tw.left hE k, (k.block z (lt_of_block h.bx) a b' c).trans h.bx⟩
theorem Tz.right (h : Tz w0 p b m q r z o w s t) (hR : IsR w' q r t') (k : Bt q r r w w') : Tz w0 p b m q r z o w' s t' := by
  obtain ⟨a, c⟩ := rapart_of h.tw.rf h.bx (by decide) (by decide)
  exact ⟨h.tw.right hR k, (k.block z (lt_of_block h.bx) a c c).trans h.bx⟩
theorem Tw.box (h : Tw w0 w p b m q r s t) (o : Cl) : Tz w0 p b m q r w.heap.size o (w.alloc (zC o)) s t := ⟨h.below (below_one _ _), heap_alloc_new _ _⟩
theorem Tz.c0 (h : Tz w0 p b m q r z o w s t) : w.cell? ⟨z, 0, none⟩ = some (.int .i64 o.kd) := cell_of h.bx rfl
theorem Tz.c1 (h : Tz w0 p b m q r z o w s t) : w.cell? ⟨z, 1, none⟩ = some (.int .i64 o.c) := cell_of h.bx rfl
theorem Tz.c2 (h : Tz w0 p b m q r z o w s t) : w.cell? ⟨z, 2, none⟩ = some (.int .i64 o.f) := cell_of h.bx rfl

theorem Tz.pin (h : Tz w0 p b m q r z o w s t) (k : Ok B s) (f : Int) :
    Calls Try.prog 10 #[.pointer (some ⟨p, 0, none⟩), .int .i64 f] w fun v w' => v = .returned (.int .i64 (pinE s f)) ∧ Tz w0 p b m q r z o w' (pinS s f) t :=
  (pin_at h.tw.ep k f).mono fun _ _ ⟨a, e, c⟩ => ⟨a, h.left e c⟩
theorem Tz.rpin (h : Tz w0 p b m q r z o w s t) (k : Ok B t) (f : Int) :
    Calls Try.prog 11 #[.pointer (some ⟨q, 0, none⟩), .int .i64 f] w fun v w' => v = .returned (.int .i64 (pinE t f)) ∧ Tz w0 p b m q r z o w' s (pinS t f) :=
  (rpin_at h.tw.rf k f).mono fun _ _ ⟨a, e, c⟩ => ⟨a, h.right e c⟩
theorem Tz.un (h : Tz w0 p b m q r z o w s t) (k : Ok B s) (f : Int) :
    Calls Try.prog 12 #[.pointer (some ⟨p, 0, none⟩), .int .i64 f] w fun v w' => v = .returned (.int .i64 (unE s f)) ∧ Tz w0 p b m q r z o w' (unS s f) t :=
  (unpin_at h.tw.ep k f).mono fun _ _ ⟨a, e, c⟩ => ⟨a, h.left e c⟩
theorem Tz.run (h : Tz w0 p b m q r z o w s t) (k : Ok B t) (f : Int) :
    Calls Try.prog 13 #[.pointer (some ⟨q, 0, none⟩), .int .i64 f] w fun v w' => v = .returned (.int .i64 (unE t f)) ∧ Tz w0 p b m q r z o w' s (unS t f) :=
  (runpin_at h.tw.rf k f).mono fun _ _ ⟨a, e, c⟩ => ⟨a, h.right e c⟩
theorem Tz.ret (h : Tz w0 p b m q r z o w s t) (k : Ok B s) (hB : B ≤ 1000000) (f : Int) (hf : f < 9223372036854775808) :
    Calls Try.prog 14 #[.pointer (some ⟨p, 0, none⟩), .int .i64 f] w fun v w' => v = .returned (.int .i64 (retE s f)) ∧ Tz w0 p b m q r z o w' (retS s f) t :=
  (retire_at h.tw.ep k hB f hf).mono fun _ _ ⟨a, e, c⟩ => ⟨a, h.left e c⟩
theorem Tz.rret (h : Tz w0 p b m q r z o w s t) (k : Ok B t) (hB : B ≤ 1000000) (f : Int) (hf : f < 9223372036854775808) :
    Calls Try.prog 15 #[.pointer (some ⟨q, 0, none⟩), .int .i64 f] w fun v w' => v = .returned (.int .i64 (retE t f)) ∧ Tz w0 p b m q r z o w' s (retS t f) :=
  (rretire_at h.tw.rf k hB f hf).mono fun _ _ ⟨a, e, c⟩ => ⟨a, h.right e c⟩
theorem Tz.adv (h : Tz w0 p b m q r z o w s t) (k : Ok B s) (hB : B ≤ 1000000) :
    Calls Try.prog 16 #[.pointer (some ⟨p, 0, none⟩)] w fun v w' => v = .returned (.bool (advT s)) ∧ Tz w0 p b m q r z o w' (advS s) t :=
  (advance_at h.tw.ep k hB).mono fun _ _ ⟨a, e, c⟩ => ⟨a, h.left e c⟩
theorem Tz.radv (h : Tz w0 p b m q r z o w s t) (k : Ok B t) (hB : B ≤ 1000000) :
    Calls Try.prog 17 #[.pointer (some ⟨q, 0, none⟩)] w fun v w' => v = .returned (.bool (advT t)) ∧ Tz w0 p b m q r z o w' s (advS t) :=
  (radvance_at h.tw.rf k hB).mono fun _ _ ⟨a, e, c⟩ => ⟨a, h.right e c⟩
theorem Tz.free (h : Tz w0 p b m q r z o w s t) (k : Ok B s) (hB : B ≤ 1000000) :
    Calls Try.prog 19 #[.pointer (some ⟨p, 0, none⟩)] w fun v w' => ∃ u, v = .returned u ∧ Lies w' u (frL s) ∧ (∀ g, u.ownBlock = some g → g ≠ q ∧ g ≠ r ∧ g ≠ r) ∧ Tz w0 p b m q r z o w' (frS s) t := by
  have hl := h.tw.rf.lt
  refine (free_at h.tw.ep k hB).mono fun _ _ ⟨u, a, l, e, c⟩ => ⟨u, a, Lies.of_owns l (Nat.le_trans (frL_len k) hB), fun g hg => ?_, h.left e c⟩
  have := (l.lt g hg).1
  exact ⟨by omega, by omega, by omega⟩
theorem Tz.rfree (h : Tz w0 p b m q r z o w s t) (k : Ok B t) (hB : B ≤ 1000000) :
    Calls Try.prog 20 #[.pointer (some ⟨q, 0, none⟩)] w fun v w' => ∃ u, v = .returned u ∧ Lies w' u (frL t) ∧ Tz w0 p b m q r z o w' s (frS t) ∧ Bt q r r w w' :=
  (rfree_at h.tw.rf k hB).mono fun _ _ ⟨u, a, l, e, c⟩ => ⟨u, a, Lies.of_owns l (Nat.le_trans (frL_len k) hB), h.right e c, c⟩
theorem Tz.wait (h : Tz w0 p b m q r z o w s t) (k : Ok B s) (hB : B ≤ 1000000) :
    Calls Try.prog 24 #[.pointer (some ⟨p, 0, none⟩)] w fun v w' => ∃ u, v = .returned u ∧ Lies w' u (waL s) ∧ Below w.heap.size w w' :=
  (waiting_at h.tw.ep k hB).mono fun _ _ ⟨u, a, l, c⟩ => ⟨u, a, Lies.of_owns l (Nat.le_trans (waL_len k) hB), c⟩
theorem Tz.rwait (h : Tz w0 p b m q r z o w s t) (k : Ok B t) (hB : B ≤ 1000000) :
    Calls Try.prog 25 #[.pointer (some ⟨q, 0, none⟩)] w fun v w' => ∃ u, v = .returned u ∧ Lies w' u (waL t) ∧ Below w.heap.size w w' :=
  (rwaiting_at h.tw.rf k hB).mono fun _ _ ⟨u, a, l, c⟩ => ⟨u, a, Lies.of_owns l (Nat.le_trans (waL_len k) hB), c⟩
/-- A copy takes its place, while the elder one goes on. -/
structure Old (w0 w : World) (p b m p' b' m' : Nat) (s : Ep) : Prop where
  ep : IsE w p b m s
  hp : w0.heap.size ≤ p
  hb : w0.heap.size ≤ b
  hm : w0.heap.size ≤ m
  n1 : p' ≠ p ∧ p' ≠ b ∧ p' ≠ m
  n2 : b' ≠ p ∧ b' ≠ b ∧ b' ≠ m
  n3 : m' ≠ p ∧ m' ≠ b ∧ m' ≠ m
theorem Tz.copy (h : Tz w0 p b m q r z o w s t) (k : Ok B s) :
    Calls Try.prog 21 #[.pointer (some ⟨p, 0, none⟩)] w fun v w' => ∃ p' b' m', v = .returned (.pointer (some ⟨p', 0, none⟩)) ∧ Tz w0 p' b' m' q r z o w' s t ∧ Old w0 w' p b m p' b' m' s := by
  refine (copy_at h.tw.ep k).mono ?_
  rintro v w' ⟨p', b', m', a, hE, h1, h2, h3, hB⟩
  obtain ⟨l1, l2, l3⟩ := h.tw.ep.lt
  have hs := h.tw.bel.size
  have h' := h.below hB
  exact ⟨p', b', m', a, ⟨⟨hE, h'.tw.rf, h'.tw.bel, by omega, by omega, by omega, h.tw.hq, h.tw.hr⟩, h'.bx⟩, h'.tw.ep, h.tw.hp, h.tw.hb, h.tw.hm, ⟨by omega, by omega, by omega⟩, ⟨by omega, by omega, by omega⟩, ⟨by omega, by omega, by omega⟩⟩
theorem Tz.old {p' b' m' : Nat} {u u' : Ep} (h : Tz w0 p' b' m' q r z o w s t) (ho : Old w0 w p b m p' b' m' u) (hE : IsE w' p b m u') (k : Bt p b m w w') : Tz w0 p' b' m' q r z o w' s t ∧ Old w0 w' p b m p' b' m' u' := by
  obtain ⟨a1, a2, a3⟩ := apart_of ho.ep h.bx (by decide) (by decide)
  refine ⟨⟨⟨h.tw.ep.keep (k.block _ h.tw.ep.lt.1 ho.n1.1 ho.n1.2.1 ho.n1.2.2) (k.block _ h.tw.ep.lt.2.1 ho.n2.1 ho.n2.2.1 ho.n2.2.2) (k.block _ h.tw.ep.lt.2.2 ho.n3.1 ho.n3.2.1 ho.n3.2.2), h.tw.rf.other ho.ep k, h.tw.bel.trans (k.below h.tw.bel.size ho.hp ho.hb ho.hm), h.tw.hp, h.tw.hb, h.tw.hm, h.tw.hq, h.tw.hr⟩, (k.block z (lt_of_block h.bx) a1 a2 a3).trans h.bx⟩, hE, ho.hp, ho.hb, ho.hm, ho.n1, ho.n2, ho.n3⟩
end
end Go.Proofs.Ythiicngnhnglfaa
