/- The calls of epochs that were made since some world (Ow); and that the fixed calls of the statements' own check (known) come out true; nothing that lay before is changed. No conditions. -/
import Derived.Test.YthiicngnhnglfaaS7
namespace Go.Proofs.Ythiicngnhnglfaa
open Go.RowKit

/-- Epochs that were made since w0, B calls ago at most. -/
structure Ow (w0 w : World) (p b m B : Nat) (s : Ep) : Prop where
  ep : IsE w p b m s
  ok : Ok B s
  bel : Below w0.heap.size w0 w
  hp : w0.heap.size ≤ p
  hb : w0.heap.size ≤ b
  hm : w0.heap.size ≤ m
section
variable {w0 w w' : World} {p b m B : Nat} {s : Ep}
theorem Ow.below (h : Ow w0 w p b m B s) (k : Below w.heap.size w w') : Ow w0 w' p b m B s :=
  ⟨h.ep.below k, h.ok, h.bel.trans (k.mono h.bel.size), h.hp, h.hb, h.hm⟩
theorem Ow.alloc (h : Ow w0 w p b m B s) (o : Obj) : Ow w0 (w.alloc o) p b m B s := h.below (below_one w o)
theorem Ow.mono (h : Ow w0 w p b m B s) {B' : Nat} (k : B ≤ B') : Ow w0 w p b m B' s := ⟨h.ep, h.ok.mono k, h.bel, h.hp, h.hb, h.hm⟩
theorem Ow.step {s' : Ep} {B' : Nat} (h : Ow w0 w p b m B s) (k : Bt p b m w w') (hE : IsE w' p b m s') (hO : Ok B' s') : Ow w0 w' p b m B' s' :=
  ⟨hE, hO, h.bel.trans (k.below h.bel.size h.hp h.hb h.hm), h.hp, h.hb, h.hm⟩
theorem Ow.new (k : Nat) (hB : Below w0.heap.size w0 w) (h1 : 1 ≤ k) (h2 : k ≤ 8) :
    Calls Try.prog 8 #[.int .i64 k] w fun e w' => e = .returned (.tuple #[.pointer (some ⟨w.heap.size + 1 + 1, 0, none⟩), .int .i64 0]) ∧ Ow w0 w' (w.heap.size + 1 + 1) w.heap.size (w.heap.size + 1) 0 (ep0 k) ∧ Below w.heap.size w w' :=
  (new_yes k w h1 h2).mono fun _ _ ⟨a, b, c⟩ => ⟨a, ⟨b, Ok.new h1 h2, hB.trans (c.mono hB.size), by have := hB.size; omega, hB.size, by have := hB.size; omega⟩, c⟩
theorem Ow.pin (h : Ow w0 w p b m B s) (f e : Int) (s' : Ep) (hE : pinE s f = e) (hS : pinS s f = s') :
    Calls Try.prog 10 #[.pointer (some ⟨p, 0, none⟩), .int .i64 f] w fun x w' => x = .returned (.int .i64 e) ∧ Ow w0 w' p b m B s' ∧ Bt p b m w w' := by
  subst hE hS
  exact (pin_at h.ep h.ok f).mono fun x w' ⟨a, b, c⟩ => ⟨a, h.step c b (h.ok.pin f), c⟩
theorem Ow.unpin (h : Ow w0 w p b m B s) (f e : Int) (s' : Ep) (hE : unE s f = e) (hS : unS s f = s') :
    Calls Try.prog 12 #[.pointer (some ⟨p, 0, none⟩), .int .i64 f] w fun x w' => x = .returned (.int .i64 e) ∧ Ow w0 w' p b m B s' ∧ Bt p b m w w' := by
  subst hE hS
  exact (unpin_at h.ep h.ok f).mono fun x w' ⟨a, b, c⟩ => ⟨a, h.step c b (h.ok.un f), c⟩
theorem Ow.retire (h : Ow w0 w p b m B s) (hB : B ≤ 1000000) (f e : Int) (s' : Ep) (hf : f < 9223372036854775808) (hE : retE s f = e) (hS : retS s f = s') :
    Calls Try.prog 14 #[.pointer (some ⟨p, 0, none⟩), .int .i64 f] w fun x w' => x = .returned (.int .i64 e) ∧ Ow w0 w' p b m (B + 1) s' ∧ Bt p b m w w' := by
  subst hE hS
  exact (retire_at h.ep h.ok hB f hf).mono fun x w' ⟨a, b, c⟩ => ⟨a, h.step c b (h.ok.ret f hf), c⟩
theorem Ow.adv (h : Ow w0 w p b m B s) (hB : B ≤ 1000000) (x : Bool) (s' : Ep) (hE : advT s = x) (hS : advS s = s') :
    Calls Try.prog 16 #[.pointer (some ⟨p, 0, none⟩)] w fun e w' => e = .returned (.bool x) ∧ Ow w0 w' p b m (B + 1) s' ∧ Bt p b m w w' := by
  subst hE hS
  exact (advance_at h.ep h.ok hB).mono fun x w' ⟨a, b, c⟩ => ⟨a, h.step c b h.ok.adv, c⟩
theorem Ow.free (h : Ow w0 w p b m B s) (hB : B ≤ 1000000) (l : List Nat) (s' : Ep) (hL : frL s = l) (hS : frS s = s') :
    Calls Try.prog 19 #[.pointer (some ⟨p, 0, none⟩)] w fun e w' => ∃ v, e = .returned v ∧ Lies w' v l ∧ Ow w0 w' p b m B s' ∧ Bt p b m w w' := by
  subst hL hS
  exact (free_at h.ep h.ok hB).mono fun x w' ⟨v, a, r, b, c⟩ => ⟨v, a, Lies.of_owns r (Nat.le_trans (frL_len h.ok) hB), h.step c b h.ok.fr, c⟩
theorem Ow.waiting (h : Ow w0 w p b m B s) (hB : B ≤ 1000000) (l : List Nat) (hL : waL s = l) :
    Calls Try.prog 24 #[.pointer (some ⟨p, 0, none⟩)] w fun e w' => ∃ v, e = .returned v ∧ Lies w' v l ∧ Ow w0 w' p b m B s ∧ Below w.heap.size w w' := by
  subst hL
  exact (waiting_at h.ep h.ok hB).mono fun x w' ⟨v, a, r, b⟩ => ⟨v, a, Lies.of_owns r (Nat.le_trans (waL_len h.ok) hB), h.below b, b⟩
theorem Ow.pinned (h : Ow w0 w p b m B s) (f a : Int) (x : Bool) (hA : pnA s f = a) (hX : pnB s f = x) :
    Calls Try.prog 22 #[.pointer (some ⟨p, 0, none⟩), .int .i64 f] w fun e w' => e = .returned (.tuple #[.int .i64 a, .bool x]) ∧ Ow w0 w' p b m B s ∧ Below w.heap.size w w' := by
  subst hA hX
  exact (pinned_at h.ep h.ok f).mono fun e w' ⟨a, b⟩ => ⟨a, h.below b, b⟩
theorem Ow.now (h : Ow w0 w p b m B s) (n : Nat) (hn : s.n = n) :
    Calls Try.prog 23 #[.pointer (some ⟨p, 0, none⟩)] w fun e w' => e = .returned (.int .i64 (n : Nat)) ∧ w' = w := by
  subst hn
  exact now_at h.ep h.ok.pos
end

set_option maxRecDepth 100000 in
set_option maxHeartbeats 2000000 in
theorem known_yes (w : World) : Calls Try.prog 26 #[] w fun v w' => v = .returned (.bool true) ∧ Below w.heap.size w w' := by
  go_enter Try.func26, Try.ntmps26
  go_wp2_with fail
  refine (Ow.new (w0 := w) 2 (Below.refl _ _) (by decide) (by decide)).mono ?_
  rintro v w1 ⟨rfl, hO, -⟩
  have O1 := hid hO
  clear hO
  generalize w.heap.size + 1 + 1 = p at O1
  generalize w.heap.size + 1 = m at O1
  generalize w.heap.size = b at O1
  go_wp2_with fail
  refine (new_no 9 w1 (by decide)).mono ?_
  rintro v w2 ⟨rfl, rfl⟩
  go_wp2_with fail
  refine (O1.out.pin 0 0 ⟨0, [some 0, none], []⟩ (by rfl) (by rfl)).mono ?_
  rintro v w3 ⟨rfl, hO, -⟩
  have O2 := hid hO
  clear hO
  go_wp2_with fail
  refine (O2.out.pin 0 6 ⟨0, [some 0, none], []⟩ (by rfl) (by rfl)).mono ?_
  rintro v w4 ⟨rfl, hO, -⟩
  have O3 := hid hO
  clear hO
  go_wp2_with fail
  refine (O3.out.retire (by decide) 7 0 ⟨0, [some 0, none], [(7, 0)]⟩ (by decide) (by rfl) (by rfl)).mono ?_
  rintro v w5 ⟨rfl, hO, -⟩
  have O4 := hid hO
  clear hO
  go_wp2_with fail
  refine (O4.out.retire (by decide) 7 5 ⟨0, [some 0, none], [(7, 0)]⟩ (by decide) (by rfl) (by rfl)).mono ?_
  rintro v w6 ⟨rfl, hO, -⟩
  have O5 := hid hO
  clear hO
  go_wp2_with fail
  refine (O5.out.adv (by decide) true ⟨1, [some 0, none], [(7, 0)]⟩ (by rfl) (by rfl)).mono ?_
  rintro v w7 ⟨rfl, hO, -⟩
  have O6 := hid hO
  clear hO
  go_wp2_with fail
  refine (O6.out.adv (by decide) false ⟨1, [some 0, none], [(7, 0)]⟩ (by rfl) (by rfl)).mono ?_
  rintro v w8 ⟨rfl, hO, -⟩
  have O7 := hid hO
  clear hO
  go_wp2_with fail
  refine (O7.out.free (by decide) [] ⟨1, [some 0, none], [(7, 0)]⟩ (by rfl) (by rfl)).mono ?_
  rintro v w9 ⟨u, rfl, hl, hO, -⟩
  have O8 := hid hO
  obtain ⟨-, q, c, rfl, -⟩ := hl
  clear hO
  go_wp2_with fail
  refine (O8.out.pinned 0 0 true (by rfl) (by rfl)).mono ?_
  rintro v wa ⟨rfl, hO, -⟩
  have O9 := hid hO
  clear hO
  go_wp2_with fail
  refine (O9.out.unpin 0 0 ⟨1, [none, none], [(7, 0)]⟩ (by rfl) (by rfl)).mono ?_
  rintro v wb ⟨rfl, hO, -⟩
  have Oa := hid hO
  clear hO
  go_wp2_with fail
  refine (Oa.out.adv (by decide) true ⟨2, [none, none], [(7, 0)]⟩ (by rfl) (by rfl)).mono ?_
  rintro v wc ⟨rfl, hO, -⟩
  have Ob := hid hO
  clear hO
  go_wp2_with fail
  refine (Ob.out.free (by decide) [7] ⟨2, [none, none], []⟩ (by rfl) (by rfl)).mono ?_
  rintro v wd ⟨u, rfl, hl, hO, -⟩
  have hn1 := heap_alloc_new wd (.cells #[.int .i64 7] 3)
  have HL := hid (hl.below (below_one wd (.cells #[.int .i64 7] 3)))
  have HM : Hid (Lies (wd.alloc (.cells #[.int .i64 7] 3)) (.slice (some ⟨wd.heap.size, 0, none⟩) 1 1) [7]) := ⟨by decide, some ⟨wd.heap.size, 0, none⟩, 1, rfl, fun _ => ⟨wd.heap.size, 0, rfl, by simp, fun i hi => by
    obtain rfl : i = 0 := by simp at hi; exact hi
    exact cell_of hn1 rfl⟩⟩
  have Oc := hid (hO.alloc (.cells #[.int .i64 7] 3))
  clear hO hl hn1
  go_wp2_with fail
  refine (same_any HL.out HM.out).mono ?_
  rintro v we ⟨rfl, hB⟩
  have Od := hid (Oc.out.below hB)
  clear hB
  go_wp2_with fail
  refine (Od.out.waiting (by decide) [] (by rfl)).mono ?_
  rintro v wf ⟨u2, rfl, hl, hO, -⟩
  have Oe := hid hO
  obtain ⟨-, q2, c2, rfl, -⟩ := hl
  clear hO
  go_wp2_with fail
  refine (Oe.out.now 2 (by rfl)).mono ?_
  rintro v wg ⟨rfl, rfl⟩
  go_wp2_with fail
  refine (Oe.out.unpin 0 6 ⟨2, [none, none], []⟩ (by rfl) (by rfl)).mono ?_
  rintro v wh ⟨rfl, hO, -⟩
  have Of := hid hO
  clear hO
  go_wp2_with fail
  refine (Of.out.pin 2 2 ⟨2, [none, none], []⟩ (by rfl) (by rfl)).mono ?_
  rintro v wi ⟨rfl, hO, -⟩
  have Og := hid hO
  clear hO
  go_wp2
  go_ret
  exact ⟨rfl, Og.out.bel⟩
end Go.Proofs.Ythiicngnhnglfaa
