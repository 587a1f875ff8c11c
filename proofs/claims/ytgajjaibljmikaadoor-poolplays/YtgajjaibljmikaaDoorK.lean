/- The pool's calls over a pool that was made since some world (Ow); and that the fixed calls of the statements' own check (known) come out true; nothing that lay before is changed. Condition: the table of rules lies in its variable. -/
import Derived.Test.YtgajjaibljmikaaDoorS7
import Derived.Test.YtgajjaibljmikaaDoorS8
import Derived.Test.YtgajjaibljmikaaDoorS9
namespace Go.Proofs.YtgajjaibljmikaaDoor
open Go.RowKit

/-- A pool that was made since w0. -/
structure Ow (w0 w : World) (p b : Nat) (L : List Ds) : Prop where
  pool : PP w p b L
  tab : Tab w
  bel : Below w0.heap.size w0 w
  hp : w0.heap.size ≤ p
  hb : w0.heap.size ≤ b
  pos : 0 < w0.heap.size
section
variable {w0 w w' : World} {p b : Nat} {L : List Ds}
theorem Ow.below (h : Ow w0 w p b L) (k : Below w.heap.size w w') : Ow w0 w' p b L :=
  ⟨h.pool.below k, h.tab.go k, h.bel.trans (k.mono h.bel.size), h.hp, h.hb, h.pos⟩
theorem Ow.alloc (h : Ow w0 w p b L) (o : Obj) : Ow w0 (w.alloc o) p b L := h.below (below_one w o)
theorem Ow.step {L' : List Ds} (h : Ow w0 w p b L) (k : Bt b w w') (hP : PP w' p b L') : Ow w0 w' p b L' :=
  ⟨hP, k.tab h.tab (by have := h.pos; have := h.hb; omega), h.bel.trans (k.below h.bel.size h.hb), h.hp, h.hb, h.pos⟩
theorem Ow.new {n : Nat} (hT : Tab w) (hB : Below w0.heap.size w0 w) (hp0 : 0 < w0.heap.size) (h1 : 1 ≤ n) (h2 : n ≤ 4096) :
    Calls Tryd.prog 10 #[.int .i64 n] w fun e w' => e = .returned (.tuple #[.pointer (some ⟨w.heap.size + 1, 0, none⟩), .int .i64 0]) ∧ Ow w0 w' (w.heap.size + 1) w.heap.size (List.replicate n zd) ∧ Below w.heap.size w w' :=
  (new_yes n w h1 h2).mono fun e w' ⟨a, b, c⟩ => ⟨a, ⟨b, hT.go c, hB.trans (c.mono hB.size), by have := hB.size; omega, hB.size, hp0⟩, c⟩
theorem Ow.take (h : Ow w0 w p b L) (k o f e : Int) (L' : List Ds) (hF : kF L k o = f) (hE : kE L k o = e) (hL : kL L k o = L') :
    Calls Tryd.prog 12 #[.pointer (some ⟨p, 0, none⟩), .int .i64 k, .int .i64 o] w fun x w' => x = .returned (.tuple #[.int .i64 f, .int .i64 e]) ∧ Ow w0 w' p b L' ∧ Bt b w w' := by
  subst hF hE hL
  exact (take_at h.pool k o h.tab).mono fun x w' ⟨a, b, c⟩ => ⟨a, h.step c b, c⟩
theorem Ow.turn (h : Ow w0 w p b L) (f k o e : Int) (L' : List Ds) (hE : tE L f k o = e) (hL : tL L f k o = L') :
    Calls Tryd.prog 16 #[.pointer (some ⟨p, 0, none⟩), .int .i64 f, .int .i64 k, .int .i64 o] w fun x w' => x = .returned (.int .i64 e) ∧ Ow w0 w' p b L' ∧ Bt b w w' := by
  subst hE hL
  exact (turn_at h.pool f k o h.tab).mono fun x w' ⟨a, b, c⟩ => ⟨a, h.step c b, c⟩
theorem Ow.give (h : Ow w0 w p b L) (f e : Int) (L' : List Ds) (hE : tE L f 0 0 = e) (hL : tL L f 0 0 = L') :
    Calls Tryd.prog 14 #[.pointer (some ⟨p, 0, none⟩), .int .i64 f] w fun x w' => x = .returned (.int .i64 e) ∧ Ow w0 w' p b L' ∧ Bt b w w' := by
  subst hE hL
  exact (give_at h.pool f h.tab).mono fun x w' ⟨a, b, c⟩ => ⟨a, h.step c b, c⟩
theorem Ow.ref (h : Ow w0 w p b L) (f y e : Int) (L' : List Ds) (hE : gE L f y = e) (hL : gL L f y = L') :
    Calls Tryd.prog 18 #[.pointer (some ⟨p, 0, none⟩), .int .i64 f, .int .i64 y] w fun x w' => x = .returned (.int .i64 e) ∧ Ow w0 w' p b L' ∧ Bt b w w' := by
  subst hE hL
  exact (pref_at h.pool f y h.tab).mono fun x w' ⟨a, b, c⟩ => ⟨a, h.step c b, c⟩
theorem Ow.count (h : Ow w0 w p b L) (k : Int) (c : Nat) (hc : cK L k = c) :
    Calls Tryd.prog 23 #[.pointer (some ⟨p, 0, none⟩), .int .i64 k] w fun x w' => x = .returned (.int .i64 (c : Nat)) ∧ Ow w0 w' p b L ∧ Below w.heap.size w w' := by
  subst hc
  exact (count_at h.pool k).mono fun x w' ⟨a, b⟩ => ⟨a, h.below b, b⟩
theorem oL_len (h : Ow w0 w p b L) (o : Int) : (oL L o).length ≤ 65536 := Nat.le_trans (wh_len _ _) (Nat.le_trans h.pool.top (by decide))
theorem Ow.owned (h : Ow w0 w p b L) (o : Int) (l : List Nat) (hl : oL L o = l) :
    Calls Tryd.prog 26 #[.pointer (some ⟨p, 0, none⟩), .int .i64 o] w fun x w' => ∃ v, x = .returned v ∧ Lies w' v l ∧ Ow w0 w' p b L ∧ Below w.heap.size w w' := by
  subst hl
  exact (owned_at h.pool o).mono fun _ _ ⟨v, a, r, b⟩ => ⟨v, a, Lies.of_owns r (oL_len h o), h.below b, b⟩
theorem Ow.len (h : Ow w0 w p b L) (n : Nat) (hn : L.length = n) :
    Calls Tryd.prog 28 #[.pointer (some ⟨p, 0, none⟩)] w fun x w' => x = .returned (.int .i64 (n : Nat)) ∧ w' = w := by
  subst hn
  exact len_at h.pool
theorem Ow.of (h : Ow w0 w p b L) (i : Nat) (hi : i < L.length) (d : Ds) (hd : L.getD i zd = d) :
    Calls Tryd.prog 21 #[.pointer (some ⟨p, 0, none⟩), .int .i64 i] w fun x w' => x = .returned (.tuple #[.agg #[.int .i64 d.k, .int .i64 d.o, .int .i64 d.r, .int .i64 d.e], .bool true]) ∧ Ow w0 w' p b L ∧ Below w.heap.size w w' := by
  subst hd
  exact (of_in h.pool i hi).mono fun x w' ⟨a, b⟩ => ⟨a, h.below b, b⟩
theorem Ow.of_out (h : Ow w0 w p b L) (f : Int) (hf : ¬ (0 ≤ f ∧ f < L.length)) :
    Calls Tryd.prog 21 #[.pointer (some ⟨p, 0, none⟩), .int .i64 f] w fun x w' => x = .returned (.tuple #[.agg #[.int .i64 0, .int .i64 0, .int .i64 0, .int .i64 0], .bool false]) ∧ Ow w0 w' p b L ∧ Below w.heap.size w w' :=
  (Go.Proofs.YtgajjaibljmikaaDoor.of_out h.pool f hf).mono fun _ _ ⟨a, b⟩ => ⟨a, h.below b, b⟩
end

set_option maxRecDepth 100000 in
set_option maxHeartbeats 2000000 in
theorem known_yes (w : World) (hT : Tab w) : Calls Tryd.prog 9 #[] w fun v w' => v = .returned (.bool true) ∧ Below w.heap.size w w' := by
  have HT := hid hT
  have HP := hid hT.pos
  clear hT
  go_enter Tryd.func9, Tryd.ntmps9
  go_wp2_with fail
  refine (Ow.new (n := 2) HT.out (Below.refl _ _) HP.out (by decide) (by decide)).mono ?_
  rintro v w1 ⟨rfl, hO, -⟩
  have O1 := hid hO
  clear hO
  go_wp2_with fail
  refine (new_no 0 w1 (by decide)).mono ?_
  rintro v w2 ⟨rfl, rfl⟩
  go_wp2_with fail
  refine (O1.out.take 4 1 0 0 [⟨4, 1, 0, 0⟩, zd] (by rfl) (by rfl) (by rfl)).mono ?_
  rintro v w3 ⟨rfl, hO, -⟩
  have O2 := hid hO
  clear hO
  go_wp2_with fail
  refine (O2.out.take 3 1 1 0 [⟨4, 1, 0, 0⟩, ⟨3, 1, 0, 0⟩] (by rfl) (by rfl) (by rfl)).mono ?_
  rintro v w4 ⟨rfl, hO, -⟩
  have O3 := hid hO
  clear hO
  go_wp2_with fail
  refine (O3.out.take 4 1 0 12 [⟨4, 1, 0, 0⟩, ⟨3, 1, 0, 0⟩] (by rfl) (by rfl) (by rfl)).mono ?_
  rintro v w5 ⟨rfl, hO, -⟩
  have O4 := hid hO
  clear hO
  go_wp2_with fail
  refine (O4.out.ref 0 1 0 [⟨4, 1, 1, 0⟩, ⟨3, 1, 0, 0⟩] (by rfl) (by rfl)).mono ?_
  rintro v w6 ⟨rfl, hO, -⟩
  have O5 := hid hO
  clear hO
  go_wp2_with fail
  refine (O5.out.give 0 9 [⟨4, 1, 1, 0⟩, ⟨3, 1, 0, 0⟩] (by rfl) (by rfl)).mono ?_
  rintro v w7 ⟨rfl, hO, -⟩
  have O6 := hid hO
  clear hO
  go_wp2_with fail
  refine (O6.out.ref 0 (-1) 0 [⟨4, 1, 0, 0⟩, ⟨3, 1, 0, 0⟩] (by rfl) (by rfl)).mono ?_
  rintro v w8 ⟨rfl, hO, -⟩
  have O7 := hid hO
  clear hO
  go_wp2_with fail
  refine (O7.out.give 0 0 [zd, ⟨3, 1, 0, 0⟩] (by rfl) (by rfl)).mono ?_
  rintro v w9 ⟨rfl, hO, -⟩
  have O8 := hid hO
  clear hO
  go_wp2_with fail
  refine (O8.out.of 1 (by decide) ⟨3, 1, 0, 0⟩ (by rfl)).mono ?_
  rintro v wa ⟨rfl, hO, -⟩
  have O9 := hid (hO.alloc (.cells #[.int .i64 3, .int .i64 1, .int .i64 0, .int .i64 0] 40))
  clear hO
  (try simp only [])
  go_wp2_with fail
  refine (O9.out.count 0 1 (by rfl)).mono ?_
  rintro v wb ⟨rfl, hO, -⟩
  have Oa := hid hO
  clear hO
  go_wp2_with fail
  refine (Oa.out.owned 1 [1] (by rfl)).mono ?_
  rintro v wc ⟨u, rfl, hl, hO, -⟩
  have hn1 := heap_alloc_new wc (.cells #[.int .i64 1] 3)
  have HL := hid (hl.below (below_one wc (.cells #[.int .i64 1] 3)))
  have HM : Hid (Lies (wc.alloc (.cells #[.int .i64 1] 3)) (.slice (some ⟨wc.heap.size, 0, none⟩) 1 1) [1]) := ⟨by decide, some ⟨wc.heap.size, 0, none⟩, 1, rfl, fun _ => ⟨wc.heap.size, 0, rfl, by simp, fun i hi => by
    obtain rfl : i = 0 := by simp at hi; exact hi
    exact cell_of hn1 rfl⟩⟩
  have Ob := hid (hO.alloc (.cells #[.int .i64 1] 3))
  clear hO hl hn1
  go_wp2_with fail
  refine (same_any HL.out HM.out).mono ?_
  rintro v wd ⟨rfl, hB⟩
  have Oc := hid (Ob.out.below hB)
  clear hB
  go_wp2_with fail
  refine (Oc.out.len 2 (by rfl)).mono ?_
  rintro v we ⟨rfl, rfl⟩
  go_wp2_with fail
  refine (Oc.out.turn 2 0 0 2 [zd, ⟨3, 1, 0, 0⟩] (by rfl) (by rfl)).mono ?_
  rintro v wf ⟨rfl, hO, -⟩
  have Od := hid hO
  clear hO
  go_wp2
  go_ret
  exact ⟨rfl, Od.out.bel⟩
end Go.Proofs.YtgajjaibljmikaaDoor
