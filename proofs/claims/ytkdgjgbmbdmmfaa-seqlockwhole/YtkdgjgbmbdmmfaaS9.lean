/- What a writer's Step returns and leaves, where its act has no error. Conditions: it is one that Write gave; the counts are below 2^62. -/
import Derived.Test.YtkdgjgbmbdmmfaaS3
import Derived.Test.YtkdgjgbmbdmmfaaS6
namespace Go.Proofs.Ytkdgjgbmbdmmfaa
open Go.RowKit

/-- All that was there is as it was, but for the blocks g, p and b. -/
structure But3 (g p b : Nat) (w w' : World) : Prop where
  os : w'.os = w.os
  tape : w'.tape = w.tape
  output : w'.output = w.output
  size : w.heap.size ≤ w'.heap.size
  block : ∀ k, k < w.heap.size → k ≠ g → k ≠ p → k ≠ b → w'.heap[k]? = w.heap[k]?
theorem But3.of_below {g p b : Nat} {w w' : World} (h : Below w.heap.size w w') : But3 g p b w w' := ⟨h.os, h.tape, h.output, h.size, fun k hk _ _ _ => h.block k hk⟩
theorem But3.of_but {g p b : Nat} {w w' : World} (h : But p b w w') : But3 g p b w w' := ⟨h.os, h.tape, h.output, h.size, fun k hk _ h1 h2 => h.block k hk h1 h2⟩
theorem But3.of_one {g p b : Nat} {w w' : World} (h : But g g w w') : But3 g p b w w' := ⟨h.os, h.tape, h.output, h.size, fun k hk h1 _ _ => h.block k hk h1 h1⟩
theorem But3.trans {g p b : Nat} {x y z : World} (h : But3 g p b x y) (k : But3 g p b y z) : But3 g p b x z :=
  ⟨k.os.trans h.os, k.tape.trans h.tape, k.output.trans h.output, Nat.le_trans h.size k.size, fun i hi a c d => (k.block i (Nat.lt_of_lt_of_le hi h.size) a c d).trans (h.block i hi a c d)⟩

/-- The state of words and of a writer. -/
structure Ws (w : World) (p b g : Nat) (s : St) (x : Wr) : Prop where
  mem : Mem 56 w p b s
  wr : IsWr w g x
  gp : g ≠ p
  gb : g ≠ b
theorem Ws.below {w w' : World} {p b g : Nat} {s : St} {x : Wr} (h : Ws w p b g s x) (k : Below w.heap.size w w') : Ws w' p b g s x := ⟨h.mem.below k, h.wr.below k, h.gp, h.gb⟩

theorem next_in {w : World} {p b g : Nat} {s : St} {x : Wr} (h : Ws w p b g s x) (ok : WOk x) {w' : World} (k : Below w.heap.size w w') :
    Calls Try.prog 18 #[.pointer (some ⟨g, 0, none⟩)] w' fun e w'' => e = .returned (acV (wNext x)) ∧ Hid (Below w.heap.size w w'') := by
  refine (wnext_at (h.wr.below k) ok).mono ?_
  rintro e w'' ⟨rfl, K⟩
  exact ⟨rfl, bel_trans k K⟩
/-- What stands behind the act of a step: the words have turned, the writer has not. -/
structure Mid (w : World) (p b g : Nat) (s : St) (x : Wr) (w' : World) : Prop where
  ws : Ws w' p b g s x
  but : But3 g p b w w'
theorem do_in {w : World} {p b g : Nat} {s : St} {x : Wr} {k : Nat} (h : Ws w p b g s x) (c : Cnt s k) (hk : k ≤ bnd) (he : (doR s (wNext x)).e = 0) {w' : World} (K : Hid (Below w.heap.size w w')) :
    Calls Try.prog 26 #[.pointer (some ⟨g, 0, none⟩), .pointer (some ⟨p, 0, none⟩), acV (wNext x)] w' fun e w'' => e = .returned (.tuple #[reV (doR s (wNext x)), .bool true]) ∧ Hid (Mid w p b g (doT s (wNext x)) x w'') := by
  refine (pDo_at (h.mem.below K.out) c hk _ (wNext x) he).mono ?_
  rintro e w'' ⟨rfl, T1, T2⟩
  exact ⟨rfl, ⟨T1, (h.wr.below K.out).keep (T2.block _ (h.wr.below K.out).lt h.gp h.gb), h.gp, h.gb⟩, (But3.of_below K.out).trans (But3.of_but T2)⟩
theorem Mid.alloc {w : World} {p b g : Nat} {s : St} {x : Wr} {w' : World} (h : Mid w p b g s x w') (o : Obj) : Mid w p b g s x (w'.alloc o) :=
  ⟨h.ws.below (below_alloc _ _), h.but.trans (But3.of_below (below_alloc _ _))⟩


abbrev z3 : Array Value := #[.int .u64 0, .bool false, .int .i64 0]
abbrev c3 (rv : Int) (ro : Bool) (re : Int) : Array Value := #[.int .u64 rv, .bool ro, .int .i64 re]
/-- A block that is new since w, with nothing laid in it yet. -/
def Q3 (w : World) (w' : World) (q : Nat) : Prop := w'.heap[q]? = some (.cells z3 66 (0, 0)) ∧ w.heap.size ≤ q
structure There3 (w : World) (r : Nat) : Prop where
  d0 : w.cell? ⟨r, 0, none⟩ = some (.int .u64 0)
  d1 : w.cell? ⟨r, 1, none⟩ = some (.bool false)
  d2 : w.cell? ⟨r, 2, none⟩ = some (.int .i64 0)
  f0 : w.frozen? ⟨r, 0, none⟩ = false
  f1 : w.frozen? ⟨r, 1, none⟩ = false
  f2 : w.frozen? ⟨r, 2, none⟩ = false
theorem Q3.there {w w' : World} {q : Nat} (h : Q3 w w' q) : There3 w' q := ⟨cell_of h.1 rfl, cell_of h.1 rfl, cell_of h.1 rfl, free_of h.1, free_of h.1, free_of h.1⟩
theorem Q3.new {w w' : World} (h : Below w.heap.size w w') : Q3 w (w'.alloc (.cells z3 66)) w'.heap.size := ⟨heap_alloc_new _ _, h.size⟩
theorem Q3.below {w w' w'' : World} {q : Nat} (h : Q3 w w' q) (k : Below w'.heap.size w' w'') : Q3 w w'' q := ⟨(k.block _ (lt_of_block h.1)).trans h.1, h.2⟩
theorem Q3.but {w w' w'' : World} {q p b : Nat} (h : Q3 w w' q) (k : But p b w' w'') (h1 : p < w.heap.size) (h2 : b < w.heap.size) : Q3 w w'' q := ⟨(k.block _ (lt_of_block h.1) (by have := h.2; omega) (by have := h.2; omega)).trans h.1, h.2⟩

theorem mid_alloc {w : World} {p b g : Nat} {s : St} {x : Wr} {w' : World} (h : Mid w p b g s x w') (rv : Int) (ro : Bool) (re : Int) :
    Mid w p b g s x (w'.alloc (.cells #[.int .u64 rv, .bool ro, .int .i64 re] 66)) ∧ (w'.alloc (.cells #[.int .u64 rv, .bool ro, .int .i64 re] 66)).heap[w'.heap.size]? = some (.cells #[.int .u64 rv, .bool ro, .int .i64 re] 66 (0, 0)) :=
  ⟨h.alloc _, heap_alloc_new _ _⟩
theorem But3.set {g p b : Nat} {w w' : World} (h : But3 g p b w w') (q i : Nat) (v : Value) (hq : w.heap.size ≤ q) : But3 g p b w (w'.setCell ⟨q, i, none⟩ v) :=
  ⟨h.os, h.tape, h.output, by have := h.size; simpa [World.setCell] using this, fun k hk h1 h2 h3 => (Below.heap_setCell _ _ _ _ (by simp; omega)).trans (h.block k hk h1 h2 h3)⟩
theorem Ws.set {w : World} {p b g : Nat} {s : St} {x : Wr} (h : Ws w p b g s x) (q i : Nat) (v : Value) (h1 : p ≠ q) (h2 : b ≠ q) (h3 : g ≠ q) : Ws (w.setCell ⟨q, i, none⟩ v) p b g s x :=
  ⟨h.mem.keep (Below.heap_setCell _ _ _ _ h1) (Below.heap_setCell _ _ _ _ h2), h.wr.keep (Below.heap_setCell _ _ _ _ h3), h.gp, h.gb⟩
theorem mid_put {w : World} {p b g q : Nat} {s s0 : St} {x x0 : Wr} {w' : World} (h0 : Ws w p b g s0 x0) (h : Mid w p b g s x w') (hq : Q3 w w' q) (rv : Int) (ro : Bool) (re : Int) :
    Mid w p b g s x (((w'.setCell ⟨q, 0, none⟩ (.int .u64 rv)).setCell ⟨q, 1, none⟩ (.bool ro)).setCell ⟨q, 2, none⟩ (.int .i64 re)) ∧ (((w'.setCell ⟨q, 0, none⟩ (.int .u64 rv)).setCell ⟨q, 1, none⟩ (.bool ro)).setCell ⟨q, 2, none⟩ (.int .i64 re)).heap[q]? = some (.cells #[.int .u64 rv, .bool ro, .int .i64 re] 66 (0, 0)) := by
  have l1 := h0.mem.lt
  have l2 := h0.wr.lt
  have l3 := hq.2
  exact ⟨⟨((h.ws.set q 0 _ (by omega) (by omega) (by omega)).set q 1 _ (by omega) (by omega) (by omega)).set q 2 _ (by omega) (by omega) (by omega), ((h.but.set q 0 _ l3).set q 1 _ l3).set q 2 _ l3⟩, put3 hq.1 _ _ _⟩

theorem step_end {w w' w'' : World} {p b g : Nat} {s : St} {x x' : Wr} (h : Mid w p b g s x w') (h1 : IsWr w'' g x') (h2 : But g g w' w'') : Ws w'' p b g s x' ∧ But3 g p b w w'' :=
  ⟨⟨h.ws.mem.but h2 h.ws.gp.symm h.ws.gp.symm h.ws.gb.symm h.ws.gb.symm, h1, h.ws.gp, h.ws.gb⟩, h.but.trans (But3.of_one h2)⟩
theorem next_inB {w : World} {p b g : Nat} {s : St} {x : Wr} (h : Ws w p b g s x) (ok : WOk x) {w' : World} (k : Below w.heap.size w w') :
    Calls Try.prog 18 #[.pointer (some ⟨g, 0, none⟩)] (w'.alloc (.cells z3 66)).drew fun e w'' => e = .returned (acV (wNext x)) ∧ Hid (Below w.heap.size w w'' ∧ Q3 w w'' w'.heap.size) := by
  have k2 := (k.alloc k.size (.cells z3 66)).drew
  refine (wnext_at (h.wr.below k2) ok).mono ?_
  rintro e w'' ⟨rfl, K⟩
  exact ⟨rfl, bel_trans k2 K, ((Q3.new k).below (Below.refl _ _).drew).below K⟩
theorem do_inC {w : World} {p b g q : Nat} {s : St} {x : Wr} {k : Nat} (h : Ws w p b g s x) (c : Cnt s k) (hk : k ≤ bnd) (he : (doR s (wNext x)).e = 0) {w' : World} (K : Hid (Below w.heap.size w w' ∧ Q3 w w' q)) :
    Calls Try.prog 26 #[.pointer (some ⟨g, 0, none⟩), .pointer (some ⟨p, 0, none⟩), acV (wNext x)] w' fun e w'' => e = .returned (.tuple #[reV (doR s (wNext x)), .bool true]) ∧ Hid (Mid w p b g (doT s (wNext x)) x w'') ∧ Hid (Q3 w w'' q) ∧ There3 w'' q := by
  refine (pDo_at (h.mem.below K.out.1) c hk _ (wNext x) he).mono ?_
  rintro e w'' ⟨rfl, T1, T2⟩
  have hq := K.out.2.but T2 h.mem.lt.1 h.mem.lt.2
  exact ⟨rfl, ⟨⟨T1, (h.wr.below K.out.1).keep (T2.block _ (h.wr.below K.out.1).lt h.gp h.gb), h.gp, h.gb⟩, (But3.of_below K.out.1).trans (But3.of_but T2)⟩, hq, hq.there⟩
theorem do_inB {w : World} {p b g : Nat} {s : St} {x : Wr} {k : Nat} (h : Ws w p b g s x) (c : Cnt s k) (hk : k ≤ bnd) (he : (doR s (wNext x)).e = 0) {w' : World} (K : Hid (Below w.heap.size w w')) :
    Calls Try.prog 26 #[.pointer (some ⟨g, 0, none⟩), .pointer (some ⟨p, 0, none⟩), acV (wNext x)] (w'.alloc (.cells z3 66)) fun e w'' => e = .returned (.tuple #[reV (doR s (wNext x)), .bool true]) ∧ Hid (Mid w p b g (doT s (wNext x)) x w'') ∧ Hid (Q3 w w'' w'.heap.size) ∧ There3 w'' w'.heap.size :=
  do_inC h c hk he (q := w'.heap.size) (hid ⟨K.out.alloc K.out.size _, Q3.new K.out⟩)

set_option maxRecDepth 100000 in
set_option maxHeartbeats 1000000 in
theorem wstep_go {w : World} {p b g : Nat} {s : St} {x : Wr} {k : Nat} (h : Ws w p b g s x) (ok : WOk x) (c : Cnt s k) (hk : k ≤ bnd) (hd : x.t ≠ x.e) (he : (doR s (wNext x)).e = 0) (hv0 : 0 ≤ (doR s (wNext x)).v) (hv1 : (doR s (wNext x)).v ≤ 18446744073709551615) :
    Calls Try.prog 13 #[.pointer (some ⟨g, 0, none⟩), .pointer (some ⟨p, 0, none⟩)] w fun e w' => e = .returned (.bool ((wGo x (doR s (wNext x))).t == (wGo x (doR s (wNext x))).e)) ∧ Ws w' p b g (doT s (wNext x)) (wGo x (doR s (wNext x))) ∧ But3 g p b w w' := by
  have HW := hid h
  have HO := hid ok
  have HN : Hid (∀ {w' : World}, Below w.heap.size w w' → Calls Try.prog 18 #[.pointer (some ⟨g, 0, none⟩)] w' fun e w'' => e = .returned (acV (wNext x)) ∧ Hid (Below w.heap.size w w'')) := hid (fun k => next_in h ok k)
  have HD : Hid (∀ {w' : World}, Hid (Below w.heap.size w w') → Calls Try.prog 26 #[.pointer (some ⟨g, 0, none⟩), .pointer (some ⟨p, 0, none⟩), acV (wNext x)] w' fun e w'' => e = .returned (.tuple #[reV (doR s (wNext x)), .bool true]) ∧ Hid (Mid w p b g (doT s (wNext x)) x w'')) := hid (fun K => do_in h c hk he K)
  have HNB : Hid (∀ {w' : World}, Below w.heap.size w w' → Calls Try.prog 18 #[.pointer (some ⟨g, 0, none⟩)] (w'.alloc (.cells z3 66)).drew fun e w'' => e = .returned (acV (wNext x)) ∧ Hid (Below w.heap.size w w'' ∧ Q3 w w'' w'.heap.size)) := hid (fun k => next_inB h ok k)
  have HDC : Hid (∀ {w' : World} {q : Nat}, Hid (Below w.heap.size w w' ∧ Q3 w w' q) → Calls Try.prog 26 #[.pointer (some ⟨g, 0, none⟩), .pointer (some ⟨p, 0, none⟩), acV (wNext x)] w' fun e w'' => e = .returned (.tuple #[reV (doR s (wNext x)), .bool true]) ∧ Hid (Mid w p b g (doT s (wNext x)) x w'') ∧ Hid (Q3 w w'' q) ∧ There3 w'' q) := hid (fun K => do_inC h c hk he K)
  have HDB : Hid (∀ {w' : World}, Hid (Below w.heap.size w w') → Calls Try.prog 26 #[.pointer (some ⟨g, 0, none⟩), .pointer (some ⟨p, 0, none⟩), acV (wNext x)] (w'.alloc (.cells z3 66)) fun e w'' => e = .returned (.tuple #[reV (doR s (wNext x)), .bool true]) ∧ Hid (Mid w p b g (doT s (wNext x)) x w'') ∧ Hid (Q3 w w'' w'.heap.size) ∧ There3 w'' w'.heap.size) := hid (fun K => do_inB h c hk he K)
  have hne : (x.e == 0) = false := beq_eq_false_iff_ne.2 (by have := ok.e; have := ok.n0; omega)
  have hnt : (x.t == x.e) = false := beq_eq_false_iff_ne.2 hd
  clear h ok c hk hd he
  generalize wNext x = a at HN HD HNB HDB HDC hv0 hv1 ⊢
  obtain ⟨ak, ad, aa, ab⟩ := a
  generalize doT s ⟨ak, ad, aa, ab⟩ = s' at HD HDB HDC ⊢
  generalize doR s ⟨ak, ad, aa, ab⟩ = r at HD HDB HDC hv0 hv1 ⊢
  obtain ⟨rv, ro, re⟩ := r
  simp only [] at hv0 hv1
  obtain ⟨x', hx'⟩ : ∃ x', wGo x ⟨rv, ro, re⟩ = x' := ⟨_, rfl⟩
  rw [hx']
  have HXe := hid hx'
  clear hx'
  go_enter Try.func13, Try.ntmps13
  go_wp2_with fail
  refine (pNone_at _ g x.e HW.out.wr.pc.c3).mono ?_
  rintro e1 w1 ⟨rfl, hw1⟩
  rw [hw1, hne]
  clear hw1 w1
  go_wp2_with fail
  refine (pDone_at _ g x.t x.e HW.out.wr.pc.c2 HW.out.wr.pc.c3).mono ?_
  rintro e2 w2 ⟨rfl, m2, hm2⟩
  rw [hnt]
  have hB2 : Below w.heap.size w w2 := by rw [hm2]; exact below_drewN (Below.refl _ _) m2
  clear hm2
  have hB3 := hB2.drew
  go_wp2_with fail
  go_region_held3 (fun _ => True) (trivial)
    (first
      | (go_at_call 18; refine (HN.out ?_).mono ?_; with_reducible exact hB3; rintro e3 w3 ⟨rfl, hK⟩)
      | (go_at_call 18; refine (HNB.out ?_).mono ?_; with_reducible exact hB2; rintro e3 w3 ⟨rfl, hK⟩)
      | (go_at_call 26; refine (HDC.out (q := w2.heap.size) ?_).mono ?_; with_reducible assumption; rintro e4 w4 ⟨rfl, hX, hQ, ⟨d0, d1, d2, f0, f1, f2⟩⟩)
      | (go_at_call 26; refine (HD.out ?_).mono ?_; with_reducible assumption; rintro e4 w4 ⟨rfl, hX⟩)
      | (go_at_call 26; refine (HDB.out ?_).mono ?_; with_reducible assumption; rintro e4 w4 ⟨rfl, hX, hQ, ⟨d0, d1, d2, f0, f1, f2⟩⟩))
  · obtain ⟨hM5, hg5⟩ := mid_alloc hX.out rv ro re
    have hlt5 := lt_of_block hg5
    generalize (w4.alloc (.cells #[.int .u64 rv, .bool ro, .int .i64 re] 66)) = w5 at hM5 hg5 hlt5 ⊢
    generalize w4.heap.size = q5 at hg5 hlt5 ⊢
    have HM5 := hid hM5
    have g0 := cell_of (i := 0) hg5 rfl
    have g1 := cell_of (i := 1) hg5 rfl
    have g2 := cell_of (i := 2) hg5 rfl
    clear hM5 hg5 hB2 hB3
    go_wp2_with fail
    refine (wgo_at HM5.out.ws.wr ⟨rv, ro, re⟩ HO.out.t0 (by have := HO.out.t1; have := HO.out.n1; omega) hv0 hv1).mono ?_
    rintro e6 w6 ⟨rfl, hW6, hB6⟩
    have HX6 := hid (step_end HM5.out hW6 hB6)
    clear hW6 hB6 g0 g1 g2
    rw [HXe.out] at HX6
    go_wp2_with fail
    refine (pDone_at _ g x'.t x'.e HX6.out.1.wr.pc.c2 HX6.out.1.wr.pc.c3).mono ?_
    rintro e7 w7 ⟨rfl, m7, hm7⟩
    have HX7 : Hid (Ws w7 p b g s' x' ∧ But3 g p b w w7) := by
      rw [hm7]
      exact ⟨HX6.out.1.below (below_drewN (Below.refl _ _) m7), HX6.out.2.trans (But3.of_below (below_drewN (Below.refl _ _) m7))⟩
    clear hm7
    go_wp2
    go_ret
    exact ⟨rfl, HX7.out⟩
  · obtain ⟨hM5, hg5⟩ := mid_put HW.out hX.out hQ.out rv ro re
    have hlt5 := lt_of_block hg5
    generalize (((w4.setCell ⟨w3.heap.size, 0, none⟩ (.int .u64 rv)).setCell ⟨w3.heap.size, 1, none⟩ (.bool ro)).setCell ⟨w3.heap.size, 2, none⟩ (.int .i64 re)) = w5 at hM5 hg5 hlt5 ⊢
    clear hK hQ d0 d1 d2 f0 f1 f2
    generalize w3.heap.size = q5 at hg5 hlt5 ⊢
    have HM5 := hid hM5
    have g0 := cell_of (i := 0) hg5 rfl
    have g1 := cell_of (i := 1) hg5 rfl
    have g2 := cell_of (i := 2) hg5 rfl
    clear hM5 hg5 hB2 hB3
    go_wp2_with fail
    refine (wgo_at HM5.out.ws.wr ⟨rv, ro, re⟩ HO.out.t0 (by have := HO.out.t1; have := HO.out.n1; omega) hv0 hv1).mono ?_
    rintro e6 w6 ⟨rfl, hW6, hB6⟩
    have HX6 := hid (step_end HM5.out hW6 hB6)
    clear hW6 hB6 g0 g1 g2
    rw [HXe.out] at HX6
    go_wp2_with fail
    refine (pDone_at _ g x'.t x'.e HX6.out.1.wr.pc.c2 HX6.out.1.wr.pc.c3).mono ?_
    rintro e7 w7 ⟨rfl, m7, hm7⟩
    have HX7 : Hid (Ws w7 p b g s' x' ∧ But3 g p b w w7) := by
      rw [hm7]
      exact ⟨HX6.out.1.below (below_drewN (Below.refl _ _) m7), HX6.out.2.trans (But3.of_below (below_drewN (Below.refl _ _) m7))⟩
    clear hm7
    go_wp2
    go_ret
    exact ⟨rfl, HX7.out⟩
  · obtain ⟨hM5, hg5⟩ := mid_put HW.out hX.out hQ.out rv ro re
    have hlt5 := lt_of_block hg5
    generalize (((w4.setCell ⟨w2.heap.size, 0, none⟩ (.int .u64 rv)).setCell ⟨w2.heap.size, 1, none⟩ (.bool ro)).setCell ⟨w2.heap.size, 2, none⟩ (.int .i64 re)) = w5 at hM5 hg5 hlt5 ⊢
    clear hK hQ d0 d1 d2 f0 f1 f2
    generalize w2.heap.size = q5 at hg5 hlt5 ⊢
    have HM5 := hid hM5
    have g0 := cell_of (i := 0) hg5 rfl
    have g1 := cell_of (i := 1) hg5 rfl
    have g2 := cell_of (i := 2) hg5 rfl
    clear hM5 hg5 hB2 hB3
    go_wp2_with fail
    refine (wgo_at HM5.out.ws.wr ⟨rv, ro, re⟩ HO.out.t0 (by have := HO.out.t1; have := HO.out.n1; omega) hv0 hv1).mono ?_
    rintro e6 w6 ⟨rfl, hW6, hB6⟩
    have HX6 := hid (step_end HM5.out hW6 hB6)
    clear hW6 hB6 g0 g1 g2
    rw [HXe.out] at HX6
    go_wp2_with fail
    refine (pDone_at _ g x'.t x'.e HX6.out.1.wr.pc.c2 HX6.out.1.wr.pc.c3).mono ?_
    rintro e7 w7 ⟨rfl, m7, hm7⟩
    have HX7 : Hid (Ws w7 p b g s' x' ∧ But3 g p b w w7) := by
      rw [hm7]
      exact ⟨HX6.out.1.below (below_drewN (Below.refl _ _) m7), HX6.out.2.trans (But3.of_below (below_drewN (Below.refl _ _) m7))⟩
    clear hm7
    go_wp2
    go_ret
    exact ⟨rfl, HX7.out⟩

set_option maxRecDepth 100000 in
set_option maxHeartbeats 400000 in
theorem wstep_done {w : World} {p b g : Nat} {s : St} {x : Wr} (h : Ws w p b g s x) (ok : WOk x) (hd : x.t = x.e) :
    Calls Try.prog 13 #[.pointer (some ⟨g, 0, none⟩), .pointer (some ⟨p, 0, none⟩)] w fun e w' => e = .returned (.bool true) ∧ Ws w' p b g s x ∧ But3 g p b w w' := by
  have HW := hid h
  have hne : (x.e == 0) = false := beq_eq_false_iff_ne.2 (by have := ok.e; have := ok.n0; omega)
  have hnt : (x.t == x.e) = true := by simp [hd]
  clear h ok hd
  go_enter Try.func13, Try.ntmps13
  go_wp2_with fail
  refine (pNone_at _ g x.e HW.out.wr.pc.c3).mono ?_
  rintro e1 w1 ⟨rfl, hw1⟩
  rw [hw1, hne]
  clear hw1 w1
  go_wp2_with fail
  refine (pDone_at _ g x.t x.e HW.out.wr.pc.c2 HW.out.wr.pc.c3).mono ?_
  rintro e2 w2 ⟨rfl, m2, hm2⟩
  rw [hnt]
  have HB : Hid (Below w.heap.size w w2) := by rw [hm2]; exact below_drewN (Below.refl _ _) m2
  clear hm2
  go_wp2
  go_ret
  exact ⟨rfl, HW.out.below HB.out, But3.of_below HB.out⟩
end Go.Proofs.Ytkdgjgbmbdmmfaa
