/- What comes behind the load of a slot's turn, and what goOn leaves. Conditions: it is one that Push or Pop gave. -/
import Derived.Test.YtfnfbceblpaggaaS3
namespace Go.Proofs.Ytfnfbceblpaggaa
open Go.RowKit

/-- The cells that the turn behind the load of a slot's turn hangs on. -/
abbrev TS (w : World) (g : Nat) (o : Value) (ps : Int) (w' : World) : Prop :=
  (w'.cell? ⟨g, 2, none⟩ = some o ∧ w'.cell? ⟨g, 4, none⟩ = some (.int .u64 ps)) ∧ Below w.heap.size w w'
theorem TS.lift {w : World} {g : Nat} {ps : Int} {o : Value} (hlt : g < w.heap.size) {w' : World} (h : TS w g o ps w') {k : Nat} {xs : Array Value} {r : Value}
    (C : Calls Try.prog k xs w' fun e w'' => e = .returned r ∧ Below w'.heap.size w' w'') :
    Calls Try.prog k xs w' fun e w'' => e = .returned r ∧ TS w g o ps w'' := by
  obtain ⟨⟨h0, h1⟩, h5⟩ := h
  refine C.mono ?_
  rintro e w'' ⟨rfl, K⟩
  have hs := h5.size
  have hg : g < w'.heap.size := by omega
  exact ⟨rfl, ⟨(K.cell (p := ⟨g, 2, none⟩) hg).trans h0, (K.cell (p := ⟨g, 4, none⟩) hg).trans h1⟩, bel_trans h5 K⟩

/-- The difference of two turns, as a number with a sign. -/
def difA (r o : Int) : Int := IntKind.i64.wrap (IntKind.u64.wrap (r - o))
/-- The turn behind the load of a slot's turn. -/
def bhT (d : Int) : Int := if d = 0 then 2 else if d < 0 then 5 else 0
def opensV (pv : Option Int) (ps : Int) : Int := match pv with | some _ => ps | none => add64 ps 1

set_option maxRecDepth 100000 in
set_option maxHeartbeats 600000 in
theorem bt_P {t : TypeId} {w : World} {g : Nat} {ad sz v tn ps mv : Int} {wh : Bool} (h : IsPr t w g ⟨ad, sz, some v, tn, ps, mv, wh⟩) (r k : Int) (hk : bhT (difA r (ps)) = k) :
    Calls Try.prog 53 #[.pointer (some ⟨g, 0, none⟩), .int .u64 r] w fun e w' => e = .returned (.int .i64 k) ∧ Below w.heap.size w w' := by
  have hS0 : TS w g (.iface 81 (.agg #[.int .u64 v])) ps w.drew := ⟨⟨h.pc.c2, h.pc.c4⟩, (Below.refl _ _).drew⟩
  have hlt := h.lt
  have HC : Hid (∀ {w' : World}, TS w g (.iface 81 (.agg #[.int .u64 v])) ps w' → Calls Try.prog 80 #[.agg #[.int .u64 v], .int .u64 ps] w' fun e w'' => e = .returned (.int .u64 (ps)) ∧ TS w g (.iface 81 (.agg #[.int .u64 v])) ps w'') := hid (fun h' => TS.lift hlt h' (opensP_at _ v ps))
  obtain ⟨dd, hd⟩ : ∃ dd, difA r (ps) = dd := ⟨_, rfl⟩
  rw [hd] at hk
  have HK := hid hk
  have HD := hid hd
  clear h hk hd
  go_enter Try.func53, Try.ntmps53
  go_wp2_with fail
  go_region_held3 (fun w' => (w'.cell? ⟨g, 2, none⟩ = some (.iface 81 (.agg #[.int .u64 v])) ∧ w'.cell? ⟨g, 4, none⟩ = some (.int .u64 ps)) ∧ Below w.heap.size w w') (first | with_reducible exact hS0 | with_reducible assumption)
    (first
      | (go_at_call 80; refine (HC.out (by assumption)).mono ?_; rintro e3 w3 ⟨rfl, hw'⟩))
  have HB := hid hw'.2
  clear hw' hS0 HC
  rw [show IntKind.i64.wrap (IntKind.u64.wrap (r - ps)) = dd from HD.out]
  by_cases h0 : dd = 0
  · have e0 : (dd == 0) = true := by simp [h0]
    have q : k = 2 := by rw [← HK.out, h0]; rfl
    go_wp2
    go_ret
    exact ⟨by first | rfl | (rw [q]; rfl), HB.out⟩
  · have e0 : (dd == 0) = false := by simp [h0]
    by_cases h1 : dd < 0
    · have q : k = 5 := by rw [← HK.out]; simp [bhT, h0, h1]
      go_wp2
      go_ret
      exact ⟨by first | rfl | (rw [q]; rfl), HB.out⟩
    · have q : k = 0 := by rw [← HK.out]; simp [bhT, h0, h1]
      go_wp2
      go_ret
      exact ⟨by first | rfl | (rw [q]; rfl), HB.out⟩
set_option maxRecDepth 100000 in
set_option maxHeartbeats 600000 in
theorem bt_G {t : TypeId} {w : World} {g : Nat} {ad sz tn ps mv : Int} {wh : Bool} (h : IsPr t w g ⟨ad, sz, none, tn, ps, mv, wh⟩) (r k : Int) (hk : bhT (difA r (add64 ps 1)) = k) :
    Calls Try.prog 53 #[.pointer (some ⟨g, 0, none⟩), .int .u64 r] w fun e w' => e = .returned (.int .i64 k) ∧ Below w.heap.size w w' := by
  have hS0 : TS w g (.iface 89 (.agg #[])) ps w.drew := ⟨⟨h.pc.c2, h.pc.c4⟩, (Below.refl _ _).drew⟩
  have hlt := h.lt
  have HC : Hid (∀ {w' : World}, TS w g (.iface 89 (.agg #[])) ps w' → Calls Try.prog 84 #[.agg #[], .int .u64 ps] w' fun e w'' => e = .returned (.int .u64 (add64 ps 1)) ∧ TS w g (.iface 89 (.agg #[])) ps w'') := hid (fun h' => TS.lift hlt h' (opensG_at _ ps))
  obtain ⟨dd, hd⟩ : ∃ dd, difA r (add64 ps 1) = dd := ⟨_, rfl⟩
  rw [hd] at hk
  have HK := hid hk
  have HD := hid hd
  clear h hk hd
  generalize add64 ps 1 = oo at HC HD
  go_enter Try.func53, Try.ntmps53
  go_wp2_with fail
  go_region_held3 (fun w' => (w'.cell? ⟨g, 2, none⟩ = some (.iface 89 (.agg #[])) ∧ w'.cell? ⟨g, 4, none⟩ = some (.int .u64 ps)) ∧ Below w.heap.size w w') (first | with_reducible exact hS0 | with_reducible assumption)
    (first
      | (go_at_call 84; refine (HC.out (by assumption)).mono ?_; rintro e3 w3 ⟨rfl, hw'⟩))
  have HB := hid hw'.2
  clear hw' hS0 HC
  rw [show IntKind.i64.wrap (IntKind.u64.wrap (r - oo)) = dd from HD.out]
  by_cases h0 : dd = 0
  · have e0 : (dd == 0) = true := by simp [h0]
    have q : k = 2 := by rw [← HK.out, h0]; rfl
    go_wp2
    go_ret
    exact ⟨by first | rfl | (rw [q]; rfl), HB.out⟩
  · have e0 : (dd == 0) = false := by simp [h0]
    by_cases h1 : dd < 0
    · have q : k = 5 := by rw [← HK.out]; simp [bhT, h0, h1]
      go_wp2
      go_ret
      exact ⟨by first | rfl | (rw [q]; rfl), HB.out⟩
    · have q : k = 0 := by rw [← HK.out]; simp [bhT, h0, h1]
      go_wp2
      go_ret
      exact ⟨by first | rfl | (rw [q]; rfl), HB.out⟩
theorem bt_at {t : TypeId} {w : World} {g : Nat} {x : Pr} (h : IsPr t w g x) (r k : Int) (hk : bhT (difA r (opensV x.pv x.ps)) = k) :
    Calls Try.prog 53 #[.pointer (some ⟨g, 0, none⟩), .int .u64 r] w fun e w' => e = .returned (.int .i64 k) ∧ Below w.heap.size w w' := by
  obtain ⟨ad, sz, pv, tn, ps, mv, wh⟩ := x
  cases pv with
  | some v => exact bt_P h r k hk
  | none => exact bt_G h r k hk

theorem go_frame {t : TypeId} {w : World} {g : Nat} {x : Pr} (h : IsPr t w g x) (r : Re) :
    IsPr t (w.alloc (.cells (reC r) 105)) g x ∧ (w.alloc (.cells (reC r) 105)).heap[w.heap.size]? = some (.cells (reC r) 105 (0, 0)) ∧ But g g w (w.alloc (.cells (reC r) 105)) :=
  ⟨h.below (below_alloc _ _), heap_alloc_new _ _, But.of_below (below_alloc _ _)⟩

set_option maxRecDepth 100000 in
set_option maxHeartbeats 600000 in
theorem go_err {t : TypeId} {w : World} {g : Nat} {x : Pr} (h : IsPr t w g x) (r : Re) (he : (r.e == 0) = false) :
    Calls Try.prog 46 #[.pointer (some ⟨g, 0, none⟩), reV r] w fun e w' => e = .returned (.tuple #[]) ∧ IsPr t w' g { x with tn := 5 } ∧ But g g w w' := by
  obtain ⟨h1, h2, h3⟩ := go_frame h r
  have H1 := hid h1
  have H3 := hid h3
  obtain ⟨c0, c1, c2, c3, c4, c5, c6⟩ := h.pc
  have f3 := h.free 3
  have f4 := h.free 4
  have f5 := h.free 5
  have f6 := h.free 6
  have HH := hid h
  have hlt := h.lt
  have hlt1 := h1.lt
  have d0 := cell_of (i := 0) h2 rfl
  have d1 := cell_of (i := 1) h2 rfl
  have d2 := cell_of (i := 2) h2 rfl
  obtain ⟨rv, ro, re⟩ := r
  obtain ⟨ad, sz, pv, tn, ps, mv, wh⟩ := x
  simp only [] at *
  clear h h1 h2 h3 c0 c1 c2
  have hb : (re != 0) = true := by simpa using he
  have hne : g ≠ w.heap.size := by omega
  go_enter Try.func46, Try.ntmps46
  go_wp2_with fail
  go_wp2
  first | go_end0 | (refine bodyPost_ret (results_none rfl _ _ _) rfl ?_)
  exact ⟨rfl, (HH.out.setT 5).below (below_alloc _ _), (but_set g 3 _ _).trans (But.of_below (below_alloc _ _))⟩
set_option maxRecDepth 100000 in
set_option maxHeartbeats 600000 in
theorem go_0 {t : TypeId} {w : World} {g : Nat} {x : Pr} (h : IsPr t w g x) (r : Re) (he : r.e = 0) (hz : x.tn = 0) :
    Calls Try.prog 46 #[.pointer (some ⟨g, 0, none⟩), reV r] w fun e w' => e = .returned (.tuple #[]) ∧ IsPr t w' g { x with ps := r.v, tn := 1 } ∧ But g g w w' := by
  obtain ⟨h1, h2, h3⟩ := go_frame h r
  have H1 := hid h1
  have H3 := hid h3
  obtain ⟨c0, c1, c2, c3, c4, c5, c6⟩ := h.pc
  have f3 := h.free 3
  have f4 := h.free 4
  have f5 := h.free 5
  have f6 := h.free 6
  have HH := hid h
  have hlt := h.lt
  have hlt1 := h1.lt
  have d0 := cell_of (i := 0) h2 rfl
  have d1 := cell_of (i := 1) h2 rfl
  have d2 := cell_of (i := 2) h2 rfl
  obtain ⟨rv, ro, re⟩ := r
  obtain ⟨ad, sz, pv, tn, ps, mv, wh⟩ := x
  simp only [] at *
  clear h h1 h2 h3 c0 c1 c2
  subst he
  subst hz
  have hne : g ≠ w.heap.size := by omega
  go_enter Try.func46, Try.ntmps46
  go_wp2_with fail
  go_wp2
  first | go_end0 | (refine bodyPost_ret (results_none rfl _ _ _) rfl ?_)
  exact ⟨rfl, ((HH.out.setP rv).setT 1).below (below_alloc _ _), ((but_set g 4 _ _).trans (but_set g 3 _ _)).trans (But.of_below (below_alloc _ _))⟩
set_option maxRecDepth 100000 in
set_option maxHeartbeats 600000 in
theorem go_1 {t : TypeId} {w : World} {g : Nat} {x : Pr} (h : IsPr t w g x) (r : Re) (he : r.e = 0) (hz : x.tn = 1) :
    Calls Try.prog 46 #[.pointer (some ⟨g, 0, none⟩), reV r] w fun e w' => e = .returned (.tuple #[]) ∧ IsPr t w' g { x with tn := bhT (difA r.v (opensV x.pv x.ps)) } ∧ But g g w w' := by
  obtain ⟨h1, h2, h3⟩ := go_frame h r
  have H1 := hid h1
  have H3 := hid h3
  obtain ⟨c0, c1, c2, c3, c4, c5, c6⟩ := h.pc
  have f3 := h.free 3
  have f4 := h.free 4
  have f5 := h.free 5
  have f6 := h.free 6
  have HH := hid h
  have hlt := h.lt
  have hlt1 := h1.lt
  have d0 := cell_of (i := 0) h2 rfl
  have d1 := cell_of (i := 1) h2 rfl
  have d2 := cell_of (i := 2) h2 rfl
  obtain ⟨rv, ro, re⟩ := r
  obtain ⟨ad, sz, pv, tn, ps, mv, wh⟩ := x
  simp only [] at *
  clear h h1 h2 h3 c0 c1 c2
  subst he
  subst hz
  obtain ⟨k, hk⟩ : ∃ k, bhT (difA rv (opensV pv ps)) = k := ⟨_, rfl⟩
  rw [hk]
  have HK := hid hk
  clear hk
  have hne : g ≠ w.heap.size := by omega
  go_enter Try.func46, Try.ntmps46
  go_wp2_with fail
  refine (bt_at H1.out rv k HK.out).mono ?_
  rintro e2 w2 ⟨rfl, K2⟩
  have h2 := H1.out.below K2
  have hB := H3.out.trans (But.of_below K2)
  obtain ⟨c0, c1, c2, c3, c4, c5, c6⟩ := h2.pc
  have f3 := h2.free 3
  have HH2 := hid h2
  have HB2 := hid hB
  clear h2 hB K2
  go_wp2
  first | go_end0 | (refine bodyPost_ret (results_none rfl _ _ _) rfl ?_)
  exact ⟨rfl, HH2.out.setT k, HB2.out.trans (but_set g 3 _ _)⟩
set_option maxRecDepth 100000 in
set_option maxHeartbeats 600000 in
theorem go_2y {t : TypeId} {w : World} {g : Nat} {x : Pr} (h : IsPr t w g x) (r : Re) (he : r.e = 0) (hz : x.tn = 2) (ho : r.ok = true) :
    Calls Try.prog 46 #[.pointer (some ⟨g, 0, none⟩), reV r] w fun e w' => e = .returned (.tuple #[]) ∧ IsPr t w' g { x with tn := 3 } ∧ But g g w w' := by
  obtain ⟨h1, h2, h3⟩ := go_frame h r
  have H1 := hid h1
  have H3 := hid h3
  obtain ⟨c0, c1, c2, c3, c4, c5, c6⟩ := h.pc
  have f3 := h.free 3
  have f4 := h.free 4
  have f5 := h.free 5
  have f6 := h.free 6
  have HH := hid h
  have hlt := h.lt
  have hlt1 := h1.lt
  have d0 := cell_of (i := 0) h2 rfl
  have d1 := cell_of (i := 1) h2 rfl
  have d2 := cell_of (i := 2) h2 rfl
  obtain ⟨rv, ro, re⟩ := r
  obtain ⟨ad, sz, pv, tn, ps, mv, wh⟩ := x
  simp only [] at *
  clear h h1 h2 h3 c0 c1 c2
  subst he
  subst hz
  subst ho
  have hne : g ≠ w.heap.size := by omega
  go_enter Try.func46, Try.ntmps46
  go_wp2_with fail
  go_wp2
  first | go_end0 | (refine bodyPost_ret (results_none rfl _ _ _) rfl ?_)
  exact ⟨rfl, ((HH.out.setT 0).setT 3).below (below_alloc _ _), ((but_set g 3 _ _).trans (but_set g 3 _ _)).trans (But.of_below (below_alloc _ _))⟩
set_option maxRecDepth 100000 in
set_option maxHeartbeats 600000 in
theorem go_2n {t : TypeId} {w : World} {g : Nat} {x : Pr} (h : IsPr t w g x) (r : Re) (he : r.e = 0) (hz : x.tn = 2) (ho : r.ok = false) :
    Calls Try.prog 46 #[.pointer (some ⟨g, 0, none⟩), reV r] w fun e w' => e = .returned (.tuple #[]) ∧ IsPr t w' g { x with tn := 0 } ∧ But g g w w' := by
  obtain ⟨h1, h2, h3⟩ := go_frame h r
  have H1 := hid h1
  have H3 := hid h3
  obtain ⟨c0, c1, c2, c3, c4, c5, c6⟩ := h.pc
  have f3 := h.free 3
  have f4 := h.free 4
  have f5 := h.free 5
  have f6 := h.free 6
  have HH := hid h
  have hlt := h.lt
  have hlt1 := h1.lt
  have d0 := cell_of (i := 0) h2 rfl
  have d1 := cell_of (i := 1) h2 rfl
  have d2 := cell_of (i := 2) h2 rfl
  obtain ⟨rv, ro, re⟩ := r
  obtain ⟨ad, sz, pv, tn, ps, mv, wh⟩ := x
  simp only [] at *
  clear h h1 h2 h3 c0 c1 c2
  subst he
  subst hz
  subst ho
  have hne : g ≠ w.heap.size := by omega
  go_enter Try.func46, Try.ntmps46
  go_wp2_with fail
  go_wp2
  first | go_end0 | (refine bodyPost_ret (results_none rfl _ _ _) rfl ?_)
  exact ⟨rfl, (HH.out.setT 0).below (below_alloc _ _), (but_set g 3 _ _).trans (But.of_below (below_alloc _ _))⟩
set_option maxRecDepth 100000 in
set_option maxHeartbeats 600000 in
theorem go_3 {t : TypeId} {w : World} {g : Nat} {x : Pr} (h : IsPr t w g x) (r : Re) (he : r.e = 0) (hz : x.tn = 3) :
    Calls Try.prog 46 #[.pointer (some ⟨g, 0, none⟩), reV r] w fun e w' => e = .returned (.tuple #[]) ∧ IsPr t w' g { x with mv := r.v, tn := 4 } ∧ But g g w w' := by
  obtain ⟨h1, h2, h3⟩ := go_frame h r
  have H1 := hid h1
  have H3 := hid h3
  obtain ⟨c0, c1, c2, c3, c4, c5, c6⟩ := h.pc
  have f3 := h.free 3
  have f4 := h.free 4
  have f5 := h.free 5
  have f6 := h.free 6
  have HH := hid h
  have hlt := h.lt
  have hlt1 := h1.lt
  have d0 := cell_of (i := 0) h2 rfl
  have d1 := cell_of (i := 1) h2 rfl
  have d2 := cell_of (i := 2) h2 rfl
  obtain ⟨rv, ro, re⟩ := r
  obtain ⟨ad, sz, pv, tn, ps, mv, wh⟩ := x
  simp only [] at *
  clear h h1 h2 h3 c0 c1 c2
  subst he
  subst hz
  have hne : g ≠ w.heap.size := by omega
  go_enter Try.func46, Try.ntmps46
  go_wp2_with fail
  go_wp2
  first | go_end0 | (refine bodyPost_ret (results_none rfl _ _ _) rfl ?_)
  exact ⟨rfl, ((HH.out.setM rv).setT 4).below (below_alloc _ _), ((but_set g 5 _ _).trans (but_set g 3 _ _)).trans (But.of_below (below_alloc _ _))⟩
set_option maxRecDepth 100000 in
set_option maxHeartbeats 600000 in
theorem go_4 {t : TypeId} {w : World} {g : Nat} {x : Pr} (h : IsPr t w g x) (r : Re) (he : r.e = 0) (hz : x.tn = 4) :
    Calls Try.prog 46 #[.pointer (some ⟨g, 0, none⟩), reV r] w fun e w' => e = .returned (.tuple #[]) ∧ IsPr t w' g { x with wh := true, tn := 5 } ∧ But g g w w' := by
  obtain ⟨h1, h2, h3⟩ := go_frame h r
  have H1 := hid h1
  have H3 := hid h3
  obtain ⟨c0, c1, c2, c3, c4, c5, c6⟩ := h.pc
  have f3 := h.free 3
  have f4 := h.free 4
  have f5 := h.free 5
  have f6 := h.free 6
  have HH := hid h
  have hlt := h.lt
  have hlt1 := h1.lt
  have d0 := cell_of (i := 0) h2 rfl
  have d1 := cell_of (i := 1) h2 rfl
  have d2 := cell_of (i := 2) h2 rfl
  obtain ⟨rv, ro, re⟩ := r
  obtain ⟨ad, sz, pv, tn, ps, mv, wh⟩ := x
  simp only [] at *
  clear h h1 h2 h3 c0 c1 c2
  subst he
  subst hz
  have hne : g ≠ w.heap.size := by omega
  go_enter Try.func46, Try.ntmps46
  go_wp2_with fail
  go_wp2
  first | go_end0 | (refine bodyPost_ret (results_none rfl _ _ _) rfl ?_)
  exact ⟨rfl, ((HH.out.setW true).setT 5).below (below_alloc _ _), ((but_set g 6 _ _).trans (but_set g 3 _ _)).trans (But.of_below (below_alloc _ _))⟩
end Go.Proofs.Ytfnfbceblpaggaa
