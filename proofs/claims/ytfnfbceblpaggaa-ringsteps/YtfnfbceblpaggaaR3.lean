/- What the document's answer for layer 6 tells of a user's slot and next act: the same functions as package ring's. Conditions: the ring is one that can be. -/
import Derived.Test.YtfnfbceblpaggaaS8
import Derived.Test.YtfnfbceblpaggaaR2
import Derived.Deep.CutRange
namespace Go.Proofs.Ytfnfbceblpaggaa
open Go.RowKit

/-- The document's user: the ring's place and size, whether it pops, its value, its position, its turn, whether it is done, and whether it has what it wanted. -/
structure Us where
  ad : Int
  sz : Int
  po : Bool
  v : Int
  ps : Int
  tn : Int
  dn : Bool
  hs : Bool
abbrev usC (u : Us) : Array Value := #[.int .i64 u.ad, .int .i64 u.sz, .bool u.po, .int .u64 u.v, .int .u64 u.ps, .int .i64 u.tn, .bool u.dn, .bool u.hs]
def IsUs (w : World) (g : Nat) (u : Us) : Prop := w.heap[g]? = some (.cells (usC u) 49 (0, 0))
theorem IsUs.lt {w : World} {g : Nat} {u : Us} (h : IsUs w g u) : g < w.heap.size := lt_of_block h
theorem IsUs.keep {w w' : World} {g : Nat} {u : Us} (h : IsUs w g u) (e : w'.heap[g]? = w.heap[g]?) : IsUs w' g u := e.trans h
theorem IsUs.below {w w' : World} {g : Nat} {u : Us} (h : IsUs w g u) (k : Below w.heap.size w w') : IsUs w' g u := h.keep (k.block _ h.lt)
structure Uc (w : World) (g : Nat) (u : Us) : Prop where
  c0 : w.cell? ⟨g, 0, none⟩ = some (.int .i64 u.ad)
  c1 : w.cell? ⟨g, 1, none⟩ = some (.int .i64 u.sz)
  c2 : w.cell? ⟨g, 2, none⟩ = some (.bool u.po)
  c3 : w.cell? ⟨g, 3, none⟩ = some (.int .u64 u.v)
  c4 : w.cell? ⟨g, 4, none⟩ = some (.int .u64 u.ps)
  c5 : w.cell? ⟨g, 5, none⟩ = some (.int .i64 u.tn)
  c6 : w.cell? ⟨g, 6, none⟩ = some (.bool u.dn)
  c7 : w.cell? ⟨g, 7, none⟩ = some (.bool u.hs)
theorem IsUs.uc {w : World} {g : Nat} {u : Us} (h : IsUs w g u) : Uc w g u := ⟨cell_of h rfl, cell_of h rfl, cell_of h rfl, cell_of h rfl, cell_of h rfl, cell_of h rfl, cell_of h rfl, cell_of h rfl⟩
theorem IsUs.free {w : World} {g : Nat} {u : Us} (h : IsUs w g u) (i : Nat) : w.frozen? ⟨g, i, none⟩ = false := free_of h
theorem IsUs.setV {w : World} {g : Nat} {u : Us} (h : IsUs w g u) (v : Int) : IsUs (w.setCell ⟨g, 3, none⟩ (.int .u64 v)) g { u with v := v } := by
  unfold IsUs; rw [heap_setCell_self h]; rfl
theorem IsUs.setP {w : World} {g : Nat} {u : Us} (h : IsUs w g u) (v : Int) : IsUs (w.setCell ⟨g, 4, none⟩ (.int .u64 v)) g { u with ps := v } := by
  unfold IsUs; rw [heap_setCell_self h]; rfl
theorem IsUs.setT {w : World} {g : Nat} {u : Us} (h : IsUs w g u) (v : Int) : IsUs (w.setCell ⟨g, 5, none⟩ (.int .i64 v)) g { u with tn := v } := by
  unfold IsUs; rw [heap_setCell_self h]; rfl
theorem IsUs.setD {w : World} {g : Nat} {u : Us} (h : IsUs w g u) (v : Bool) : IsUs (w.setCell ⟨g, 6, none⟩ (.bool v)) g { u with dn := v } := by
  unfold IsUs; rw [heap_setCell_self h]; rfl
theorem IsUs.setH {w : World} {g : Nat} {u : Us} (h : IsUs w g u) (v : Bool) : IsUs (w.setCell ⟨g, 7, none⟩ (.bool v)) g { u with hs := v } := by
  unfold IsUs; rw [heap_setCell_self h]; rfl
structure UOk (u : Us) : Prop where
  q : QOk u.ad u.sz
  p0 : 0 ≤ u.ps
  p1 : u.ps ≤ 18446744073709551615
  t0 : 0 ≤ u.tn
  t1 : u.tn ≤ 4
def pvU (u : Us) : Option Int := bif u.po then none else some u.v

set_option maxHeartbeats 400000 in
theorem uslot_at {w : World} {g : Nat} {u : Us} (h : IsUs w g u) (ok : UOk u) :
    Calls Try.prog 35 #[.pointer (some ⟨g, 0, none⟩)] w fun e w' => e = .returned (.int .i64 (slotA u.ad u.sz u.ps)) ∧ ∃ m, w' = w.drewN m := by
  obtain ⟨c0, c1, c2, c3, c4, c5, c6, c7⟩ := h.uc
  obtain ⟨⟨a0, a1, s0, s1⟩, p0, p1, t0, t1⟩ := ok
  obtain ⟨ad, sz, po, v, ps, tn, dn, hs⟩ := u
  simp only [] at *
  have m0 := Int.emod_nonneg ps (show sz ≠ 0 by omega)
  have m1 := Int.emod_lt_of_pos ps (show 0 < sz by omega)
  unfold slotA
  have hz : (sz == 0) = false := beq_eq_false_iff_ne.2 (by omega)
  clear h
  go_enter Try.func35, Try.ntmps35
  go_wp2
  go_quiet (fail)
  go_wp2
  go_ret
  exact ⟨rfl, _, rfl⟩

/-- What stands while a user's next act is made. -/
abbrev US (w : World) (g : Nat) (ad sz : Int) (po : Bool) (v ps : Int) (w' : World) : Prop :=
  (w'.cell? ⟨g, 0, none⟩ = some (.int .i64 ad) ∧ w'.cell? ⟨g, 1, none⟩ = some (.int .i64 sz) ∧ w'.cell? ⟨g, 2, none⟩ = some (.bool po) ∧ w'.cell? ⟨g, 3, none⟩ = some (.int .u64 v) ∧ w'.cell? ⟨g, 4, none⟩ = some (.int .u64 ps)) ∧ (Below w.heap.size w w' ∧ R4 w' w.heap.size)
theorem US.put {w : World} {g : Nat} {ad sz v ps : Int} {po : Bool} (hlt : g < w.heap.size) {w' : World} (h : US w g ad sz po v ps w') (a b c d : Value) : US w g ad sz po v ps ((((w'.setCell ⟨w.heap.size, 0, none⟩ a).setCell ⟨w.heap.size, 1, none⟩ b).setCell ⟨w.heap.size, 2, none⟩ c).setCell ⟨w.heap.size, 3, none⟩ d) := by
  obtain ⟨⟨h0, h1, h2, h3, h4⟩, h5, x, y, z, u, h6⟩ := h
  have hne : g ≠ w.heap.size := by omega
  exact ⟨⟨(cell_put4 hne _ _ _ _).trans h0, (cell_put4 hne _ _ _ _).trans h1, (cell_put4 hne _ _ _ _).trans h2, (cell_put4 hne _ _ _ _).trans h3, (cell_put4 hne _ _ _ _).trans h4⟩, below_put4 h5 _ _ _ _, a, b, c, d, put4 h6 _ _ _ _⟩
theorem US.below {w : World} {g : Nat} {ad sz v ps : Int} {po : Bool} (hlt : g < w.heap.size) {w' w'' : World} (h : US w g ad sz po v ps w') (K : Below w'.heap.size w' w'') : US w g ad sz po v ps w'' := by
  obtain ⟨⟨h0, h1, h2, h3, h4⟩, h5, x, y, z, u, h6⟩ := h
  have hs := h5.size
  have hg : g < w'.heap.size := by omega
  exact ⟨⟨(K.cell (p := ⟨g, 0, none⟩) hg).trans h0, (K.cell (p := ⟨g, 1, none⟩) hg).trans h1, (K.cell (p := ⟨g, 2, none⟩) hg).trans h2, (K.cell (p := ⟨g, 3, none⟩) hg).trans h3, (K.cell (p := ⟨g, 4, none⟩) hg).trans h4⟩, bel_trans h5 K, x, y, z, u, (K.block _ (lt_of_block h6)).trans h6⟩
theorem US.putD {w : World} {g : Nat} {ad sz v ps : Int} {po : Bool} (hlt : g < w.heap.size) {w' : World} (h : US w g ad sz po v ps w') (a b c d : Value) : US w g ad sz po v ps ((((w'.setCell ⟨w.heap.size, 0, none⟩ a).setCell ⟨w.heap.size, 1, none⟩ b).setCell ⟨w.heap.size, 2, none⟩ c).setCell ⟨w.heap.size, 3, none⟩ d).drew :=
  (US.put hlt h a b c d).below hlt (Below.refl _ _).drew
/-- What a walk lays open of it. -/
structure UL (w : World) (g : Nat) (u : Us) (W : World) : Prop where
  uc : Uc W g u
  bel : Below w.heap.size w W
  r4 : R4 W w.heap.size
theorem UL.below {w : World} {g : Nat} {u : Us} (hlt : g < w.heap.size) {W W' : World} (h : UL w g u W) (K : Below W.heap.size W W') : UL w g u W' := by
  obtain ⟨⟨c0, c1, c2, c3, c4, c5, c6, c7⟩, h5, x, y, z, t, h6⟩ := h
  have hs := h5.size
  have hg : g < W.heap.size := by omega
  exact ⟨⟨(K.cell (p := ⟨g, 0, none⟩) hg).trans c0, (K.cell (p := ⟨g, 1, none⟩) hg).trans c1, (K.cell (p := ⟨g, 2, none⟩) hg).trans c2, (K.cell (p := ⟨g, 3, none⟩) hg).trans c3, (K.cell (p := ⟨g, 4, none⟩) hg).trans c4, (K.cell (p := ⟨g, 5, none⟩) hg).trans c5, (K.cell (p := ⟨g, 6, none⟩) hg).trans c6, (K.cell (p := ⟨g, 7, none⟩) hg).trans c7⟩, bel_trans h5 K, x, y, z, t, (K.block _ (lt_of_block h6)).trans h6⟩
theorem UL.first {w : World} {g : Nat} {u : Us} (h : IsUs w g u) : UL w g u (w.alloc (.cells z4 51)) :=
  ⟨(h.below (below_alloc _ _)).uc, below_alloc _ _, _, _, _, _, heap_alloc_new w (.cells z4 51 (0, 0))⟩
theorem UL.us {w : World} {g : Nat} {u : Us} {W : World} (h : UL w g u W) : US w g u.ad u.sz u.po u.v u.ps W := ⟨⟨h.uc.c0, h.uc.c1, h.uc.c2, h.uc.c3, h.uc.c4⟩, h.bel, h.r4⟩

set_option maxRecDepth 100000 in
set_option maxHeartbeats 1000000 in
theorem un0P {w : World} {g : Nat} {ad sz v ps : Int} {hs : Bool} (h : IsUs w g ⟨ad, sz, false, v, ps, 0, false, hs⟩) (ok : UOk ⟨ad, sz, false, v, ps, 0, false, hs⟩) :
    Calls Try.prog 18 #[.pointer (some ⟨g, 0, none⟩)] w fun e w' => e = .returned (acV ⟨1, ad, 0, 0⟩) ∧ Below w.heap.size w w' := by
  have H0 := hid (UL.first h)
  have HU : Hid (∀ {w' : World}, Below w.heap.size w w' → Calls Try.prog 35 #[.pointer (some ⟨g, 0, none⟩)] w' fun e w'' => e = .returned (.int .i64 (slotA ad sz ps)) ∧ ∃ m, w'' = w'.drewN m) := hid (fun K => uslot_at (h.below K) ok)
  have hlt := h.lt
  obtain ⟨sb0, sb1⟩ := slot_bounds ps ok.q
  obtain ⟨⟨qa0, qa1, qs0, qs1⟩, p0, p1, _, _⟩ := ok
  simp only [] at qa0 qa1 qs0 qs1 sb0 sb1 p0 p1
  clear h
  obtain ⟨⟨c0, c1, c2, c3, c4, c5, c6, c7⟩, _, hR⟩ := H0.out
  obtain ⟨ra, rb, rc, rd, hr4⟩ := hR
  obtain ⟨d0, d1, d2, d3, f0, f1, f2, f3⟩ := there4_of hr4
  clear hr4
  simp only [] at c0 c1 c2 c3 c4 c5 c6 c7
  generalize slotA ad sz ps = sl at *
  have hne : g ≠ w.heap.size := by omega
  go_enter Try.func18, Try.ntmps18
  go_upto_region 3 with fail
  generalize w.alloc (.cells z4 51) = W at *
  have hB4 := H0.out.bel
  obtain ⟨_, _, _, _, hg4⟩ := H0.out.r4
  have HG4 := hid hg4
  have HB4 := hid hB4
  clear hB4 hg4
  go_wp2
  (try simp only [Exit.inBlock, Exit.then])
  refine bodyPost_ret (results_cell_row rfl _ _ w.heap.size 51 _ (0, 0) _ rfl (put4 HG4.out _ _ _ _) Try.underlying51 rfl size51) rfl ?_
  exact ⟨rfl, below_put4 HB4.out _ _ _ _⟩
set_option maxRecDepth 100000 in
set_option maxHeartbeats 1000000 in
theorem un1P {w : World} {g : Nat} {ad sz v ps : Int} {hs : Bool} (h : IsUs w g ⟨ad, sz, false, v, ps, 1, false, hs⟩) (ok : UOk ⟨ad, sz, false, v, ps, 1, false, hs⟩) :
    Calls Try.prog 18 #[.pointer (some ⟨g, 0, none⟩)] w fun e w' => e = .returned (acV ⟨1, slotA ad sz ps, 0, 0⟩) ∧ Below w.heap.size w w' := by
  have H0 := hid (UL.first h)
  have HU : Hid (∀ {w' : World}, Below w.heap.size w w' → Calls Try.prog 35 #[.pointer (some ⟨g, 0, none⟩)] w' fun e w'' => e = .returned (.int .i64 (slotA ad sz ps)) ∧ ∃ m, w'' = w'.drewN m) := hid (fun K => uslot_at (h.below K) ok)
  have hlt := h.lt
  obtain ⟨sb0, sb1⟩ := slot_bounds ps ok.q
  obtain ⟨⟨qa0, qa1, qs0, qs1⟩, p0, p1, _, _⟩ := ok
  simp only [] at qa0 qa1 qs0 qs1 sb0 sb1 p0 p1
  clear h
  obtain ⟨⟨c0, c1, c2, c3, c4, c5, c6, c7⟩, _, hR⟩ := H0.out
  obtain ⟨ra, rb, rc, rd, hr4⟩ := hR
  obtain ⟨d0, d1, d2, d3, f0, f1, f2, f3⟩ := there4_of hr4
  clear hr4
  simp only [] at c0 c1 c2 c3 c4 c5 c6 c7
  generalize slotA ad sz ps = sl at *
  have hne : g ≠ w.heap.size := by omega
  go_enter Try.func18, Try.ntmps18
  go_upto_region 3 with fail
  generalize w.alloc (.cells z4 51) = W at *
  go_wp2_with fail
  refine (HU.out H0.out.bel).mono ?_
  rintro e3 w3 ⟨rfl, m3, hm3⟩
  have H3 := hid (H0.out.below hlt (by rw [hm3]; exact below_drewN (Below.refl _ _) m3 : Below W.heap.size W w3))
  clear hm3 c0 c1 c2 c3 c4 c5 c6 c7 d0 d1 d2 d3 f0 f1 f2 f3 H0
  obtain ⟨⟨c0, c1, c2, c3, c4, c5, c6, c7⟩, _, hR⟩ := H3.out
  obtain ⟨ra, rb, rc, rd, hr4⟩ := hR
  obtain ⟨d0, d1, d2, d3, f0, f1, f2, f3⟩ := there4_of hr4
  clear hr4
  simp only [] at c0 c1 c2 c3 c4 c5 c6 c7
  have hB4 := H3.out.bel
  obtain ⟨_, _, _, _, hg4⟩ := H3.out.r4
  have HG4 := hid hg4
  have HB4 := hid hB4
  clear hB4 hg4
  go_wp2
  (try simp only [Exit.inBlock, Exit.then])
  refine bodyPost_ret (results_cell_row rfl _ _ w.heap.size 51 _ (0, 0) _ rfl (put4 HG4.out _ _ _ _) Try.underlying51 rfl size51) rfl ?_
  exact ⟨rfl, below_put4 HB4.out _ _ _ _⟩
set_option maxRecDepth 100000 in
set_option maxHeartbeats 1000000 in
theorem un2P {w : World} {g : Nat} {ad sz v ps : Int} {hs : Bool} (h : IsUs w g ⟨ad, sz, false, v, ps, 2, false, hs⟩) (ok : UOk ⟨ad, sz, false, v, ps, 2, false, hs⟩) :
    Calls Try.prog 18 #[.pointer (some ⟨g, 0, none⟩)] w fun e w' => e = .returned (acV ⟨3, ad, ps, add64 ps 1⟩) ∧ Below w.heap.size w w' := by
  have H0 := hid (UL.first h)
  have HU : Hid (∀ {w' : World}, Below w.heap.size w w' → Calls Try.prog 35 #[.pointer (some ⟨g, 0, none⟩)] w' fun e w'' => e = .returned (.int .i64 (slotA ad sz ps)) ∧ ∃ m, w'' = w'.drewN m) := hid (fun K => uslot_at (h.below K) ok)
  have hlt := h.lt
  obtain ⟨sb0, sb1⟩ := slot_bounds ps ok.q
  obtain ⟨⟨qa0, qa1, qs0, qs1⟩, p0, p1, _, _⟩ := ok
  simp only [] at qa0 qa1 qs0 qs1 sb0 sb1 p0 p1
  clear h
  obtain ⟨⟨c0, c1, c2, c3, c4, c5, c6, c7⟩, _, hR⟩ := H0.out
  obtain ⟨ra, rb, rc, rd, hr4⟩ := hR
  obtain ⟨d0, d1, d2, d3, f0, f1, f2, f3⟩ := there4_of hr4
  clear hr4
  simp only [] at c0 c1 c2 c3 c4 c5 c6 c7
  generalize slotA ad sz ps = sl at *
  have hne : g ≠ w.heap.size := by omega
  go_enter Try.func18, Try.ntmps18
  go_upto_region 3 with fail
  generalize w.alloc (.cells z4 51) = W at *
  have hS1 : US w g ad sz false v ps W.drew := H0.out.us.below hlt (Below.refl _ _).drew
  have HSW := hid H0.out.us
  go_wp2_with fail
  go_region_held3 (fun w' => (w'.cell? ⟨g, 0, none⟩ = some (.int .i64 ad) ∧ w'.cell? ⟨g, 1, none⟩ = some (.int .i64 sz) ∧ w'.cell? ⟨g, 2, none⟩ = some (.bool false) ∧ w'.cell? ⟨g, 3, none⟩ = some (.int .u64 v) ∧ w'.cell? ⟨g, 4, none⟩ = some (.int .u64 ps)) ∧ (Below w.heap.size w w' ∧ R4 w' w.heap.size)) (first | with_reducible exact hS1 | with_reducible exact US.putD hlt HSW.out _ _ _ _ | with_reducible assumption)
      (fail)
  have hB4 := H0.out.bel
  obtain ⟨_, _, _, _, hg4⟩ := H0.out.r4
  have HG4 := hid hg4
  have HB4 := hid hB4
  clear hB4 hg4
  go_wp2
  (try simp only [Exit.inBlock, Exit.then])
  refine bodyPost_ret (results_cell_row rfl _ _ w.heap.size 51 _ (0, 0) _ rfl (put4 HG4.out _ _ _ _) Try.underlying51 rfl size51) rfl ?_
  exact ⟨rfl, (below_put4 HB4.out _ _ _ _).drew⟩
set_option maxRecDepth 100000 in
set_option maxHeartbeats 1000000 in
theorem un3P {w : World} {g : Nat} {ad sz v ps : Int} {hs : Bool} (h : IsUs w g ⟨ad, sz, false, v, ps, 3, false, hs⟩) (ok : UOk ⟨ad, sz, false, v, ps, 3, false, hs⟩) :
    Calls Try.prog 18 #[.pointer (some ⟨g, 0, none⟩)] w fun e w' => e = .returned (acV ⟨2, slotA ad sz ps + 1, v, 0⟩) ∧ Below w.heap.size w w' := by
  have H0 := hid (UL.first h)
  have HU : Hid (∀ {w' : World}, Below w.heap.size w w' → Calls Try.prog 35 #[.pointer (some ⟨g, 0, none⟩)] w' fun e w'' => e = .returned (.int .i64 (slotA ad sz ps)) ∧ ∃ m, w'' = w'.drewN m) := hid (fun K => uslot_at (h.below K) ok)
  have hlt := h.lt
  obtain ⟨sb0, sb1⟩ := slot_bounds ps ok.q
  obtain ⟨⟨qa0, qa1, qs0, qs1⟩, p0, p1, _, _⟩ := ok
  simp only [] at qa0 qa1 qs0 qs1 sb0 sb1 p0 p1
  clear h
  obtain ⟨⟨c0, c1, c2, c3, c4, c5, c6, c7⟩, _, hR⟩ := H0.out
  obtain ⟨ra, rb, rc, rd, hr4⟩ := hR
  obtain ⟨d0, d1, d2, d3, f0, f1, f2, f3⟩ := there4_of hr4
  clear hr4
  simp only [] at c0 c1 c2 c3 c4 c5 c6 c7
  generalize slotA ad sz ps = sl at *
  have hne : g ≠ w.heap.size := by omega
  go_enter Try.func18, Try.ntmps18
  go_upto_region 3 with fail
  generalize w.alloc (.cells z4 51) = W at *
  have hS1 : US w g ad sz false v ps W.drew := H0.out.us.below hlt (Below.refl _ _).drew
  have hC : ∀ {w' : World}, US w g ad sz false v ps w' → Calls Try.prog 35 #[.pointer (some ⟨g, 0, none⟩)] w' fun e w'' => e = .returned (.int .i64 sl) ∧ (∃ a b c d, There4 w'' w.heap.size a b c d) ∧ US w g ad sz false v ps w'' := by
    intro w' h'
    refine (HU.out h'.2.1).mono ?_
    rintro e w'' ⟨rfl, m, hm⟩
    have := h'.below hlt (by rw [hm]; exact below_drewN (Below.refl _ _) m : Below w'.heap.size w' w'')
    exact ⟨rfl, this.2.2.there, this⟩
  have HC : Hid (∀ {w' : World}, US w g ad sz false v ps w' → Calls Try.prog 35 #[.pointer (some ⟨g, 0, none⟩)] w' fun e w'' => e = .returned (.int .i64 sl) ∧ (∃ a b c d, There4 w'' w.heap.size a b c d) ∧ US w g ad sz false v ps w'') := hid (fun h' => hC h')
  clear hC
  go_wp2_with fail
  go_region_held3 (fun w' => (w'.cell? ⟨g, 0, none⟩ = some (.int .i64 ad) ∧ w'.cell? ⟨g, 1, none⟩ = some (.int .i64 sz) ∧ w'.cell? ⟨g, 2, none⟩ = some (.bool false) ∧ w'.cell? ⟨g, 3, none⟩ = some (.int .u64 v) ∧ w'.cell? ⟨g, 4, none⟩ = some (.int .u64 ps)) ∧ (Below w.heap.size w w' ∧ R4 w' w.heap.size)) (first | with_reducible exact US.put hlt (by assumption) _ _ _ _ | with_reducible exact hS1 | with_reducible assumption)
      (first
        | (go_at_call 35; refine (HC.out (by assumption)).mono ?_; rintro e4 w4 ⟨rfl, ⟨a, b, c, d, d0, d1, d2, d3, f0, f1, f2, f3⟩, hw4⟩))
  obtain ⟨_, hB4, _, _, _, _, hg4⟩ := hw4
  have HG4 := hid hg4
  have HB4 := hid hB4
  clear hB4 hg4
  have hwr := i64w (x := sl + 1) (by omega) (by omega)
  go_wp2
  (try simp only [Exit.inBlock, Exit.then])
  refine bodyPost_ret (results_cell_row rfl _ _ w.heap.size 51 _ (0, 0) _ rfl (put4 HG4.out _ _ _ _) Try.underlying51 rfl size51) rfl ?_
  exact ⟨by first | rfl | rw [hwr], below_put4 HB4.out _ _ _ _⟩
set_option maxRecDepth 100000 in
set_option maxHeartbeats 1000000 in
theorem un4P {w : World} {g : Nat} {ad sz v ps : Int} {hs : Bool} (h : IsUs w g ⟨ad, sz, false, v, ps, 4, false, hs⟩) (ok : UOk ⟨ad, sz, false, v, ps, 4, false, hs⟩) :
    Calls Try.prog 18 #[.pointer (some ⟨g, 0, none⟩)] w fun e w' => e = .returned (acV ⟨2, slotA ad sz ps, add64 ps 1, 0⟩) ∧ Below w.heap.size w w' := by
  have H0 := hid (UL.first h)
  have HU : Hid (∀ {w' : World}, Below w.heap.size w w' → Calls Try.prog 35 #[.pointer (some ⟨g, 0, none⟩)] w' fun e w'' => e = .returned (.int .i64 (slotA ad sz ps)) ∧ ∃ m, w'' = w'.drewN m) := hid (fun K => uslot_at (h.below K) ok)
  have hlt := h.lt
  obtain ⟨sb0, sb1⟩ := slot_bounds ps ok.q
  obtain ⟨⟨qa0, qa1, qs0, qs1⟩, p0, p1, _, _⟩ := ok
  simp only [] at qa0 qa1 qs0 qs1 sb0 sb1 p0 p1
  clear h
  obtain ⟨⟨c0, c1, c2, c3, c4, c5, c6, c7⟩, _, hR⟩ := H0.out
  obtain ⟨ra, rb, rc, rd, hr4⟩ := hR
  obtain ⟨d0, d1, d2, d3, f0, f1, f2, f3⟩ := there4_of hr4
  clear hr4
  simp only [] at c0 c1 c2 c3 c4 c5 c6 c7
  generalize slotA ad sz ps = sl at *
  have hne : g ≠ w.heap.size := by omega
  go_enter Try.func18, Try.ntmps18
  go_upto_region 3 with fail
  generalize w.alloc (.cells z4 51) = W at *
  go_wp2_with fail
  refine (HU.out H0.out.bel).mono ?_
  rintro e3 w3 ⟨rfl, m3, hm3⟩
  have H3 := hid (H0.out.below hlt (by rw [hm3]; exact below_drewN (Below.refl _ _) m3 : Below W.heap.size W w3))
  clear hm3 c0 c1 c2 c3 c4 c5 c6 c7 d0 d1 d2 d3 f0 f1 f2 f3 H0
  obtain ⟨⟨c0, c1, c2, c3, c4, c5, c6, c7⟩, _, hR⟩ := H3.out
  obtain ⟨ra, rb, rc, rd, hr4⟩ := hR
  obtain ⟨d0, d1, d2, d3, f0, f1, f2, f3⟩ := there4_of hr4
  clear hr4
  simp only [] at c0 c1 c2 c3 c4 c5 c6 c7
  have hB4 := H3.out.bel
  obtain ⟨_, _, _, _, hg4⟩ := H3.out.r4
  have HG4 := hid hg4
  have HB4 := hid hB4
  clear hB4 hg4
  go_wp2
  (try simp only [Exit.inBlock, Exit.then])
  refine bodyPost_ret (results_cell_row rfl _ _ w.heap.size 51 _ (0, 0) _ rfl (put4 HG4.out _ _ _ _) Try.underlying51 rfl size51) rfl ?_
  exact ⟨rfl, below_put4 HB4.out _ _ _ _⟩
set_option maxRecDepth 100000 in
set_option maxHeartbeats 1000000 in
theorem un0G {w : World} {g : Nat} {ad sz v ps : Int} {hs : Bool} (h : IsUs w g ⟨ad, sz, true, v, ps, 0, false, hs⟩) (ok : UOk ⟨ad, sz, true, v, ps, 0, false, hs⟩) :
    Calls Try.prog 18 #[.pointer (some ⟨g, 0, none⟩)] w fun e w' => e = .returned (acV ⟨1, ad + 1, 0, 0⟩) ∧ Below w.heap.size w w' := by
  have H0 := hid (UL.first h)
  have HU : Hid (∀ {w' : World}, Below w.heap.size w w' → Calls Try.prog 35 #[.pointer (some ⟨g, 0, none⟩)] w' fun e w'' => e = .returned (.int .i64 (slotA ad sz ps)) ∧ ∃ m, w'' = w'.drewN m) := hid (fun K => uslot_at (h.below K) ok)
  have hlt := h.lt
  obtain ⟨sb0, sb1⟩ := slot_bounds ps ok.q
  obtain ⟨⟨qa0, qa1, qs0, qs1⟩, p0, p1, _, _⟩ := ok
  simp only [] at qa0 qa1 qs0 qs1 sb0 sb1 p0 p1
  clear h
  obtain ⟨⟨c0, c1, c2, c3, c4, c5, c6, c7⟩, _, hR⟩ := H0.out
  obtain ⟨ra, rb, rc, rd, hr4⟩ := hR
  obtain ⟨d0, d1, d2, d3, f0, f1, f2, f3⟩ := there4_of hr4
  clear hr4
  simp only [] at c0 c1 c2 c3 c4 c5 c6 c7
  generalize slotA ad sz ps = sl at *
  have hne : g ≠ w.heap.size := by omega
  go_enter Try.func18, Try.ntmps18
  go_upto_region 3 with fail
  generalize w.alloc (.cells z4 51) = W at *
  go_wp2_with fail
  go_quiet (fail)
  have H1 := hid (H0.out.below hlt (below_drewN (Below.refl W.heap.size W) nq))
  generalize W.drewN nq = W1 at *
  clear c0 c1 c2 c3 c4 c5 c6 c7 d0 d1 d2 d3 f0 f1 f2 f3 H0
  obtain ⟨⟨c0, c1, c2, c3, c4, c5, c6, c7⟩, _, hR⟩ := H1.out
  obtain ⟨ra, rb, rc, rd, hr4⟩ := hR
  obtain ⟨d0, d1, d2, d3, f0, f1, f2, f3⟩ := there4_of hr4
  clear hr4
  simp only [] at c0 c1 c2 c3 c4 c5 c6 c7
  have hB4 := H1.out.bel
  obtain ⟨_, _, _, _, hg4⟩ := H1.out.r4
  have HG4 := hid hg4
  have HB4 := hid hB4
  clear hB4 hg4
  go_wp2
  (try simp only [Exit.inBlock, Exit.then])
  refine bodyPost_ret (results_cell_row rfl _ _ w.heap.size 51 _ (0, 0) _ rfl (put4 HG4.out _ _ _ _) Try.underlying51 rfl size51) rfl ?_
  exact ⟨rfl, below_put4 HB4.out _ _ _ _⟩
set_option maxRecDepth 100000 in
set_option maxHeartbeats 1000000 in
theorem un1G {w : World} {g : Nat} {ad sz v ps : Int} {hs : Bool} (h : IsUs w g ⟨ad, sz, true, v, ps, 1, false, hs⟩) (ok : UOk ⟨ad, sz, true, v, ps, 1, false, hs⟩) :
    Calls Try.prog 18 #[.pointer (some ⟨g, 0, none⟩)] w fun e w' => e = .returned (acV ⟨1, slotA ad sz ps, 0, 0⟩) ∧ Below w.heap.size w w' := by
  have H0 := hid (UL.first h)
  have HU : Hid (∀ {w' : World}, Below w.heap.size w w' → Calls Try.prog 35 #[.pointer (some ⟨g, 0, none⟩)] w' fun e w'' => e = .returned (.int .i64 (slotA ad sz ps)) ∧ ∃ m, w'' = w'.drewN m) := hid (fun K => uslot_at (h.below K) ok)
  have hlt := h.lt
  obtain ⟨sb0, sb1⟩ := slot_bounds ps ok.q
  obtain ⟨⟨qa0, qa1, qs0, qs1⟩, p0, p1, _, _⟩ := ok
  simp only [] at qa0 qa1 qs0 qs1 sb0 sb1 p0 p1
  clear h
  obtain ⟨⟨c0, c1, c2, c3, c4, c5, c6, c7⟩, _, hR⟩ := H0.out
  obtain ⟨ra, rb, rc, rd, hr4⟩ := hR
  obtain ⟨d0, d1, d2, d3, f0, f1, f2, f3⟩ := there4_of hr4
  clear hr4
  simp only [] at c0 c1 c2 c3 c4 c5 c6 c7
  generalize slotA ad sz ps = sl at *
  have hne : g ≠ w.heap.size := by omega
  go_enter Try.func18, Try.ntmps18
  go_upto_region 3 with fail
  generalize w.alloc (.cells z4 51) = W at *
  go_wp2_with fail
  go_quiet (fail)
  have H1 := hid (H0.out.below hlt (below_drewN (Below.refl W.heap.size W) nq))
  generalize W.drewN nq = W1 at *
  clear c0 c1 c2 c3 c4 c5 c6 c7 d0 d1 d2 d3 f0 f1 f2 f3 H0
  obtain ⟨⟨c0, c1, c2, c3, c4, c5, c6, c7⟩, _, hR⟩ := H1.out
  obtain ⟨ra, rb, rc, rd, hr4⟩ := hR
  obtain ⟨d0, d1, d2, d3, f0, f1, f2, f3⟩ := there4_of hr4
  clear hr4
  simp only [] at c0 c1 c2 c3 c4 c5 c6 c7
  go_wp2_with fail
  refine (HU.out H1.out.bel).mono ?_
  rintro e3 w3 ⟨rfl, m3, hm3⟩
  have H3 := hid (H1.out.below hlt (by rw [hm3]; exact below_drewN (Below.refl _ _) m3 : Below W1.heap.size W1 w3))
  clear hm3 c0 c1 c2 c3 c4 c5 c6 c7 d0 d1 d2 d3 f0 f1 f2 f3 H1
  obtain ⟨⟨c0, c1, c2, c3, c4, c5, c6, c7⟩, _, hR⟩ := H3.out
  obtain ⟨ra, rb, rc, rd, hr4⟩ := hR
  obtain ⟨d0, d1, d2, d3, f0, f1, f2, f3⟩ := there4_of hr4
  clear hr4
  simp only [] at c0 c1 c2 c3 c4 c5 c6 c7
  have hB4 := H3.out.bel
  obtain ⟨_, _, _, _, hg4⟩ := H3.out.r4
  have HG4 := hid hg4
  have HB4 := hid hB4
  clear hB4 hg4
  go_wp2
  (try simp only [Exit.inBlock, Exit.then])
  refine bodyPost_ret (results_cell_row rfl _ _ w.heap.size 51 _ (0, 0) _ rfl (put4 HG4.out _ _ _ _) Try.underlying51 rfl size51) rfl ?_
  exact ⟨rfl, below_put4 HB4.out _ _ _ _⟩
set_option maxRecDepth 100000 in
set_option maxHeartbeats 1000000 in
theorem un2G {w : World} {g : Nat} {ad sz v ps : Int} {hs : Bool} (h : IsUs w g ⟨ad, sz, true, v, ps, 2, false, hs⟩) (ok : UOk ⟨ad, sz, true, v, ps, 2, false, hs⟩) :
    Calls Try.prog 18 #[.pointer (some ⟨g, 0, none⟩)] w fun e w' => e = .returned (acV ⟨3, ad + 1, ps, add64 ps 1⟩) ∧ Below w.heap.size w w' := by
  have H0 := hid (UL.first h)
  have HU : Hid (∀ {w' : World}, Below w.heap.size w w' → Calls Try.prog 35 #[.pointer (some ⟨g, 0, none⟩)] w' fun e w'' => e = .returned (.int .i64 (slotA ad sz ps)) ∧ ∃ m, w'' = w'.drewN m) := hid (fun K => uslot_at (h.below K) ok)
  have hlt := h.lt
  obtain ⟨sb0, sb1⟩ := slot_bounds ps ok.q
  obtain ⟨⟨qa0, qa1, qs0, qs1⟩, p0, p1, _, _⟩ := ok
  simp only [] at qa0 qa1 qs0 qs1 sb0 sb1 p0 p1
  clear h
  obtain ⟨⟨c0, c1, c2, c3, c4, c5, c6, c7⟩, _, hR⟩ := H0.out
  obtain ⟨ra, rb, rc, rd, hr4⟩ := hR
  obtain ⟨d0, d1, d2, d3, f0, f1, f2, f3⟩ := there4_of hr4
  clear hr4
  simp only [] at c0 c1 c2 c3 c4 c5 c6 c7
  generalize slotA ad sz ps = sl at *
  have hne : g ≠ w.heap.size := by omega
  go_enter Try.func18, Try.ntmps18
  go_upto_region 3 with fail
  generalize w.alloc (.cells z4 51) = W at *
  go_wp2_with fail
  go_quiet (fail)
  have H1 := hid (H0.out.below hlt (below_drewN (Below.refl W.heap.size W) nq))
  generalize W.drewN nq = W1 at *
  clear c0 c1 c2 c3 c4 c5 c6 c7 d0 d1 d2 d3 f0 f1 f2 f3 H0
  obtain ⟨⟨c0, c1, c2, c3, c4, c5, c6, c7⟩, _, hR⟩ := H1.out
  obtain ⟨ra, rb, rc, rd, hr4⟩ := hR
  obtain ⟨d0, d1, d2, d3, f0, f1, f2, f3⟩ := there4_of hr4
  clear hr4
  simp only [] at c0 c1 c2 c3 c4 c5 c6 c7
  have hS1 : US w g ad sz true v ps W1.drew := H1.out.us.below hlt (Below.refl _ _).drew
  have HSW := hid H1.out.us
  go_wp2_with fail
  go_region_held3 (fun w' => (w'.cell? ⟨g, 0, none⟩ = some (.int .i64 ad) ∧ w'.cell? ⟨g, 1, none⟩ = some (.int .i64 sz) ∧ w'.cell? ⟨g, 2, none⟩ = some (.bool true) ∧ w'.cell? ⟨g, 3, none⟩ = some (.int .u64 v) ∧ w'.cell? ⟨g, 4, none⟩ = some (.int .u64 ps)) ∧ (Below w.heap.size w w' ∧ R4 w' w.heap.size)) (first | with_reducible exact hS1 | with_reducible exact US.putD hlt HSW.out _ _ _ _ | with_reducible assumption)
      (fail)
  have hB4 := H1.out.bel
  obtain ⟨_, _, _, _, hg4⟩ := H1.out.r4
  have HG4 := hid hg4
  have HB4 := hid hB4
  clear hB4 hg4
  go_wp2
  (try simp only [Exit.inBlock, Exit.then])
  refine bodyPost_ret (results_cell_row rfl _ _ w.heap.size 51 _ (0, 0) _ rfl (put4 HG4.out _ _ _ _) Try.underlying51 rfl size51) rfl ?_
  exact ⟨rfl, (below_put4 HB4.out _ _ _ _).drew⟩
set_option maxRecDepth 100000 in
set_option maxHeartbeats 1000000 in
theorem un3G {w : World} {g : Nat} {ad sz v ps : Int} {hs : Bool} (h : IsUs w g ⟨ad, sz, true, v, ps, 3, false, hs⟩) (ok : UOk ⟨ad, sz, true, v, ps, 3, false, hs⟩) :
    Calls Try.prog 18 #[.pointer (some ⟨g, 0, none⟩)] w fun e w' => e = .returned (acV ⟨1, slotA ad sz ps + 1, 0, 0⟩) ∧ Below w.heap.size w w' := by
  have H0 := hid (UL.first h)
  have HU : Hid (∀ {w' : World}, Below w.heap.size w w' → Calls Try.prog 35 #[.pointer (some ⟨g, 0, none⟩)] w' fun e w'' => e = .returned (.int .i64 (slotA ad sz ps)) ∧ ∃ m, w'' = w'.drewN m) := hid (fun K => uslot_at (h.below K) ok)
  have hlt := h.lt
  obtain ⟨sb0, sb1⟩ := slot_bounds ps ok.q
  obtain ⟨⟨qa0, qa1, qs0, qs1⟩, p0, p1, _, _⟩ := ok
  simp only [] at qa0 qa1 qs0 qs1 sb0 sb1 p0 p1
  clear h
  obtain ⟨⟨c0, c1, c2, c3, c4, c5, c6, c7⟩, _, hR⟩ := H0.out
  obtain ⟨ra, rb, rc, rd, hr4⟩ := hR
  obtain ⟨d0, d1, d2, d3, f0, f1, f2, f3⟩ := there4_of hr4
  clear hr4
  simp only [] at c0 c1 c2 c3 c4 c5 c6 c7
  generalize slotA ad sz ps = sl at *
  have hne : g ≠ w.heap.size := by omega
  go_enter Try.func18, Try.ntmps18
  go_upto_region 3 with fail
  generalize w.alloc (.cells z4 51) = W at *
  go_wp2_with fail
  go_quiet (fail)
  have H1 := hid (H0.out.below hlt (below_drewN (Below.refl W.heap.size W) nq))
  generalize W.drewN nq = W1 at *
  clear c0 c1 c2 c3 c4 c5 c6 c7 d0 d1 d2 d3 f0 f1 f2 f3 H0
  obtain ⟨⟨c0, c1, c2, c3, c4, c5, c6, c7⟩, _, hR⟩ := H1.out
  obtain ⟨ra, rb, rc, rd, hr4⟩ := hR
  obtain ⟨d0, d1, d2, d3, f0, f1, f2, f3⟩ := there4_of hr4
  clear hr4
  simp only [] at c0 c1 c2 c3 c4 c5 c6 c7
  go_wp2_with fail
  refine (HU.out H1.out.bel).mono ?_
  rintro e3 w3 ⟨rfl, m3, hm3⟩
  have H3 := hid (H1.out.below hlt (by rw [hm3]; exact below_drewN (Below.refl _ _) m3 : Below W1.heap.size W1 w3))
  clear hm3 c0 c1 c2 c3 c4 c5 c6 c7 d0 d1 d2 d3 f0 f1 f2 f3 H1
  obtain ⟨⟨c0, c1, c2, c3, c4, c5, c6, c7⟩, _, hR⟩ := H3.out
  obtain ⟨ra, rb, rc, rd, hr4⟩ := hR
  obtain ⟨d0, d1, d2, d3, f0, f1, f2, f3⟩ := there4_of hr4
  clear hr4
  simp only [] at c0 c1 c2 c3 c4 c5 c6 c7
  have hB4 := H3.out.bel
  obtain ⟨_, _, _, _, hg4⟩ := H3.out.r4
  have HG4 := hid hg4
  have HB4 := hid hB4
  clear hB4 hg4
  go_wp2
  (try simp only [Exit.inBlock, Exit.then])
  refine bodyPost_ret (results_cell_row rfl _ _ w.heap.size 51 _ (0, 0) _ rfl (put4 HG4.out _ _ _ _) Try.underlying51 rfl size51) rfl ?_
  exact ⟨rfl, below_put4 HB4.out _ _ _ _⟩
set_option maxRecDepth 100000 in
set_option maxHeartbeats 1000000 in
theorem un4G {w : World} {g : Nat} {ad sz v ps : Int} {hs : Bool} (h : IsUs w g ⟨ad, sz, true, v, ps, 4, false, hs⟩) (ok : UOk ⟨ad, sz, true, v, ps, 4, false, hs⟩) :
    Calls Try.prog 18 #[.pointer (some ⟨g, 0, none⟩)] w fun e w' => e = .returned (acV ⟨2, slotA ad sz ps, add64 ps sz, 0⟩) ∧ Below w.heap.size w w' := by
  have H0 := hid (UL.first h)
  have HU : Hid (∀ {w' : World}, Below w.heap.size w w' → Calls Try.prog 35 #[.pointer (some ⟨g, 0, none⟩)] w' fun e w'' => e = .returned (.int .i64 (slotA ad sz ps)) ∧ ∃ m, w'' = w'.drewN m) := hid (fun K => uslot_at (h.below K) ok)
  have hlt := h.lt
  obtain ⟨sb0, sb1⟩ := slot_bounds ps ok.q
  obtain ⟨⟨qa0, qa1, qs0, qs1⟩, p0, p1, _, _⟩ := ok
  simp only [] at qa0 qa1 qs0 qs1 sb0 sb1 p0 p1
  clear h
  obtain ⟨⟨c0, c1, c2, c3, c4, c5, c6, c7⟩, _, hR⟩ := H0.out
  obtain ⟨ra, rb, rc, rd, hr4⟩ := hR
  obtain ⟨d0, d1, d2, d3, f0, f1, f2, f3⟩ := there4_of hr4
  clear hr4
  simp only [] at c0 c1 c2 c3 c4 c5 c6 c7
  generalize slotA ad sz ps = sl at *
  have hne : g ≠ w.heap.size := by omega
  go_enter Try.func18, Try.ntmps18
  go_upto_region 3 with fail
  generalize w.alloc (.cells z4 51) = W at *
  go_wp2_with fail
  go_quiet (fail)
  have H1 := hid (H0.out.below hlt (below_drewN (Below.refl W.heap.size W) nq))
  generalize W.drewN nq = W1 at *
  clear c0 c1 c2 c3 c4 c5 c6 c7 d0 d1 d2 d3 f0 f1 f2 f3 H0
  obtain ⟨⟨c0, c1, c2, c3, c4, c5, c6, c7⟩, _, hR⟩ := H1.out
  obtain ⟨ra, rb, rc, rd, hr4⟩ := hR
  obtain ⟨d0, d1, d2, d3, f0, f1, f2, f3⟩ := there4_of hr4
  clear hr4
  simp only [] at c0 c1 c2 c3 c4 c5 c6 c7
  go_wp2_with fail
  refine (HU.out H1.out.bel).mono ?_
  rintro e3 w3 ⟨rfl, m3, hm3⟩
  have H3 := hid (H1.out.below hlt (by rw [hm3]; exact below_drewN (Below.refl _ _) m3 : Below W1.heap.size W1 w3))
  clear hm3 c0 c1 c2 c3 c4 c5 c6 c7 d0 d1 d2 d3 f0 f1 f2 f3 H1
  obtain ⟨⟨c0, c1, c2, c3, c4, c5, c6, c7⟩, _, hR⟩ := H3.out
  obtain ⟨ra, rb, rc, rd, hr4⟩ := hR
  obtain ⟨d0, d1, d2, d3, f0, f1, f2, f3⟩ := there4_of hr4
  clear hr4
  simp only [] at c0 c1 c2 c3 c4 c5 c6 c7
  have hB4 := H3.out.bel
  obtain ⟨_, _, _, _, hg4⟩ := H3.out.r4
  have HG4 := hid hg4
  have HB4 := hid hB4
  clear hB4 hg4
  go_wp2
  (try simp only [Exit.inBlock, Exit.then])
  refine bodyPost_ret (results_cell_row rfl _ _ w.heap.size 51 _ (0, 0) _ rfl (put4 HG4.out _ _ _ _) Try.underlying51 rfl size51) rfl ?_
  exact ⟨rfl, below_put4 HB4.out _ _ _ _⟩
set_option maxRecDepth 100000 in
set_option maxHeartbeats 1000000 in
theorem un_done {w : World} {g : Nat} {u : Us} (h : IsUs w g u) (hd : u.dn = true) :
    Calls Try.prog 18 #[.pointer (some ⟨g, 0, none⟩)] w fun e w' => e = .returned (acV ⟨0, 0, 0, 0⟩) ∧ Below w.heap.size w w' := by
  have c6 := h.uc.c6
  rw [hd] at c6
  have hlt := h.lt
  clear h
  go_enter Try.func18, Try.ntmps18
  go_wp2
  (try simp only [Exit.inBlock, Exit.then])
  refine bodyPost_ret (results_cell_row rfl _ _ w.heap.size 51 (acC ⟨0, 0, 0, 0⟩) (0, 0) _ rfl (heap_alloc_new _ _) Try.underlying51 rfl size51) rfl ?_
  exact ⟨rfl, below_alloc _ _⟩
end Go.Proofs.Ytfnfbceblpaggaa
