/- What Parse returns, the program's and the document's, for every word: the same entry and answer; the world's old blocks are as they were. No conditions but that a word is one of 64 bits. -/
import Derived.Test.YtpfmmlbakbhklaaGreatDoorPS4
import Derived.Test.YtpfmmlbakbhklaaGreatDoorPR1
namespace Go.Proofs.YtpfmmlbakbhklaaGreatDoor.P
open Go.RowKit

def zd : En := ⟨false, 0, false, 0⟩
/-- What stands in the fields of a word. -/
def rd (x : Nat) : En := ⟨((x % 2 : Nat) : Int) == 1, (x / 2 % 8 : Nat), ((x / 16 % 2 : Nat) : Int) == 1, (x / 4096 % 4096 : Nat)⟩
def ptwo (d : En) (b : Bool) : Value := .tuple #[eV d, .bool b]
def prY (x : Nat) : Bool := rt (rd x) && (wd (rd x) == x)
def prD (x : Nat) : En := if prY x = true then rd x else zd

theorem row_new5 (k : IntKind) (w : World) (t : TypeId) (a b c d e : Int) : Row k (w.alloc (.cells #[.int k a, .int k b, .int k c, .int k d, .int k e] t)) (.slice (some ⟨w.heap.size, 0, none⟩) 5 5) [a, b, c, d, e] := by
  refine ⟨by unfold maxLen; simp, _, _, rfl, fun _ => ⟨w.heap.size, 0, rfl, by simp, fun i hi => ?_⟩⟩
  rw [World.cell?_alloc_at _ _ _ _ rfl]
  match i, hi with
  | 0, _ => rfl
  | 1, _ => rfl
  | 2, _ => rfl
  | 3, _ => rfl
  | 4, _ => rfl
theorem fGet_yes (x : Nat) (l s : Int) (h : isF l s = true) : fGet x l s = M.gt x l.toNat s.toNat := by simp [fGet, h]
theorem split5 (x : Nat) : splitTo x 0 [1, 3, 1, 7, 12] = some [x % 2, x / 2 % 8, x / 16 % 2, x / 32 % 128, x / 4096 % 4096] := by
  rw [splitTo_yes _ _ _ _ (by show isF 0 1 = true; decide), splitTo_yes _ _ _ _ (by show isF 1 3 = true; decide), splitTo_yes _ _ _ _ (by show isF 4 1 = true; decide), splitTo_yes _ _ _ _ (by show isF 5 7 = true; decide), splitTo_yes _ _ _ _ (by show isF 12 12 = true; decide)]
  rw [fGet_yes _ _ _ (by show isF 0 1 = true; decide), fGet_yes _ _ _ (by show isF 1 3 = true; decide), fGet_yes _ _ _ (by show isF 4 1 = true; decide), fGet_yes _ _ _ (by show isF 5 7 = true; decide), fGet_yes _ _ _ (by show isF 12 12 = true; decide)]
  simp [splitTo, M.gt]

theorem split_row (x : Nat) (hx : x < 18446744073709551616) (v : Value) (w : World) (h : Row .i64 w v [1, 3, 1, 7, 12]) :
    Calls Tryz.prog 157 #[.int .u64 x, v] w fun e w' => ∃ b off cap, e = .returned (.slice (some ⟨b, off, none⟩) 5 cap) ∧
      (w'.cell? ⟨b, off, none⟩ = some (.int .u64 (x % 2 : Nat)) ∧ w'.cell? ⟨b, off + 1, none⟩ = some (.int .u64 (x / 2 % 8 : Nat)) ∧ w'.cell? ⟨b, off + 2, none⟩ = some (.int .u64 (x / 16 % 2 : Nat)) ∧ w'.cell? ⟨b, off + 4, none⟩ = some (.int .u64 (x / 4096 % 4096 : Nat))) ∧ Below w.heap.size w w' :=
  (split_any x (by omega) (by omega) v [1, 3, 1, 7, 12] w h).mono fun e w' ⟨u, he, hr, hb⟩ => by
    rw [Int.toNat_natCast, split5] at hr
    obtain ⟨b, off, cap, hv, _, hc⟩ := (Row.of_owns (k := .u64) (xs := [x % 2, x / 2 % 8, x / 16 % 2, x / 32 % 128, x / 4096 % 4096]) hr (by unfold maxLen; simp)).some' (by simp)
    exact ⟨b, off, cap, by rw [he, hv]; rfl, ⟨hc 0 (by simp), hc 1 (by simp), hc 2 (by simp), hc 4 (by simp)⟩, hb⟩

set_option maxRecDepth 100000 in
set_option maxHeartbeats 400000 in
theorem read_at (x : Nat) (hx : x < 18446744073709551616) (w : World) :
    Calls Tryz.prog 119 #[.int .u64 x] w fun e w' => e = .returned (eV (rd x)) ∧ Below w.heap.size w w' := by
  have HX := hid hx
  clear hx
  have hR : Row .i64 ((w.alloc (.cells #[.bool false, .int .i64 0, .bool false, .int .i64 0] 95)).alloc (.cells #[.int .i64 1, .int .i64 3, .int .i64 1, .int .i64 7, .int .i64 12] 3)) (.slice (some ⟨w.heap.size + 1, 0, none⟩) 5 5) [1, 3, 1, 7, 12] := by
    have := row_new5 .i64 (w.alloc (.cells #[.bool false, .int .i64 0, .bool false, .int .i64 0] 95)) 3 1 3 1 7 12
    rw [World.size_alloc] at this
    exact this
  go_enter Tryz.func119, Tryz.ntmps119
  go_wp2_with fail
  refine (split_row x HX.out _ _ hR).mono ?_
  rintro e w1 ⟨b, off, cap, rfl, ⟨c0, c1, c2, c4⟩, hB⟩
  have a0 := stay hB (two_new w _ _).1
  have HB := hid (bgo (btwo w _ _) hB)
  obtain ⟨p00, p01, p02, p03, q00, q01, q02, q03⟩ := four a0
  have A0 := hid a0
  clear hB a0
  have l0 : x % 2 < 2 := Nat.mod_lt _ (by decide)
  have l1 : x / 2 % 8 < 8 := Nat.mod_lt _ (by decide)
  have l2 : x / 16 % 2 < 2 := Nat.mod_lt _ (by decide)
  have l3 : x / 4096 % 4096 < 4096 := Nat.mod_lt _ (by decide)
  obtain ⟨a, ha⟩ : ∃ k, x % 2 = k := ⟨_, rfl⟩
  obtain ⟨r, hr⟩ : ∃ k, x / 2 % 8 = k := ⟨_, rfl⟩
  obtain ⟨c, hc⟩ : ∃ k, x / 16 % 2 = k := ⟨_, rfl⟩
  obtain ⟨f, hf⟩ : ∃ k, x / 4096 % 4096 = k := ⟨_, rfl⟩
  obtain ⟨p, hp⟩ : ∃ k, ((a : Int) == 1) = k := ⟨_, rfl⟩
  obtain ⟨l, hl⟩ : ∃ k, ((c : Int) == 1) = k := ⟨_, rfl⟩
  have HD := hid (show rd x = ⟨p, r, l, f⟩ by unfold rd; rw [ha, hr, hc, hf, hp, hl])
  rw [ha] at c0 l0
  rw [hr] at c1 l1
  rw [hc] at c2 l2
  rw [hf] at c4 l3
  have er : IntKind.i64.wrap (r : Int) = r := by rw [IntKind.wrap_i64]; omega
  have ef : IntKind.i64.wrap (f : Int) = f := by rw [IntKind.wrap_i64]; omega
  clear ha hr hc hf HX hR
  (try simp only [])
  go_wp2_with fail
  go_region
  go_wp2
  (try simp only [Exit.inBlock, Exit.then])
  refine bodyPost_ret (results_cell_row rfl _ _ w.heap.size 95 _ (0, 0) _ rfl (show _ from put4 A0.out _ _ _ _) Tryz.underlying95 rfl size95) rfl ?_
  refine ⟨?_, (bput HB.out (Nat.le_refl _) _ _ _ _).drew⟩
  rw [HD.out]
  rfl

set_option maxRecDepth 100000 in
set_option maxHeartbeats 1000000 in
theorem parse_bad (x : Nat) (hx : x < 18446744073709551616) (p : Bool) (r : Int) (l : Bool) (f : Int) (w : World) (hD : rd x = ⟨p, r, l, f⟩) (h1 : rt ⟨p, r, l, f⟩ = false) :
    Calls Tryz.prog 89 #[.int .u64 x] w fun v w' => v = .returned (ptwo zd false) ∧ Below w.heap.size w w' := by
  have HX := hid hx
  have HD := hid hD
  have H1 := hid h1
  clear hx hD h1
  go_enter Tryz.func89, Tryz.ntmps89
  go_wp2_with fail
  refine (read_at x HX.out _).mono ?_
  rintro v w1 ⟨rfl, hB⟩
  rw [HD.out]
  unfold eV
  have a0 := stay hB (heap_alloc_new _ _)
  have HB0 := hid (bgo (below_one w _) hB)
  have l0 := lt_of_block a0
  have A00 := hid a0
  clear hB a0
  (try simp only [])
  go_wp2_with fail
  refine (pack_at ⟨p, r, l, f⟩ _).mono ?_
  rintro v w2 ⟨rfl, hB⟩
  have a0 := stay hB (hkeep A00.out _)
  have a1 := stay hB (heap_alloc_new _ _)
  have HB := hid (bgo (HB0.out.alloc HB0.out.size _) hB)
  clear hB l0 A00
  rw [show pk ⟨p, r, l, f⟩ = 0 by simp [pk, H1.out], show pkE ⟨p, r, l, f⟩ = 11 by simp [pkE, H1.out]]
  unfold wtwo
  obtain ⟨p00, p01, p02, p03, q00, q01, q02, q03⟩ := four a0
  have A0 := hid a0
  clear a0
  obtain ⟨p10, p11, p12, p13, q10, q11, q12, q13⟩ := four a1
  have A1 := hid a1
  clear a1
  (try simp only [])
  go_wp2
  (try simp only [Exit.inBlock, Exit.then])
  refine bodyPost_ret (results_row_tmp rfl _ _ w.heap.size _ rfl (run_loadVar_row _ _ 95 95 _ (0, 0) _ (put4 A0.out _ _ _ _) Tryz.underlying95 rfl size95)) rfl ?_
  exact ⟨rfl, bput HB.out (Nat.le_refl _) _ _ _ _⟩

set_option maxRecDepth 100000 in
set_option maxHeartbeats 1000000 in
theorem parse_odd (x : Nat) (hx : x < 18446744073709551616) (p : Bool) (r : Int) (l : Bool) (f : Int) (w : World) (hD : rd x = ⟨p, r, l, f⟩) (h1 : rt ⟨p, r, l, f⟩ = true) (W : Int) (hW : wd ⟨p, r, l, f⟩ = W) (h2 : (W != (x : Int)) = true) :
    Calls Tryz.prog 89 #[.int .u64 x] w fun v w' => v = .returned (ptwo zd false) ∧ Below w.heap.size w w' := by
  have HX := hid hx
  have HD := hid hD
  have H1 := hid h1
  have HW := hid hW
  clear hW
  clear hx hD h1
  go_enter Tryz.func89, Tryz.ntmps89
  go_wp2_with fail
  refine (read_at x HX.out _).mono ?_
  rintro v w1 ⟨rfl, hB⟩
  rw [HD.out]
  unfold eV
  have a0 := stay hB (heap_alloc_new _ _)
  have HB0 := hid (bgo (below_one w _) hB)
  have l0 := lt_of_block a0
  have A00 := hid a0
  clear hB a0
  (try simp only [])
  go_wp2_with fail
  refine (pack_at ⟨p, r, l, f⟩ _).mono ?_
  rintro v w2 ⟨rfl, hB⟩
  have a0 := stay hB (hkeep A00.out _)
  have a1 := stay hB (heap_alloc_new _ _)
  have HB := hid (bgo (HB0.out.alloc HB0.out.size _) hB)
  clear hB l0 A00
  rw [show pk ⟨p, r, l, f⟩ = W by simp [pk, H1.out, HW.out], show pkE ⟨p, r, l, f⟩ = 0 by simp [pkE, H1.out]]
  unfold wtwo
  obtain ⟨p00, p01, p02, p03, q00, q01, q02, q03⟩ := four a0
  have A0 := hid a0
  clear a0
  obtain ⟨p10, p11, p12, p13, q10, q11, q12, q13⟩ := four a1
  have A1 := hid a1
  clear a1
  (try simp only [])
  go_wp2
  (try simp only [Exit.inBlock, Exit.then])
  refine bodyPost_ret (results_row_tmp rfl _ _ w.heap.size _ rfl (run_loadVar_row _ _ 95 95 _ (0, 0) _ (put4 A0.out _ _ _ _) Tryz.underlying95 rfl size95)) rfl ?_
  exact ⟨rfl, bput HB.out (Nat.le_refl _) _ _ _ _⟩

set_option maxRecDepth 100000 in
set_option maxHeartbeats 1000000 in
theorem parse_ok (x : Nat) (hx : x < 18446744073709551616) (p : Bool) (r : Int) (l : Bool) (f : Int) (w : World) (hD : rd x = ⟨p, r, l, f⟩) (h1 : rt ⟨p, r, l, f⟩ = true) (W : Int) (hW : wd ⟨p, r, l, f⟩ = W) (h2 : (W != (x : Int)) = false) :
    Calls Tryz.prog 89 #[.int .u64 x] w fun v w' => v = .returned (ptwo ⟨p, r, l, f⟩ true) ∧ Below w.heap.size w w' := by
  have HX := hid hx
  have HD := hid hD
  have H1 := hid h1
  have HW := hid hW
  clear hW
  clear hx hD h1
  go_enter Tryz.func89, Tryz.ntmps89
  go_wp2_with fail
  refine (read_at x HX.out _).mono ?_
  rintro v w1 ⟨rfl, hB⟩
  rw [HD.out]
  unfold eV
  have a0 := stay hB (heap_alloc_new _ _)
  have HB0 := hid (bgo (below_one w _) hB)
  have l0 := lt_of_block a0
  have A00 := hid a0
  clear hB a0
  (try simp only [])
  go_wp2_with fail
  refine (pack_at ⟨p, r, l, f⟩ _).mono ?_
  rintro v w2 ⟨rfl, hB⟩
  have a0 := stay hB (hkeep A00.out _)
  have a1 := stay hB (heap_alloc_new _ _)
  have HB := hid (bgo (HB0.out.alloc HB0.out.size _) hB)
  clear hB l0 A00
  rw [show pk ⟨p, r, l, f⟩ = W by simp [pk, H1.out, HW.out], show pkE ⟨p, r, l, f⟩ = 0 by simp [pkE, H1.out]]
  unfold wtwo
  obtain ⟨p00, p01, p02, p03, q00, q01, q02, q03⟩ := four a0
  have A0 := hid a0
  clear a0
  obtain ⟨p10, p11, p12, p13, q10, q11, q12, q13⟩ := four a1
  have A1 := hid a1
  clear a1
  (try simp only [])
  go_wp2
  (try simp only [Exit.inBlock, Exit.then])
  refine bodyPost_ret (results_row_tmp rfl _ _ w.heap.size _ rfl (run_loadVar_row _ _ 95 95 _ (0, 0) _ (put4 A0.out _ _ _ _) Tryz.underlying95 rfl size95)) rfl ?_
  exact ⟨rfl, bput HB.out (Nat.le_refl _) _ _ _ _⟩

set_option maxRecDepth 100000 in
set_option maxHeartbeats 1000000 in
theorem rparse_bad (x : Nat) (hx : x < 18446744073709551616) (a r c f : Nat) (p l : Bool) (er : IntKind.i64.wrap (r : Int) = r) (ef : IntKind.i64.wrap (f : Int) = f) (hp : ((a : Int) == 1) = p) (hl : ((c : Int) == 1) = l) (w : World)
    (g1 : M.gt x 0 1 = a) (g2 : M.gt x 1 3 = r) (g3 : M.gt x 4 1 = c) (g4 : M.gt x 12 12 = f) (h1 : rt ⟨p, r, l, f⟩ = false) :
    Calls Tryz.prog 93 #[.int .u64 x] w fun v w' => v = .returned (ptwo zd false) ∧ Below w.heap.size w w' := by
  have HX := hid hx
  have H1 := hid h1
  have G1 := hid g1
  have G2 := hid g2
  have G3 := hid g3
  have G4 := hid g4
  clear hx h1 g1 g2 g3 g4
  go_enter Tryz.func93, Tryz.ntmps93
  go_wp2_with fail
  refine (rget_yes x 0 1 _ HX.out (by decide) (by decide)).mono ?_
  rintro v w1 ⟨rfl, hw'⟩; rw [hw', G1.out]; clear hw' w1
  go_wp2_with fail
  refine (rget_yes x 1 3 _ HX.out (by decide) (by decide)).mono ?_
  rintro v w1 ⟨rfl, hw'⟩; rw [hw', G2.out]; clear hw' w1
  go_wp2_with fail
  refine (rget_yes x 4 1 _ HX.out (by decide) (by decide)).mono ?_
  rintro v w1 ⟨rfl, hw'⟩; rw [hw', G3.out]; clear hw' w1
  go_wp2_with fail
  refine (rget_yes x 12 12 _ HX.out (by decide) (by decide)).mono ?_
  rintro v w1 ⟨rfl, hw'⟩; rw [hw', G4.out]; clear hw' w1
  go_wp2_with fail
  refine (rpack_at ⟨p, r, l, f⟩ _).mono ?_
  rintro v w2 ⟨rfl, hB⟩
  have a0 := stay hB (two_new w _ _).1
  have a1 := stay hB (two_new w _ _).2
  have HB := hid (bgo (btwo w _ _) hB)
  clear hB
  rw [show pk ⟨p, r, l, f⟩ = 0 by simp [pk, H1.out], show pkE ⟨p, r, l, f⟩ = 11 by simp [pkE, H1.out]]
  unfold wtwo
  obtain ⟨p00, p01, p02, p03, q00, q01, q02, q03⟩ := four a0
  have A0 := hid a0
  clear a0
  obtain ⟨p10, p11, p12, p13, q10, q11, q12, q13⟩ := four a1
  have A1 := hid a1
  clear a1
  (try simp only [])
  go_wp2
  (try simp only [Exit.inBlock, Exit.then])
  refine bodyPost_ret (results_row_tmp rfl _ _ w.heap.size _ rfl (run_loadVar_row _ _ 102 102 _ (0, 0) _ (put4 A0.out _ _ _ _) Tryz.underlying102 rfl size102)) rfl ?_
  exact ⟨rfl, bput HB.out (Nat.le_refl _) _ _ _ _⟩

set_option maxRecDepth 100000 in
set_option maxHeartbeats 1000000 in
theorem rparse_odd (x : Nat) (hx : x < 18446744073709551616) (a r c f : Nat) (p l : Bool) (er : IntKind.i64.wrap (r : Int) = r) (ef : IntKind.i64.wrap (f : Int) = f) (hp : ((a : Int) == 1) = p) (hl : ((c : Int) == 1) = l) (w : World)
    (g1 : M.gt x 0 1 = a) (g2 : M.gt x 1 3 = r) (g3 : M.gt x 4 1 = c) (g4 : M.gt x 12 12 = f) (h1 : rt ⟨p, r, l, f⟩ = true) (W : Int) (hW : wd ⟨p, r, l, f⟩ = W) (h2 : (W != (x : Int)) = true) :
    Calls Tryz.prog 93 #[.int .u64 x] w fun v w' => v = .returned (ptwo zd false) ∧ Below w.heap.size w w' := by
  have HX := hid hx
  have H1 := hid h1
  have G1 := hid g1
  have G2 := hid g2
  have G3 := hid g3
  have G4 := hid g4
  have HW := hid hW
  clear hW
  clear hx h1 g1 g2 g3 g4
  go_enter Tryz.func93, Tryz.ntmps93
  go_wp2_with fail
  refine (rget_yes x 0 1 _ HX.out (by decide) (by decide)).mono ?_
  rintro v w1 ⟨rfl, hw'⟩; rw [hw', G1.out]; clear hw' w1
  go_wp2_with fail
  refine (rget_yes x 1 3 _ HX.out (by decide) (by decide)).mono ?_
  rintro v w1 ⟨rfl, hw'⟩; rw [hw', G2.out]; clear hw' w1
  go_wp2_with fail
  refine (rget_yes x 4 1 _ HX.out (by decide) (by decide)).mono ?_
  rintro v w1 ⟨rfl, hw'⟩; rw [hw', G3.out]; clear hw' w1
  go_wp2_with fail
  refine (rget_yes x 12 12 _ HX.out (by decide) (by decide)).mono ?_
  rintro v w1 ⟨rfl, hw'⟩; rw [hw', G4.out]; clear hw' w1
  go_wp2_with fail
  refine (rpack_at ⟨p, r, l, f⟩ _).mono ?_
  rintro v w2 ⟨rfl, hB⟩
  have a0 := stay hB (two_new w _ _).1
  have a1 := stay hB (two_new w _ _).2
  have HB := hid (bgo (btwo w _ _) hB)
  clear hB
  rw [show pk ⟨p, r, l, f⟩ = W by simp [pk, H1.out, HW.out], show pkE ⟨p, r, l, f⟩ = 0 by simp [pkE, H1.out]]
  unfold wtwo
  obtain ⟨p00, p01, p02, p03, q00, q01, q02, q03⟩ := four a0
  have A0 := hid a0
  clear a0
  obtain ⟨p10, p11, p12, p13, q10, q11, q12, q13⟩ := four a1
  have A1 := hid a1
  clear a1
  (try simp only [])
  go_wp2
  (try simp only [Exit.inBlock, Exit.then])
  refine bodyPost_ret (results_row_tmp rfl _ _ w.heap.size _ rfl (run_loadVar_row _ _ 102 102 _ (0, 0) _ (put4 A0.out _ _ _ _) Tryz.underlying102 rfl size102)) rfl ?_
  exact ⟨rfl, bput HB.out (Nat.le_refl _) _ _ _ _⟩

set_option maxRecDepth 100000 in
set_option maxHeartbeats 1000000 in
theorem rparse_ok (x : Nat) (hx : x < 18446744073709551616) (a r c f : Nat) (p l : Bool) (er : IntKind.i64.wrap (r : Int) = r) (ef : IntKind.i64.wrap (f : Int) = f) (hp : ((a : Int) == 1) = p) (hl : ((c : Int) == 1) = l) (w : World)
    (g1 : M.gt x 0 1 = a) (g2 : M.gt x 1 3 = r) (g3 : M.gt x 4 1 = c) (g4 : M.gt x 12 12 = f) (h1 : rt ⟨p, r, l, f⟩ = true) (W : Int) (hW : wd ⟨p, r, l, f⟩ = W) (h2 : (W != (x : Int)) = false) :
    Calls Tryz.prog 93 #[.int .u64 x] w fun v w' => v = .returned (ptwo ⟨p, r, l, f⟩ true) ∧ Below w.heap.size w w' := by
  have HX := hid hx
  have H1 := hid h1
  have G1 := hid g1
  have G2 := hid g2
  have G3 := hid g3
  have G4 := hid g4
  have HW := hid hW
  clear hW
  clear hx h1 g1 g2 g3 g4
  go_enter Tryz.func93, Tryz.ntmps93
  go_wp2_with fail
  refine (rget_yes x 0 1 _ HX.out (by decide) (by decide)).mono ?_
  rintro v w1 ⟨rfl, hw'⟩; rw [hw', G1.out]; clear hw' w1
  go_wp2_with fail
  refine (rget_yes x 1 3 _ HX.out (by decide) (by decide)).mono ?_
  rintro v w1 ⟨rfl, hw'⟩; rw [hw', G2.out]; clear hw' w1
  go_wp2_with fail
  refine (rget_yes x 4 1 _ HX.out (by decide) (by decide)).mono ?_
  rintro v w1 ⟨rfl, hw'⟩; rw [hw', G3.out]; clear hw' w1
  go_wp2_with fail
  refine (rget_yes x 12 12 _ HX.out (by decide) (by decide)).mono ?_
  rintro v w1 ⟨rfl, hw'⟩; rw [hw', G4.out]; clear hw' w1
  go_wp2_with fail
  refine (rpack_at ⟨p, r, l, f⟩ _).mono ?_
  rintro v w2 ⟨rfl, hB⟩
  have a0 := stay hB (two_new w _ _).1
  have a1 := stay hB (two_new w _ _).2
  have HB := hid (bgo (btwo w _ _) hB)
  clear hB
  rw [show pk ⟨p, r, l, f⟩ = W by simp [pk, H1.out, HW.out], show pkE ⟨p, r, l, f⟩ = 0 by simp [pkE, H1.out]]
  unfold wtwo
  obtain ⟨p00, p01, p02, p03, q00, q01, q02, q03⟩ := four a0
  have A0 := hid a0
  clear a0
  obtain ⟨p10, p11, p12, p13, q10, q11, q12, q13⟩ := four a1
  have A1 := hid a1
  clear a1
  (try simp only [])
  go_wp2
  (try simp only [Exit.inBlock, Exit.then])
  refine bodyPost_ret (results_row_tmp rfl _ _ w.heap.size _ rfl (run_loadVar_row _ _ 102 102 _ (0, 0) _ (put4 A0.out _ _ _ _) Tryz.underlying102 rfl size102)) rfl ?_
  exact ⟨rfl, bput HB.out (Nat.le_refl _) _ _ _ _⟩

theorem prY_bad {x : Nat} {D : En} (h : rd x = D) (h1 : rt D = false) : prY x = false := by unfold prY; rw [h, h1]; rfl
theorem prY_odd {x : Nat} {D : En} (h : rd x = D) (h2 : (wd D != (x : Int)) = true) : prY x = false := by
  unfold prY; rw [h]
  have : (wd D == (x : Int)) = false := by simpa using h2
  rw [this, Bool.and_false]
theorem prY_ok {x : Nat} {D : En} (h : rd x = D) (h1 : rt D = true) (h2 : (wd D != (x : Int)) = false) : prY x = true := by
  unfold prY; rw [h, h1]
  have : (wd D == (x : Int)) = true := by simpa using h2
  rw [this]; rfl
theorem ptwo_eq {d d' : En} {b b' : Bool} (hd : d = d') (hb : b = b') : Ending.returned (ptwo d b) = .returned (ptwo d' b') := by rw [hd, hb]
theorem parse_at (x : Nat) (hx : x < 18446744073709551616) (w : World) :
    Calls Tryz.prog 89 #[.int .u64 x] w fun v w' => v = .returned (ptwo (prD x) (prY x)) ∧ Below w.heap.size w w' := by
  obtain ⟨D, hD⟩ : ∃ D, rd x = D := ⟨_, rfl⟩
  cases h1 : rt D
  · have e := prY_bad hD h1
    exact (parse_bad x hx D.p D.r D.l D.f w hD h1).mono fun v w' ⟨a, b⟩ => ⟨a.trans (ptwo_eq (by simp [prD, e]) e.symm), b⟩
  · cases h2 : (wd D != (x : Int))
    · have e := prY_ok hD h1 h2
      exact (parse_ok x hx D.p D.r D.l D.f w hD h1 _ rfl h2).mono fun v w' ⟨a, b⟩ => ⟨a.trans (ptwo_eq (by simp [prD, e, hD]) e.symm), b⟩
    · have e := prY_odd hD h2
      exact (parse_odd x hx D.p D.r D.l D.f w hD h1 _ rfl h2).mono fun v w' ⟨a, b⟩ => ⟨a.trans (ptwo_eq (by simp [prD, e]) e.symm), b⟩
theorem rparse_at (x : Nat) (hx : x < 18446744073709551616) (w : World) :
    Calls Tryz.prog 93 #[.int .u64 x] w fun v w' => v = .returned (ptwo (prD x) (prY x)) ∧ Below w.heap.size w w' := by
  obtain ⟨a, g1⟩ : ∃ k, M.gt x 0 1 = k := ⟨_, rfl⟩
  obtain ⟨r, g2⟩ : ∃ k, M.gt x 1 3 = k := ⟨_, rfl⟩
  obtain ⟨c, g3⟩ : ∃ k, M.gt x 4 1 = k := ⟨_, rfl⟩
  obtain ⟨f, g4⟩ : ∃ k, M.gt x 12 12 = k := ⟨_, rfl⟩
  have q1 : x % 2 = a := by rw [← g1]; simp [M.gt]
  have q2 : x / 2 % 8 = r := by rw [← g2]; simp [M.gt]
  have q3 : x / 16 % 2 = c := by rw [← g3]; simp [M.gt]
  have q4 : x / 4096 % 4096 = f := by rw [← g4]; simp [M.gt]
  obtain ⟨p, hp⟩ : ∃ k, ((a : Int) == 1) = k := ⟨_, rfl⟩
  obtain ⟨l, hl⟩ : ∃ k, ((c : Int) == 1) = k := ⟨_, rfl⟩
  have hD : rd x = ⟨p, r, l, f⟩ := by unfold rd; rw [q1, q2, q3, q4, hp, hl]
  have er : IntKind.i64.wrap (r : Int) = r := by rw [IntKind.wrap_i64]; omega
  have ef : IntKind.i64.wrap (f : Int) = f := by rw [IntKind.wrap_i64]; omega
  cases h1 : rt ⟨p, r, l, f⟩
  · have q := prY_bad hD h1
    exact (rparse_bad x hx a r c f p l er ef hp hl w g1 g2 g3 g4 h1).mono fun v w' ⟨a, b⟩ => ⟨a.trans (ptwo_eq (by simp [prD, q]) q.symm), b⟩
  · cases h2 : (wd ⟨p, r, l, f⟩ != (x : Int))
    · have q := prY_ok hD h1 h2
      exact (rparse_ok x hx a r c f p l er ef hp hl w g1 g2 g3 g4 h1 _ rfl h2).mono fun v w' ⟨a, b⟩ => ⟨a.trans (ptwo_eq (by simp [prD, q, hD]) q.symm), b⟩
    · have q := prY_odd hD h2
      exact (rparse_odd x hx a r c f p l er ef hp hl w g1 g2 g3 g4 h1 _ rfl h2).mono fun v w' ⟨a, b⟩ => ⟨a.trans (ptwo_eq (by simp [prD, q]) q.symm), b⟩
end Go.Proofs.YtpfmmlbakbhklaaGreatDoor.P
