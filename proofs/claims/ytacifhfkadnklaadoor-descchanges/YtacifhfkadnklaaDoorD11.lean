/- What Parse returns, the program's and the document's, for every word: the same descriptor and answer; and what 'plain' returns. The world's old blocks are as they were. Condition: the package's two tables lie in their variables (for the program's call). -/
import Derived.Test.YtacifhfkadnklaaDoorD10
namespace Go.Proofs.YtacifhfkadnklaaDoor
open Go.RowKit

def ptwo (d : Ds) (b : Bool) : Value := .tuple #[dV d, .bool b]
def prY (x : Nat) : Bool := rt (rd x) && (wd (rd x) == x)
def prD (x : Nat) : Ds := if prY x = true then rd x else zd

set_option maxRecDepth 100000 in
set_option maxHeartbeats 1000000 in
theorem parse_bad (x : Nat) (hx : x < 18446744073709551616) (k o r e : Int) (w : World) (hT : Tab w) (hD : rd x = ⟨k, o, r, e⟩) (h1 : rt ⟨k, o, r, e⟩ = false) :
    Calls Tryd.prog 11 #[.int .u64 x] w fun v w' => v = .returned (ptwo zd false) ∧ Below w.heap.size w w' := by
  have HX := hid hx
  have HT := hid hT
  have HD := hid hD
  have H1 := hid h1
  clear hx hT hD h1
  go_enter Tryd.func11, Tryd.ntmps11
  go_wp2_with fail
  refine (read_at x HX.out _).mono ?_
  rintro v w1 ⟨rfl, hB⟩
  rw [HD.out]
  unfold dV
  have a0 := stay hB (heap_alloc_new _ _)
  have HB0 := hid (bgo (below_one w _) hB)
  have l0 := lt_of_block a0
  have A00 := hid a0
  clear hB a0
  (try simp only [])
  go_wp2_with fail
  refine (pack_at ⟨k, o, r, e⟩ _ ((HT.out.go HB0.out).alloc _)).mono ?_
  rintro v w2 ⟨rfl, hB⟩
  have a0 := stay hB (hkeep A00.out _)
  have a1 := stay hB (heap_alloc_new _ _)
  have HB := hid (bgo (HB0.out.alloc HB0.out.size _) hB)
  clear hB l0 A00
  rw [show pk ⟨k, o, r, e⟩ = 0 by simp [pk, H1.out], show pkE ⟨k, o, r, e⟩ = 11 by simp [pkE, H1.out]]
  unfold wtwo
  obtain ⟨p00, p01, p02, p03, q00, q01, q02, q03⟩ := four a0
  have A0 := hid a0
  clear a0
  obtain ⟨p10, p11, p12, p13, q10, q11, q12, q13⟩ := four a1
  have A1 := hid a1
  clear a1
  (try simp only [])
  go_wp2
  (try simp only [Exit.inBlock, Exit.then])
  refine bodyPost_ret (results_row_tmp rfl _ _ w.heap.size _ rfl (run_loadVar_row _ _ 23 23 _ (0, 0) _ (put4 A0.out _ _ _ _) Tryd.underlying23 rfl size23)) rfl ?_
  exact ⟨rfl, bput HB.out (Nat.le_refl _) _ _ _ _⟩

set_option maxRecDepth 100000 in
set_option maxHeartbeats 1000000 in
theorem rparse_bad (x : Nat) (hx : x < 18446744073709551616) (k o r e : Nat) (hk : k < 16) (ho : o < 256) (hr : r < 65536) (he : e < 4294967296) (w : World)
    (g1 : M.gt x 0 4 = k) (g2 : M.gt x 4 8 = o) (g3 : M.gt x 12 16 = r) (g4 : M.gt x 32 32 = e) (h1 : rt ⟨k, o, r, e⟩ = false) :
    Calls Tryd.prog 12 #[.int .u64 x] w fun v w' => v = .returned (ptwo zd false) ∧ Below w.heap.size w w' := by
  have HX := hid hx
  have H1 := hid h1
  have G1 := hid g1
  have G2 := hid g2
  have G3 := hid g3
  have G4 := hid g4
  clear hx h1 g1 g2 g3 g4
  go_enter Tryd.func12, Tryd.ntmps12
  go_wp2_with fail
  refine (rget_yes x 0 4 _ HX.out (by decide) (by decide)).mono ?_
  rintro v w1 ⟨rfl, hw'⟩; rw [hw', G1.out]; clear hw' w1
  go_wp2_with fail
  refine (rget_yes x 4 8 _ HX.out (by decide) (by decide)).mono ?_
  rintro v w1 ⟨rfl, hw'⟩; rw [hw', G2.out]; clear hw' w1
  go_wp2_with fail
  refine (rget_yes x 12 16 _ HX.out (by decide) (by decide)).mono ?_
  rintro v w1 ⟨rfl, hw'⟩; rw [hw', G3.out]; clear hw' w1
  go_wp2_with fail
  refine (rget_yes x 32 32 _ HX.out (by decide) (by decide)).mono ?_
  rintro v w1 ⟨rfl, hw'⟩; rw [hw', G4.out]; clear hw' w1
  go_wp2_with fail
  refine (rpack_at ⟨k, o, r, e⟩ _).mono ?_
  rintro v w2 ⟨rfl, hB⟩
  have a0 := stay hB (two_new w _ _).1
  have a1 := stay hB (two_new w _ _).2
  have HB := hid (bgo (btwo w _ _) hB)
  clear hB
  rw [show pk ⟨k, o, r, e⟩ = 0 by simp [pk, H1.out], show pkE ⟨k, o, r, e⟩ = 11 by simp [pkE, H1.out]]
  unfold wtwo
  obtain ⟨p00, p01, p02, p03, q00, q01, q02, q03⟩ := four a0
  have A0 := hid a0
  clear a0
  obtain ⟨p10, p11, p12, p13, q10, q11, q12, q13⟩ := four a1
  have A1 := hid a1
  clear a1
  (try simp only [])
  go_wp2
  (try simp only [Exit.inBlock, Exit.then])
  refine bodyPost_ret (results_row_tmp rfl _ _ w.heap.size _ rfl (run_loadVar_row _ _ 29 29 _ (0, 0) _ (put4 A0.out _ _ _ _) Tryd.underlying29 rfl size29)) rfl ?_
  exact ⟨rfl, bput HB.out (Nat.le_refl _) _ _ _ _⟩


set_option maxRecDepth 100000 in
set_option maxHeartbeats 1000000 in
theorem parse_odd (x : Nat) (hx : x < 18446744073709551616) (k o r e : Int) (w : World) (hT : Tab w) (hD : rd x = ⟨k, o, r, e⟩) (h1 : rt ⟨k, o, r, e⟩ = true) (W : Int) (hW : wd ⟨k, o, r, e⟩ = W) (h2 : (W != (x : Int)) = true) :
    Calls Tryd.prog 11 #[.int .u64 x] w fun v w' => v = .returned (ptwo zd false) ∧ Below w.heap.size w w' := by
  have HX := hid hx
  have HT := hid hT
  have HD := hid hD
  have H1 := hid h1
  have HW := hid hW
  clear hW
  clear hx hT hD h1
  go_enter Tryd.func11, Tryd.ntmps11
  go_wp2_with fail
  refine (read_at x HX.out _).mono ?_
  rintro v w1 ⟨rfl, hB⟩
  rw [HD.out]
  unfold dV
  have a0 := stay hB (heap_alloc_new _ _)
  have HB0 := hid (bgo (below_one w _) hB)
  have l0 := lt_of_block a0
  have A00 := hid a0
  clear hB a0
  (try simp only [])
  go_wp2_with fail
  refine (pack_at ⟨k, o, r, e⟩ _ ((HT.out.go HB0.out).alloc _)).mono ?_
  rintro v w2 ⟨rfl, hB⟩
  have a0 := stay hB (hkeep A00.out _)
  have a1 := stay hB (heap_alloc_new _ _)
  have HB := hid (bgo (HB0.out.alloc HB0.out.size _) hB)
  clear hB l0 A00
  rw [show pk ⟨k, o, r, e⟩ = W by simp [pk, H1.out, HW.out], show pkE ⟨k, o, r, e⟩ = 0 by simp [pkE, H1.out]]
  unfold wtwo
  obtain ⟨p00, p01, p02, p03, q00, q01, q02, q03⟩ := four a0
  have A0 := hid a0
  clear a0
  obtain ⟨p10, p11, p12, p13, q10, q11, q12, q13⟩ := four a1
  have A1 := hid a1
  clear a1
  (try simp only [])
  go_wp2
  (try simp only [Exit.inBlock, Exit.then])
  refine bodyPost_ret (results_row_tmp rfl _ _ w.heap.size _ rfl (run_loadVar_row _ _ 23 23 _ (0, 0) _ (put4 A0.out _ _ _ _) Tryd.underlying23 rfl size23)) rfl ?_
  exact ⟨rfl, bput HB.out (Nat.le_refl _) _ _ _ _⟩

set_option maxRecDepth 100000 in
set_option maxHeartbeats 1000000 in
theorem rparse_odd (x : Nat) (hx : x < 18446744073709551616) (k o r e : Nat) (hk : k < 16) (ho : o < 256) (hr : r < 65536) (he : e < 4294967296) (w : World)
    (g1 : M.gt x 0 4 = k) (g2 : M.gt x 4 8 = o) (g3 : M.gt x 12 16 = r) (g4 : M.gt x 32 32 = e) (h1 : rt ⟨k, o, r, e⟩ = true) (W : Int) (hW : wd ⟨k, o, r, e⟩ = W) (h2 : (W != (x : Int)) = true) :
    Calls Tryd.prog 12 #[.int .u64 x] w fun v w' => v = .returned (ptwo zd false) ∧ Below w.heap.size w w' := by
  have HX := hid hx
  have H1 := hid h1
  have G1 := hid g1
  have G2 := hid g2
  have G3 := hid g3
  have G4 := hid g4
  have HW := hid hW
  clear hW
  clear hx h1 g1 g2 g3 g4
  go_enter Tryd.func12, Tryd.ntmps12
  go_wp2_with fail
  refine (rget_yes x 0 4 _ HX.out (by decide) (by decide)).mono ?_
  rintro v w1 ⟨rfl, hw'⟩; rw [hw', G1.out]; clear hw' w1
  go_wp2_with fail
  refine (rget_yes x 4 8 _ HX.out (by decide) (by decide)).mono ?_
  rintro v w1 ⟨rfl, hw'⟩; rw [hw', G2.out]; clear hw' w1
  go_wp2_with fail
  refine (rget_yes x 12 16 _ HX.out (by decide) (by decide)).mono ?_
  rintro v w1 ⟨rfl, hw'⟩; rw [hw', G3.out]; clear hw' w1
  go_wp2_with fail
  refine (rget_yes x 32 32 _ HX.out (by decide) (by decide)).mono ?_
  rintro v w1 ⟨rfl, hw'⟩; rw [hw', G4.out]; clear hw' w1
  go_wp2_with fail
  refine (rpack_at ⟨k, o, r, e⟩ _).mono ?_
  rintro v w2 ⟨rfl, hB⟩
  have a0 := stay hB (two_new w _ _).1
  have a1 := stay hB (two_new w _ _).2
  have HB := hid (bgo (btwo w _ _) hB)
  clear hB
  rw [show pk ⟨k, o, r, e⟩ = W by simp [pk, H1.out, HW.out], show pkE ⟨k, o, r, e⟩ = 0 by simp [pkE, H1.out]]
  unfold wtwo
  obtain ⟨p00, p01, p02, p03, q00, q01, q02, q03⟩ := four a0
  have A0 := hid a0
  clear a0
  obtain ⟨p10, p11, p12, p13, q10, q11, q12, q13⟩ := four a1
  have A1 := hid a1
  clear a1
  (try simp only [])
  go_wp2
  (try simp only [Exit.inBlock, Exit.then])
  refine bodyPost_ret (results_row_tmp rfl _ _ w.heap.size _ rfl (run_loadVar_row _ _ 29 29 _ (0, 0) _ (put4 A0.out _ _ _ _) Tryd.underlying29 rfl size29)) rfl ?_
  exact ⟨rfl, bput HB.out (Nat.le_refl _) _ _ _ _⟩


set_option maxRecDepth 100000 in
set_option maxHeartbeats 1000000 in
theorem parse_ok (x : Nat) (hx : x < 18446744073709551616) (k o r e : Int) (w : World) (hT : Tab w) (hD : rd x = ⟨k, o, r, e⟩) (h1 : rt ⟨k, o, r, e⟩ = true) (W : Int) (hW : wd ⟨k, o, r, e⟩ = W) (h2 : (W != (x : Int)) = false) :
    Calls Tryd.prog 11 #[.int .u64 x] w fun v w' => v = .returned (ptwo ⟨k, o, r, e⟩ true) ∧ Below w.heap.size w w' := by
  have HX := hid hx
  have HT := hid hT
  have HD := hid hD
  have H1 := hid h1
  have HW := hid hW
  clear hW
  clear hx hT hD h1
  go_enter Tryd.func11, Tryd.ntmps11
  go_wp2_with fail
  refine (read_at x HX.out _).mono ?_
  rintro v w1 ⟨rfl, hB⟩
  rw [HD.out]
  unfold dV
  have a0 := stay hB (heap_alloc_new _ _)
  have HB0 := hid (bgo (below_one w _) hB)
  have l0 := lt_of_block a0
  have A00 := hid a0
  clear hB a0
  (try simp only [])
  go_wp2_with fail
  refine (pack_at ⟨k, o, r, e⟩ _ ((HT.out.go HB0.out).alloc _)).mono ?_
  rintro v w2 ⟨rfl, hB⟩
  have a0 := stay hB (hkeep A00.out _)
  have a1 := stay hB (heap_alloc_new _ _)
  have HB := hid (bgo (HB0.out.alloc HB0.out.size _) hB)
  clear hB l0 A00
  rw [show pk ⟨k, o, r, e⟩ = W by simp [pk, H1.out, HW.out], show pkE ⟨k, o, r, e⟩ = 0 by simp [pkE, H1.out]]
  unfold wtwo
  obtain ⟨p00, p01, p02, p03, q00, q01, q02, q03⟩ := four a0
  have A0 := hid a0
  clear a0
  obtain ⟨p10, p11, p12, p13, q10, q11, q12, q13⟩ := four a1
  have A1 := hid a1
  clear a1
  (try simp only [])
  go_wp2
  (try simp only [Exit.inBlock, Exit.then])
  refine bodyPost_ret (results_row_tmp rfl _ _ w.heap.size _ rfl (run_loadVar_row _ _ 23 23 _ (0, 0) _ (put4 A0.out _ _ _ _) Tryd.underlying23 rfl size23)) rfl ?_
  exact ⟨rfl, bput HB.out (Nat.le_refl _) _ _ _ _⟩

set_option maxRecDepth 100000 in
set_option maxHeartbeats 1000000 in
theorem rparse_ok (x : Nat) (hx : x < 18446744073709551616) (k o r e : Nat) (hk : k < 16) (ho : o < 256) (hr : r < 65536) (he : e < 4294967296) (w : World)
    (g1 : M.gt x 0 4 = k) (g2 : M.gt x 4 8 = o) (g3 : M.gt x 12 16 = r) (g4 : M.gt x 32 32 = e) (h1 : rt ⟨k, o, r, e⟩ = true) (W : Int) (hW : wd ⟨k, o, r, e⟩ = W) (h2 : (W != (x : Int)) = false) :
    Calls Tryd.prog 12 #[.int .u64 x] w fun v w' => v = .returned (ptwo ⟨k, o, r, e⟩ true) ∧ Below w.heap.size w w' := by
  have HX := hid hx
  have H1 := hid h1
  have G1 := hid g1
  have G2 := hid g2
  have G3 := hid g3
  have G4 := hid g4
  have HW := hid hW
  clear hW
  clear hx h1 g1 g2 g3 g4
  go_enter Tryd.func12, Tryd.ntmps12
  go_wp2_with fail
  refine (rget_yes x 0 4 _ HX.out (by decide) (by decide)).mono ?_
  rintro v w1 ⟨rfl, hw'⟩; rw [hw', G1.out]; clear hw' w1
  go_wp2_with fail
  refine (rget_yes x 4 8 _ HX.out (by decide) (by decide)).mono ?_
  rintro v w1 ⟨rfl, hw'⟩; rw [hw', G2.out]; clear hw' w1
  go_wp2_with fail
  refine (rget_yes x 12 16 _ HX.out (by decide) (by decide)).mono ?_
  rintro v w1 ⟨rfl, hw'⟩; rw [hw', G3.out]; clear hw' w1
  go_wp2_with fail
  refine (rget_yes x 32 32 _ HX.out (by decide) (by decide)).mono ?_
  rintro v w1 ⟨rfl, hw'⟩; rw [hw', G4.out]; clear hw' w1
  go_wp2_with fail
  refine (rpack_at ⟨k, o, r, e⟩ _).mono ?_
  rintro v w2 ⟨rfl, hB⟩
  have a0 := stay hB (two_new w _ _).1
  have a1 := stay hB (two_new w _ _).2
  have HB := hid (bgo (btwo w _ _) hB)
  clear hB
  rw [show pk ⟨k, o, r, e⟩ = W by simp [pk, H1.out, HW.out], show pkE ⟨k, o, r, e⟩ = 0 by simp [pkE, H1.out]]
  unfold wtwo
  obtain ⟨p00, p01, p02, p03, q00, q01, q02, q03⟩ := four a0
  have A0 := hid a0
  clear a0
  obtain ⟨p10, p11, p12, p13, q10, q11, q12, q13⟩ := four a1
  have A1 := hid a1
  clear a1
  (try simp only [])
  go_wp2
  (try simp only [Exit.inBlock, Exit.then])
  refine bodyPost_ret (results_row_tmp rfl _ _ w.heap.size _ rfl (run_loadVar_row _ _ 29 29 _ (0, 0) _ (put4 A0.out _ _ _ _) Tryd.underlying29 rfl size29)) rfl ?_
  exact ⟨rfl, bput HB.out (Nat.le_refl _) _ _ _ _⟩


theorem prY_bad {x : Nat} {D : Ds} (h : rd x = D) (h1 : rt D = false) : prY x = false := by unfold prY; rw [h, h1]; rfl
theorem prY_odd {x : Nat} {D : Ds} (h : rd x = D) (h2 : (wd D != (x : Int)) = true) : prY x = false := by
  unfold prY; rw [h]
  have : (wd D == (x : Int)) = false := by simpa using h2
  rw [this, Bool.and_false]
theorem prY_ok {x : Nat} {D : Ds} (h : rd x = D) (h1 : rt D = true) (h2 : (wd D != (x : Int)) = false) : prY x = true := by
  unfold prY; rw [h, h1]
  have : (wd D == (x : Int)) = true := by simpa using h2
  rw [this]; rfl
theorem ptwo_eq {d d' : Ds} {b b' : Bool} (hd : d = d') (hb : b = b') : Ending.returned (ptwo d b) = .returned (ptwo d' b') := by rw [hd, hb]
theorem parse_at (x : Nat) (hx : x < 18446744073709551616) (w : World) (hT : Tab w) :
    Calls Tryd.prog 11 #[.int .u64 x] w fun v w' => v = .returned (ptwo (prD x) (prY x)) ∧ Below w.heap.size w w' := by
  obtain ⟨D, hD⟩ : ∃ D, rd x = D := ⟨_, rfl⟩
  cases h1 : rt D
  · have e := prY_bad hD h1
    exact (parse_bad x hx D.k D.o D.r D.e w hT hD h1).mono fun v w' ⟨a, b⟩ => ⟨a.trans (ptwo_eq (by simp [prD, e]) e.symm), b⟩
  · cases h2 : (wd D != (x : Int))
    · have e := prY_ok hD h1 h2
      exact (parse_ok x hx D.k D.o D.r D.e w hT hD h1 _ rfl h2).mono fun v w' ⟨a, b⟩ => ⟨a.trans (ptwo_eq (by simp [prD, e, hD]) e.symm), b⟩
    · have e := prY_odd hD h2
      exact (parse_odd x hx D.k D.o D.r D.e w hT hD h1 _ rfl h2).mono fun v w' ⟨a, b⟩ => ⟨a.trans (ptwo_eq (by simp [prD, e]) e.symm), b⟩
theorem rparse_at (x : Nat) (hx : x < 18446744073709551616) (w : World) :
    Calls Tryd.prog 12 #[.int .u64 x] w fun v w' => v = .returned (ptwo (prD x) (prY x)) ∧ Below w.heap.size w w' := by
  obtain ⟨k, g1⟩ : ∃ k, M.gt x 0 4 = k := ⟨_, rfl⟩
  obtain ⟨o, g2⟩ : ∃ k, M.gt x 4 8 = k := ⟨_, rfl⟩
  obtain ⟨r, g3⟩ : ∃ k, M.gt x 12 16 = k := ⟨_, rfl⟩
  obtain ⟨e, g4⟩ : ∃ k, M.gt x 32 32 = k := ⟨_, rfl⟩
  have q1 : x % 16 = k := by rw [← g1]; simp [M.gt]
  have q2 : x / 16 % 256 = o := by rw [← g2]; simp [M.gt]
  have q3 : x / 4096 % 65536 = r := by rw [← g3]; simp [M.gt]
  have q4 : x / 4294967296 % 4294967296 = e := by rw [← g4]; simp [M.gt]
  have hD : rd x = ⟨k, o, r, e⟩ := by unfold rd; rw [q1, q2, q3, q4]
  have b1 : k < 16 := by omega
  have b2 : o < 256 := by omega
  have b3 : r < 65536 := by omega
  have b4 : e < 4294967296 := by omega
  cases h1 : rt ⟨k, o, r, e⟩
  · have q := prY_bad hD h1
    exact (rparse_bad x hx k o r e b1 b2 b3 b4 w g1 g2 g3 g4 h1).mono fun v w' ⟨a, b⟩ => ⟨a.trans (ptwo_eq (by simp [prD, q]) q.symm), b⟩
  · cases h2 : (wd ⟨k, o, r, e⟩ != (x : Int))
    · have q := prY_ok hD h1 h2
      exact (rparse_ok x hx k o r e b1 b2 b3 b4 w g1 g2 g3 g4 h1 _ rfl h2).mono fun v w' ⟨a, b⟩ => ⟨a.trans (ptwo_eq (by simp [prD, q, hD]) q.symm), b⟩
    · have q := prY_odd hD h2
      exact (rparse_odd x hx k o r e b1 b2 b3 b4 w g1 g2 g3 g4 h1 _ rfl h2).mono fun v w' ⟨a, b⟩ => ⟨a.trans (ptwo_eq (by simp [prD, q]) q.symm), b⟩

set_option maxHeartbeats 400000 in
theorem plain_at (d : Ds) (w : World) : Calls Tryd.prog 10 #[dV d] w fun v w' => v = .returned (dV d) ∧ Below w.heap.size w w' := by
  obtain ⟨k, o, r, e⟩ := d
  show Calls Tryd.prog 10 #[.agg #[.int .i64 k, .int .i64 o, .int .i64 r, .int .i64 e]] w _
  go_enter Tryd.func10, Tryd.ntmps10
  go_wp2
  (try simp only [Exit.inBlock, Exit.then])
  refine bodyPost_ret (results_cell_row rfl _ _ (w.heap.size + 1) 29 #[.int .i64 k, .int .i64 o, .int .i64 r, .int .i64 e] (0, 0) _ rfl (two_new w _ _).2 Tryd.underlying29 rfl size29) rfl ?_
  exact ⟨rfl, btwo w _ _⟩
end Go.Proofs.YtacifhfkadnklaaDoor
