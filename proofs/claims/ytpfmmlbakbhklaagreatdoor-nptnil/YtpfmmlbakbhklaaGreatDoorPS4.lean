/- What Pack returns, the program's and the document's, for every entry: the same word and error; the world's old blocks are as they were. No conditions. -/
import Derived.Test.YtpfmmlbakbhklaaGreatDoorPS2
namespace Go.Proofs.YtpfmmlbakbhklaaGreatDoor.P
open Go.RowKit

def bI (b : Bool) : Nat := if b = true then 1 else 0
/-- A right entry's word. -/
def wd (e : En) : Int := bI e.p + 2 * e.r + 16 * bI e.l + 4096 * e.f
def pkE (e : En) : Int := if rt e = true then 0 else 11
def pk (e : En) : Int := if rt e = true then wd e else 0
def wtwo (x e : Int) : Value := .tuple #[.int .u64 x, .int .i64 e]
theorem ret_wtwo {x y e : Int} (h : x = y) : Ending.returned (wtwo x e) = .returned (wtwo y e) := by rw [h]
theorem rt_in {e : En} (h : rt e = true) : 0 ≤ e.r ∧ e.r ≤ 7 ∧ 0 ≤ e.f ∧ e.f ≤ 4095 := by
  obtain ⟨p, r, l, f⟩ := e
  cases p
  · simp [rt] at h
    show 0 ≤ r ∧ r ≤ 7 ∧ 0 ≤ f ∧ f ≤ 4095
    omega
  · simp [rt] at h
    have h1 := btw_yes.1 h.1.1
    have h2 := btw_yes.1 h.1.2
    exact ⟨h1.1, h1.2, h2.1, h2.2⟩
theorem bI_lt (b : Bool) : bI b < 2 := by cases b <;> decide

set_option maxHeartbeats 400000 in
theorem bit_of (b : Bool) (w : World) : Calls Tryz.prog 139 #[.bool b] w fun v w' => v = .returned (.int .u64 (bI b : Nat)) ∧ w' = w := by
  cases b
  · go_enter Tryz.func139, Tryz.ntmps139
    go_wp2
    go_ret
    exact ⟨rfl, rfl⟩
  · go_enter Tryz.func139, Tryz.ntmps139
    go_wp2
    go_ret
    exact ⟨rfl, rfl⟩

theorem fPut_yes (x : Nat) (l s : Int) (v : Nat) (h : isF l s = true) : fPut x l s v = M.pt x l.toNat s.toNat v := by simp [fPut, h]
theorem pack5 (a r c f : Nat) (ha : a < 2) (hr : r < 8) (hc : c < 2) (hf : f < 4096) :
    ((packTo 0 0 [((a : Int), 1), (r, 3), (c, 1), (0, 7), (f, 12)] : Nat) : Int) = a + 2 * r + 16 * c + 4096 * f := by
  rw [packTo_yes _ _ _ _ (by show isF 0 1 = true; decide), packTo_yes _ _ _ _ (by show isF 1 3 = true; decide), packTo_yes _ _ _ _ (by show isF 4 1 = true; decide), packTo_yes _ _ _ _ (by show isF 5 7 = true; decide), packTo_yes _ _ _ _ (by show isF 12 12 = true; decide)]
  rw [fPut_yes _ _ _ _ (by show isF 12 12 = true; decide), fPut_yes _ _ _ _ (by show isF 5 7 = true; decide), fPut_yes _ _ _ _ (by show isF 4 1 = true; decide), fPut_yes _ _ _ _ (by show isF 1 3 = true; decide), fPut_yes _ _ _ _ (by show isF 0 1 = true; decide)]
  simp only [packTo, Int.toNat_natCast]
  unfold M.pt
  simp
  omega
theorem parts5 (w : World) (a b c d e : Int) :
    PRow (w.alloc (.cells #[.int .u64 a, .int .i64 1, .int .u64 b, .int .i64 3, .int .u64 c, .int .i64 1, .int .u64 d, .int .i64 7, .int .u64 e, .int .i64 12] 201)) w.heap.size 0 5 [(a, 1), (b, 3), (c, 1), (d, 7), (e, 12)] := by
  refine ⟨rfl, by simp, fun i hi => ?_⟩
  rw [World.cell?_alloc_at _ _ _ _ rfl, World.cell?_alloc_at _ _ _ _ rfl]
  match i, hi with
  | 0, _ => exact ⟨rfl, rfl⟩
  | 1, _ => exact ⟨rfl, rfl⟩
  | 2, _ => exact ⟨rfl, rfl⟩
  | 3, _ => exact ⟨rfl, rfl⟩
  | 4, _ => exact ⟨rfl, rfl⟩

set_option maxRecDepth 100000 in
set_option maxHeartbeats 400000 in
theorem pack_no (e : En) (w : World) (h1 : rt e = false) :
    Calls Tryz.prog 99 #[eV e] w fun x w' => x = .returned (wtwo 0 11) ∧ Below w.heap.size w w' := by
  obtain ⟨p, r, l, f⟩ := e
  have H1 := hid h1
  clear h1
  show Calls Tryz.prog 99 #[.agg #[.bool p, .int .i64 r, .bool l, .int .i64 f]] w _
  go_enter Tryz.func99, Tryz.ntmps99
  go_wp2_with fail
  refine (bl_at (right_at ⟨p, r, l, f⟩ _) H1.out).mono ?_
  rintro x w1 ⟨rfl, hB⟩
  have HB := hid (bgo (below_one w _) hB)
  clear hB
  (try simp only [])
  go_wp2
  go_ret2
  exact ⟨rfl, HB.out⟩

abbrev S4 (g : Nat) (p : Bool) (r : Int) (l : Bool) (f : Int) (w : World) : Prop := w.cell? ⟨g, 0, none⟩ = some (.bool p) ∧ w.cell? ⟨g, 1, none⟩ = some (.int .i64 r) ∧ w.cell? ⟨g, 2, none⟩ = some (.bool l) ∧ w.cell? ⟨g, 3, none⟩ = some (.int .i64 f)
theorem S4.of {g : Nat} {p : Bool} {r : Int} {l : Bool} {f : Int} {w : World} {t : TypeId} (h : w.heap[g]? = some (.cells #[.bool p, .int .i64 r, .bool l, .int .i64 f] t (0, 0))) : S4 g p r l f w :=
  ⟨cell_of h rfl, cell_of h rfl, cell_of h rfl, cell_of h rfl⟩

set_option maxRecDepth 100000 in
set_option maxHeartbeats 1000000 in
theorem pack_yes (p : Bool) (r : Nat) (l : Bool) (f : Nat) (w : World) (h1 : rt ⟨p, r, l, f⟩ = true) (hr : r < 8) (hf : f < 4096) :
    Calls Tryz.prog 99 #[.agg #[.bool p, .int .i64 r, .bool l, .int .i64 f]] w fun x w' => x = .returned (wtwo (wd ⟨p, r, l, f⟩) 0) ∧ Below w.heap.size w w' := by
  have H1 := hid h1
  have HP := hid (pack5 (bI p) r (bI l) f (bI_lt p) hr (bI_lt l) hf)
  have HV : Hid (∀ q ∈ [((bI p : Int), (1 : Int)), (r, 3), (bI l, 1), (0, 7), (f, 12)], 0 ≤ q.1) := hid (by simp)
  have er : IntKind.u64.wrap (r : Int) = r := by rw [IntKind.wrap_u64]; omega
  have ef : IntKind.u64.wrap (f : Int) = f := by rw [IntKind.wrap_u64]; omega
  have lr : (r : Int) ≤ 7 := by omega
  have lf : (f : Int) ≤ 4095 := by omega
  clear h1 hr hf
  go_enter Tryz.func99, Tryz.ntmps99
  go_wp2_with fail
  refine (bl_at (right_at ⟨p, r, l, f⟩ _) H1.out).mono ?_
  rintro x w1 ⟨rfl, hB⟩
  have A0 := hid (stay hB (heap_alloc_new _ _))
  have HB := hid (bgo (below_one w _) hB)
  clear hB
  (try simp only [])
  go_wp2_with fail
  have HA := hid (fun (o : Obj) => S4.of (w := (w1.alloc o).drew) (stay (below_one w1 o).drew A0.out))
  have hS0 := S4.of (w := w1.drew) (stay (Below.refl _ _).drew A0.out)
  have HH := hid (fun o (ho : o = .cells #[.int .u64 (bI p), .int .i64 1, .int .u64 r, .int .i64 3, .int .u64 (bI l), .int .i64 1, .int .u64 0, .int .i64 7, .int .u64 f, .int .i64 12] 201) =>
    (pack_some w1.heap.size 0 5 5 [(bI p, 1), (r, 3), (bI l, 1), (0, 7), (f, 12)] HV.out (w1.alloc o).drew (by unfold maxLen; decide) (by rw [ho]; exact (parts5 w1 _ _ _ _ _))).mono (R' := fun e w'' => e = .returned (.int .u64 (wd ⟨p, r, l, f⟩)) ∧ Hid (Below w.heap.size w w'') ∧ S4 w.heap.size p r l f w'')
      (fun _ _ ⟨he, K⟩ => ⟨he.trans (ret_int HP.out), hid (bgo (HB.out.alloc HB.out.size _).drew K), S4.of (stay K (stay (below_one w1 o).drew A0.out))⟩))
  simp only [S4] at hS0 HA HH
  clear A0 HP HV
  go_region_held3 (fun w' => w'.cell? ⟨w.heap.size, 0, none⟩ = some (.bool p) ∧ w'.cell? ⟨w.heap.size, 1, none⟩ = some (.int .i64 r) ∧ w'.cell? ⟨w.heap.size, 2, none⟩ = some (.bool l) ∧ w'.cell? ⟨w.heap.size, 3, none⟩ = some (.int .i64 f)) (first | with_reducible exact hS0 | with_reducible exact HA.out _ | with_reducible assumption)
    (first
      | (go_at_call 139; refine (bit_of _ _).mono ?_; rintro e v' ⟨rfl, hw'⟩; rw [hw']; clear hw' v')
      | (go_at_call 138; refine (HH.out _ rfl).mono ?_; rintro e v' ⟨rfl, hm', hs'⟩))
  go_wp2
  go_ret2
  exact ⟨rfl, hm'.out⟩

theorem pack_at (e : En) (w : World) :
    Calls Tryz.prog 99 #[eV e] w fun x w' => x = .returned (wtwo (pk e) (pkE e)) ∧ Below w.heap.size w w' := by
  cases h1 : rt e
  · rw [show pk e = 0 by simp [pk, h1], show pkE e = 11 by simp [pkE, h1]]
    exact pack_no e w h1
  · rw [show pk e = wd e by simp [pk, h1], show pkE e = 0 by simp [pkE, h1]]
    obtain ⟨g1, g2, g3, g4⟩ := rt_in h1
    obtain ⟨p, r, l, f⟩ := e
    simp only at g1 g2 g3 g4
    obtain ⟨r, rfl⟩ := Int.eq_ofNat_of_zero_le g1
    obtain ⟨f, rfl⟩ := Int.eq_ofNat_of_zero_le g3
    exact pack_yes p r l f w h1 (by omega) (by omega)

set_option maxRecDepth 100000 in
set_option maxHeartbeats 400000 in
theorem rpack_no (e : En) (w : World) (h1 : rt e = false) :
    Calls Tryz.prog 117 #[eV e] w fun x w' => x = .returned (wtwo 0 11) ∧ Below w.heap.size w w' := by
  obtain ⟨p, r, l, f⟩ := e
  have H1 := hid h1
  clear h1
  show Calls Tryz.prog 117 #[.agg #[.bool p, .int .i64 r, .bool l, .int .i64 f]] w _
  go_enter Tryz.func117, Tryz.ntmps117
  go_wp2_with fail
  refine (bl_at (rright_at ⟨p, r, l, f⟩ _) H1.out).mono ?_
  rintro x w1 ⟨rfl, hB⟩
  have HB := hid (bgo (below_one w _) hB)
  clear hB
  (try simp only [])
  go_wp2
  go_ret2
  exact ⟨rfl, HB.out⟩

set_option maxRecDepth 100000 in
set_option maxHeartbeats 400000 in
theorem rpack_yes (p : Bool) (r : Nat) (l : Bool) (f : Nat) (w : World) (h1 : rt ⟨p, r, l, f⟩ = true) (hr : r < 8) (hf : f < 4096) :
    Calls Tryz.prog 117 #[.agg #[.bool p, .int .i64 r, .bool l, .int .i64 f]] w fun x w' => x = .returned (wtwo (wd ⟨p, r, l, f⟩) 0) ∧ Below w.heap.size w w' := by
  have H1 := hid h1
  have er : IntKind.u64.wrap (r : Int) = r := by rw [IntKind.wrap_u64]; omega
  have ef : IntKind.u64.wrap (f : Int) = f := by rw [IntKind.wrap_u64]; omega
  have lr : (r : Int) ≤ 7 := by omega
  have lf : (f : Int) ≤ 4095 := by omega
  clear h1
  cases p <;> cases l
  · go_enter Tryz.func117, Tryz.ntmps117
    go_wp2_with fail
    refine (bl_at (rright_at ⟨false, r, false, f⟩ _) H1.out).mono ?_
    rintro x w1 ⟨rfl, hB⟩
    have a0 := stay hB (heap_alloc_new _ _)
    have HB := hid (bgo (below_one w _) hB)
    obtain ⟨p00, p01, p02, p03, -, -, -, -⟩ := four a0
    clear hB a0
    (try simp only [])
    go_wp2
    go_ret2
    refine ⟨ret_wtwo ?_, HB.out⟩
    first
      | (simp [wd, bI]; done)
      | (simp [wd, bI]; omega)
  · go_enter Tryz.func117, Tryz.ntmps117
    go_wp2_with fail
    refine (bl_at (rright_at ⟨false, r, true, f⟩ _) H1.out).mono ?_
    rintro x w1 ⟨rfl, hB⟩
    have a0 := stay hB (heap_alloc_new _ _)
    have HB := hid (bgo (below_one w _) hB)
    obtain ⟨p00, p01, p02, p03, -, -, -, -⟩ := four a0
    clear hB a0
    (try simp only [])
    go_wp2
    go_ret2
    refine ⟨ret_wtwo ?_, HB.out⟩
    first
      | (simp [wd, bI]; done)
      | (simp [wd, bI]; omega)
  · go_enter Tryz.func117, Tryz.ntmps117
    go_wp2_with fail
    refine (bl_at (rright_at ⟨true, r, false, f⟩ _) H1.out).mono ?_
    rintro x w1 ⟨rfl, hB⟩
    have a0 := stay hB (heap_alloc_new _ _)
    have HB := hid (bgo (below_one w _) hB)
    obtain ⟨p00, p01, p02, p03, -, -, -, -⟩ := four a0
    clear hB a0
    (try simp only [])
    go_wp2
    go_ret2
    refine ⟨ret_wtwo ?_, HB.out⟩
    first
      | (simp [wd, bI]; done)
      | (simp [wd, bI]; omega)
  · go_enter Tryz.func117, Tryz.ntmps117
    go_wp2_with fail
    refine (bl_at (rright_at ⟨true, r, true, f⟩ _) H1.out).mono ?_
    rintro x w1 ⟨rfl, hB⟩
    have a0 := stay hB (heap_alloc_new _ _)
    have HB := hid (bgo (below_one w _) hB)
    obtain ⟨p00, p01, p02, p03, -, -, -, -⟩ := four a0
    clear hB a0
    (try simp only [])
    go_wp2
    go_ret2
    refine ⟨ret_wtwo ?_, HB.out⟩
    first
      | (simp [wd, bI]; done)
      | (simp [wd, bI]; omega)

theorem rpack_at (e : En) (w : World) :
    Calls Tryz.prog 117 #[eV e] w fun x w' => x = .returned (wtwo (pk e) (pkE e)) ∧ Below w.heap.size w w' := by
  cases h1 : rt e
  · rw [show pk e = 0 by simp [pk, h1], show pkE e = 11 by simp [pkE, h1]]
    exact rpack_no e w h1
  · rw [show pk e = wd e by simp [pk, h1], show pkE e = 0 by simp [pkE, h1]]
    obtain ⟨g1, g2, g3, g4⟩ := rt_in h1
    obtain ⟨p, r, l, f⟩ := e
    simp only at g1 g2 g3 g4
    obtain ⟨r, rfl⟩ := Int.eq_ofNat_of_zero_le g1
    obtain ⟨f, rfl⟩ := Int.eq_ofNat_of_zero_le g3
    exact rpack_yes p r l f w h1 (by omega) (by omega)
end Go.Proofs.YtpfmmlbakbhklaaGreatDoor.P
