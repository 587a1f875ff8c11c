/- What Pack returns, the program's and the document's, for every descriptor: the same word and error; the world's old blocks are as they were. Condition: the package's two tables lie in their variables (for the program's call). -/
import Derived.Test.YtacifhfkadnklaaDoorD4
namespace Go.Proofs.YtacifhfkadnklaaDoor
open Go.RowKit

/-- A right descriptor's word. -/
def wd (d : Ds) : Int := d.k + 16 * d.o + 4096 * d.r + 4294967296 * d.e
def pkE (d : Ds) : Int := if rt d = true then 0 else 11
def pk (d : Ds) : Int := if rt d = true then wd d else 0
def wtwo (x e : Int) : Value := .tuple #[.int .u64 x, .int .i64 e]

theorem ret_wtwo {x y e : Int} (h : x = y) : Ending.returned (wtwo x e) = .returned (wtwo y e) := by rw [h]
theorem fPut_yes (x : Nat) (l s : Int) (v : Nat) (h : isF l s = true) : fPut x l s v = M.pt x l.toNat s.toNat v := by simp [fPut, h]
theorem pack5 (k o r e : Nat) (hk : k < 6) (ho : o < 17) (hr : r < 65536) (he : e < 4294967296) :
    ((packTo 0 0 [((k : Int), 4), (o, 8), (r, 16), (0, 4), (e, 32)] : Nat) : Int) = wd ⟨k, o, r, e⟩ := by
  rw [packTo_yes _ _ _ _ (by show isF 0 4 = true; decide), packTo_yes _ _ _ _ (by show isF 4 8 = true; decide), packTo_yes _ _ _ _ (by show isF 12 16 = true; decide), packTo_yes _ _ _ _ (by show isF 28 4 = true; decide), packTo_yes _ _ _ _ (by show isF 32 32 = true; decide)]
  rw [fPut_yes _ _ _ _ (by show isF 32 32 = true; decide), fPut_yes _ _ _ _ (by show isF 28 4 = true; decide), fPut_yes _ _ _ _ (by show isF 12 16 = true; decide), fPut_yes _ _ _ _ (by show isF 4 8 = true; decide), fPut_yes _ _ _ _ (by show isF 0 4 = true; decide)]
  simp only [packTo, Int.toNat_natCast]
  unfold M.pt wd
  simp
  omega
theorem parts5 (w : World) (a b c d e : Int) :
    PRow (w.alloc (.cells #[.int .u64 a, .int .i64 4, .int .u64 b, .int .i64 8, .int .u64 c, .int .i64 16, .int .u64 d, .int .i64 4, .int .u64 e, .int .i64 32] 53)) w.heap.size 0 5 [(a, 4), (b, 8), (c, 16), (d, 4), (e, 32)] := by
  refine ⟨rfl, by simp, fun i hi => ?_⟩
  rw [World.cell?_alloc_at _ _ _ _ rfl, World.cell?_alloc_at _ _ _ _ rfl]
  match i, hi with
  | 0, _ => exact ⟨rfl, rfl⟩
  | 1, _ => exact ⟨rfl, rfl⟩
  | 2, _ => exact ⟨rfl, rfl⟩
  | 3, _ => exact ⟨rfl, rfl⟩
  | 4, _ => exact ⟨rfl, rfl⟩

set_option maxRecDepth 100000 in
set_option maxHeartbeats 400000 in
theorem pack_no (d : Ds) (w : World) (hT : Tab w) (h1 : rt d = false) :
    Calls Tryd.prog 8 #[dV d] w fun x w' => x = .returned (wtwo 0 11) ∧ Below w.heap.size w w' := by
  obtain ⟨k, o, r, e⟩ := d
  have H1 := hid h1
  have HT := hid hT
  clear h1 hT
  show Calls Tryd.prog 8 #[.agg #[.int .i64 k, .int .i64 o, .int .i64 r, .int .i64 e]] w _
  go_enter Tryd.func8, Tryd.ntmps8
  go_wp2_with fail
  refine (right_no ⟨k, o, r, e⟩ _ (HT.out.alloc _) H1.out).mono ?_
  rintro x w1 ⟨rfl, hB⟩
  have HB := hid (bgo (below_one w _) hB)
  clear hB
  (try simp only [])
  go_wp2
  go_ret2
  exact ⟨rfl, HB.out⟩

set_option maxRecDepth 100000 in
set_option maxHeartbeats 400000 in
theorem pack_yes (k o r e : Nat) (w : World) (hT : Tab w) (h1 : rt ⟨k, o, r, e⟩ = true) (hk : k < 6) (ho : o < 17) (hr : r < 65536) (he : e < 4294967296) :
    Calls Tryd.prog 8 #[.agg #[.int .i64 k, .int .i64 o, .int .i64 r, .int .i64 e]] w fun x w' => x = .returned (wtwo (wd ⟨k, o, r, e⟩) 0) ∧ Below w.heap.size w w' := by
  have H1 := hid h1
  have HT := hid hT
  have HP := hid (pack5 k o r e hk ho hr he)
  have HV : Hid (∀ p ∈ [((k : Int), (4 : Int)), (o, 8), (r, 16), (0, 4), (e, 32)], 0 ≤ p.1) := hid (by simp)
  clear h1 hT
  go_enter Tryd.func8, Tryd.ntmps8
  go_wp2_with fail
  refine (right_yes ⟨k, o, r, e⟩ _ (HT.out.alloc _) H1.out).mono ?_
  rintro x w1 ⟨rfl, hB⟩
  have a0 := stay hB (heap_alloc_new _ _)
  have HB := hid (bgo (below_one w _) hB)
  obtain ⟨p00, p01, p02, p03, q00, q01, q02, q03⟩ := four a0
  have A0 := hid a0
  clear hB a0
  (try simp only [])
  go_wp2_with fail
  refine (pack_some w1.heap.size 0 5 5 [(k, 4), (o, 8), (r, 16), (0, 4), (e, 32)] HV.out _ (by unfold maxLen; decide) (parts5 w1 _ _ _ _ _)).mono ?_
  rintro x w2 ⟨rfl, hB⟩
  have HB2 := hid (bgo (HB.out.alloc HB.out.size _) hB)
  clear HB hB
  rw [HP.out]
  (try simp only [])
  go_wp2
  go_ret2
  exact ⟨rfl, HB2.out⟩

theorem pack_at (d : Ds) (w : World) (hT : Tab w) :
    Calls Tryd.prog 8 #[dV d] w fun x w' => x = .returned (wtwo (pk d) (pkE d)) ∧ Below w.heap.size w w' := by
  cases h1 : rt d
  · rw [show pk d = 0 by simp [pk, h1], show pkE d = 11 by simp [pkE, h1]]
    exact pack_no d w hT h1
  · rw [show pk d = wd d by simp [pk, h1], show pkE d = 0 by simp [pkE, h1]]
    have h := (rt_iff d).1 h1
    obtain ⟨k, o, r, e⟩ := d
    simp only at h
    obtain ⟨k, rfl⟩ := Int.eq_ofNat_of_zero_le (show 0 ≤ k by omega)
    obtain ⟨o, rfl⟩ := Int.eq_ofNat_of_zero_le (show 0 ≤ o by omega)
    obtain ⟨r, rfl⟩ := Int.eq_ofNat_of_zero_le (show 0 ≤ r by omega)
    obtain ⟨e, rfl⟩ := Int.eq_ofNat_of_zero_le (show 0 ≤ e by omega)
    exact pack_yes k o r e w hT h1 (by omega) (by omega) (by omega) (by omega)

set_option maxRecDepth 100000 in
set_option maxHeartbeats 400000 in
theorem rpack_no (d : Ds) (w : World) (h1 : rt d = false) :
    Calls Tryd.prog 9 #[dV d] w fun x w' => x = .returned (wtwo 0 11) ∧ Below w.heap.size w w' := by
  obtain ⟨k, o, r, e⟩ := d
  have H1 := hid h1
  clear h1
  show Calls Tryd.prog 9 #[.agg #[.int .i64 k, .int .i64 o, .int .i64 r, .int .i64 e]] w _
  go_enter Tryd.func9, Tryd.ntmps9
  go_wp2_with fail
  refine (rright_no ⟨k, o, r, e⟩ _ H1.out).mono ?_
  rintro x w1 ⟨rfl, hB⟩
  have HB := hid (bgo (below_one w _) hB)
  clear hB
  (try simp only [])
  go_wp2
  go_ret2
  exact ⟨rfl, HB.out⟩

set_option maxRecDepth 100000 in
set_option maxHeartbeats 400000 in
theorem rpack_yes (k o r e : Nat) (w : World) (h1 : rt ⟨k, o, r, e⟩ = true) (hk : k < 6) (ho : o < 17) (hr : r < 65536) (he : e < 4294967296) :
    Calls Tryd.prog 9 #[.agg #[.int .i64 k, .int .i64 o, .int .i64 r, .int .i64 e]] w fun x w' => x = .returned (wtwo (wd ⟨k, o, r, e⟩) 0) ∧ Below w.heap.size w w' := by
  have H1 := hid h1
  clear h1
  go_enter Tryd.func9, Tryd.ntmps9
  go_wp2_with fail
  refine (rright_yes ⟨k, o, r, e⟩ _ H1.out).mono ?_
  rintro x w1 ⟨rfl, hB⟩
  have a0 := stay hB (heap_alloc_new _ _)
  have HB := hid (bgo (below_one w _) hB)
  obtain ⟨p00, p01, p02, p03, q00, q01, q02, q03⟩ := four a0
  clear hB a0
  (try simp only [])
  go_wp2
  go_ret2
  refine ⟨ret_wtwo ?_, HB.out⟩
  rfl
theorem rpack_at (d : Ds) (w : World) :
    Calls Tryd.prog 9 #[dV d] w fun x w' => x = .returned (wtwo (pk d) (pkE d)) ∧ Below w.heap.size w w' := by
  cases h1 : rt d
  · rw [show pk d = 0 by simp [pk, h1], show pkE d = 11 by simp [pkE, h1]]
    exact rpack_no d w h1
  · rw [show pk d = wd d by simp [pk, h1], show pkE d = 0 by simp [pkE, h1]]
    have h := (rt_iff d).1 h1
    obtain ⟨k, o, r, e⟩ := d
    simp only at h
    obtain ⟨k, rfl⟩ := Int.eq_ofNat_of_zero_le (show 0 ≤ k by omega)
    obtain ⟨o, rfl⟩ := Int.eq_ofNat_of_zero_le (show 0 ≤ o by omega)
    obtain ⟨r, rfl⟩ := Int.eq_ofNat_of_zero_le (show 0 ≤ r by omega)
    obtain ⟨e, rfl⟩ := Int.eq_ofNat_of_zero_le (show 0 ≤ e by omega)
    exact rpack_yes k o r e w h1 (by omega) (by omega) (by omega) (by omega)
end Go.Proofs.YtacifhfkadnklaaDoor
