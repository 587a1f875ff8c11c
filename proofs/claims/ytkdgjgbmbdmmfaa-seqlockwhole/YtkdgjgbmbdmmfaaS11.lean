/- What Write, Read, Turn, Tries and Values return. No conditions but on numbers. -/
import Derived.Test.YtkdgjgbmbdmmfaaS10
namespace Go.Proofs.Ytkdgjgbmbdmmfaa
open Go.RowKit

theorem zkeep {w W : World} (h : Below w.heap.size w W) (o : Obj) : Below w.heap.size w (W.alloc o) := h.alloc h.size _

def canB (ad n : Int) : Bool := decide (1 ≤ n) && decide (n ≤ 16) && decide (0 ≤ ad) && decide (ad ≤ 65000)
abbrev lkV (ad n : Int) : Value := .agg #[.int .i64 ad, .int .i64 n]
set_option maxRecDepth 100000 in
set_option maxHeartbeats 400000 in
theorem canBe_yes (w : World) (ad n : Int) (h1 : 1 ≤ n) (h2 : n ≤ 16) (h3 : 0 ≤ ad) (h4 : ad ≤ 65000) :
    Calls Try.prog 22 #[lkV ad n] w fun e w' => e = .returned (.bool true) ∧ Below w.heap.size w w' := by
  go_enter Try.func22, Try.ntmps22
  go_wp2
  go_ret
  exact ⟨rfl, below_alloc _ _⟩
set_option maxRecDepth 100000 in
set_option maxHeartbeats 400000 in
theorem canBe_0 (w : World) (ad : Int) :
    Calls Try.prog 22 #[lkV ad 0] w fun e w' => e = .returned (.bool false) ∧ Below w.heap.size w w' := by
  go_enter Try.func22, Try.ntmps22
  go_wp2
  go_ret
  exact ⟨rfl, below_alloc _ _⟩

abbrev newW (ad n e : Int) : Array Value := #[.int .i64 ad, .int .i64 n, .int .i64 0, .int .i64 e, .int .u64 0, .int .u64 0, .int .u64 0, .int .u64 0, .int .u64 0, .int .u64 0, .int .u64 0, .int .u64 0, .int .u64 0, .int .u64 0, .int .u64 0, .int .u64 0, .int .u64 0, .int .u64 0, .int .u64 0, .int .u64 0, .int .u64 0]
abbrev newR (ad n e : Int) : Array Value := #[.int .i64 ad, .int .i64 n, .int .i64 0, .int .i64 e, .int .u64 0, .int .u64 0, .int .u64 0, .int .u64 0, .int .u64 0, .int .u64 0, .int .u64 0, .int .u64 0, .int .u64 0, .int .u64 0, .int .u64 0, .int .u64 0, .int .u64 0, .int .u64 0, .int .u64 0, .int .u64 0, .int .u64 0, .int .i64 0, .bool false]
theorem write_copy {w : World} (ad e : Int) (n c sb so : Nat) (vs : List Int) (hn : vs.length = n) (h16 : n ≤ 16) (hlt : sb < w.heap.size) (hs : ∀ i, i < n → w.cell? ⟨sb, so + i, none⟩ = some (.int .u64 (vs.getD i 0))) :
    ∃ w2, (Builtin.copy_ #[35, 35] 3 #[.slice (some ⟨w.heap.size, 5, none⟩) 16 16, .slice (some ⟨sb, so, none⟩) n c]).run Try.prog (w.alloc (.cells (newW ad n e) 61)) = .ok (.int .i64 n) w2 ∧
      IsWr w2 w.heap.size ⟨ad, n, 0, e, 0, vs ++ List.replicate (16 - n) 0⟩ ∧ Below w.heap.size w w2 := by
  have hg : (w.alloc (.cells (newW ad n e) 61)).heap[w.heap.size]? = some (.cells (newW ad n e) 61 (0, 0)) := heap_alloc_new _ _
  have hcs : (wd vs).length = n := by simpa [wd] using hn
  have := run_copy_row (P := Try.prog) (w.alloc (.cells (newW ad n e) 61)) 35 35 3 36 w.heap.size 5 16 16 ⟨sb, so, none⟩ n c (newW ad n e) 61 (wd vs)
    Try.underlying35 size36 hg (by rw [hcs]; show n = min n 16; omega)
    (fun j v hj => by
      have hj' : j < n := by have := (List.getElem?_eq_some_iff.1 hj).1; omega
      have ej : (wd vs)[j]? = some (.int .u64 (vs.getD j 0)) := by
        simp [wd, List.getD, show j < vs.length by omega]
      rw [ej] at hj
      obtain rfl := Option.some.inj hj
      rw [Addr.add_lit]
      have hbelow : Below w.heap.size w (w.alloc (.cells (newW ad n e) 61)) := (Below.refl _ _).alloc (Nat.le_refl _) _
      rw [hbelow.cell (p := ⟨sb, so + j, none⟩) hlt]
      exact hs j hj')
    (by rw [hcs]; show 5 + n ≤ 21; omega) (fun v hv => by
      obtain ⟨x, _, rfl⟩ := List.mem_map.1 hv
      rfl)
  refine ⟨_, this.trans (by rw [hcs]; rfl), ⟨?_, by simp [hn]; omega⟩, below_setRow ((Below.refl _ _).alloc (Nat.le_refl _) _) (Nat.le_refl _) _⟩
  refine (setRow_heap _ _ _ _ _ _ hg).trans ?_
  congr 2
  apply congrArg
  show [Value.int .i64 ad, .int .i64 n, .int .i64 0, .int .i64 e, .int .u64 0] ++ wd vs ++ (newW ad n e).toList.drop (5 + n) = _
  have hd : (newW ad n e).toList.drop (5 + n) = wd (List.replicate (16 - n) 0) := by
    have h5 : (newW ad n e).toList.drop (5 + n) = ((newW ad n e).toList.drop 5).drop n := by rw [List.drop_drop]
    rw [h5]
    have h6 : (newW ad n e).toList.drop 5 = List.replicate 16 (.int .u64 0) := rfl
    rw [h6, List.drop_replicate]
    simp [wd]
  rw [hd]
  simp [wrL, wd]

set_option maxRecDepth 100000 in
set_option maxHeartbeats 600000 in
theorem write_at (w : World) (ad : Int) (n c : Nat) (q : Option Addr) (vs : List Int) (hn : vs.length = n) (h1 : 1 ≤ n) (h16 : n ≤ 16) (h3 : 0 ≤ ad) (h4 : ad ≤ 65000) (hL : Lies w (.slice q n c) vs) :
    Calls Try.prog 10 #[lkV ad n, .slice q n c] w fun e w' => ∃ g, e = .returned (.pointer (some ⟨g, 0, none⟩)) ∧ IsWr w' g ⟨ad, n, 0, 2 + (n : Int) + 1, 0, vs ++ List.replicate (16 - n) 0⟩ ∧ w.heap.size ≤ g ∧ Below w.heap.size w w' := by
  obtain ⟨_, q', c', hq, hc⟩ := hL
  obtain ⟨sb, so, hq', hlt, hcell⟩ := hc (by intro e; rw [e] at hn; simp at hn; omega)
  simp only [Value.slice.injEq] at hq
  obtain ⟨rfl, hnn, rfl⟩ := hq
  clear hnn
  subst hq'
  have HN := hid hn
  have HC := hid hcell
  clear hn hcell hc
  have hi1 : (1 : Int) ≤ (n : Int) := by omega
  have hi16 : (n : Int) ≤ 16 := by omega
  go_enter Try.func10, Try.ntmps10
  go_wp2_with fail
  refine (canBe_yes _ ad n hi1 hi16 h3 h4).mono ?_
  rintro e w2 ⟨rfl, K⟩
  have hB := bel_trans (below_alloc w (.cells #[.int .i64 ad, .int .i64 (n : Int)] 33)) K
  have hlk : w2.heap[w.heap.size]? = some (.cells #[.int .i64 ad, .int .i64 (n : Int)] 33 (0, 0)) := (K.block _ (lt_of_block (heap_alloc_new w (.cells #[.int .i64 ad, .int .i64 (n : Int)] 33 (0, 0))))).trans (heap_alloc_new w (.cells #[.int .i64 ad, .int .i64 (n : Int)] 33 (0, 0)))
  have c0 : w2.cell? ⟨w.heap.size, 0, none⟩ = some (.int .i64 ad) := cell_of hlk rfl
  have c1 : w2.cell? ⟨w.heap.size, 1, none⟩ = some (.int .i64 (n : Int)) := cell_of hlk rfl
  have hlt2 := lt_of_block hlk
  obtain ⟨w4, hcp, hW, hB4⟩ := write_copy (w := w2) ad (2 + (n : Int) + 1) n c sb so vs HN.out h16 (Nat.lt_of_lt_of_le hlt hB.size) (fun i hi => (hB.cell (p := ⟨sb, so + i, none⟩) hlt).trans (HC.out i (by rw [HN.out]; exact hi)))
  have HW := hid hW
  have HB := hid (bel_trans hB hB4)
  have hs := hB.size
  clear hW hB4 hB K hlk HC HN
  go_wp2
  go_ret
  exact ⟨_, rfl, HW.out, hs, HB.out⟩

set_option maxRecDepth 100000 in
set_option maxHeartbeats 600000 in
theorem write_nil (w : World) (ad : Int) (n : Int) (h1 : 1 ≤ n) (h16 : n ≤ 16) (h3 : 0 ≤ ad) (h4 : ad ≤ 65000) :
    Calls Try.prog 10 #[lkV ad n, .slice none 0 0] w fun e w' => e = .returned (.pointer none) ∧ Below w.heap.size w w' := by
  go_enter Try.func10, Try.ntmps10
  go_wp2_with fail
  refine (canBe_yes _ ad n h1 h16 h3 h4).mono ?_
  rintro e w2 ⟨rfl, K⟩
  have hB := bel_trans (below_alloc w (.cells #[.int .i64 ad, .int .i64 n] 33)) K
  have hlk : w2.heap[w.heap.size]? = some (.cells #[.int .i64 ad, .int .i64 n] 33 (0, 0)) := (K.block _ (lt_of_block (heap_alloc_new w (.cells #[.int .i64 ad, .int .i64 n] 33 (0, 0))))).trans (heap_alloc_new w (.cells #[.int .i64 ad, .int .i64 n] 33 (0, 0)))
  have c0 : w2.cell? ⟨w.heap.size, 0, none⟩ = some (.int .i64 ad) := cell_of hlk rfl
  have c1 : w2.cell? ⟨w.heap.size, 1, none⟩ = some (.int .i64 n) := cell_of hlk rfl
  have HB := hid hB
  clear hB K hlk
  go_wp2
  go_ret
  exact ⟨rfl, HB.out⟩

set_option maxRecDepth 100000 in
set_option maxHeartbeats 600000 in
theorem read_at (w : World) (ad n : Int) (h1 : 1 ≤ n) (h16 : n ≤ 16) (h3 : 0 ≤ ad) (h4 : ad ≤ 65000) :
    Calls Try.prog 11 #[lkV ad n] w fun e w' => ∃ g, e = .returned (.pointer (some ⟨g, 0, none⟩)) ∧ IsRd w' g ⟨⟨ad, n, 0, 1 + n + 1, 0, List.replicate 16 0⟩, 0, false⟩ ∧ w.heap.size ≤ g ∧ Below w.heap.size w w' := by
  go_enter Try.func11, Try.ntmps11
  go_wp2_with fail
  refine (canBe_yes _ ad n h1 h16 h3 h4).mono ?_
  rintro e w2 ⟨rfl, K⟩
  have hB := bel_trans (below_alloc w (.cells #[.int .i64 ad, .int .i64 n] 33)) K
  have hlk : w2.heap[w.heap.size]? = some (.cells #[.int .i64 ad, .int .i64 n] 33 (0, 0)) := (K.block _ (lt_of_block (heap_alloc_new w (.cells #[.int .i64 ad, .int .i64 n] 33 (0, 0))))).trans (heap_alloc_new w (.cells #[.int .i64 ad, .int .i64 n] 33 (0, 0)))
  have c0 : w2.cell? ⟨w.heap.size, 0, none⟩ = some (.int .i64 ad) := cell_of hlk rfl
  have c1 : w2.cell? ⟨w.heap.size, 1, none⟩ = some (.int .i64 n) := cell_of hlk rfl
  have HB := hid hB
  have hs := hB.size
  clear hB K hlk
  go_wp2
  go_ret
  have hr : IsRd (w2.alloc (.cells (newR ad n (1 + n + 1)) 63)) w2.heap.size ⟨⟨ad, n, 0, 1 + n + 1, 0, List.replicate 16 0⟩, 0, false⟩ := ⟨heap_alloc_new w2 (.cells (newR ad n (1 + n + 1)) 63 (0, 0)), rfl⟩
  exact ⟨_, rfl, hr, hs, zkeep HB.out _⟩
set_option maxRecDepth 100000 in
set_option maxHeartbeats 600000 in
theorem read_none (w : World) (ad : Int) :
    Calls Try.prog 11 #[lkV ad 0] w fun e w' => e = .returned (.pointer none) ∧ Below w.heap.size w w' := by
  go_enter Try.func11, Try.ntmps11
  go_wp2_with fail
  refine (canBe_0 _ ad).mono ?_
  rintro e w2 ⟨rfl, K⟩
  have HB := hid (bel_trans (below_alloc w (.cells #[.int .i64 ad, .int .i64 0] 33)) K)
  clear K
  go_wp2
  go_ret
  exact ⟨rfl, HB.out⟩

set_option maxHeartbeats 400000 in
theorem turn_at (w : World) (g : Nat) (t : Int) (c2 : w.cell? ⟨g, 2, none⟩ = some (.int .i64 t)) :
    Calls Try.prog 19 #[.pointer (some ⟨g, 0, none⟩)] w fun x w' => x = .returned (.int .i64 t) ∧ w' = w := by
  go_enter Try.func19, Try.ntmps19
  go_wp2
  go_ret
  exact ⟨rfl, rfl⟩
set_option maxHeartbeats 400000 in
theorem turn_nil (w : World) : Calls Try.prog 19 #[.pointer none] w fun x w' => x = .returned (.int .i64 0) ∧ w' = w := by
  go_enter Try.func19, Try.ntmps19
  go_wp2
  go_ret
  exact ⟨rfl, rfl⟩
set_option maxHeartbeats 400000 in
theorem tries_at (w : World) (g : Nat) (t : Int) (c2 : w.cell? ⟨g, 21, none⟩ = some (.int .i64 t)) :
    Calls Try.prog 21 #[.pointer (some ⟨g, 0, none⟩)] w fun x w' => x = .returned (.int .i64 t) ∧ w' = w := by
  go_enter Try.func21, Try.ntmps21
  go_wp2
  go_ret
  exact ⟨rfl, rfl⟩
set_option maxHeartbeats 400000 in
theorem tries_nil (w : World) : Calls Try.prog 21 #[.pointer none] w fun x w' => x = .returned (.int .i64 0) ∧ w' = w := by
  go_enter Try.func21, Try.ntmps21
  go_wp2
  go_ret
  exact ⟨rfl, rfl⟩
set_option maxHeartbeats 400000 in
theorem wstep_nil (w : World) (v : Value) : Calls Try.prog 13 #[.pointer none, v] w fun x w' => x = .returned (.bool false) ∧ w' = w := by
  go_enter Try.func13, Try.ntmps13
  go_wp2
  go_ret
  exact ⟨rfl, rfl⟩
set_option maxHeartbeats 400000 in
theorem rstep_nil (w : World) (v : Value) : Calls Try.prog 14 #[.pointer none, v] w fun x w' => x = .returned (.bool false) ∧ w' = w := by
  go_enter Try.func14, Try.ntmps14
  go_wp2
  go_ret
  exact ⟨rfl, rfl⟩
set_option maxHeartbeats 400000 in
theorem values_nil (w : World) : Calls Try.prog 16 #[.pointer none] w fun x w' => x = .returned (.tuple #[.slice none 0 0, .bool false]) ∧ w' = w := by
  go_enter Try.func16, Try.ntmps16
  go_wp2
  go_ret2
  exact ⟨rfl, rfl⟩
set_option maxHeartbeats 400000 in
theorem values_no (w : World) (g : Nat) (cd : w.cell? ⟨g, 22, none⟩ = some (.bool false)) : Calls Try.prog 16 #[.pointer (some ⟨g, 0, none⟩)] w fun x w' => x = .returned (.tuple #[.slice none 0 0, .bool false]) ∧ w' = w := by
  go_enter Try.func16, Try.ntmps16
  go_wp2
  go_ret2
  exact ⟨rfl, rfl⟩
set_option maxRecDepth 100000 in
set_option maxHeartbeats 400000 in
theorem wnext_nil (w : World) : Calls Try.prog 18 #[.pointer none] w fun x w' => x = .returned (acV ⟨0, 0, 0, 0⟩) ∧ Below w.heap.size w w' := by
  go_enter Try.func18, Try.ntmps18
  go_wp2
  (try simp only [Exit.inBlock, Exit.then])
  refine bodyPost_ret (results_cell_row rfl _ _ w.heap.size 50 _ (0, 0) _ rfl (heap_alloc_new _ _) Try.underlying50 rfl size50) rfl ?_
  exact ⟨rfl, below_alloc _ _⟩
set_option maxRecDepth 100000 in
set_option maxHeartbeats 400000 in
theorem rnext_nil (w : World) : Calls Try.prog 20 #[.pointer none] w fun x w' => x = .returned (acV ⟨0, 0, 0, 0⟩) ∧ Below w.heap.size w w' := by
  go_enter Try.func20, Try.ntmps20
  go_wp2
  (try simp only [Exit.inBlock, Exit.then])
  refine bodyPost_ret (results_cell_row rfl _ _ w.heap.size 50 _ (0, 0) _ rfl (heap_alloc_new _ _) Try.underlying50 rfl size50) rfl ?_
  exact ⟨rfl, below_alloc _ _⟩

/-- What a reader that is done tells: new memory, with its values. -/
theorem read_copy {w : World} {g : Nat} {r : Rd} (h : IsRd w g r) (n : Nat) (h16 : n ≤ 16) :
    ∃ w2, (Builtin.copy_ #[35, 35] 3 #[.slice (some ⟨w.heap.size, 0, none⟩) n n, .slice (some ⟨g, 5, none⟩) 16 16]).run Try.prog (w.alloc (.cells (madeCells #[(.int .u64 0 : Value)] n) 36)) = .ok (.int .i64 n) w2 ∧
      IsRow w2 w.heap.size (r.x.vs.take n) ∧ Below w.heap.size w w2 := by
  have hl : (r.x.vs.take n).length = n := by have := h.2; simp; omega
  have hlt := h.lt
  have hg : (w.alloc (.cells (wd (List.replicate n 0)).toArray 36)).heap[w.heap.size]? = some (.cells (wd (List.replicate n 0)).toArray 36 (0, 0)) := heap_alloc_new _ _
  have hcs : (wd (r.x.vs.take n)).length = n := by simpa [wd] using hl
  have := run_copy_row (P := Try.prog) (w.alloc (.cells (wd (List.replicate n 0)).toArray 36)) 35 35 3 36 w.heap.size 0 n n ⟨g, 5, none⟩ 16 16 (wd (List.replicate n 0)).toArray 36 (wd (r.x.vs.take n))
    Try.underlying35 size36 hg (by rw [hcs]; show n = min 16 n; omega)
    (fun j v hj => by
      have hj' : j < n := by have := (List.getElem?_eq_some_iff.1 hj).1; omega
      have hv := h.2
      have e : (wd (r.x.vs.take n))[j]? = some (.int .u64 (r.x.vs.getD j 0)) := by
        simp [wd, List.getD, hj', show j < r.x.vs.length by omega]
      rw [e] at hj
      obtain rfl := Option.some.inj hj
      rw [Addr.add_lit]
      have hbelow : Below w.heap.size w (w.alloc (.cells (wd (List.replicate n 0)).toArray 36)) := (Below.refl _ _).alloc (Nat.le_refl _) _
      rw [hbelow.cell (p := ⟨g, 5 + j, none⟩) hlt]
      exact h.val j (by omega))
    (by rw [hcs]; simp [wd]) (fun v hv => by
      obtain ⟨x, _, rfl⟩ := List.mem_map.1 hv
      rfl)
  rw [made_eq]
  refine ⟨_, this.trans (by rw [hcs]; rfl), ?_, below_setRow ((Below.refl _ _).alloc (Nat.le_refl _) _) (Nat.le_refl _) _⟩
  refine (setRow_heap _ _ _ _ _ _ hg).trans ?_
  have e : List.drop (0 + n) (wd (List.replicate n 0)) = [] := List.drop_eq_nil_of_le (by simp [wd])
  simp only [List.take_zero, List.nil_append, e, List.append_nil]

set_option maxRecDepth 100000 in
set_option maxHeartbeats 600000 in
theorem values_yes {w : World} {g : Nat} {r : Rd} (h : IsRd w g r) (n : Nat) (hn : r.x.n = (n : Int)) (h16 : n ≤ 16) (hd : r.d = true) :
    Calls Try.prog 16 #[.pointer (some ⟨g, 0, none⟩)] w fun x w' => x = .returned (.tuple #[.slice (some ⟨w.heap.size, 0, none⟩) n n, .bool true]) ∧ IsRow w' w.heap.size (r.x.vs.take n) ∧ Below w.heap.size w w' := by
  obtain ⟨w2, hcp, hR, hB⟩ := read_copy h n h16
  have HR := hid hR
  have HB := hid hB
  have hmk := run_make_row' (P := Try.prog) 35 36 (.int .u64 0) 8 Try.underlying35 info36 rfl .i64 .i64 n (by omega) (by omega)
  have c1 := h.pc.c1
  have cd := h.whole
  rw [hn] at c1
  rw [hd] at cd
  have hlt := h.lt
  clear h hn hd hR hB
  go_enter Try.func16, Try.ntmps16
  go_wp2
  go_ret2
  exact ⟨rfl, HR.out, HB.out⟩
end Go.Proofs.Ytkdgjgbmbdmmfaa
