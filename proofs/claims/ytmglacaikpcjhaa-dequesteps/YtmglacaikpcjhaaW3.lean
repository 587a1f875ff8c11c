/- What New, and the parts of a row (hasAll, part, Words, Copy), return: new memory; nothing that lay before is changed. Conditions: none but that the words are those that New gave. -/
import Derived.Test.YtmglacaikpcjhaaW2
import Derived.Deep.OwnRows
import Derived.Deep.RegionHeld3
namespace Go.Proofs.Ytmglacaikpcjhaa
open Go.RowKit

theorem info38 : (Try.prog.info? 38).map (fun i => (i.zero, i.size, i.bytes)) = some (some (.int .u64 0), 1, 8) := by kernel_rfl
theorem size38 : (Try.prog.info? 38).map (·.size) = some 1 := by kernel_rfl
theorem made_eq (n : Nat) : madeCells #[(.int .u64 0 : Value)] n = (wd (List.replicate n 0)).toArray := by
  apply Array.toList_inj.1
  rw [toList_madeCells_one]
  simp [wd]

set_option maxHeartbeats 400000 in
theorem new_yes (n : Nat) (w : World) (h1 : 1 ≤ n) (h2 : n ≤ 65536) :
    Calls Try.prog 9 #[.int .i64 n] w fun e w' => e = .returned (.tuple #[.pointer (some ⟨w.heap.size + 1, 0, none⟩), .int .i64 0]) ∧ IsMem 78 w' (w.heap.size + 1) w.heap.size (List.replicate n 0) 0 0 ∧ Below w.heap.size w w' := by
  have hmk := run_make_row' (P := Try.prog) 76 38 (.int .u64 0) 8 Try.underlying76 info38 rfl .i64 .i64 n (by omega) (by omega)
  go_enter Try.func9, Try.ntmps9
  go_wp2
  go_ret2
  refine ⟨rfl, ⟨?_, ?_, by omega, by simpa using h1, by simpa using h2⟩, ((Below.refl _ _).alloc (Nat.le_refl _) _).alloc (by simp) _⟩
  · have := heap_alloc_new (w.alloc (.cells (madeCells #[(.int .u64 0 : Value)] n) 38)) (.cells #[.slice (some ⟨w.heap.size, 0, none⟩) n n, .int .i64 0, .int .i64 0] 78)
    simpa using this
  · unfold IsRow
    rw [Below.heap_alloc _ _ _ (by simp), heap_alloc_new, made_eq]

set_option maxHeartbeats 400000 in
theorem new_no (n : Int) (w : World) (h : n < 1 ∨ 65536 < n) :
    Calls Try.prog 9 #[.int .i64 n] w fun e w' => e = .returned (.tuple #[.pointer none, .int .i64 1]) ∧ w' = w := by
  by_cases h1 : n < 1
  · go_enter Try.func9, Try.ntmps9
    go_wp2
    go_ret2
    exact ⟨rfl, rfl⟩
  · have h2 : 65536 < n := by omega
    clear h
    go_enter Try.func9, Try.ntmps9
    go_wp2
    go_ret2
    exact ⟨rfl, rfl⟩

def cut (xs : List Int) (a m : Nat) : List Int := (xs.drop a).take m
theorem cut_length {xs : List Int} {a m : Nat} (h : a + m ≤ xs.length) : (cut xs a m).length = m := by simp [cut]; omega
theorem cut_get {xs : List Int} {a m j : Nat} (hj : j < m) : (cut xs a m)[j]? = xs[a + j]? := by simp [cut, hj]

/-- A copy of words into new memory. -/
theorem copy_run {w : World} {b : Nat} {xs : List Int} (h : IsRow w b xs) (n a m : Nat) (hx : xs.length = n) (ha : a + m ≤ n) :
    ∃ w2, (Builtin.copy_ #[76, 76] 3 #[.slice (some ⟨w.heap.size, 0, none⟩) m m, .slice (some ⟨b, a, none⟩) (n - a) (n - a)]).run Try.prog (w.alloc (.cells (madeCells #[(.int .u64 0 : Value)] m) 38)) = .ok (.int .i64 m) w2 ∧
      IsRow w2 w.heap.size (cut xs a m) ∧ Below w.heap.size w w2 := by
  have hl := cut_length (xs := xs) (a := a) (m := m) (by omega)
  have hlt := h.lt
  have hg : (w.alloc (.cells (wd (List.replicate m 0)).toArray 38)).heap[w.heap.size]? = some (.cells (wd (List.replicate m 0)).toArray 38 (0, 0)) := heap_alloc_new _ _
  have hcs : (wd (cut xs a m)).length = m := by simpa [wd] using hl
  have := run_copy_row (P := Try.prog) (w.alloc (.cells (wd (List.replicate m 0)).toArray 38)) 76 76 3 38 w.heap.size 0 m m ⟨b, a, none⟩ (n - a) (n - a) (wd (List.replicate m 0)).toArray 38 (wd (cut xs a m))
    Try.underlying76 size38 hg (by rw [hcs]; show m = min (n - a) m; omega)
    (fun j v hj => by
      have hj' : j < m := by have := (List.getElem?_eq_some_iff.1 hj).1; omega
      have e : (wd (cut xs a m))[j]? = some (.int .u64 (xs.getD (a + j) 0)) := by
        simp [wd, cut_get hj', List.getD, show a + j < xs.length by omega]
      rw [e] at hj
      obtain rfl := Option.some.inj hj
      rw [Addr.add_lit]
      have hbelow : Below w.heap.size w (w.alloc (.cells (wd (List.replicate m 0)).toArray 38)) := (Below.refl _ _).alloc (Nat.le_refl _) _
      rw [hbelow.cell (p := ⟨b, a + j, none⟩) hlt]
      exact h.cell (a + j) (by omega))
    (by rw [hcs]; simp [wd]) (fun v hv => by
      obtain ⟨x, _, rfl⟩ := List.mem_map.1 hv
      rfl)
  rw [made_eq]
  refine ⟨_, this.trans (by rw [hcs]; rfl), ?_, below_setRow ((Below.refl _ _).alloc (Nat.le_refl _) _) (Nat.le_refl _) _⟩
  refine (setRow_heap _ _ _ _ _ _ hg).trans ?_
  have e : List.drop (0 + m) (wd (List.replicate m 0)) = [] := List.drop_eq_nil_of_le (by simp [wd])
  simp only [List.take_zero, List.nil_append, e, List.append_nil]

end Go.Proofs.Ytmglacaikpcjhaa
