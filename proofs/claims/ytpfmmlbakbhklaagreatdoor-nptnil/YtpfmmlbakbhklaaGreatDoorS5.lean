/- What a walker tells (Result, Path), when there is one (New), and how much a memory has counted (Count). Conditions: it is a walker, or none. -/
import Derived.Test.YtpfmmlbakbhklaaGreatDoorS4
namespace Go.Proofs.YtpfmmlbakbhklaaGreatDoor
open Go.RowKit

def ftwo (d : Fd) (b : Bool) : Value := .tuple #[fdV d, .bool b]
theorem size54 : (Tryz.prog.info? 54).map (·.size) = some 4 := by kernel_rfl
set_option maxHeartbeats 400000 in
theorem result_nil (w : World) : Calls Tryz.prog 63 #[.pointer none] w fun e w' => e = .returned (ftwo ⟨0, 0, 0, 0⟩ false) ∧ Below w.heap.size w w' := by
  go_enter Tryz.func63, Tryz.ntmps63
  go_wp2_with fail
  refine (isNone_nil' _).mono ?_
  rintro r w1 ⟨rfl, hw⟩
  rw [hw]
  clear hw w1
  go_wp2
  (try simp only [Exit.inBlock, Exit.then])
  refine bodyPost_ret (P.results_row_tmp rfl _ _ w.heap.size _ rfl (run_loadVar_row _ _ 54 54 _ (0, 0) _ (heap_alloc_new _ _) Tryz.underlying54 rfl size54)) rfl ?_
  exact ⟨rfl, below_alloc _ _⟩
set_option maxHeartbeats 1000000 in
theorem result_at {w : World} {g : Nat} {x : Wk} (h : IsWk w g x) (hs : x.st = 1 ∨ x.st = 2) : Calls Tryz.prog 63 #[.pointer (some ⟨g, 0, none⟩)] w fun e w' => e = .returned (ftwo x.fd (x.st == 2)) ∧ Below w.heap.size w w' := by
  have hl := h.lt
  have c0 := h.c0
  have c10 := h.c10
  have c11 := h.c11
  have c12 := h.c12
  have c13 := h.c13
  have H := hid (isNone_no (h.below (below_alloc w (.cells #[.int .i64 0, .int .i64 0, .int .i64 0, .int .i64 0] 54))) hs)
  clear h hs
  generalize x.st = st at *
  generalize x.fd = fd at *
  obtain ⟨ff, fr, fv, fe⟩ := fd
  go_enter Tryz.func63, Tryz.ntmps63
  go_wp2_with fail
  refine H.out.mono ?_
  rintro r w1 ⟨rfl, hw⟩
  rw [hw]
  clear hw w1 H
  go_wp2_with fail
  go_region
  go_wp2
  (try simp only [Exit.inBlock, Exit.then])
  refine bodyPost_ret (P.results_row_tmp rfl _ _ w.heap.size _ rfl (run_loadVar_row _ _ 54 54 _ (0, 0) _ (P.stay ((Below.refl _ _).drew) (heap_alloc_new _ _)) Tryz.underlying54 rfl size54)) rfl ?_
  exact ⟨rfl, ((Below.refl _ _).alloc (Nat.le_refl _) _).drew⟩

/-! ### The tables so far -/
def pL (x : Wk) : List Int := [x.p0, x.p1, x.p2, x.p3].take x.ld.toNat
def ints (l : List Int) : List Value := l.map fun n => Value.int .i64 n
theorem info3 : (Tryz.prog.info? 3).map (fun i => (i.zero, i.size, i.bytes)) = some (some (.int .i64 0), 1, 8) := by kernel_rfl
theorem size3 : (Tryz.prog.info? 3).map (·.size) = some 1 := by kernel_rfl
theorem made_ints (n : Nat) : madeCells #[(.int .i64 0 : Value)] n = (ints (List.replicate n 0)).toArray := by
  apply Array.toList_inj.1
  rw [toList_madeCells_one]
  simp [ints]
theorem pL_len {x : Wk} (h0 : 0 ≤ x.ld) (h4 : x.ld ≤ 4) : (pL x).length = x.ld.toNat := by
  unfold pL
  rw [List.length_take]
  simp
  omega
theorem pL_at {x : Wk} {j : Nat} {v : Value} (h : (ints (pL x))[j]? = some v) : (wkC x)[5 + j]? = some v ∧ ∃ n, v = .int .i64 n := by
  have : j < 4 := by
    have := (List.getElem?_eq_some_iff.1 h).1
    simp only [ints, pL, List.length_map, List.length_take, List.length_cons, List.length_nil] at this
    omega
  simp only [ints, pL, List.getElem?_map, List.getElem?_take, Option.map_eq_some_iff] at h
  obtain ⟨a, ha, rfl⟩ := h
  refine ⟨?_, a, rfl⟩
  split at ha
  · match j, this with
    | 0, _ => simpa using ha
    | 1, _ => simpa using ha
    | 2, _ => simpa using ha
    | 3, _ => simpa using ha
  · cases ha
theorem copy_path {w : World} {g : Nat} {x : Wk} (h : IsWk w g x) (n : Nat) (hn : x.ld = n) (h4 : n ≤ 4) :
    ∃ w2, (Builtin.copy_ #[44, 44] 3 #[.slice (some ⟨w.heap.size, 0, none⟩) n n, .slice (some ⟨g, 5, none⟩) 4 4]).run Tryz.prog (w.alloc (.cells (madeCells #[(.int .i64 0 : Value)] n) 3)) = .ok (.int .i64 n) w2 ∧
      w2.heap[w.heap.size]? = some (.cells (ints (pL x)).toArray 3 (0, 0)) ∧ Below w.heap.size w w2 := by
  have hlen : (ints (pL x)).length = n := by
    have := pL_len (x := x) (by omega) (by omega)
    simp only [ints, List.length_map]
    omega
  have hg : (w.alloc (.cells (ints (List.replicate n 0)).toArray 3)).heap[w.heap.size]? = some (.cells (ints (List.replicate n 0)).toArray 3 (0, 0)) := heap_alloc_new _ _
  have hx : IsWk (w.alloc (.cells (ints (List.replicate n 0)).toArray 3)) g x := h.below (below_alloc _ _)
  have := run_copy_row (P := Tryz.prog) (w.alloc (.cells (ints (List.replicate n 0)).toArray 3)) 44 44 3 3 w.heap.size 0 n n ⟨g, 5, none⟩ 4 4 (ints (List.replicate n 0)).toArray 3 (ints (pL x))
    Tryz.underlying44 size3 hg (by rw [hlen]; show n = min 4 n; omega)
    (fun j v hj => by
      rw [Addr.add_lit]
      exact cell_of hx (pL_at hj).1)
    (by rw [hlen]; simp [ints]) (fun v hv => by
      obtain ⟨y, _, rfl⟩ := List.mem_map.1 hv
      rfl)
  rw [made_ints]
  refine ⟨_, this.trans (by rw [hlen]; rfl), ?_, below_setRow ((Below.refl _ _).alloc (Nat.le_refl _) _) (Nat.le_refl _) _⟩
  refine (setRow_heap _ _ _ _ _ _ hg).trans ?_
  have e : List.drop (0 + n) (ints (List.replicate n 0)) = [] := List.drop_eq_nil_of_le (by simp [ints])
  simp only [List.take_zero, List.nil_append, e, List.append_nil]
theorem at_root (root pg : Int) : (decide (P.at' root pg 3 < 0)) = !(P.btw root 0 4095 && P.btw pg 0 65535) := by
  unfold P.at'
  by_cases hp : P.btw pg 0 65535 = true
  · rw [P.ix_yes hp (by decide)]
    have h0 := P.btw_yes.1 hp
    have e : P.sp 3 = 4096 := rfl
    rw [e, hp]
    have h1 : 0 ≤ pg / 4096 % 16 := by omega
    rw [decide_eq_true h1]
    cases hr : P.btw root 0 4095
    · rfl
    · have := P.btw_yes.1 hr
      simp
      omega
  · have hp : P.btw pg 0 65535 = false := by simpa using hp
    rw [P.ix_far hp, hp]
    simp
theorem and7 : ∀ n : Fin 8, bits .and .i64 7 ((n : Nat) : Int) = ((n : Nat) : Int) := by decide +kernel
theorem want7 {n : Int} (l1 : -9223372036854775808 ≤ n) (l2 : n ≤ 9223372036854775807) : (bits .andNot .i64 n 7 == 0) = P.btw n 0 7 := by
  rw [P.sub_eq (by decide) (by decide) l1 l2]
  cases h : P.btw n 0 7
  · rfl
  · have h := P.btw_yes.1 h
    obtain ⟨m, rfl⟩ := Int.eq_ofNat_of_zero_le h.1
    have := and7 ⟨m, by omega⟩
    simp only at this
    rw [this]
    simp
def newW (root pg wt : Int) : Wk := ⟨1, pg, wt, root, 3, 0, 0, 0, 0, 0, ⟨0, 0, 0, 0⟩⟩
set_option maxHeartbeats 1000000 in
theorem wnew_at (w : World) (root pg wt : Int) (l1 : -9223372036854775808 ≤ wt) (l2 : wt ≤ 9223372036854775807) (h : okW root pg wt = true) :
    Calls Tryz.prog 61 #[.int .i64 root, .int .i64 pg, .int .i64 wt] w fun e w' => e = .returned (.pointer (some ⟨w.heap.size, 0, none⟩)) ∧ w' = w.alloc (.cells (wkC (newW root pg wt)) 169) := by
  unfold okW at h
  simp only [Bool.and_eq_true] at h
  have HA := hid (P.place_at root pg 3 w)
  have h1 := at_root root pg
  rw [h.1.1, h.1.2] at h1
  have h2 := want7 l1 l2
  rw [h.2] at h2
  have h2 : bits .andNot .i64 wt 7 = 0 := by simpa using h2
  have h1 : ¬ P.at' root pg 3 < 0 := by simpa using h1
  clear h l1 l2
  generalize P.at' root pg 3 = at0 at *
  go_enter Tryz.func61, Tryz.ntmps61
  go_wp2_with fail
  refine HA.out.mono ?_
  rintro r w1 ⟨rfl, hw⟩
  rw [hw]
  clear hw w1 HA
  go_wp2
  go_ret
  exact ⟨rfl, rfl⟩
set_option maxHeartbeats 1000000 in
theorem wnew_no (w : World) (root pg wt : Int) (l1 : -9223372036854775808 ≤ wt) (l2 : wt ≤ 9223372036854775807) (h : okW root pg wt = false) :
    Calls Tryz.prog 61 #[.int .i64 root, .int .i64 pg, .int .i64 wt] w fun e w' => e = .returned (.pointer none) ∧ w' = w := by
  unfold okW at h
  have HA := hid (P.place_at root pg 3 w)
  have h1 := at_root root pg
  have h2 := want7 l1 l2
  cases hb : (P.btw root 0 4095 && P.btw pg 0 65535)
  · rw [hb] at h1
    have h1 : P.at' root pg 3 < 0 := by simpa using h1
    clear h l1 l2 h2 hb
    generalize P.at' root pg 3 = at0 at *
    go_enter Tryz.func61, Tryz.ntmps61
    go_wp2_with fail
    refine HA.out.mono ?_
    rintro r w1 ⟨rfl, hw⟩
    rw [hw]
    clear hw w1 HA
    go_wp2
    go_ret
    exact ⟨rfl, rfl⟩
  · rw [hb] at h h1
    have h1 : ¬ P.at' root pg 3 < 0 := by simpa using h1
    rw [show P.btw wt 0 7 = false by simpa using h] at h2
    have h2 : bits .andNot .i64 wt 7 ≠ 0 := by simpa using h2
    clear h l1 l2 hb
    generalize P.at' root pg 3 = at0 at *
    go_enter Tryz.func61, Tryz.ntmps61
    go_wp2_with fail
    refine HA.out.mono ?_
    rintro r w1 ⟨rfl, hw⟩
    rw [hw]
    clear hw w1 HA
    go_wp2
    go_ret
    exact ⟨rfl, rfl⟩

/-! ### How much was asked for -/
end Go.Proofs.YtpfmmlbakbhklaaGreatDoor
