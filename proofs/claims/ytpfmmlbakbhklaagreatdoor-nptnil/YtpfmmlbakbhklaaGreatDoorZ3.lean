/- The fixed calls of 'known', as functions of words and frames: what each tells. Of no function; no conditions. -/
import Derived.Test.YtpfmmlbakbhklaaGreatDoorN21
import Derived.Test.YtpfmmlbakbhklaaGreatDoorS6
import Derived.Test.YtpfmmlbakbhklaaGreatDoorS7
namespace Go.Proofs.YtpfmmlbakbhklaaGreatDoor
open Go.RowKit
def k0 : Sm := ⟨List.replicate 160 0, List.replicate 10 O.zd⟩
def k1 : Sm := newS k0 1 none16
def k2 : Sm := putT k1 1 0 4660 0 ⟨true, 3, false, 5⟩
def k3 : Sm := putT k2 1 0 4672 1 ⟨true, 1, true, 32⟩
def k4 : Sm := prS k3 1 0 4679 7
def k5 : Sm := unS k4 1 0 4660
theorem k_new : newE k0 1 = 0 ∧ newF k0 1 = 0 := by decide +kernel
theorem k_map : putE k1 0 4660 0 ⟨true, 3, false, 5⟩ = 0 := by decide +kernel
theorem k_twice : putE k2 0 4660 0 ⟨true, 3, false, 6⟩ = 5 := by decide +kernel
theorem k_large : putE k2 0 4672 1 ⟨true, 1, true, 32⟩ = 0 := by decide +kernel
theorem k_query : qF k3 0 4679 = 39 ∧ qR k3 0 4679 = 1 ∧ qE k3 0 4679 = 0 := by decide +kernel
theorem k_all' : (gat k3.xs 0).map (·.1) = [0, 1, 2, 3] := by decide +kernel
theorem k_all : allL k3.xs 0 = [0, 1, 2, 3] := by
  unfold allL
  rw [k_all']
  exact List.mergeSort_of_pairwise (by decide)
theorem k_prot : prE k3 1 0 4679 7 = 0 := by decide +kernel
theorem k_five : (allL k4.xs 0).length = 5 := by
  rw [allL_len]
  decide +kernel
theorem k_unmap : unF k4 1 0 4660 = 5 ∧ unE k4 1 0 4660 = 0 := by decide +kernel
theorem k_none : unF k5 1 0 4660 = 0 ∧ unE k5 1 0 4660 = 4 := by decide +kernel
theorem k_four : (allL k5.xs 0).length = 4 := by
  rw [allL_len]
  decide +kernel
theorem k_walk : (fAll k5.xs 0 4679 4).f = 39 ∧ (fAll k5.xs 0 4679 4).r = 7 ∧ (fAll k5.xs 0 4679 4).v = 0 ∧ (fAll k5.xs 0 4679 4).e = 0 := by decide +kernel
theorem k_desc : 3 < k5.ds.length ∧ (k5.ds.getD 3 O.zd).k = 5 := by decide +kernel
section
variable {u : Si} {w : World} {t : Nat}
theorem kn_new (h : Wo u w k0 0) : Calls Tryz.prog 36 #[.pointer (some ⟨u.mp, 0, none⟩), .pointer (some ⟨u.pp, 0, none⟩), .int .i64 1] w fun r w' =>
    r = .returned (.tuple #[.pointer (some ⟨w.heap.size, 0, none⟩), .int .i64 0]) ∧ Wo u w' k1 16 ∧ Ch u w w' ∧ IsT u w' w.heap.size 1 1 0 := by
  refine (tnew_at h (by decide) (by decide +kernel) 1).mono ?_
  rintro r w' ⟨rfl, a, b, c⟩
  obtain ⟨e1, e2⟩ := k_new
  rw [e1, if_pos rfl]
  exact ⟨rfl, a, b, by have := c e1; rw [e2] at this; exact this⟩
theorem kn_map (hT : IsT u w t 1 1 0) (h : Wo u w k1 16) : Calls Tryz.prog 21 #[.pointer (some ⟨t, 0, none⟩), .int .i64 4660, .int .i64 5, .int .i64 3] w fun x w' => x = .returned (.int .i64 0) ∧ Wo u w' k2 116 ∧ Ch u w w' := by
  refine (map_at hT h (by decide) 4660 5 3).mono ?_
  rintro r w' ⟨rfl, a, b⟩
  rw [k_map]
  exact ⟨rfl, a, b⟩
theorem kn_twice (hT : IsT u w t 1 1 0) (h : Wo u w k2 116) : Calls Tryz.prog 21 #[.pointer (some ⟨t, 0, none⟩), .int .i64 4660, .int .i64 6, .int .i64 3] w fun x w' => x = .returned (.int .i64 5) ∧ Wo u w' k2 216 ∧ Ch u w w' := by
  refine (map_at hT h (by decide) 4660 6 3).mono ?_
  rintro r w' ⟨rfl, a, b⟩
  have hp : putT k2 1 0 4660 0 ⟨true, 3, false, 6⟩ = k2 := if_neg (by rw [k_twice]; decide)
  rw [hp] at a
  rw [k_twice]
  exact ⟨rfl, a, b⟩
theorem kn_large (hT : IsT u w t 1 1 0) (h : Wo u w k2 216) : Calls Tryz.prog 22 #[.pointer (some ⟨t, 0, none⟩), .int .i64 4672, .int .i64 32, .int .i64 1] w fun x w' => x = .returned (.int .i64 0) ∧ Wo u w' k3 316 ∧ Ch u w w' := by
  refine (large_at hT h (by decide) 4672 32 1).mono ?_
  rintro r w' ⟨rfl, a, b⟩
  rw [k_large]
  exact ⟨rfl, a, b⟩
theorem kn_query (hT : IsT u w t 1 1 0) (h : Wo u w k3 316) : Calls Tryz.prog 13 #[.pointer (some ⟨t, 0, none⟩), .int .i64 4679] w fun x w' => x = .returned (.tuple #[.int .i64 39, .int .i64 1, .int .i64 0]) ∧ Below w.heap.size w w' := by
  have := query_at hT h 4679
  obtain ⟨e1, e2, e3⟩ := k_query
  rw [e1, e2, e3] at this
  exact this
theorem kn_all (hT : IsT u w t 1 1 0) (h : Wo u w k3 316) : Calls Tryz.prog 16 #[.pointer (some ⟨t, 0, none⟩)] w fun r w' => ∃ v, r = .returned v ∧ w'.ownsRow w.heap.size 3 1 v 4 ([0, 1, 2, 3].map (Value.int .i64)) ∧ Below w.heap.size w w' := by
  have := all_at hT h
  rw [k_all] at this
  exact this
theorem kn_prot (hT : IsT u w t 1 1 0) (h : Wo u w k3 316) : Calls Tryz.prog 24 #[.pointer (some ⟨t, 0, none⟩), .int .i64 4679, .int .i64 7] w fun x w' => x = .returned (.int .i64 0) ∧ Wo u w' k4 416 ∧ Ch u w w' := by
  refine (protect_at hT h (by decide) 4679 7).mono ?_
  rintro r w' ⟨rfl, a, b⟩
  rw [k_prot]
  exact ⟨rfl, a, b⟩
theorem kn_five (hT : IsT u w t 1 1 0) (h : Wo u w k4 416) : Calls Tryz.prog 16 #[.pointer (some ⟨t, 0, none⟩)] w fun r w' => (∃ g c, r = .returned (.slice (some ⟨g, 0, none⟩) 5 c)) ∧ Below w.heap.size w w' := by
  refine (all_at hT h).mono ?_
  rintro r w' ⟨v, rfl, a, b⟩
  rw [k_five] at a
  obtain ⟨g, c, rfl⟩ := ownsRow_succ a
  exact ⟨⟨g, c, rfl⟩, b⟩
theorem kn_unmap (hT : IsT u w t 1 1 0) (h : Wo u w k4 416) : Calls Tryz.prog 23 #[.pointer (some ⟨t, 0, none⟩), .int .i64 4660] w fun x w' => x = .returned (.tuple #[.int .i64 5, .int .i64 0]) ∧ Wo u w' k5 516 ∧ Ch u w w' := by
  refine (unmap_at hT h (by decide) 4660).mono ?_
  rintro r w' ⟨rfl, a, b⟩
  rw [k_unmap.1, k_unmap.2]
  exact ⟨rfl, a, b⟩
theorem kn_none (hT : IsT u w t 1 1 0) (h : Wo u w k5 516) : Calls Tryz.prog 23 #[.pointer (some ⟨t, 0, none⟩), .int .i64 4660] w fun x w' => x = .returned (.tuple #[.int .i64 0, .int .i64 4]) ∧ Wo u w' k5 616 ∧ Ch u w w' := by
  refine (unmap_at hT h (by decide) 4660).mono ?_
  rintro r w' ⟨rfl, a, b⟩
  have hp : unS k5 1 0 4660 = k5 := if_neg (by rw [k_none.2]; decide)
  rw [hp] at a
  rw [k_none.1, k_none.2]
  exact ⟨rfl, a, b⟩
theorem kn_of (h : Wo u w k5 616) : Calls Tryz.prog 33 #[.pointer (some ⟨u.pp, 0, none⟩), .int .i64 3] w fun x w' => (∃ a b c, x = .returned (.tuple #[.agg #[.int .i64 5, .int .i64 a, .int .i64 b, .int .i64 c], .bool true])) ∧ Below w.heap.size w w' := by
  refine (O.of_in h.pool 3 k_desc.1).mono ?_
  rintro r w' ⟨rfl, b⟩
  refine ⟨⟨(k5.ds.getD 3 O.zd).o, (k5.ds.getD 3 O.zd).r, (k5.ds.getD 3 O.zd).e, ?_⟩, b⟩
  unfold O.dV
  rw [k_desc.2]
theorem walk_wo {s : Sm} {k : Nat} (h : Wo u w s k) (hk : k + 4 ≤ bnd) (root pg wt : Int) (l1 : -9223372036854775808 ≤ wt) (l2 : wt ≤ 9223372036854775807) :
    Calls Tryz.prog 25 #[.pointer (some ⟨u.mp, 0, none⟩), .int .i64 root, .int .i64 pg, .int .i64 wt] w fun x w' => x = .returned (fdV (fAll s.xs root pg wt)) ∧ Wo u w' s (k + 4) ∧ Ch u w w' := by
  obtain ⟨d, l, hm, hd⟩ := h.mem
  refine (wall_at (s := ⟨s.xs, d, l⟩) hm (k := k) ⟨hd.1, hd.2.1, hd.2.2.1, hd.2.2.2⟩ hk h.u64 root pg wt l1 l2).mono ?_
  rintro r w' ⟨rfl, ⟨s', hM, hL⟩, hB⟩
  refine ⟨rfl, ?_, .of_but hB⟩
  have hx : s'.xs = s.xs := hL.xs
  have hM' : IsMem 124 w' u.mp u.wb s.xs s'.d s'.l := by rw [← hx]; exact hM
  exact ⟨⟨_, _, hM', by have := hL.d0; simp only at this; omega, by have := hL.d1; simp only at this; omega, by have := hL.l; simp only at this; omega, by have := hL.l; simp only at this; omega⟩, h.pool.keep (hB.block _ h.lt.2.1 h.ne.1.symm h.ne.2.2.1.symm) (hB.block _ h.lt.2.2 h.ne.2.1.symm h.ne.2.2.2.symm), h.tab.below (hB.below (B := 1) (by have := h.tab.pos; omega) h.low.1 h.low.2.1) (by omega) hB.size, h.u64, h.low, h.ne⟩
theorem kn_walk (h : Wo u w k5 616) : Calls Tryz.prog 25 #[.pointer (some ⟨u.mp, 0, none⟩), .int .i64 0, .int .i64 4679, .int .i64 4] w fun x w' => x = .returned (.agg #[.int .i64 39, .int .i64 7, .int .i64 0, .int .i64 0]) ∧ Wo u w' k5 620 ∧ Ch u w w' := by
  refine (walk_wo h (by decide) 0 4679 4 (by decide) (by decide)).mono ?_
  rintro r w' ⟨rfl, a, b⟩
  obtain ⟨e1, e2, e3, e4⟩ := k_walk
  exact ⟨by unfold fdV fdC; rw [e1, e2, e3, e4], a, b⟩
theorem kn_drop (hT : IsT u w t 1 1 0) (h : Wo u w k5 620) : Calls Tryz.prog 37 #[.pointer (some ⟨t, 0, none⟩)] w fun r w' => (∃ g c, r = .returned (.slice (some ⟨g, 0, none⟩) 4 c)) ∧ ChT u t w w' ∧ w'.cell? ⟨t, 0, none⟩ = some (.int .i64 2) := by
  refine (drop_at hT h).mono ?_
  rintro r w' ⟨⟨v, rfl, a⟩, -, b, c⟩
  rw [k_four] at a
  obtain ⟨g, c', rfl⟩ := ownsRow_succ a
  exact ⟨⟨g, c', rfl⟩, b, P.cell_of c rfl⟩
end
theorem U64_rep (n : Nat) : U64 (List.replicate n 0) := fun i => by
  by_cases h : i < n
  · simp [List.getD, h]
  · simp [List.getD, h]
theorem k0_start {w : World} {u : Si} (hm : IsMem 124 w u.mp u.wb (List.replicate 160 0) 0 0) (hp : O.IsP 129 64 w u.pp u.pb (List.replicate 10 O.zd)) (hT : O.Tab w) (low : 0 < u.mp ∧ 0 < u.wb ∧ 0 < u.pb ∧ 0 < u.pp) (ne : u.mp ≠ u.pp ∧ u.mp ≠ u.pb ∧ u.wb ≠ u.pp ∧ u.wb ≠ u.pb) : Wo u w k0 0 :=
  ⟨⟨0, 0, hm, by omega, by omega, by omega, by omega⟩, hp, hT, U64_rep 160, low, ne⟩
end Go.Proofs.YtpfmmlbakbhklaaGreatDoor
