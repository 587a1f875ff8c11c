/- The fixed calls of 'known', as functions of words and frames: what each tells. Of no function; no conditions. What 'known' returns: true. Condition: the rules lie in their variable. -/
import Derived.Test.YtpfmmlbakbhklaaGreatDoorBN
import Derived.Test.YtpfmmlbakbhklaaGreatDoorBH
namespace Go.Proofs.YtpfmmlbakbhklaaGreatDoor
open Go.RowKit
def k0 : Sm := ⟨List.replicate 160 0, List.replicate 10 O.zd⟩
def k1 : Sm := newS k0 1 none16
def k2 : Sm := putT k1 1 0 4660 0 ⟨true, 3, false, 5⟩
def k3 : Sm := putT k2 1 0 4672 1 ⟨true, 1, true, 32⟩
def k4 : Sm := prS k3 1 0 4679 7
def k5 : Sm := unS k4 1 0 4660
theorem k_new : newE k0 1 = 0 ∧ newF k0 1 = 0 := by decide +kernel
theorem k_map : putE k1 0 4660 0 ⟨true, 3, false, 5⟩ = 0 := by decide +kernel
theorem k_twice : putE k2 0 4660 0 ⟨true, 3, false, 6⟩ = 5 := by decide +kernel
theorem k_large : putE k2 0 4672 1 ⟨true, 1, true, 32⟩ = 0 := by decide +kernel
theorem k_query : qF k3 0 4679 = 39 ∧ qR k3 0 4679 = 1 ∧ qE k3 0 4679 = 0 := by decide +kernel
theorem k_all' : (gat k3.xs 0).map (·.1) = [0, 1, 2, 3] := by decide +kernel
theorem k_all : allL k3.xs 0 = [0, 1, 2, 3] := by
  unfold allL
  rw [k_all']
  exact List.mergeSort_of_pairwise (by decide)
theorem k_prot : prE k3 1 0 4679 7 = 0 := by decide +kernel
theorem k_five : (allL k4.xs 0).length = 5 := by
  rw [allL_len]
  decide +kernel
theorem k_unmap : unF k4 1 0 4660 = 5 ∧ unE k4 1 0 4660 = 0 := by decide +kernel
theorem k_none : unF k5 1 0 4660 = 0 ∧ unE k5 1 0 4660 = 4 := by decide +kernel
theorem k_four : (allL k5.xs 0).length = 4 := by
  rw [allL_len]
  decide +kernel
theorem k_walk : (fAll k5.xs 0 4679 4).f = 39 ∧ (fAll k5.xs 0 4679 4).r = 7 ∧ (fAll k5.xs 0 4679 4).v = 0 ∧ (fAll k5.xs 0 4679 4).e = 0 := by decide +kernel
theorem k_desc : 3 < k5.ds.length ∧ (k5.ds.getD 3 O.zd).k = 5 := by decide +kernel
section
variable {u : Si} {w : World} {t : Nat}
theorem kn_new (h : Wo u w k0 0) : Calls Tryz.prog 36 #[.pointer (some ⟨u.mp, 0, none⟩), .pointer (some ⟨u.pp, 0, none⟩), .int .i64 1] w fun r w' =>
    r = .returned (.tuple #[.pointer (some ⟨w.heap.size, 0, none⟩), .int .i64 0]) ∧ Wo u w' k1 16 ∧ Ch u w w' ∧ IsT u w' w.heap.size 1 1 0 := by
  refine (tnew_at h (by decide) (by decide +kernel) 1).mono ?_
  rintro r w' ⟨rfl, a, b, c⟩
  obtain ⟨e1, e2⟩ := k_new
  rw [e1, if_pos rfl]
  exact ⟨rfl, a, b, by have := c e1; rw [e2] at this; exact this⟩
theorem kn_map (hT : IsT u w t 1 1 0) (h : Wo u w k1 16) : Calls Tryz.prog 21 #[.pointer (some ⟨t, 0, none⟩), .int .i64 4660, .int .i64 5, .int .i64 3] w fun x w' => x = .returned (.int .i64 0) ∧ Wo u w' k2 116 ∧ Ch u w w' := by
  refine (map_at hT h (by decide) 4660 5 3).mono ?_
  rintro r w' ⟨rfl, a, b⟩
  rw [k_map]
  exact ⟨rfl, a, b⟩
theorem kn_twice (hT : IsT u w t 1 1 0) (h : Wo u w k2 116) : Calls Tryz.prog 21 #[.pointer (some ⟨t, 0, none⟩), .int .i64 4660, .int .i64 6, .int .i64 3] w fun x w' => x = .returned (.int .i64 5) ∧ Wo u w' k2 216 ∧ Ch u w w' := by
  refine (map_at hT h (by decide) 4660 6 3).mono ?_
  rintro r w' ⟨rfl, a, b⟩
  have hp : putT k2 1 0 4660 0 ⟨true, 3, false, 6⟩ = k2 := if_neg (by rw [k_twice]; decide)
  rw [hp] at a
  rw [k_twice]
  exact ⟨rfl, a, b⟩
theorem kn_large (hT : IsT u w t 1 1 0) (h : Wo u w k2 216) : Calls Tryz.prog 22 #[.pointer (some ⟨t, 0, none⟩), .int .i64 4672, .int .i64 32, .int .i64 1] w fun x w' => x = .returned (.int .i64 0) ∧ Wo u w' k3 316 ∧ Ch u w w' := by
  refine (large_at hT h (by decide) 4672 32 1).mono ?_
  rintro r w' ⟨rfl, a, b⟩
  rw [k_large]
  exact ⟨rfl, a, b⟩
theorem kn_query (hT : IsT u w t 1 1 0) (h : Wo u w k3 316) : Calls Tryz.prog 13 #[.pointer (some ⟨t, 0, none⟩), .int .i64 4679] w fun x w' => x = .returned (.tuple #[.int .i64 39, .int .i64 1, .int .i64 0]) ∧ Below w.heap.size w w' := by
  have := query_at hT h 4679
  obtain ⟨e1, e2, e3⟩ := k_query
  rw [e1, e2, e3] at this
  exact this
theorem kn_all (hT : IsT u w t 1 1 0) (h : Wo u w k3 316) : Calls Tryz.prog 16 #[.pointer (some ⟨t, 0, none⟩)] w fun r w' => ∃ v, r = .returned v ∧ w'.ownsRow w.heap.size 3 1 v 4 ([0, 1, 2, 3].map (Value.int .i64)) ∧ Below w.heap.size w w' := by
  have := all_at hT h
  rw [k_all] at this
  exact this
theorem kn_prot (hT : IsT u w t 1 1 0) (h : Wo u w k3 316) : Calls Tryz.prog 24 #[.pointer (some ⟨t, 0, none⟩), .int .i64 4679, .int .i64 7] w fun x w' => x = .returned (.int .i64 0) ∧ Wo u w' k4 416 ∧ Ch u w w' := by
  refine (protect_at hT h (by decide) 4679 7).mono ?_
  rintro r w' ⟨rfl, a, b⟩
  rw [k_prot]
  exact ⟨rfl, a, b⟩
theorem kn_five (hT : IsT u w t 1 1 0) (h : Wo u w k4 416) : Calls Tryz.prog 16 #[.pointer (some ⟨t, 0, none⟩)] w fun r w' => (∃ g c, r = .returned (.slice (some ⟨g, 0, none⟩) 5 c)) ∧ Below w.heap.size w w' := by
  refine (all_at hT h).mono ?_
  rintro r w' ⟨v, rfl, a, b⟩
  rw [k_five] at a
  obtain ⟨g, c, rfl⟩ := ownsRow_succ a
  exact ⟨⟨g, c, rfl⟩, b⟩
theorem kn_unmap (hT : IsT u w t 1 1 0) (h : Wo u w k4 416) : Calls Tryz.prog 23 #[.pointer (some ⟨t, 0, none⟩), .int .i64 4660] w fun x w' => x = .returned (.tuple #[.int .i64 5, .int .i64 0]) ∧ Wo u w' k5 516 ∧ Ch u w w' := by
  refine (unmap_at hT h (by decide) 4660).mono ?_
  rintro r w' ⟨rfl, a, b⟩
  rw [k_unmap.1, k_unmap.2]
  exact ⟨rfl, a, b⟩
theorem kn_none (hT : IsT u w t 1 1 0) (h : Wo u w k5 516) : Calls Tryz.prog 23 #[.pointer (some ⟨t, 0, none⟩), .int .i64 4660] w fun x w' => x = .returned (.tuple #[.int .i64 0, .int .i64 4]) ∧ Wo u w' k5 616 ∧ Ch u w w' := by
  refine (unmap_at hT h (by decide) 4660).mono ?_
  rintro r w' ⟨rfl, a, b⟩
  have hp : unS k5 1 0 4660 = k5 := if_neg (by rw [k_none.2]; decide)
  rw [hp] at a
  rw [k_none.1, k_none.2]
  exact ⟨rfl, a, b⟩
theorem kn_of (h : Wo u w k5 616) : Calls Tryz.prog 33 #[.pointer (some ⟨u.pp, 0, none⟩), .int .i64 3] w fun x w' => (∃ a b c, x = .returned (.tuple #[.agg #[.int .i64 5, .int .i64 a, .int .i64 b, .int .i64 c], .bool true])) ∧ Below w.heap.size w w' := by
  refine (O.of_in h.pool 3 k_desc.1).mono ?_
  rintro r w' ⟨rfl, b⟩
  refine ⟨⟨(k5.ds.getD 3 O.zd).o, (k5.ds.getD 3 O.zd).r, (k5.ds.getD 3 O.zd).e, ?_⟩, b⟩
  unfold O.dV
  rw [k_desc.2]
theorem walk_wo {s : Sm} {k : Nat} (h : Wo u w s k) (hk : k + 4 ≤ bnd) (root pg wt : Int) (l1 : -9223372036854775808 ≤ wt) (l2 : wt ≤ 9223372036854775807) :
    Calls Tryz.prog 25 #[.pointer (some ⟨u.mp, 0, none⟩), .int .i64 root, .int .i64 pg, .int .i64 wt] w fun x w' => x = .returned (fdV (fAll s.xs root pg wt)) ∧ Wo u w' s (k + 4) ∧ Ch u w w' := by
  obtain ⟨d, l, hm, hd⟩ := h.mem
  refine (wall_at (s := ⟨s.xs, d, l⟩) hm (k := k) ⟨hd.1, hd.2.1, hd.2.2.1, hd.2.2.2⟩ hk h.u64 root pg wt l1 l2).mono ?_
  rintro r w' ⟨rfl, ⟨s', hM, hL⟩, hB⟩
  refine ⟨rfl, ?_, .of_but hB⟩
  have hx : s'.xs = s.xs := hL.xs
  have hM' : IsMem 124 w' u.mp u.wb s.xs s'.d s'.l := by rw [← hx]; exact hM
  exact ⟨⟨_, _, hM', by have := hL.d0; simp only at this; omega, by have := hL.d1; simp only at this; omega, by have := hL.l; simp only at this; omega, by have := hL.l; simp only at this; omega⟩, h.pool.keep (hB.block _ h.lt.2.1 h.ne.1.symm h.ne.2.2.1.symm) (hB.block _ h.lt.2.2 h.ne.2.1.symm h.ne.2.2.2.symm), h.tab.below (hB.below (B := 1) (by have := h.tab.pos; omega) h.low.1 h.low.2.1) (by omega) hB.size, h.u64, h.low, h.ne⟩
theorem kn_walk (h : Wo u w k5 616) : Calls Tryz.prog 25 #[.pointer (some ⟨u.mp, 0, none⟩), .int .i64 0, .int .i64 4679, .int .i64 4] w fun x w' => x = .returned (.agg #[.int .i64 39, .int .i64 7, .int .i64 0, .int .i64 0]) ∧ Wo u w' k5 620 ∧ Ch u w w' := by
  refine (walk_wo h (by decide) 0 4679 4 (by decide) (by decide)).mono ?_
  rintro r w' ⟨rfl, a, b⟩
  obtain ⟨e1, e2, e3, e4⟩ := k_walk
  exact ⟨by unfold fdV fdC; rw [e1, e2, e3, e4], a, b⟩
theorem kn_drop (hT : IsT u w t 1 1 0) (h : Wo u w k5 620) : Calls Tryz.prog 37 #[.pointer (some ⟨t, 0, none⟩)] w fun r w' => (∃ g c, r = .returned (.slice (some ⟨g, 0, none⟩) 4 c)) ∧ ChT u t w w' ∧ w'.cell? ⟨t, 0, none⟩ = some (.int .i64 2) := by
  refine (drop_at hT h).mono ?_
  rintro r w' ⟨⟨v, rfl, a⟩, -, b, c⟩
  rw [k_four] at a
  obtain ⟨g, c', rfl⟩ := ownsRow_succ a
  exact ⟨⟨g, c', rfl⟩, b, P.cell_of c rfl⟩
end
theorem U64_rep (n : Nat) : U64 (List.replicate n 0) := fun i => by
  by_cases h : i < n
  · simp [List.getD, h]
  · simp [List.getD, h]
theorem k0_start {w : World} {u : Si} (hm : IsMem 124 w u.mp u.wb (List.replicate 160 0) 0 0) (hp : O.IsP 129 64 w u.pp u.pb (List.replicate 10 O.zd)) (hT : O.Tab w) (low : 0 < u.mp ∧ 0 < u.wb ∧ 0 < u.pb ∧ 0 < u.pp) (ne : u.mp ≠ u.pp ∧ u.mp ≠ u.pb ∧ u.wb ≠ u.pp ∧ u.wb ≠ u.pb) : Wo u w k0 0 :=
  ⟨⟨0, 0, hm, by omega, by omega, by omega, by omega⟩, hp, hT, U64_rep 160, low, ne⟩
end Go.Proofs.YtpfmmlbakbhklaaGreatDoor
namespace Go.Proofs.YtpfmmlbakbhklaaGreatDoor
open Go.RowKit
theorem LiesI.of_own {W : World} {n : Nat} {v : Value} {xs : List Int} (h : W.ownsRow n 3 1 v xs.length (xs.map (Value.int .i64))) (hl : xs.length ≤ 1000000) : LiesI W v xs := by
  rcases h.2 with ⟨rfl, hn⟩ | ⟨g, cap, cur, rfl, _, hb, h1, h2, h3, h4⟩
  · refine ⟨hl, none, 0, by rw [hn], fun hne => absurd (List.eq_nil_of_length_eq_zero hn) hne⟩
  · refine ⟨hl, _, cap, rfl, fun _ => ⟨g, 0, rfl, lt_of_block hb, fun i hi => ?_⟩⟩
    have : (xs.map (Value.int .i64))[i]? = some (.int .i64 (xs.getD i 0)) := by simp [List.getD, hi]
    rw [← h4, List.getElem?_take_of_lt (by omega)] at this
    rw [Nat.zero_add]
    exact P.cell_of hb (by simpa using this)
theorem own_ch {u : Si} {w w' : World} {s : Sm} {k n m : Nat} {v : Value} {xs : List Value} (h : w.ownsRow n 3 1 v m xs) (hW : Wo u w s k) (c : Ch u w w') : w'.ownsRow n 3 1 v m xs :=
  own_ab (n := 0) h (fun _ _ hg => hW.keep c hg (by decide) (by decide) (by decide)) rfl
theorem own_bel {w w' : World} {n m : Nat} {v : Value} {xs : List Value} (h : w.ownsRow n 3 1 v m xs) (b : Below w.heap.size w w') : w'.ownsRow n 3 1 v m xs :=
  own_ab (n := 0) h (fun _ _ hg => P.stay b hg) rfl
theorem ChT.keep {u : Si} {t : Nat} {w w' : World} {s : Sm} {k : Nat} {st o root : Int} (hD : ChT u t w w') (hW : Wo u w s k) (hT : IsT u w t st o root) {q : Nat} {c : Array Value} {T : TypeId} (hq : w.heap[q]? = some (.cells c T (0, 0))) (h1 : T ≠ 124) (h2 : T ≠ 67) (h3 : T ≠ 64) (h4 : T ≠ 70) : w'.heap[q]? = some (.cells c T (0, 0)) := by
  obtain ⟨a, b, d⟩ := hW.apart hq h1 h2 h3
  refine (hD.block q (lt_of_block hq) a b d fun e => ?_).trans hq
  rw [e, show w.heap[t]? = _ from hT] at hq
  injection hq with hq
  injection hq with _ hq _
  exact h4 hq.symm
set_option maxRecDepth 100000 in
set_option maxHeartbeats 2000000 in
theorem known_yes (w : World) (hT : O.Tab w) : Calls Tryz.prog 20 #[] w fun e w' => e = .returned (.bool true) ∧ Below w.heap.size w w' := by
  have HT := hid hT
  have hpos := hT.pos
  have HM := hid (show Calls Tryz.prog 34 #[.int .i64 160] w _ from new_yes 160 w (by decide) (by decide))
  have HP := hid (fun W => (show Calls Tryz.prog 35 #[.int .i64 10] W _ from O.new_yes 10 W (by decide) (by decide)))
  clear hT
  go_enter Tryz.func20, Tryz.ntmps20
  go_wp2_with fail
  refine HM.out.mono ?_
  rintro e w1 ⟨rfl, hm, hB1⟩
  go_wp2_with fail
  refine (HP.out w1).mono ?_
  rintro e w2 ⟨rfl, hp, hB2⟩
  have hs1 : w.heap.size + 1 < w1.heap.size := hm.lt.1
  have hW2 : Wo ⟨w.heap.size + 1, w.heap.size, w1.heap.size + 1, w1.heap.size⟩ w2 k0 0 := k0_start (hm.below hB2) hp (HT.out.go (hB1.trans (hB2.mono hB1.size))) (by simp only; omega) (by simp only; omega)
  have HB2 := hid (hB1.trans (hB2.mono hB1.size))
  have HNW := hid (kn_new hW2)
  have HW2 := hid hW2
  obtain ⟨u, hu, hu0⟩ : ∃ u : Si, u = ⟨w.heap.size + 1, w.heap.size, w1.heap.size + 1, w1.heap.size⟩ ∧ (w.heap.size ≤ u.mp ∧ w.heap.size ≤ u.wb ∧ w.heap.size ≤ u.pb) := ⟨_, rfl, by simp only; omega⟩
  rw [← hu] at HNW HW2
  have e1 : w.heap.size + 1 = u.mp := by rw [hu]
  have e2 : w1.heap.size + 1 = u.pp := by rw [hu]
  rw [e1, e2]
  have HU := hid hu0
  clear hm hp hB1 hB2 hs1 hW2 hu hu0 e1 e2
  go_wp2_with fail
  refine HNW.out.mono ?_
  rintro e w3 ⟨rfl, hW, hC, hTT⟩
  have HW := hid hW
  have HTT := hid hTT
  have HC := hid hC
  clear hW hC hTT
  obtain ⟨t, ht⟩ : ∃ t, w2.heap.size = t := ⟨_, rfl⟩
  rw [ht] at HTT ⊢
  have HTL : Hid (w.heap.size ≤ t) := by show _ ≤ _; rw [← ht]; exact HB2.out.size
  have HT2L : Hid (w2.heap.size = t) := ht
  clear ht
  go_wp2_with fail
  refine (kn_map HTT.out HW.out).mono ?_
  rintro e w4 ⟨rfl, hW, hC⟩
  have HTTn := hid (HTT.out.ch HW.out hC)
  have HCn := hid (HC.out.trans hC)
  have HWn := hid hW
  clear hW hC HTT HC HW
  have HTT := HTTn
  have HC := HCn
  have HW := HWn
  clear HTTn HCn HWn
  go_wp2_with fail
  refine (kn_twice HTT.out HW.out).mono ?_
  rintro e w5 ⟨rfl, hW, hC⟩
  have HTTn := hid (HTT.out.ch HW.out hC)
  have HCn := hid (HC.out.trans hC)
  have HWn := hid hW
  clear hW hC HTT HC HW
  have HTT := HTTn
  have HC := HCn
  have HW := HWn
  clear HTTn HCn HWn
  go_wp2_with fail
  refine (kn_large HTT.out HW.out).mono ?_
  rintro e w6 ⟨rfl, hW, hC⟩
  have HTTn := hid (HTT.out.ch HW.out hC)
  have HCn := hid (HC.out.trans hC)
  have HWn := hid hW
  clear hW hC HTT HC HW
  have HTT := HTTn
  have HC := HCn
  have HW := HWn
  clear HTTn HCn HWn
  go_wp2_with fail
  refine (kn_query HTT.out HW.out).mono ?_
  rintro e w7 ⟨rfl, hB⟩
  have HTTn := hid (HTT.out.below hB)
  have HCn := hid (HC.out.trans (.of_below hB))
  have HWn := hid (HW.out.below hB)
  clear hB HTT HC HW
  have HTT := HTTn
  have HC := HCn
  have HW := HWn
  clear HTTn HCn HWn
  go_wp2_with fail
  refine (kn_all HTT.out HW.out).mono ?_
  rintro e w8 ⟨v, rfl, hrow, hB⟩
  have HROW := hid hrow
  clear hrow
  have HTTn := hid (HTT.out.below hB)
  have HCn := hid (HC.out.trans (.of_below hB))
  have HWn := hid (HW.out.below hB)
  clear hB HTT HC HW
  have HTT := HTTn
  have HC := HCn
  have HW := HWn
  clear HTTn HCn HWn
  go_wp2_with fail
  refine (kn_prot HTT.out HW.out).mono ?_
  rintro e w9 ⟨rfl, hW, hC⟩
  have HROWn := hid (own_ch HROW.out HW.out hC)
  clear HROW
  have HROW := HROWn
  clear HROWn
  have HTTn := hid (HTT.out.ch HW.out hC)
  have HCn := hid (HC.out.trans hC)
  have HWn := hid hW
  clear hW hC HTT HC HW
  have HTT := HTTn
  have HC := HCn
  have HW := HWn
  clear HTTn HCn HWn
  go_wp2_with fail
  refine (kn_five HTT.out HW.out).mono ?_
  rintro e w10 ⟨⟨g5, c5, rfl⟩, hB⟩
  have HROWn := hid (own_bel HROW.out hB)
  clear HROW
  have HROW := HROWn
  clear HROWn
  have HTTn := hid (HTT.out.below hB)
  have HCn := hid (HC.out.trans (.of_below hB))
  have HWn := hid (HW.out.below hB)
  clear hB HTT HC HW
  have HTT := HTTn
  have HC := HCn
  have HW := HWn
  clear HTTn HCn HWn
  go_wp2_with fail
  refine (kn_unmap HTT.out HW.out).mono ?_
  rintro e w11 ⟨rfl, hW, hC⟩
  have HROWn := hid (own_ch HROW.out HW.out hC)
  clear HROW
  have HROW := HROWn
  clear HROWn
  have HTTn := hid (HTT.out.ch HW.out hC)
  have HCn := hid (HC.out.trans hC)
  have HWn := hid hW
  clear hW hC HTT HC HW
  have HTT := HTTn
  have HC := HCn
  have HW := HWn
  clear HTTn HCn HWn
  go_wp2_with fail
  refine (kn_none HTT.out HW.out).mono ?_
  rintro e w12 ⟨rfl, hW, hC⟩
  have HROWn := hid (own_ch HROW.out HW.out hC)
  clear HROW
  have HROW := HROWn
  clear HROWn
  have HTTn := hid (HTT.out.ch HW.out hC)
  have HCn := hid (HC.out.trans hC)
  have HWn := hid hW
  clear hW hC HTT HC HW
  have HTT := HTTn
  have HC := HCn
  have HW := HWn
  clear HTTn HCn HWn
  go_wp2_with fail
  refine (kn_of HW.out).mono ?_
  rintro e w13 ⟨⟨a, b, c, rfl⟩, hB0⟩
  have hB := hB0.alloc hB0.size (.cells #[.int .i64 5, .int .i64 a, .int .i64 b, .int .i64 c] 64)
  have HROWn := hid (own_bel HROW.out hB)
  clear HROW
  have HROW := HROWn
  clear HROWn
  have HW13 := hid (HW.out.below hB0).lt
  have HN20 := hid (heap_alloc_new w13 (.cells #[.int .i64 5, .int .i64 a, .int .i64 b, .int .i64 c] 64))
  have HTTn := hid (HTT.out.below hB)
  have HCn := hid (HC.out.trans (.of_below hB))
  have HWn := hid (HW.out.below hB)
  clear hB HTT HC HW
  have HTT := HTTn
  have HC := HCn
  have HW := HWn
  clear HTTn HCn HWn
  have HRT := hid (root_at HTT.out)
  rw [if_pos rfl] at HRT
  go_wp2_with fail
  refine HRT.out.mono ?_
  rintro e w14 ⟨rfl, hw14⟩
  rw [hw14]
  clear hw14 w14
  go_wp2_with fail
  refine (kn_walk HW.out).mono ?_
  rintro e w15 ⟨rfl, hW, hC0⟩
  have hlt := HW.out.lt
  have HB20 := hid ((hC0.block w13.heap.size (by simp) (by have := HW13.out; omega) (by have := HW13.out; omega) (by have := HW13.out; omega)).trans HN20.out)
  have hb := below_alloc w15 (.cells #[.int .i64 39, .int .i64 7, .int .i64 0, .int .i64 0] 54)
  have hC := hC0.trans (.of_below hb)
  have HROWn := hid (own_bel (own_ch HROW.out HW.out hC0) hb)
  clear HROW
  have HROW := HROWn
  clear HROWn
  have HTTn := hid (HTT.out.ch HW.out hC)
  have HCn := hid (HC.out.trans hC)
  have HWn := hid (hW.below hb)
  have HN22 := hid (heap_alloc_new w15 (.cells #[.int .i64 39, .int .i64 7, .int .i64 0, .int .i64 0] 54))
  have HB20n := hid (P.hkeep HB20.out (.cells #[.int .i64 39, .int .i64 7, .int .i64 0, .int .i64 0] 54))
  have HL15 := hid hC0.size
  clear hW hC hC0 HTT HC HW hb hlt HB20 HN20
  have HTT := HTTn
  have HC := HCn
  have HW := HWn
  have HB20 := HB20n
  clear HTTn HCn HWn HB20n
  go_wp2_with fail
  refine (kn_drop HTT.out HW.out).mono ?_
  rintro e w16 ⟨⟨g4, c4, rfl⟩, hD, c0⟩
  have hrow6 := own_ab (n := 0) HROW.out (fun _ _ hg => hD.keep HW.out HTT.out hg (by decide) (by decide) (by decide) (by decide)) rfl
  have hb22 := hD.keep HW.out HTT.out HN22.out (by decide) (by decide) (by decide) (by decide)
  have hb20 := (hD.block w13.heap.size (lt_of_block HB20.out) (by have := HW13.out; omega) (by have := HW13.out; omega) (by have := HW13.out; omega) (fun e => by
    have h1 := HB20.out
    rw [e, show _ = _ from HTT.out] at h1
    injection h1 with h1
    injection h1 with _ h1 _
    cases h1)).trans HB20.out
  have hbel : Below w.heap.size w w16 := by
    have hu := HU.out
    have h2 := HB2.out.size
    have htl := HTL.out
    have h1 : Below w.heap.size w (w15.alloc (.cells #[.int .i64 39, .int .i64 7, .int .i64 0, .int .i64 0] 54)) := HB2.out.trans (HC.out.below h2 hu.1 hu.2.1 hu.2.2)
    exact h1.trans ⟨hD.os, hD.tape, hD.output, hD.size, fun j hj => hD.block j (by have := h1.size; omega) (by omega) (by omega) (by omega) (by omega)⟩
  have hb16 := below_alloc w16 (.cells #[.int .i64 0, .int .i64 1, .int .i64 2, .int .i64 3] 3)
  have HDD := hid ((Dd.two c0).below hb16)
  have HIN := hid (sameI_any (w := w16.alloc (.cells #[.int .i64 0, .int .i64 1, .int .i64 2, .int .i64 3] 3)) (LiesI.of_own (xs := [0, 1, 2, 3]) (own_bel hrow6 hb16) (by decide)) (LiesI.of_row (g := w16.heap.size) (n := 4) (c := 4) (xs := [0, 1, 2, 3]) (heap_alloc_new w16 _) rfl (by decide)))
  have HB16 := hid (hbel.trans (hb16.mono hbel.size))
  have H20 := hid (P.hkeep hb20 (.cells #[.int .i64 0, .int .i64 1, .int .i64 2, .int .i64 3] 3))
  have H22 := hid (P.hkeep hb22 (.cells #[.int .i64 0, .int .i64 1, .int .i64 2, .int .i64 3] 3))
  clear hrow6 hb22 hb20 hbel hb16 hD c0 HTT HW HC HROW HN22 HB20
  go_wp2_with fail
  refine HIN.out.mono ?_
  rintro e w17 ⟨rfl, hB⟩
  have x20 := P.stay hB H20.out
  have x22 := P.stay hB H22.out
  have x0 := P.cell_of (i := 0) x20 rfl
  have y0 := P.cell_of (i := 0) x22 rfl
  have y1 := P.cell_of (i := 1) x22 rfl
  have y2 := P.cell_of (i := 2) x22 rfl
  have y3 := P.cell_of (i := 3) x22 rfl
  have HDD2 := hid (HDD.out.below hB)
  have HB17 := hid (HB16.out.trans (hB.mono HB16.out.size))
  clear hB x20 x22 HIN H20 H22 HB16 HDD
  go_wp2_with fail
  refine (root_dead HDD2.out).mono ?_
  rintro e w18 ⟨rfl, hw18⟩
  rw [hw18]
  clear hw18 w18
  go_wp2_with fail
  refine (map_dead HDD2.out 0 0 1).mono ?_
  rintro e w19 ⟨rfl, hB⟩
  have HB19 := hid (HB17.out.trans (hB.mono HB17.out.size))
  clear hB
  go_wp2
  go_ret
  exact ⟨rfl, HB19.out⟩
end Go.Proofs.YtpfmmlbakbhklaaGreatDoor
