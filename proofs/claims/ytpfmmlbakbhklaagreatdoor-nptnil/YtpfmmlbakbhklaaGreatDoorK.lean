/- What 'known' returns: true. Condition: the rules lie in their variable. -/
import Derived.Test.YtpfmmlbakbhklaaGreatDoorZ3
namespace Go.Proofs.YtpfmmlbakbhklaaGreatDoor
open Go.RowKit
theorem LiesI.of_own {W : World} {n : Nat} {v : Value} {xs : List Int} (h : W.ownsRow n 3 1 v xs.length (xs.map (Value.int .i64))) (hl : xs.length ≤ 1000000) : LiesI W v xs := by
  rcases h.2 with ⟨rfl, hn⟩ | ⟨g, cap, cur, rfl, _, hb, h1, h2, h3, h4⟩
  · refine ⟨hl, none, 0, by rw [hn], fun hne => absurd (List.eq_nil_of_length_eq_zero hn) hne⟩
  · refine ⟨hl, _, cap, rfl, fun _ => ⟨g, 0, rfl, lt_of_block hb, fun i hi => ?_⟩⟩
    have : (xs.map (Value.int .i64))[i]? = some (.int .i64 (xs.getD i 0)) := by simp [List.getD, hi]
    rw [← h4, List.getElem?_take_of_lt (by omega)] at this
    rw [Nat.zero_add]
    exact P.cell_of hb (by simpa using this)
theorem own_ch {u : Si} {w w' : World} {s : Sm} {k n m : Nat} {v : Value} {xs : List Value} (h : w.ownsRow n 3 1 v m xs) (hW : Wo u w s k) (c : Ch u w w') : w'.ownsRow n 3 1 v m xs :=
  own_ab (n := 0) h (fun _ _ hg => hW.keep c hg (by decide) (by decide) (by decide)) rfl
theorem own_bel {w w' : World} {n m : Nat} {v : Value} {xs : List Value} (h : w.ownsRow n 3 1 v m xs) (b : Below w.heap.size w w') : w'.ownsRow n 3 1 v m xs :=
  own_ab (n := 0) h (fun _ _ hg => P.stay b hg) rfl
theorem ChT.keep {u : Si} {t : Nat} {w w' : World} {s : Sm} {k : Nat} {st o root : Int} (hD : ChT u t w w') (hW : Wo u w s k) (hT : IsT u w t st o root) {q : Nat} {c : Array Value} {T : TypeId} (hq : w.heap[q]? = some (.cells c T (0, 0))) (h1 : T ≠ 124) (h2 : T ≠ 67) (h3 : T ≠ 64) (h4 : T ≠ 70) : w'.heap[q]? = some (.cells c T (0, 0)) := by
  obtain ⟨a, b, d⟩ := hW.apart hq h1 h2 h3
  refine (hD.block q (lt_of_block hq) a b d fun e => ?_).trans hq
  rw [e, show w.heap[t]? = _ from hT] at hq
  injection hq with hq
  injection hq with _ hq _
  exact h4 hq.symm
set_option maxRecDepth 100000 in
set_option maxHeartbeats 2000000 in
theorem known_yes (w : World) (hT : O.Tab w) : Calls Tryz.prog 20 #[] w fun e w' => e = .returned (.bool true) ∧ Below w.heap.size w w' := by
  have HT := hid hT
  have hpos := hT.pos
  have HM := hid (show Calls Tryz.prog 34 #[.int .i64 160] w _ from new_yes 160 w (by decide) (by decide))
  have HP := hid (fun W => (show Calls Tryz.prog 35 #[.int .i64 10] W _ from O.new_yes 10 W (by decide) (by decide)))
  clear hT
  go_enter Tryz.func20, Tryz.ntmps20
  go_wp2_with fail
  refine HM.out.mono ?_
  rintro e w1 ⟨rfl, hm, hB1⟩
  go_wp2_with fail
  refine (HP.out w1).mono ?_
  rintro e w2 ⟨rfl, hp, hB2⟩
  have hs1 : w.heap.size + 1 < w1.heap.size := hm.lt.1
  have hW2 : Wo ⟨w.heap.size + 1, w.heap.size, w1.heap.size + 1, w1.heap.size⟩ w2 k0 0 := k0_start (hm.below hB2) hp (HT.out.go (hB1.trans (hB2.mono hB1.size))) (by simp only; omega) (by simp only; omega)
  have HB2 := hid (hB1.trans (hB2.mono hB1.size))
  have HNW := hid (kn_new hW2)
  have HW2 := hid hW2
  obtain ⟨u, hu, hu0⟩ : ∃ u : Si, u = ⟨w.heap.size + 1, w.heap.size, w1.heap.size + 1, w1.heap.size⟩ ∧ (w.heap.size ≤ u.mp ∧ w.heap.size ≤ u.wb ∧ w.heap.size ≤ u.pb) := ⟨_, rfl, by simp only; omega⟩
  rw [← hu] at HNW HW2
  have e1 : w.heap.size + 1 = u.mp := by rw [hu]
  have e2 : w1.heap.size + 1 = u.pp := by rw [hu]
  rw [e1, e2]
  have HU := hid hu0
  clear hm hp hB1 hB2 hs1 hW2 hu hu0 e1 e2
  go_wp2_with fail
  refine HNW.out.mono ?_
  rintro e w3 ⟨rfl, hW, hC, hTT⟩
  have HW := hid hW
  have HTT := hid hTT
  have HC := hid hC
  clear hW hC hTT
  obtain ⟨t, ht⟩ : ∃ t, w2.heap.size = t := ⟨_, rfl⟩
  rw [ht] at HTT ⊢
  have HTL : Hid (w.heap.size ≤ t) := by show _ ≤ _; rw [← ht]; exact HB2.out.size
  have HT2L : Hid (w2.heap.size = t) := ht
  clear ht
  go_wp2_with fail
  refine (kn_map HTT.out HW.out).mono ?_
  rintro e w4 ⟨rfl, hW, hC⟩
  have HTTn := hid (HTT.out.ch HW.out hC)
  have HCn := hid (HC.out.trans hC)
  have HWn := hid hW
  clear hW hC HTT HC HW
  have HTT := HTTn
  have HC := HCn
  have HW := HWn
  clear HTTn HCn HWn
  go_wp2_with fail
  refine (kn_twice HTT.out HW.out).mono ?_
  rintro e w5 ⟨rfl, hW, hC⟩
  have HTTn := hid (HTT.out.ch HW.out hC)
  have HCn := hid (HC.out.trans hC)
  have HWn := hid hW
  clear hW hC HTT HC HW
  have HTT := HTTn
  have HC := HCn
  have HW := HWn
  clear HTTn HCn HWn
  go_wp2_with fail
  refine (kn_large HTT.out HW.out).mono ?_
  rintro e w6 ⟨rfl, hW, hC⟩
  have HTTn := hid (HTT.out.ch HW.out hC)
  have HCn := hid (HC.out.trans hC)
  have HWn := hid hW
  clear hW hC HTT HC HW
  have HTT := HTTn
  have HC := HCn
  have HW := HWn
  clear HTTn HCn HWn
  go_wp2_with fail
  refine (kn_query HTT.out HW.out).mono ?_
  rintro e w7 ⟨rfl, hB⟩
  have HTTn := hid (HTT.out.below hB)
  have HCn := hid (HC.out.trans (.of_below hB))
  have HWn := hid (HW.out.below hB)
  clear hB HTT HC HW
  have HTT := HTTn
  have HC := HCn
  have HW := HWn
  clear HTTn HCn HWn
  go_wp2_with fail
  refine (kn_all HTT.out HW.out).mono ?_
  rintro e w8 ⟨v, rfl, hrow, hB⟩
  have HROW := hid hrow
  clear hrow
  have HTTn := hid (HTT.out.below hB)
  have HCn := hid (HC.out.trans (.of_below hB))
  have HWn := hid (HW.out.below hB)
  clear hB HTT HC HW
  have HTT := HTTn
  have HC := HCn
  have HW := HWn
  clear HTTn HCn HWn
  go_wp2_with fail
  refine (kn_prot HTT.out HW.out).mono ?_
  rintro e w9 ⟨rfl, hW, hC⟩
  have HROWn := hid (own_ch HROW.out HW.out hC)
  clear HROW
  have HROW := HROWn
  clear HROWn
  have HTTn := hid (HTT.out.ch HW.out hC)
  have HCn := hid (HC.out.trans hC)
  have HWn := hid hW
  clear hW hC HTT HC HW
  have HTT := HTTn
  have HC := HCn
  have HW := HWn
  clear HTTn HCn HWn
  go_wp2_with fail
  refine (kn_five HTT.out HW.out).mono ?_
  rintro e w10 ⟨⟨g5, c5, rfl⟩, hB⟩
  have HROWn := hid (own_bel HROW.out hB)
  clear HROW
  have HROW := HROWn
  clear HROWn
  have HTTn := hid (HTT.out.below hB)
  have HCn := hid (HC.out.trans (.of_below hB))
  have HWn := hid (HW.out.below hB)
  clear hB HTT HC HW
  have HTT := HTTn
  have HC := HCn
  have HW := HWn
  clear HTTn HCn HWn
  go_wp2_with fail
  refine (kn_unmap HTT.out HW.out).mono ?_
  rintro e w11 ⟨rfl, hW, hC⟩
  have HROWn := hid (own_ch HROW.out HW.out hC)
  clear HROW
  have HROW := HROWn
  clear HROWn
  have HTTn := hid (HTT.out.ch HW.out hC)
  have HCn := hid (HC.out.trans hC)
  have HWn := hid hW
  clear hW hC HTT HC HW
  have HTT := HTTn
  have HC := HCn
  have HW := HWn
  clear HTTn HCn HWn
  go_wp2_with fail
  refine (kn_none HTT.out HW.out).mono ?_
  rintro e w12 ⟨rfl, hW, hC⟩
  have HROWn := hid (own_ch HROW.out HW.out hC)
  clear HROW
  have HROW := HROWn
  clear HROWn
  have HTTn := hid (HTT.out.ch HW.out hC)
  have HCn := hid (HC.out.trans hC)
  have HWn := hid hW
  clear hW hC HTT HC HW
  have HTT := HTTn
  have HC := HCn
  have HW := HWn
  clear HTTn HCn HWn
  go_wp2_with fail
  refine (kn_of HW.out).mono ?_
  rintro e w13 ⟨⟨a, b, c, rfl⟩, hB0⟩
  have hB := hB0.alloc hB0.size (.cells #[.int .i64 5, .int .i64 a, .int .i64 b, .int .i64 c] 64)
  have HROWn := hid (own_bel HROW.out hB)
  clear HROW
  have HROW := HROWn
  clear HROWn
  have HW13 := hid (HW.out.below hB0).lt
  have HN20 := hid (heap_alloc_new w13 (.cells #[.int .i64 5, .int .i64 a, .int .i64 b, .int .i64 c] 64))
  have HTTn := hid (HTT.out.below hB)
  have HCn := hid (HC.out.trans (.of_below hB))
  have HWn := hid (HW.out.below hB)
  clear hB HTT HC HW
  have HTT := HTTn
  have HC := HCn
  have HW := HWn
  clear HTTn HCn HWn
  have HRT := hid (root_at HTT.out)
  rw [if_pos rfl] at HRT
  go_wp2_with fail
  refine HRT.out.mono ?_
  rintro e w14 ⟨rfl, hw14⟩
  rw [hw14]
  clear hw14 w14
  go_wp2_with fail
  refine (kn_walk HW.out).mono ?_
  rintro e w15 ⟨rfl, hW, hC0⟩
  have hlt := HW.out.lt
  have HB20 := hid ((hC0.block w13.heap.size (by simp) (by have := HW13.out; omega) (by have := HW13.out; omega) (by have := HW13.out; omega)).trans HN20.out)
  have hb := below_alloc w15 (.cells #[.int .i64 39, .int .i64 7, .int .i64 0, .int .i64 0] 54)
  have hC := hC0.trans (.of_below hb)
  have HROWn := hid (own_bel (own_ch HROW.out HW.out hC0) hb)
  clear HROW
  have HROW := HROWn
  clear HROWn
  have HTTn := hid (HTT.out.ch HW.out hC)
  have HCn := hid (HC.out.trans hC)
  have HWn := hid (hW.below hb)
  have HN22 := hid (heap_alloc_new w15 (.cells #[.int .i64 39, .int .i64 7, .int .i64 0, .int .i64 0] 54))
  have HB20n := hid (P.hkeep HB20.out (.cells #[.int .i64 39, .int .i64 7, .int .i64 0, .int .i64 0] 54))
  have HL15 := hid hC0.size
  clear hW hC hC0 HTT HC HW hb hlt HB20 HN20
  have HTT := HTTn
  have HC := HCn
  have HW := HWn
  have HB20 := HB20n
  clear HTTn HCn HWn HB20n
  go_wp2_with fail
  refine (kn_drop HTT.out HW.out).mono ?_
  rintro e w16 ⟨⟨g4, c4, rfl⟩, hD, c0⟩
  have hrow6 := own_ab (n := 0) HROW.out (fun _ _ hg => hD.keep HW.out HTT.out hg (by decide) (by decide) (by decide) (by decide)) rfl
  have hb22 := hD.keep HW.out HTT.out HN22.out (by decide) (by decide) (by decide) (by decide)
  have hb20 := (hD.block w13.heap.size (lt_of_block HB20.out) (by have := HW13.out; omega) (by have := HW13.out; omega) (by have := HW13.out; omega) (fun e => by
    have h1 := HB20.out
    rw [e, show _ = _ from HTT.out] at h1
    injection h1 with h1
    injection h1 with _ h1 _
    cases h1)).trans HB20.out
  have hbel : Below w.heap.size w w16 := by
    have hu := HU.out
    have h2 := HB2.out.size
    have htl := HTL.out
    have h1 : Below w.heap.size w (w15.alloc (.cells #[.int .i64 39, .int .i64 7, .int .i64 0, .int .i64 0] 54)) := HB2.out.trans (HC.out.below h2 hu.1 hu.2.1 hu.2.2)
    exact h1.trans ⟨hD.os, hD.tape, hD.output, hD.size, fun j hj => hD.block j (by have := h1.size; omega) (by omega) (by omega) (by omega) (by omega)⟩
  have hb16 := below_alloc w16 (.cells #[.int .i64 0, .int .i64 1, .int .i64 2, .int .i64 3] 3)
  have HDD := hid ((Dd.two c0).below hb16)
  have HIN := hid (sameI_any (w := w16.alloc (.cells #[.int .i64 0, .int .i64 1, .int .i64 2, .int .i64 3] 3)) (LiesI.of_own (xs := [0, 1, 2, 3]) (own_bel hrow6 hb16) (by decide)) (LiesI.of_row (g := w16.heap.size) (n := 4) (c := 4) (xs := [0, 1, 2, 3]) (heap_alloc_new w16 _) rfl (by decide)))
  have HB16 := hid (hbel.trans (hb16.mono hbel.size))
  have H20 := hid (P.hkeep hb20 (.cells #[.int .i64 0, .int .i64 1, .int .i64 2, .int .i64 3] 3))
  have H22 := hid (P.hkeep hb22 (.cells #[.int .i64 0, .int .i64 1, .int .i64 2, .int .i64 3] 3))
  clear hrow6 hb22 hb20 hbel hb16 hD c0 HTT HW HC HROW HN22 HB20
  go_wp2_with fail
  refine HIN.out.mono ?_
  rintro e w17 ⟨rfl, hB⟩
  have x20 := P.stay hB H20.out
  have x22 := P.stay hB H22.out
  have x0 := P.cell_of (i := 0) x20 rfl
  have y0 := P.cell_of (i := 0) x22 rfl
  have y1 := P.cell_of (i := 1) x22 rfl
  have y2 := P.cell_of (i := 2) x22 rfl
  have y3 := P.cell_of (i := 3) x22 rfl
  have HDD2 := hid (HDD.out.below hB)
  have HB17 := hid (HB16.out.trans (hB.mono HB16.out.size))
  clear hB x20 x22 HIN H20 H22 HB16 HDD
  go_wp2_with fail
  refine (root_dead HDD2.out).mono ?_
  rintro e w18 ⟨rfl, hw18⟩
  rw [hw18]
  clear hw18 w18
  go_wp2_with fail
  refine (map_dead HDD2.out 0 0 1).mono ?_
  rintro e w19 ⟨rfl, hB⟩
  have HB19 := hid (HB17.out.trans (hB.mono HB17.out.size))
  clear hB
  go_wp2
  go_ret
  exact ⟨rfl, HB19.out⟩
end Go.Proofs.YtpfmmlbakbhklaaGreatDoor
